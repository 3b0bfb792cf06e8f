import PyProof.Rows.All
import Wide.All
import OpenK.AllK
import Wide.FinOn
import Lean
import PyProof.EqAt
import PyProof.EqKinds
import PyProof.TupleCall
import PyProof.NeKinds
import PyProof.CompFree
import PyProof.CompUse
import PyProof.ZipIter
import PyProof.StrWalks
import PyProof.ListRange
import PyProof.ListMulRoad
import KE.KMinBuiltin
import PyProof.Rows.CallKw2
import KE.KSortTup
import PyProof.StrCalls2
import PyProof.StrLawsChain
import PyProof.StrLawsTight
import PyProof.Rows.StrItems
import KE.KxAffix
import KE.KRevSl
import PyProof.Rows.SetFrom
import PyProof.FactsAll.set_1
import PyProof.FactsAll.set_2
import PyProof.CollectWalk
import PyProof.AttrMissHeap
import KE.KDictOf
import PyProof.Rows.TupMore
import KE.KRevIter
import PyProof.Cells
import PyProof.StrBlock
import PyProof.PureStr
import PyProof.CallStr
import PyProof.AutoIntOps
import KE.KLam
import KE.KNestM
import PySem.Challenge.RW_cardplaces_k61_whole_visits
set_option maxHeartbeats 0
set_option Elab.async false
set_option linter.all false
set_option maxRecDepth 100000
abbrev P1:=PySem.Shared
abbrev P5:=PySem.W.Frag
abbrev P6:=PySem.Around
abbrev P7:=PySem.Program
abbrev P8:=PySem.FuncData
abbrev P9:=PySem.Value
abbrev Ya:=@PySem.wpAny_bind
abbrev Yb:=@PySem.wpAny_pure
abbrev Yc:=@PySem.Heap.get?_push_of_some
abbrev Yd:=@List.getElem?_eq_getElem
abbrev Ye:=@List.getD_eq_getElem?_getD
abbrev Yf:=@if_pos
abbrev Yg:=@PySem.Heap.lt_size
abbrev Yh:=@if_neg
abbrev Yi:=@PySem.Heap.get?_push_size
abbrev Yj:=@Nat.le_refl
abbrev Yk:=@List.getElem?_eq_some_iff
abbrev Yl:=@List.mem_cons
abbrev Ym:=@List.length_map
abbrev Yn:=@List.map_cons
abbrev Yo:=@List.mem_cons_of_mem
abbrev Yp:=@Nat.ne_of_lt
abbrev Yq:=@Array.length_toList
abbrev Yr:=@PySem.wpAny_ite_split
abbrev Ys:=@Array.getElem?_eq_getElem
abbrev Yt:=@List.size_toArray
abbrev Yu:=@List.getElem?_cons_zero
abbrev Yv:=@List.mem_cons_self
abbrev Yw:=@List.length_cons
abbrev Yx:=@Option.some.injEq
abbrev Yy:=@Nat.lt_of_lt_of_le
abbrev Yz:=@List.getElem?_map
abbrev YA:=@List.getElem?_cons_succ
abbrev YB:=@PySem.Heap.SameBut.update
abbrev YC:=@List.mem_singleton
abbrev YD:=@Array.getElem?_toList
abbrev YE:=@PySem.wpAny_call_entry
abbrev YF:=@Bool.false_eq_true
abbrev YG:=@PySem.sizeLine_eq
abbrev YH:=@List.all_eq_true
abbrev YI:=@PySem.Heap.get?_update_self
abbrev YJ:=@Bool.and_eq_true
abbrev YK:=@PySem.wpAny_mono
abbrev YL:=@Nat.le_trans
abbrev YM:=@PySem.wpAny_holding
abbrev YN:=@decide_eq_true
abbrev YO:=@List.not_mem_nil
abbrev YQ:=@List.map_map
abbrev YR:=@decide_eq_true_eq
abbrev YS:=@decide_eq_false
abbrev YT:=@Nat.lt_irrefl
abbrev YU:=@Nat.zero_le
abbrev YV:=@PySem.wpAny_newObj_type
abbrev YW:=@List.length_append
abbrev YX:=@Ne.symm
abbrev YY:=@PySem.wpAny_callSpecial?_slot
abbrev YZ:=@List.mem_map
abbrev Y0:=@List.mem_append_right
abbrev Y1:=@List.filter_cons
abbrev Y2:=@List.mem_of_getElem?
abbrev Y3:=@if_false
abbrev Y4:=@Int.toNat_natCast
abbrev Y5:=@PySem.Heap.size_push
abbrev Y6:=@List.map_congr_left
abbrev Y7:=@Option.map_eq_some_iff
abbrev Y8:=@List.length_take
abbrev Y9:=@if_true
abbrev Wa:=@List.length_range
abbrev Wc:=@PySem.W.mg_of
abbrev Wd:=@List.nodup_cons
abbrev Wf:=@List.getElem?_append_left
abbrev Wg:=@of_decide_eq_true
abbrev Wh:=@PySem.wpAny_setState_of
abbrev Wi:=@PySem.Around.under_plainId
abbrev Wj:=@PySem.Obj.data_mapFields
abbrev Wl:=@PyProof.Rows.boot_sorted
abbrev Wm:=@PySem.wpAny_dictEntries
abbrev Wn:=@PySem.wpAny_Call_Name_kw
abbrev Wo:=@Array.getElem?_eq_none
abbrev Wp:=@PySem.W.mg_none_of
abbrev Wq:=@List.length_nil
abbrev Wr:=@PyProof.Rows.slot_tuple_getitem
abbrev Ws:=@List.getElem?_append_right
abbrev Wt:=@Array.getElem?_eq_some_iff
abbrev Wu:=@List.mem_append
abbrev Wv:=@PyProof.Rows.callWith_builtin1
abbrev Ww:=@PySem.codeAny_builtin
abbrev Wx:=@Nat.zero_add
abbrev Wz:=@PySem.F.slot_dict_valueiterator_next
abbrev WA:=@List.take_of_length_le
abbrev WB:=@PySem.F.slot_dict_keyiterator_next
abbrev WC:=@Nat.lt_succ_of_lt
abbrev WD:=@PySem.boot_len
abbrev WE:=@List.map_append
abbrev WG:=@PyProof.Rows.callWith_type1
abbrev WH:=@PySem.Calls.spliced_cons
abbrev WI:=@List.mem_append_left
abbrev WJ:=@List.getElem?_set_ne
abbrev WK:=@PySem.wpAny_isInstance
abbrev WL:=@or_false
abbrev WM:=@PySem.wpAny_typeOf
abbrev WN:=@PySem.wpAny_field
abbrev WO:=@List.nodup_nil
abbrev WQ:=@PySem.wpAny_setField
abbrev WS:=@List.filterMap_cons
abbrev WT:=@List.pairwise_iff_getElem
abbrev WU:=@PySem.wpAny_dictEpoch
abbrev WV:=@PySem.F.plain_extend_loop
abbrev WW:=@List.mem_iff_getElem?
abbrev WX:=@List.take_append_drop
abbrev WY:=@Nat.le_add_right
abbrev WZ:=@PySem.F.called_set
abbrev W0:=@PySem.wpAny_attempt
abbrev W5:=@PySem.wpAny_rule
abbrev W6:=@PySem.F.slot_dict_itemiterator_next
abbrev W7:=@List.length_eq_zero_iff
abbrev W8:=@PySem.Calls.spliced_nil
abbrev W9:=@List.nil_append
abbrev Qa:=@List.getElem?_set_self
abbrev Qb:=@Nat.ne_of_gt
abbrev Qc:=@PySem.Heap.get?_update_other
abbrev Qd:=@PySem.plainId_quiet
abbrev Qe:=@List.getElem_inj
abbrev Qf:=@List.length_drop
abbrev Qg:=@PySem.Obj.isFreed_of_fields
abbrev Qh:=@Bool.false_ne_true
abbrev Qi:=@PySem.wpAny_setField_rec
abbrev Qj:=@PySem.wpAny_isOneOf_valiter
abbrev Qk:=@PySem.Calls.call_function_entry
abbrev Ql:=@Classical.byContradiction
abbrev Qm:=@List.append_nil
abbrev Qn:=@PySem.wpAny_updateSeq
abbrev Qo:=@PySem.wpAny_typeNameOfWhole_itemiter
abbrev Qp:=@PySem.wpAny_pyIter_list
abbrev Qq:=@List.nodup_append
abbrev Qr:=@PySem.wpAny_typeNameOfWhole_keyiter
abbrev Qs:=@PySem.wpAny_typeNameOfWhole_valiter
abbrev Qt:=@List.take_length
abbrev Qu:=@PySem.wpAny_fieldsOf
abbrev Qv:=@PySem.wpAny_seqItems
abbrev Qw:=@Int.emod_lt_of_pos
abbrev Qx:=@PyProof.Rows.F.plain_set_update_loop
abbrev Qy:=@List.length_set
abbrev Qz:=@List.getElem?_eq_none
abbrev QA:=@PySem.wpAny_notOrdered_dict
abbrev QB:=@PySem.wpAny_isOneOf_keyiter
abbrev QC:=@PySem.F.slot_tuple_lt
abbrev QD:=@PySem.PassesOwn.never
abbrev QE:=@PySem.wpAny_newList
abbrev QF:=@List.perm_ext_iff_of_nodup
abbrev QG:=@List.sum_cons
abbrev QH:=@List.take_add_one
abbrev QI:=@PySem.Heap.get?_none_of_le
abbrev QJ:=@PySem.wpAny_typeNameOf_itemiter
abbrev QK:=@List.Perm.eq_of_pairwise
abbrev QL:=@decide_false
abbrev QM:=@beq_eq_false_iff_ne
abbrev QN:=@PySem.mem_of_lookup
abbrev QO:=@List.getElem?_replicate
abbrev QP:=@List.pairwise_mergeSort
abbrev QQ:=@PySem.F.plain_list_iadd
abbrev QR:=@List.all_cons
abbrev QS:=@List.any_cons
abbrev QT:=@Bool.or_eq_true
abbrev QU:=@List.find?_cons
abbrev QV:=@PySem.tupleKind_room_in1
abbrev QW:=@Int.emod_nonneg
abbrev QX:=@PySem.Calls.callWith_builtin
abbrev QY:=@Function.comp_def
abbrev QZ:=@List.reverse_perm
abbrev Q0:=@PySem.Obj.cls_mapFields
abbrev Q1:=@PySem.wpAny_pyIter_slot
abbrev Q2:=@List.pairwise_map
abbrev Q3:=@List.mem_range
abbrev Q4:=@Nat.le_of_lt
abbrev Q5:=@List.map_nil
abbrev Q6:=@Iff.rfl
abbrev Q7:=@Nat.lt_trans
abbrev Q8:=@PySem.isSubtype_stop
abbrev Q9:=@PySem.F.slot_zip_next
abbrev Va:=@Nat.lt_succ_self
abbrev Vb:=@List.pairwise_append
abbrev Vc:=@List.ext_getElem
abbrev Vd:=@List.getElem_mem
abbrev Ve:=@PyProof.Rows.listUpdate_at
abbrev Vf:=@not_or
abbrev Vg:=@Nat.le_succ
abbrev Vh:=@decide_true
abbrev Vi:=@List.mergeSort_perm
abbrev Vj:=@List.getElem_of_mem
abbrev Vk:=@PySem.F.args_dict_valueiterator_next_1
abbrev Vl:=@PySem.wpAny_passesOwn
abbrev Vm:=@Option.map_some
abbrev Vn:=@List.forIn_cons
abbrev Vo:=@PyProof.Rows.get?_update_seq
abbrev Vp:=@List.Perm.of_eq
abbrev Vq:=@PySem.F.entry_dict_valueiterator_next
abbrev Vr:=@List.mem_filterMap
abbrev Vs:=@PySem.F.args_tuple_add_2
abbrev Vt:=@PySem.F.slot_list_getattribute
abbrev Vu:=@PySem.F.args_dict_keyiterator_next_1
abbrev Vv:=@PyProof.Rows.plain_sorted
abbrev Vw:=@PyProof.Rows.entry_sorted
abbrev Vx:=@PySem.putSet_of
abbrev Vy:=@Array.forIn_toList
abbrev Vz:=@PyProof.Rows.F.entry_set_update_loop
abbrev VA:=@PySem.F.entry_dict_itemiterator_next
abbrev VB:=@Bool.false_and
abbrev VC:=@List.take_zero
abbrev VD:=@List.drop_zero
abbrev VE:=@PySem.isSubtype_type
abbrev VF:=@PySem.F.entry_dict_keyiterator_next
abbrev VG:=@List.forIn_nil
abbrev VH:=@PySem.wpAny_newTuple
abbrev VI:=@PyProof.Rows.args_list_sort
abbrev VJ:=@PySem.F.entry_tuple_add
abbrev VL:=@PySem.F.plainAttrs_dict
abbrev VM:=@decide_eq_false_iff_not
abbrev VN:=@List.pairwise_singleton
abbrev VO:=@List.take_sublist
abbrev VP:=@List.reverse_cons
abbrev VQ:=@List.ext_getElem?
abbrev VR:=@PySem.wpAny_storeSet_of
abbrev VS:=@PySem.Heap.get?_push_ne
abbrev VT:=@PySem.F.slot_tuple_add
abbrev VU:=@List.range_succ_eq_map
abbrev VV:=@PySem.wpAny_of_eq
abbrev VW:=@PyProof.Rows.kind_sorted
abbrev VX:=@PySem.wpAny_nextOf_list_item
abbrev VY:=@PySem.wpAny_isOneOf_itemiter
abbrev VZ:=@PySem.wpAny_eqBool_str
abbrev V0:=@beq_self_eq_true
abbrev V1:=@List.lookup_cons
abbrev V2:=@PySem.wpAny_forIn_list
abbrev V3:=@List.length_replicate
abbrev V4:=@List.length_singleton
abbrev V5:=@List.pairwise_reverse
abbrev V6:=@PySem.F.slot_dict_get
abbrev V7:=@PySem.builtinLookup_eq_fast
abbrev V8:=@PySem.F.args_dict_itemiterator_next_1
abbrev V9:=@PySem.codeAny_mono
abbrev Ua:=@List.drop_eq_nil_iff
abbrev Ub:=@Array.toList_extract
abbrev Uc:=@List.mem_of_mem_take
abbrev Ud:=@PySem.wpAny_specialOf
abbrev Ue:=@Nat.mod_lt
abbrev Ug:=@PySem.wpAny_callSpecialIfBound?_slot
abbrev Uh:=@List.range_succ
abbrev Ui:=@PyProof.Rows.args_sorted1
abbrev Uj:=@PySem.F.slot_dict_values_iter
abbrev Uk:=@List.length_reverse
abbrev Ul:=@PySem.wpAny_setEntries_of
abbrev Um:=@List.drop_drop
abbrev Uo:=@Array.getElem?_setIfInBounds
abbrev Up:=@List.not_lt
abbrev Uq:=@List.filterMap_map
abbrev Ur:=@List.getElem?_drop
abbrev Ut:=@List.zip_cons_cons
abbrev Uu:=@PySem.F.plain_proto_collect
abbrev Uv:=@List.lt_trans
abbrev Uw:=@List.length_eraseIdx_of_lt
abbrev Ux:=@PySem.Moved.eq_with
abbrev Uy:=@PySem.wpAny_onRaise
abbrev Uz:=@PySem.wpAny_truthy_bool
abbrev UA:=@Nat.le_of_succ_le
abbrev UB:=@Array.toList_push
abbrev UC:=@List.append_assoc
abbrev UD:=@Nat.le_succ_of_le
abbrev UE:=@List.mapM_toArray
abbrev UF:=@bne_self_eq_false
abbrev UG:=@PySem.fits_of_scanBound
abbrev UH:=@PySem.wpAny_Name
abbrev UI:=@PySem.wpAny_load
abbrev UJ:=@PySem.F.slot_dict_getitem
abbrev UK:=@PySem.F.entry_extend_loop
abbrev UL:=@Option.isSome_iff_exists
abbrev UM:=@PySem.noFill_tuple_add
abbrev UN:=@List.le_antisymm
abbrev UO:=@PySem.wpAny_askSetting
abbrev UP:=@map_eq_pure_bind
abbrev UQ:=@List.length_erase_of_mem
abbrev UR:=@PySem.Heap.size_update
abbrev US:=@PySem.F.slot_dict_values
abbrev UT:=@List.mem_filter
abbrev UU:=@List.of_mem_zip
abbrev UV:=@List.zip_append
abbrev UW:=@Nat.min_eq_left
abbrev UX:=@Array.size_push
abbrev UY:=@List.map_take
noncomputable section
namespace L2
open PySem PySem.Spec PyProof.Rows
noncomputable abbrev Key:=Sum Int Str
def ZcC:Key->P9->Bool
 | .inl k,v=>Value.isInt k v
 | .inr x,v=>Value.isStrOf x v
def Zqi(w:World):Key->Int
 | .inl k=>hashInt k
 | .inr x=>hashStr w x
theorem Zbg:∀{k:Key} {v:P9},ZcC k v=true->(∃i t,k=Sum.inl i/\v=Value.int i t)\/(∃x t,k=Sum.inr x/\v=Value.str x t)
 | .inl i,v,h=>by
  obtain⟨t,e⟩:=Value.isInt_shape (k:=i) (v:=v) h;exact .inl ⟨i,t,rfl,e⟩
 | .inr x,v,h=>by
  obtain⟨t,e⟩:=Value.isStrOf_shape (x:=x) (v:=v) h;exact .inr ⟨x,t,rfl,e⟩
theorem Zsg(i:Int)(t:Tok):ZcC (.inl i) (.int i t)=true:=by simp[ZcC,Value.isInt]
theorem ZmY(x:Str)(t:Tok):ZcC (.inr x) (.str x t)=true:=by simp[ZcC,Value.isStrOf]
theorem Zqw(a b:Int):decide ((Sum.inl a:Key)=Sum.inl b)=(a == b):=by
 by_cases e:a=b
 ·subst e; simp
 ·have h:¬ (Sum.inl a:Key)=Sum.inl b:=fun q=>e (Sum.inl.inj q);rw[YS h];exact (QM.mpr e).symm
theorem Zm0(a b:Str):decide ((Sum.inr a:Key)=Sum.inr b)=decide (a=b):=by
 by_cases e:a=b
 ·subst e; simp
 ·have h:¬ (Sum.inr a:Key)=Sum.inr b:=fun q=>e (Sum.inr.inj q);rw[YS h,YS e]
theorem Zpm(a:Int)(b:Str):decide ((Sum.inl a:Key)=Sum.inr b)=false:=YS (fun q=>nomatch q)
theorem Zoq(a:Str)(b:Int):decide ((Sum.inr a:Key)=Sum.inl b)=false:=YS (fun q=>nomatch q)
def mixKind(prog:P7)(w:World):PySem.KeyKind prog w Key where
 is:=ZcC
 hash:=Zqi w
 inj:=fun v a b ha hb=>by
  rcases Zbg ha with⟨i,t,rfl,rfl⟩ | ⟨x,t,rfl,rfl⟩
  ·rcases Zbg hb with⟨j,u,rfl,e⟩ | ⟨y,u,rfl,e⟩
   ·injection e with e1 _; rw[e1]
   ·exact nomatch e
  ·rcases Zbg hb with⟨j,u,rfl,e⟩ | ⟨y,u,rfl,e⟩
   ·exact nomatch e
   ·injection e with e1 _; rw[e1]
 byValue:=fun k v h=>by
  rcases Zbg h with⟨i,t,rfl,rfl⟩ | ⟨x,t,rfl,rfl⟩ <;> rfl
 pyHash:=fun hv h=>by
  rcases Zbg hv with⟨i,t,rfl,rfl⟩ | ⟨x,t,rfl,rfl⟩
  ·exact wpAny_pyHash_int h
  ·exact wpAny_pyHash_str h
 eqBool:=fun hu hv h=>by
  rcases Zbg hu with⟨i,t,rfl,rfl⟩ | ⟨x,t,rfl,rfl⟩
  ·rcases Zbg hv with⟨j,u,rfl,rfl⟩ | ⟨y,u,rfl,rfl⟩
   ·rw[Zqw] at h; exact wpAny_eqBool_int h
   ·rw[Zpm] at h; exact SeqAt.EqAt.int_str i t y u _ _ _ _ h
  ·rcases Zbg hv with⟨j,u,rfl,rfl⟩ | ⟨y,u,rfl,rfl⟩
   ·rw[Zoq] at h; exact SeqAt.EqAt.str_int x t j u _ _ _ _ h
   ·rw[Zm0] at h; exact VZ h
 «strs»:=fun k x t v h=>by
  rcases Zbg h with⟨i,u,rfl,e⟩ | ⟨y,u,rfl,e⟩
  ·exact nomatch e
  ·injection e with e1 _;subst e1;cases v <;> rfl
theorem ZnG(prog:P7)(w:World)(i:Int)(t:Tok):(mixKind prog w).is (.inl i) (.int i t)=true:=Zsg i t
theorem Zpc(prog:P7)(w:World)(x:Str)(t:Tok):(mixKind prog w).is (.inr x) (.str x t)=true:=ZmY x t
inductive V where
 | non | bl (b:Bool) | int (i:Int) | str (x:Str) | byt (b:Array UInt8) | flt (b:UInt64) | ref (a:Addr) | ty (n:String)
 deriving DecidableEq
def RelV:V->P9->Prop
 | .non,u=>u=Value.none
 | .bl b,u=>u=Value.bool b
 | .int i,u => ∃t,u=Value.int i t
 | .str x,u => ∃t,u=Value.str x t
 | .byt b,u => ∃t,u=Value.bytes b t
 | .flt b,u => ∃t,u=Value.float b t
 | .ref a,u=>u=Value.ref a
 | .ty n,u=>u=Value.type n
noncomputable abbrev Vals:List V->List P9->Prop:=Paired RelV
theorem Vals.length{xs:List V}{us:List P9}(r:Vals xs us):xs.length=us.length:=Paired.length r
theorem Vals.get:∀{xs:List V} {us:List P9} {i:Nat} {x:V},Vals xs us->xs[i]?=some x->∃u,us[i]?=some u/\RelV x u
 | _,_,_,_,.nil,e=>by simp at e
 | _,_,0,_,.cons r _,e=>by simp at e; subst e; exact⟨_,rfl,r⟩
 | _,_,i+1,x,.cons _ t,e=>by
  obtain⟨u,h1,h2⟩:=Vals.get (i:=i) (x:=x) t (by simpa using e);exact⟨u,by simpa using h1,h2⟩
theorem Vals.append:∀{xs ys:List V} {us ws:List P9},Vals xs us->Vals ys ws->Vals (xs++ys) (us++ws)
 | _,_,_,_,.nil,s=>s
 | _,_,_,_,.cons r t,s => .cons r (Vals.append t s)
theorem Vals.take:∀{xs:List V} {us:List P9} (n:Nat),Vals xs us->Vals (xs.take n) (us.take n)
 | _,_,0,_ => .nil
 | _,_,_+1,.nil => .nil
 | _,_,n+1,.cons r t => .cons r (Vals.take n t)
theorem Vals.drop:∀{xs:List V} {us:List P9} (n:Nat),Vals xs us->Vals (xs.drop n) (us.drop n)
 | _,_,0,r=>r
 | _,_,_+1,.nil => .nil
 | _,_,n+1,.cons _ t=>Vals.drop n t
def RelO:Option V->Option P9->Prop
 | some v,some u=>RelV v u
 | none,none=>True
 | _,_=>False
def KV{κ:Type}:List (κ×V)->List (κ×P9)->Prop:=Paired fun (p:κ×V) (q:κ×P9)=>p.1=q.1/\RelV p.2 q.2
def kV:Key->V
 | .inl i => .int i
 | .inr x => .str x
inductive HO where
 /-- a list -/
 | lst (xs:List V)
 /-- a tuple (never changes) -/
 | tup (xs:List V)
 /-- a dict whose keys are ints and texts; one whose keys are tuples of ints and texts (the empty one is both) -/
 | dK (kvs:List (Key×V)) | dT (kvs:List (List Key×V))
 /-- a set of ints: its members, its size -/
 | set (S:Int->Bool) (n:Nat)
 /-- an instance of the class at C, its dict at dx, its attributes -/
 | ins (C dx:Addr) (fs:List (Str×V))
 /-- the dict of the instance at x -/
 | own (x:Addr)
 /-- the dict of an exception -/
 | xd (fs:List (Str×V))
 /-- a bound method, f of x -/
 | met (f x:Addr)
 /-- a range object lo, lo + 1, .. below hi -/
 | rng (lo hi:Int)
 /-- a thing that is known to the object (the script; a dict while a loop walks it): read, never written while it is so -/
 | frz (o:Obj) (u:HO)
 /-- a code object's table -/
 | tbl (ps:Array P9)
 /-- any other thing, by what is true of its one object (a def of one's own: SetO a S n:=HO.ext fun h => ..) -/
 | ext (φ:Heap->Prop)
noncomputable abbrev Hp:=Addr->Option HO
def upd(H:Hp)(a:Addr)(o:HO):Hp:=fun b=>if b=a then some o else H b
theorem ZH{H:Hp}{a:Addr}{o:HO}:upd H a o a=some o:=by unfold upd; rw[Yf rfl]
theorem Zh{H:Hp}{a b:Addr}{o:HO}(h:b≠a):upd H a o b=H b:=by unfold upd; rw[Yh h]
theorem ne_of{H:Hp}{a b:Addr}{o u:HO}(h:H a=some o)(h':H b=some u)(d:o≠u):a≠b:=by
 intro e; subst e; rw[h] at h'; exact d (Option.some.inj h')
theorem ZG{H:Hp}{a b:Addr}{o:HO}(h:H a=some o)(h':H b=none):a≠b:=by
 intro e; subst e; rw[h] at h'; cases h'
section
variable(P:P7)(w:World)
def ObjOk(H:Hp)(h:Heap)(a:Addr):HO->Prop
 | .lst xs=>xs.length<=sizeLine/\∃(its:List P9) (n:Nat),Vals xs its/\h.get? a=some { cls:=.type "list",data:=.seq its.toArray n }
 | .tup xs=>xs.length<=sizeLine/\∃its:List P9,Vals xs its/\IsTup h a its.toArray/\∀o,h.get? a=some o->o.dict=none
 | .dK kvs=>kvs.length<=sizeLine/\(a == sysModules)=false/\∃vs,KV kvs vs/\h.DictOf (mixKind P w) a vs
 | .dT kvs=>kvs.length<=sizeLine/\(a == sysModules)=false/\∃xs:List (List Key×Addr×P9),
   Paired (fun (p:List Key×V) (q:List Key×Addr×P9)=>p.1=q.1/\H q.2.1=some (.tup (p.1.map kV))/\RelV p.2 q.2.2) kvs xs /\
   ∃o es ep,h.get? a=some o/\o.ExactDict/\o.data = .dict es ep/\es.toList=xs.map (entryOfKey (tupleKind (mixKind P w)))/\(xs.map (·.1)).Nodup
 | .set S n=>h.SetOf (intKind P w) a S n
 | .ins C dx fs=>H dx=some (.own a)/\fs.length<=1000/\dx≠a/\h.get? a=some (PySem.W.instObj C dx) /\
   ∃mA,h.Ns1 dx mA/\(∀f,RelO (fs.lookup f) (mA f))/\PySem.Within mA (fs.map (·.1))
 | .own _ => ∃o,h.get? a=some o
 | .xd fs => ∃mA,h.Ns1 a mA/\∀f,RelO (fs.lookup f) (mA f)
 | .rng lo hi => ∃t u v,h.get? a=some { cls:=.type "range",data:=.fields #[.int lo t,.int hi u,.int 1 v] }
 | .frz o u=>h.get? a=some o/\ObjOk H h a u
 | .tbl ps=>h.get? a=some { cls:=.none,data:=.fields ps }
 | .met f x=>h.get? a=some (PySem.W.methodObj (.ref f) (.ref x))
 | .ext φ=>φ h/\(∃o,h.get? a=some o)/\∀h1 h2:Heap,φ h1->(∀o,h1.get? a=some o->h2.get? a=some o)->φ h2
def HOk(H:Hp)(h:Heap):Prop:=∀a o,H a=some o->ObjOk P w H h a o
end
section
variable{P:P7}{w:World}{H H':Hp}{h h':Heap}{a:Addr}{o:HO}
theorem ObjOk.lt(x:ObjOk P w H h a o):a<h.objs.size:=by
 cases o with
 | lst xs=>obtain⟨_,_,_,_,e⟩:=x; exact Yg e
 | tup xs=>obtain⟨_,_,_,p,_⟩:=x; exact p.lt
 | dK kvs=>obtain⟨_,_,_,_,o,_,_,e,_⟩:=x; exact Yg e
 | dT kvs=>obtain⟨_,_,_,_,o,_,_,e,_⟩:=x; exact Yg e
 | set S n=>obtain⟨o,_,_,_,e,_⟩:=x; exact Yg e
 | ins C dx fs=>obtain⟨_,_,_,e,_⟩:=x; exact Yg e
 | own y=>obtain⟨_,e⟩:=x; exact Yg e
 | xd fs=>obtain⟨_,⟨_,_,_,e,_⟩,_⟩:=x; exact Yg e
 | rng lo hi=>obtain⟨_,_,_,e⟩:=x; exact Yg e
 | frz ob u=>obtain⟨e,_⟩:=x; exact Yg e
 | tbl ps=>exact Yg (show h.get? a=some _ from x)
 | met f y=>exact Yg (show h.get? a=some _ from x)
 | ext φ=>obtain⟨_,⟨_,e⟩,_⟩:=x; exact Yg e
theorem Paired.mapP{α β:Type}{F G:α->β->Prop}:∀{l₁:List α} {l₂:List β},Paired F l₁ l₂->(∀a b,F a b->G a b)->Paired G l₁ l₂
 | _,_,.nil,_ => .nil
 | _,_,.cons r t,f => .cons (f _ _ r) (Paired.mapP t f)
theorem ObjOk.stay(x:ObjOk P w H h a o)(k:∀b u,(b=a\/H b=some (.own a))->h.get? b=some u->h'.get? b=some u)
  (ho:∀b,H b=some (.own a)->H' b=some (.own a)) (ht:∀b xs,H b=some (.tup xs)->H' b=some (.tup xs)):ObjOk P w H' h' a o:=by
 induction o with
 | lst xs=>obtain⟨z,its,n,r,e⟩:=x; exact⟨z,its,n,r,k _ _ (.inl rfl) e⟩
 | tup xs=>obtain⟨z,its,r,⟨ob,e,c⟩,dn⟩:=x; exact⟨z,its,r,⟨ob,k _ _ (.inl rfl) e,c⟩,fun o2 e2=>by rw[k _ _ (.inl rfl) e] at e2; cases e2; exact dn _ e⟩
 | dK kvs=>obtain⟨z,y,vs,r,ob,es,ep,e,c⟩:=x; exact⟨z,y,vs,r,ob,es,ep,k _ _ (.inl rfl) e,c⟩
 | dT kvs =>
  obtain⟨z,y,xs,r,ob,es,ep,e,c⟩:=x;exact⟨z,y,xs,Paired.mapP r fun p q z=>⟨z.1,ht _ _ z.2.1,z.2.2⟩,ob,es,ep,k _ _ (.inl rfl) e,c⟩
 | set S n=>obtain⟨ob,es,ep,t,e,c⟩:=x; exact⟨ob,es,ep,t,k _ _ (.inl rfl) e,c⟩
 | ins C dx fs =>
  obtain⟨d,z,ne,e,mA,⟨od,es,ep,e2,c⟩,r⟩:=x;exact⟨ho _ d,z,ne,k _ _ (.inl rfl) e,mA,⟨od,es,ep,k _ _ (.inr d) e2,c⟩,r⟩
 | own y=>obtain⟨ob,e⟩:=x; exact⟨ob,k _ _ (.inl rfl) e⟩
 | xd fs=>obtain⟨mA,⟨od,es,ep,e,c⟩,r⟩:=x; exact⟨mA,⟨od,es,ep,k _ _ (.inl rfl) e,c⟩,r⟩
 | rng lo hi=>obtain⟨t,u,v,e⟩:=x; exact⟨t,u,v,k _ _ (.inl rfl) e⟩
 | frz ob u ih=>obtain⟨e,q⟩:=x; exact⟨k _ _ (.inl rfl) e,ih q⟩
 | tbl ps =>
  have e:h.get? a=some { cls:=.none,data:=.fields ps }:=x;show h'.get? a=some { cls:=.none,data:=.fields ps };exact k a _ (.inl rfl) e
 | met f y =>
  have e:h.get? a=some (PySem.W.methodObj (.ref f) (.ref y)):=x;show h'.get? a=some (PySem.W.methodObj (.ref f) (.ref y));exact k a _ (.inl rfl) e
 | ext φ=>obtain⟨p,⟨o,e⟩,st⟩:=x; exact⟨st _ _ p fun o q=>k _ _ (.inl rfl) q,⟨o,k _ _ (.inl rfl) e⟩,st⟩
theorem HOk.lt(x:HOk P w H h)(e:H a=some o):a<h.objs.size:=(x a o e).lt
theorem HOk.fresh(x:HOk P w H h)(e:h.objs.size<=a):H a=none:=by
 cases q:H a with
 | none=>rfl
 | some u=>exact absurd (Yy (x.lt q) e) (YT _)
theorem HOk.kept(x:HOk P w H h)(k:∀b u,h.get? b=some u->h'.get? b=some u):HOk P w H h':=fun a o e =>
 (x a o e).stay (fun b u _ q=>k b u q) (fun _ q=>q) fun _ _ q=>q
theorem HOk.laid(x:HOk P w H h)(k:∀b u,h.get? b=some u->h'.get? b=some u)(hp:h.objs.size<=a)(new:ObjOk P w (upd H a o) h' a o):HOk P w (upd H a o) h':=fun b u e=>by
 have hn:=x.fresh hp;by_cases hb:b=a
 ·subst hb; rw[ZH] at e; cases e; exact new
 ·rw[Zh hb] at e;exact (x b u e).stay (fun c v _ q=>k c v q) (fun c q=>by rw[Zh (ZG q hn)]; exact q) fun c xs q=>by rw[Zh (ZG q hn)]; exact q
end
def Rd(H:Hp)(a:Addr)(u:HO):Prop:=H a=some u\/∃o,H a=some (.frz o u)
theorem Rd.ok{P:P7}{w:World}{H:Hp}{h:Heap}{a:Addr}{u:HO}(r:Rd H a u)(x:HOk P w H h):ObjOk P w H h a u:=by
 rcases r with r | ⟨o,r⟩
 ·exact x a u r
 ·obtain⟨_,q⟩:=x a _ r;exact q
def Mut:Option HO->Prop
 | some (.lst _)=>True
 | some (.dK _)=>True
 | some (.dT _)=>True
 | some (.set _ _)=>True
 | some (.ins _ _ _)=>True
 | some (.ext _)=>True
 | _=>False
section
variable{P:P7}{w:World}{H:Hp}{h h':Heap}{x e:Addr}{o':HO}
theorem HOk.write(ok:HOk P w H h)(mu:Mut (H x))(he:e=x\/H e=some (.own x))(k:∀b u,b≠e->h.get? b=some u->h'.get? b=some u)(heo:∃u,h'.get? e=some u)
  (new:ObjOk P w (upd H x o') h' x o'):HOk P w (upd H x o') h':=fun b u q=>by
 have nown:∀c y,H c=some (.own y)->c≠x:=fun c y r z=>by subst z; rw[r] at mu; exact mu
 have ntup:∀c xs,H c=some (.tup xs)->c≠x:=fun c xs r z=>by subst z; rw[r] at mu; exact mu
 by_cases hb:b=x
 ·subst hb; rw[ZH] at q; cases q; exact new
 ·rw[Zh hb] at q;by_cases hbe:b=e
  ·have q':H b=some (.own x):=by
    rcases he with z | z
    ·exact absurd (hbe.trans z) hb
    ·rw[hbe]; exact z
   rw[q] at q'; cases q';obtain⟨v,hv⟩:=heo;exact⟨v,by rw[hbe]; exact hv⟩
  ·refine (ok b u q).stay (fun c v hc r=>k c v ?_ r) (fun c r=>by rw[Zh (nown c b r)]; exact r) fun c xs r=>by rw[Zh (ntup c xs r)]; exact r
   rcases hc with rfl | hc
   ·exact hbe
   ·rintro rfl;rcases he with z | z
    ·exact nown c b hc z
    ·rw[hc] at z; cases z; exact hb rfl
end
structure Un(fs ex:List Addr)(H H':Hp)(h h':Heap):Prop where
 keep:∀b o,h.get? b=some o->H b=none->b ∉ fs->b ∉ ex->h'.get? b=some o
 slot:∀b o,h.get? b=some o->H b=none->b∈fs->b ∉ ex->∃sl,h'.get? b=some { o with slots:=sl }
 free:∀b o,h.get? b=some o->H b=none->b ∉ ex->H' b=none
 there:∀b o,h.get? b=some o->b ∉ ex->∃o',h'.get? b=some o'
 tups:∀b xs,H b=some (.tup xs)->H' b=some (.tup xs)
 frzs:∀b o u,H b=some (.frz o u)->H' b=some (.frz o u)
 tbls:∀b ps,H b=some (.tbl ps)->∃more,H' b=some (.tbl (ps++more))
section
variable{fs fs' ex ex':List Addr}{H H1 H2:Hp}{h h1 h2 h':Heap}{a x e:Addr}{o:HO}
theorem Un.any(u:Un fs ex H H1 h h1){b:Addr}{ob:Obj}(q:h.get? b=some ob)(n:H b=none)(hx:b ∉ ex):∃sl,h1.get? b=some { ob with slots:=sl }:=by
 by_cases hb:b∈fs
 ·exact u.slot b ob q n hb hx
 ·exact⟨ob.slots,u.keep b ob q n hb hx⟩
theorem Un.kept(k:∀b u,h.get? b=some u->h'.get? b=some u):Un fs ex H H h h' :=
 ⟨fun b ob q _ _ _=>k b ob q,fun b ob q _ _ _=>⟨ob.slots,k b ob q⟩,fun _ _ _ n _=>n,fun b ob q _=>⟨ob,k b ob q⟩,fun _ _ q=>q,fun _ _ _ q=>q,fun _ ps q=>⟨#[],by rw[q]; simp⟩⟩
theorem Un.refl:Un fs ex H H h h:=Un.kept fun _ _ q=>q
theorem Un.laid(k:∀b u,h.get? b=some u->h'.get? b=some u)(hp:h.objs.size<=a)(hn:H a=none):Un fs ex H (upd H a o) h h' where
 keep:=fun b u q _ _ _=>k b u q
 slot:=fun b u q _ _ _=>⟨u.slots,k b u q⟩
 free:=fun b u q n _=>by rw[Zh (Yp (Yy (Yg q) hp))]; exact n
 there:=fun b u q _=>⟨u,k b u q⟩
 tups:=fun b xs q=>by rw[Zh (ZG q hn)]; exact q
 frzs:=fun b u xs q=>by rw[Zh (ZG q hn)]; exact q
 tbls:=fun b ps q=>⟨#[],by rw[Zh (ZG q hn),q]; simp⟩
theorem Un.write(mu:Mut (H x))(he:e=x\/H e=some (.own x))(k:∀b u,b≠e->h.get? b=some u->h'.get? b=some u)(heo:∃u,h'.get? e=some u):Un fs ex H (upd H x o) h h':=by
 have hx:∀b,H b=none->b≠x:=fun b n z=>by subst z; rw[n] at mu; exact mu
 have hb:∀b,H b=none->b≠e:=fun b n z=>by
  subst z;rcases he with r | r
  ·exact hx b n r
  ·rw[n] at r; cases r
 have hm:∀b u,H b=some u->¬ Mut (some u)->b≠x:=fun b u q nm z=>by subst z; rw[q] at mu; exact nm mu
 refine⟨fun b u q n _ _=>k b u (hb b n) q,fun b u q n _ _=>⟨u.slots,k b u (hb b n) q⟩,fun b u q n _=>by rw[Zh (hx b n)]; exact n,fun b u q _ => ?_,
  fun b xs q=>by rw[Zh (hm b _ q fun z=>z)]; exact q,fun b u xs q=>by rw[Zh (hm b _ q fun z=>z)]; exact q,fun b ps q=>⟨#[],by rw[Zh (hm b _ q fun z=>z),q]; simp⟩⟩
 by_cases hbe:b=e
 ·subst hbe; exact heo
 ·exact⟨u,k b u hbe q⟩
end
def trk(h:Heap)(H:Hp):List Addr:=(List.range h.objs.size).filter fun a=>(H a).isSome
def Za9(h:Heap)(H:Hp):Heap:=PySem.W.hideAll h (trk h H)
theorem Zlg(h:Heap)(H:Hp):(Za9 h H).objs.size=h.objs.size:=PySem.W.hideAll_size _ _
theorem Znd{h:Heap}{H:Hp}{b:Addr}{o:Obj}(e:h.get? b=some o)(n:H b=none):(Za9 h H).get? b=some o :=
 PySem.W.hideAll_get _ e fun hm=>by
  have q:(H b).isSome=true:=(UT.mp hm).2;rw[n] at q; simp at q
theorem Zoo{h:Heap}{H:Hp}{b:Addr}{o:Obj}(e:(Za9 h H).get? b=some o):h.get? b=some o/\H b=none:=by
 have e':h.get? b=some o:=PySem.W.of_hideAll (trk h H) e;refine⟨e',?_⟩;cases q:H b with
 | none=>rfl
 | some x =>
  have hm:b∈trk h H:=UT.mpr ⟨Q3.mpr (Yg e'),by simp[q]⟩;have z:(Za9 h H).get? b=none:=PySem.W.hideAll_none (trk h H) hm;rw[z] at e; cases e
def Zm2(g h:Heap)(L:Addr):List (Addr×Obj):=(List.range h.objs.size).filterMap fun a=>if a=L\/(g.get? a).isSome=true then none else (h.get? a).map fun o=>(a,o)
def rest(g h:Heap)(L d:Addr):List (Addr×Obj):=(Zm2 g h L).filter fun p=>decide (p.1≠d)
structure Mod(K:P5)(mg:Str->Option P9)(base:Heap):Prop where
 kin:K.In base
 glob:base.Ns mainGlobals mg
 blt:∃mb,base.Ns builtinsNs mb/\∀x:Str,x≠"__name__"->mb x=bootBuiltins x
 nolimit:base.NoLimit
structure Cx where
 prog:P7
 w:World
 K:P5
 mg:Str->Option P9
 base:Heap
 A:P6
 N:List Str
 s₀:P1
 H₀:Hp
 env:Env
 outer:List Env
 stack:List Env
 ex:List Addr
 fn:Str->Bool
 calm:Bool
 pn:List (Addr×Obj)
 xe:P9->P1->Prop
def frs(l:List Env):List Addr:=l.filterMap (·.frame)
noncomputable abbrev Cx.fs(X:Cx):List Addr:=frs X.outer
def Vis(sc:Scope)(x:Str):Prop:=sc.names.lookup x=some .local\/sc.names.lookup x=some .cell\/sc.names.lookup x=some .free
def Loc(sc:Scope)(x:Str):Prop:=sc.names.lookup x=some .local\/sc.names.lookup x=some .cell
def Look(env:Env)(h:Heap)(m:Str->Option P9)(x:Str)(u:P9):Prop :=
 (env.kindOf x=some .local/\m x=some u)\/((env.kindOf x=some .cell\/env.kindOf x=some .free)/\∃c,env.cells.lookup x=some c/\h.IsCell c (some u))
structure Cx.Ok(X:Cx):Prop where
 mod:Mod X.K X.mg X.base
 kind:X.env.scope.kind = .function
 glob:X.env.globals=mainGlobals
 blt:X.env.builtins=builtinsNs
 above:X.s₀.heap.objs.size<=X.env.locals
 inj:∀x y c,X.env.cells.lookup x=some c->X.env.cells.lookup y=some c->x=y
 has:∀x,(X.env.kindOf x=some .cell\/X.env.kindOf x=some .free)->∃c,X.env.cells.lookup x=some c
 cab:∀x c,X.fn x=true->X.env.cells.lookup x=some c->X.s₀.heap.objs.size<=c
 hd:X.calm=true->X.A.handled=none
 frames:X.A.frames=some X.stack
 stk:X.stack=X.outer\/(X.stack=X.env :: X.outer/\X.env.frame=some X.env.locals)
 exf:∀b∈X.ex,b≠X.env.locals/\∀x c,X.env.cells.lookup x=some c->c≠b
 bs:∀b o,X.base.get? b=some o->X.s₀.heap.get? b=some o/\X.H₀ b=none
 bsz:X.base.objs.size<=X.s₀.heap.objs.size
 noex:∀b o,X.base.get? b=some o->b ∉ X.ex
 exfs:∀b∈X.ex,b ∉ X.fs
 funs:X.s₀.heap.FunFrames X.base X.outer
 frf:∀b∈X.fs,X.H₀ b=none
structure Inv(X:Cx)(pins:List (Addr×Obj))(σ:List (Option V))(H:Hp)(s:P1):Prop where
 ok:X.Ok
 os:s.os=X.s₀.os
 bare:AllBare s.gens
 base:Un X.fs X.ex X.H₀ H X.s₀.heap s.heap
 loc:∃m,s.heap.Ns X.env.locals m/\∀(i:Nat) (x:Str) (v:V),X.N[i]?=some x->σ[i]?=some (some v)->Vis X.env.scope x->∃u,RelV v u/\Look X.env s.heap m x u
 cell:∀x c,X.env.cells.lookup x=some c->∃v,s.heap.IsCell c v
 free:H X.env.locals=none
 freeC:∀x c,X.env.cells.lookup x=some c->H c=none
 pin:∀p∈X.pn++pins,s.heap.get? p.1=some p.2/\H p.1=none/\p.1≠X.env.locals/\p.1 ∉ X.fs/\∀v,p.2.data≠.cell v
 hok:HOk X.prog X.w H s.heap
 len:σ.length=X.N.length
section
variable{X:Cx}{pins:List (Addr×Obj)}{σ:List (Option V)}{H H':Hp}{s:P1}{h':Heap}
theorem Cx.Ok.nofr(ok:X.Ok){b:Addr}{o:Obj}(e:X.base.get? b=some o):b ∉ X.fs:=fun hb=>by
 have:=(ok.funs.mem hb).1;rw[e] at this; cases this
theorem Inv.bs(I:Inv X pins σ H s):∀b o,X.base.get? b=some o->s.heap.get? b=some o/\H b=none:=fun b o e =>
 ⟨I.base.keep b o (I.ok.bs b o e).1 (I.ok.bs b o e).2 (I.ok.nofr e) (I.ok.noex b o e),I.base.free b o (I.ok.bs b o e).1 (I.ok.bs b o e).2 (I.ok.noex b o e)⟩
theorem Inv.bk(I:Inv X pins σ H s):∀b o,X.base.get? b=some o->s.heap.get? b=some o:=fun b o e=>(I.bs b o e).1
theorem Inv.mod(I:Inv X pins σ H s):Mod X.K X.mg X.base:=I.ok.mod
theorem Inv.kIn(I:Inv X pins σ H s):X.K.In s.heap:=I.ok.mod.kin.keeps I.bk
theorem Inv.nolimit(I:Inv X pins σ H s):s.heap.NoLimit:=I.ok.mod.nolimit.keeps I.bk
theorem Inv.lt(I:Inv X pins σ H s):X.env.locals<s.heap.objs.size:=let ⟨_,hn,_⟩:=I.loc; hn.lt
theorem Inv.sz(I:Inv X pins σ H s):X.s₀.heap.objs.size<=s.heap.objs.size:=YL I.ok.above (Q4 I.lt)
theorem Inv.nofs(I:Inv X pins σ H s){a:Addr}(h:s.heap.objs.size<=a):a ∉ X.fs:=fun hb=>by
 obtain⟨_,o,ho,_⟩:=I.ok.funs.mem hb;exact absurd (Yy (Yg ho) (YL I.sz h)) (YT _)
theorem Inv.cne(I:Inv X pins σ H s):∀x c,X.env.cells.lookup x=some c->c≠X.env.locals:=fun x c e z=>by
 obtain⟨v,o,ho,hd⟩:=I.cell x c e;obtain⟨m,⟨o',es,ep,ho',hd',_⟩,_⟩:=I.loc;rw[z,ho'] at ho; cases ho; rw[hd'] at hd; cases hd
theorem Inv.funs(I:Inv X pins σ H s):s.heap.FunFrames X.base X.outer:=by
 have all:∀(l:List Env),(∀b∈frs l,b∈X.fs)->X.s₀.heap.FunFrames X.base l->s.heap.FunFrames X.base l:=by
  intro l
  induction l with
  | nil=>intro _ _; trivial
  | cons env r ih =>
   intro hs hl;obtain⟨hk,⟨L,o,hf,hn,ho,hd⟩,hr⟩:=hl;have hL:L∈X.fs:=hs L (by unfold frs; rw[WS,hf]; exact Yv);obtain⟨sl,e⟩:=I.base.slot L o ho (I.ok.frf L hL) hL fun z=>I.ok.exfs L z hL;exact⟨hk,⟨L,_,hf,hn,e,hd⟩,ih (fun b hb=>hs b (by unfold frs; rw[WS,hf]; exact Yo _ hb)) hr⟩
 exact all X.outer (fun _ hb=>hb) I.ok.funs
theorem Inv.stack(I:Inv X pins σ H s):s.heap.FunFrames X.base X.stack:=by
 rcases I.ok.stk with e | ⟨e,hf⟩
 ·rw[e]; exact I.funs
 ·rw[e];obtain⟨m,hn,_⟩:=I.loc;refine .cons (by rw[I.ok.kind]; decide) hf hn ?_ I.funs;exact QI (YL I.ok.bsz I.ok.above)
theorem Inv.stkSub(I:Inv X pins σ H s):∀b∈frs X.stack,b∈X.env.locals :: X.fs:=fun b hb=>by
 rcases I.ok.stk with e | ⟨e,hf⟩
 ·rw[e] at hb; exact Yo _ hb
 ·rw[e] at hb;unfold frs at hb;rw[WS,hf] at hb;exact hb
theorem Inv.stkFree(I:Inv X pins σ H s):∀b∈frs X.stack,H b=none:=fun b hb=>by
 rcases Yl.mp (I.stkSub b hb) with e | hb
 ·rw[e]; exact I.free
 ·obtain⟨_,o,ho,_⟩:=I.ok.funs.mem hb;exact I.base.free b o ho (I.ok.frf b hb) fun z=>I.ok.exfs b z hb
theorem Inv.step{g':Array GenState}{t':Nat}{d':Drawn}{ch:List Addr}(I:Inv X pins σ H s)
  (hch:∀b∈ch,(b∈X.ex\/X.s₀.heap.objs.size<=b)/\b≠X.env.locals/\(∀x c,X.env.cells.lookup x=some c->c≠b)/\∀p∈X.pn++pins,p.1≠b)
  (keep:∀b o,b≠X.env.locals->b ∉ X.fs->b ∉ ch->s.heap.get? b=some o->H b=none->h'.get? b=some o)
  (slot:∀b o,b≠X.env.locals->b∈X.fs->b ∉ ch->s.heap.get? b=some o->H b=none->∃sl,h'.get? b=some { o with slots:=sl }) (free:∀b o,b ∉ ch->s.heap.get? b=some o->H b=none->H' b=none)
  (there:∀b o,b ∉ ch->s.heap.get? b=some o->∃o',h'.get? b=some o')
  (tups:∀b xs,H b=some (.tup xs)->H' b=some (.tup xs)) (frzs:∀b o u,H b=some (.frz o u)->H' b=some (.frz o u)) (tbls:∀b ps,H b=some (.tbl ps)->∃more,H' b=some (.tbl (ps++more)))
  (ns:∀m,s.heap.Ns X.env.locals m->h'.Ns X.env.locals m) (hok:HOk X.prog X.w H' h') (hg:AllBare g') :
  Inv X pins σ H' { s with heap:=h',gens:=g',drawn:=d',toks:=t' }:=by
 have neL:∀b o,X.s₀.heap.get? b=some o->b≠X.env.locals:=fun b o e=>Yp (Yy (Yg e) I.ok.above);have neC:∀b o,X.s₀.heap.get? b=some o->b ∉ X.ex->b ∉ ch:=fun b o e hx hb=>by
  rcases (hch b hb).1 with z | z
  ·exact hx z
  ·exact absurd (Yy (Yg e) z) (YT _)
 have cellK:∀x c,X.env.cells.lookup x=some c->∀v,s.heap.IsCell c v->h'.IsCell c v:=fun x c e v ⟨o,ho,hd⟩=>by
  have nch:c ∉ ch:=fun z=>(hch c z).2.2.1 x c e rfl;by_cases hc:c∈X.fs
  ·obtain⟨sl,q⟩:=slot c o (I.cne x c e) hc nch ho (I.freeC x c e);exact⟨_,q,hd⟩
  ·exact⟨o,keep c o (I.cne x c e) hc nch ho (I.freeC x c e),hd⟩
 refine⟨I.ok,I.os,hg,⟨fun b o e n hb hx => ?_,fun b o e n hb hx => ?_,fun b o e n hx => ?_,fun b o e hx => ?_,fun b xs e=>tups b xs (I.base.tups b xs e),fun b o xs e=>frzs b o xs (I.base.frzs b o xs e),fun b ps e => ?_⟩,?_,fun x c e => ?_,?_,fun x c e => ?_,fun p hp => ?_,hok,I.len⟩
 ·exact keep b o (neL b o e) hb (neC b o e hx) (I.base.keep b o e n hb hx) (I.base.free b o e n hx)
 ·obtain⟨sl,e1⟩:=I.base.slot b o e n hb hx;obtain⟨sl',e2⟩:=slot b _ (neL b o e) hb (neC b o e hx) e1 (I.base.free b o e n hx);exact⟨sl',e2⟩
 ·obtain⟨o',e1⟩:=I.base.there b o e hx;exact free b o' (neC b o e hx) e1 (I.base.free b o e n hx)
 ·obtain⟨o',e1⟩:=I.base.there b o e hx;exact there b o' (neC b o e hx) e1
 ·obtain⟨m1,e1⟩:=I.base.tbls b ps e;obtain⟨m2,e2⟩:=tbls b _ e1;exact⟨m1++m2,by rw[e2,Array.append_assoc]⟩
 ·obtain⟨m,hn,hl⟩:=I.loc;refine⟨m,ns m hn,fun i x v e1 e2 e3 => ?_⟩;obtain⟨u,r,l⟩:=hl i x v e1 e2 e3;refine⟨u,r,?_⟩;rcases l with l | ⟨k,c,e,z⟩
  ·exact .inl l
  ·exact .inr ⟨k,c,e,cellK x c e _ z⟩
 ·obtain⟨v,z⟩:=I.cell x c e;exact⟨v,cellK x c e v z⟩
 ·obtain⟨m,⟨o,_,_,ho,_⟩,_⟩:=I.loc;exact free _ o (fun z=>(hch _ z).2.1 rfl) ho I.free
 ·obtain⟨v,o,ho,hd⟩:=I.cell x c e;exact free c o (fun z=>(hch c z).2.2.1 x c e rfl) ho (I.freeC x c e)
 ·obtain⟨e,n,ne,nf,d⟩:=I.pin p hp;have nch:p.1 ∉ ch:=fun z=>(hch p.1 z).2.2.2 p hp rfl;exact⟨keep p.1 p.2 ne nf nch e n,free p.1 p.2 nch e n,ne,nf,d⟩
theorem Inv.un{t':Nat}(I:Inv X pins σ H s)(u:Un X.fs [] H H' s.heap h')(hok:HOk X.prog X.w H' h'):Inv X pins σ H' { s with heap:=h',toks:=t' }:=by
 obtain⟨m,⟨o,es,ep,ho,r⟩,_⟩:=id I.loc;obtain⟨sl,hL⟩:=u.any ho I.free (by simp);exact I.step (g':=s.gens) (d':=s.drawn) (ch:=[]) (fun _ z=>nomatch z) (fun b o _ hb _ e n=>u.keep b o e n hb (by simp)) (fun b o _ hb _ e n=>u.slot b o e n hb (by simp)) (fun b o _ e n=>u.free b o e n (by simp)) (fun b o _ e=>u.there b o e (by simp)) u.tups u.frzs u.tbls (fun m' hm=>by
  obtain⟨o',es',ep',ho',r'⟩:=hm;rw[ho] at ho'; cases ho';exact⟨_,es',ep',hL,r'⟩) hok I.bare
theorem Inv.call{g':Array GenState}{t':Nat}{d':Drawn}{ch:List Addr}(I:Inv X pins σ H s)(u:Un (frs X.stack) ch H H' s.heap h')(hok:HOk X.prog X.w H' h')(hg:AllBare g')
  (hch:∀b∈ch,(b∈X.ex\/X.s₀.heap.objs.size<=b)/\b≠X.env.locals/\(∀x c,X.env.cells.lookup x=some c->c≠b)/\∀p∈X.pn++pins,p.1≠b) :
  Inv X pins σ H' { s with heap:=h',gens:=g',drawn:=d',toks:=t' }:=by
 obtain⟨m,⟨o,es,ep,ho,r⟩,_⟩:=id I.loc;obtain⟨sl,hL⟩:=u.any ho I.free fun z=>(hch _ z).2.1 rfl;exact I.step (ch:=ch) hch (fun b o hL hb hc e n=>u.keep b o e n (fun z=>(Yl.mp (I.stkSub b z)).elim hL hb) hc) (fun b o _ _ hc e n=>u.any e n hc) (fun b o hc e n=>u.free b o e n hc) (fun b o hc e=>u.there b o e hc) u.tups u.frzs u.tbls (fun m' hm=>by
  obtain⟨o',es',ep',ho',r'⟩:=hm;rw[ho] at ho'; cases ho';exact⟨_,es',ep',hL,r'⟩) hok hg
theorem Inv.turned{t':Nat}{it:Addr}(I:Inv X pins σ H s)(k:∀b o,b≠it->s.heap.get? b=some o->h'.get? b=some o)(hn:H it=none)(hL:it≠X.env.locals)
  (h1:it∈X.ex\/X.s₀.heap.objs.size<=it) (h2:∀x c,X.env.cells.lookup x=some c->c≠it) (h3:∀p∈X.pn++pins,p.1≠it):Inv X pins σ H { s with heap:=h',toks:=t' }:=by
 have nit:∀b u,H b=some u->b≠it:=fun b u e z=>by rw[z,hn] at e; cases e
 refine I.step (g':=s.gens) (d':=s.drawn) (ch:=[it]) (fun b hb => ?_) (fun b o _ _ hc e _=>k b o (fun z=>hc (by simp[z])) e) (fun b o _ _ hc e _=>⟨o.slots,k b o (fun z=>hc (by simp[z])) e⟩) (fun _ _ _ _ n=>n)
  (fun b o hc e=>⟨o,k b o (fun z=>hc (by simp[z])) e⟩) (fun _ _ e=>e) (fun _ _ _ e=>e) (fun b ps e=>⟨#[],by rw[e]; simp⟩) (fun m hm => ?_) (fun b u e => ?_) I.bare
 ·have e:b=it:=by simpa using hb
  subst e;exact⟨h1,hL,h2,h3⟩
 ·obtain⟨o,es,ep,ho,r⟩:=hm;exact⟨o,es,ep,k _ o (YX hL) ho,r⟩
 ·refine (I.hok b u e).stay (fun c v hc q=>k c v ?_ q) (fun _ q=>q) fun _ _ q=>q;rcases hc with z | z
  ·rw[z]; exact nit b u e
  ·exact nit c _ z
theorem Inv.tok(I:Inv X pins σ H s)(t:Nat):Inv X pins σ H { s with toks:=t }:=I.un (h':=s.heap) (t':=t) Un.refl I.hok
theorem Inv.kept{t':Nat}(I:Inv X pins σ H s)(k:∀b u,s.heap.get? b=some u->h'.get? b=some u):Inv X pins σ H { s with heap:=h',toks:=t' }:=I.un (Un.kept k) (I.hok.kept k)
theorem Inv.laid{a:Addr}{o:HO}{t':Nat}(I:Inv X pins σ H s)(k:∀b u,s.heap.get? b=some u->h'.get? b=some u)(hp:s.heap.objs.size<=a)(new:ObjOk X.prog X.w (upd H a o) h' a o) :
  Inv X pins σ (upd H a o) { s with heap:=h',toks:=t' }:=I.un (Un.laid k hp (I.hok.fresh hp)) (I.hok.laid k hp new)
theorem Inv.write{x e:Addr}{o:HO}{t':Nat}(I:Inv X pins σ H s)(mu:Mut (H x))(he:e=x\/H e=some (.own x))(k:∀b u,b≠e->s.heap.get? b=some u->h'.get? b=some u)(heo:∃u,h'.get? e=some u)
  (new:ObjOk X.prog X.w (upd H x o) h' x o):Inv X pins σ (upd H x o) { s with heap:=h',toks:=t' }:=I.un (Un.write mu he k heo) (I.hok.write mu he k heo new)
theorem Inv.pins_of{pins':List (Addr×Obj)}(I:Inv X pins σ H s)(h:∀p∈pins',s.heap.get? p.1=some p.2/\H p.1=none/\p.1≠X.env.locals/\p.1 ∉ X.fs/\∀v,p.2.data≠.cell v):Inv X pins' σ H s :=
 ⟨I.ok,I.os,I.bare,I.base,I.loc,I.cell,I.free,I.freeC,fun p hp=>(Wu.mp hp).elim (fun z=>I.pin p (WI _ z)) (h p),I.hok,I.len⟩
theorem ZkT{N:List Str}(hN:N.Nodup){i j:Nat}{x:Str}(a:N[i]?=some x)(b:N[j]?=some x):i=j:=by
 obtain⟨h1,e1⟩:=Yk.mp a;obtain⟨h2,e2⟩:=Yk.mp b;exact (Qe hN).mp (e1.trans e2.symm)
theorem Zhd{M:Model}{A:P6}{E:P9->P1->Prop}{i:Nat}{x:Str}{v:V}{u:P9}{Q:Unit->P1->Prop}(I:Inv X pins σ H s)(hN:X.N.Nodup)(hi:X.N[i]?=some x)(hx:Loc X.env.scope x)(r:RelV v u)
  (h:∀s',Inv X pins (σ.set i (some v)) H s'->(∃a,Heap.SameBut a s.heap s'.heap/\(a=X.env.locals\/X.env.cells.lookup x=some a))->Q () s') (hf:X.fn x=true\/X.env.scope.names.lookup x=some .local:=by first | exact .inl rfl | exact .inr rfl | assumption):wpAny M A (storeName X.env x u) Q E s:=by
 obtain⟨m,hn,hl⟩:=id I.loc;have hcls:(X.env.scope.kind == .class || (X.env.scope.kind == .module && X.env.locals != X.env.globals))=false:=by rw[I.ok.kind]; rfl
 have hiσ:i<σ.length:=by rw[I.len]; exact (Yk.mp hi).1
 have cne:=I.cne;have tracked:∀{a:Addr} {h':Heap},(∃o,s.heap.get? a=some o/\H a=none)->Heap.SameBut a s.heap h'->HOk X.prog X.w H h':=fun {a h'} ha hs b ob e=>by
  obtain⟨_,_,hfree⟩:=ha;refine (I.hok b ob e).stay (fun c w' hc q=>(hs.2 c ?_).trans q) (fun _ q=>q) fun _ _ q=>q;rintro rfl;rcases hc with rfl | hc
  ·rw[hfree] at e; cases e
  ·rw[hfree] at hc; cases hc
 rcases hx with hk | hk
 ·refine wpAny_storeName_local hk hn (fun h' hn' hs => ?_) hcls;obtain⟨oL,_,_,hoL,_⟩:=id hn;refine h _ ⟨I.ok,I.os,I.bare,⟨fun b o e n hb hx => ?_,fun b o e n hb hx => ?_,I.base.free,fun b o e hx => ?_,I.base.tups,I.base.frzs,I.base.tbls⟩,⟨_,hn',fun j y v' e1 e2 e3 => ?_⟩,fun y c e => ?_,I.free,I.freeC,fun p hp => ?_,tracked ⟨oL,hoL,I.free⟩ hs,by simpa using I.len⟩ ⟨_,hs,.inl rfl⟩
  ·exact (hs.2 b (Yp (Yy (Yg e) I.ok.above))).trans (I.base.keep b o e n hb hx)
  ·obtain⟨sl,e1⟩:=I.base.slot b o e n hb hx;exact⟨sl,(hs.2 b (Yp (Yy (Yg e) I.ok.above))).trans e1⟩
  ·obtain⟨o',e1⟩:=I.base.there b o e hx;exact⟨o',(hs.2 b (Yp (Yy (Yg e) I.ok.above))).trans e1⟩
  ·by_cases hj:j=i
   ·subst hj;rw[hi] at e1; cases e1;rw[Qa hiσ] at e2;cases e2;exact⟨u,r,.inl ⟨hk,by simp⟩⟩
   ·rw[WJ (YX hj)] at e2;obtain⟨u',r',q⟩:=hl j y v' e1 e2 e3;refine⟨u',r',?_⟩;rcases q with⟨k,e⟩ | ⟨k,c,e,z⟩
    ·refine .inl ⟨k,?_⟩;have:y≠x:=fun e=>hj (ZkT hN e1 (e ▸ hi));simp[this,e]
    ·exact .inr ⟨k,c,e,z.sameBut hs (cne y c e)⟩
  ·obtain⟨w',z⟩:=I.cell y c e;exact⟨w',z.sameBut hs (cne y c e)⟩
  ·obtain⟨e,n,ne,nf,d⟩:=I.pin p hp;exact⟨(hs.2 p.1 ne).trans e,n,ne,nf,d⟩
 ·have hfn:X.fn x=true:=by
   rcases hf with z | z
   ·exact z
   ·rw[z] at hk; cases hk
  obtain⟨c,hc⟩:=I.ok.has x (.inl hk);obtain⟨w',z⟩:=I.cell x c hc;refine wpAny_storeName_cell I.ok.kind hk hc z (fun h' hc' hs => ?_);obtain⟨oc,hoc,hocd⟩:=id z;refine h { s with heap:=h' } ⟨I.ok,I.os,I.bare,⟨fun b o e n hb hx => ?_,fun b o e n hb hx => ?_,I.base.free,fun b o e hx => ?_,I.base.tups,I.base.frzs,I.base.tbls⟩,⟨m,hn.sameBut hs (YX (cne x c hc)),fun j y v' e1 e2 e3 => ?_⟩,fun y c' e => ?_,I.free,I.freeC,fun p hp => ?_,tracked ⟨oc,hoc,I.freeC x c hc⟩ hs,by simpa using I.len⟩ ⟨c,hs,.inr hc⟩
  ·exact (hs.2 b (Yp (Yy (Yg e) (I.ok.cab x c hfn hc)))).trans (I.base.keep b o e n hb hx)
  ·obtain⟨sl,e1⟩:=I.base.slot b o e n hb hx;exact⟨sl,(hs.2 b (Yp (Yy (Yg e) (I.ok.cab x c hfn hc)))).trans e1⟩
  ·obtain⟨o',e1⟩:=I.base.there b o e hx;exact⟨o',(hs.2 b (Yp (Yy (Yg e) (I.ok.cab x c hfn hc)))).trans e1⟩
  ·by_cases hj:j=i
   ·subst hj;rw[hi] at e1; cases e1;rw[Qa hiσ] at e2;cases e2;exact⟨u,r,.inr ⟨.inl hk,c,hc,hc'⟩⟩
   ·rw[WJ (YX hj)] at e2;obtain⟨u',r',q⟩:=hl j y v' e1 e2 e3;refine⟨u',r',?_⟩;rcases q with q | ⟨k,c',e,z'⟩
    ·exact .inl q
    ·refine .inr ⟨k,c',e,z'.sameBut hs ?_⟩;rintro rfl;exact hj (ZkT hN e1 (I.ok.inj _ _ _ e hc ▸ hi))
  ·by_cases hcc:c'=c
   ·subst hcc; exact⟨_,hc'⟩
   ·obtain⟨w2,z2⟩:=I.cell y c' e;exact⟨w2,z2.sameBut hs hcc⟩
  ·obtain⟨e,n,ne,nf,d⟩:=I.pin p hp;refine⟨(hs.2 p.1 ?_).trans e,n,ne,nf,d⟩;intro q;rw[q,hoc] at e;have q':oc=p.2:=Option.some.inj e;exact d w' (by rw[<-q']; exact hocd)
theorem Zji{M:Model}{A:P6}{E:P9->P1->Prop}{i:Nat}{x:Str}{v:V}{u:P9}{Q:Unit->P1->Prop}(I:Inv X pins σ H s)(hN:X.N.Nodup)(hi:X.N[i]?=some x)(hx:Loc X.env.scope x)(r:RelV v u)
  (h:∀s',Inv X pins (σ.set i (some v)) H s'->Q () s') (hf:X.fn x=true\/X.env.scope.names.lookup x=some .local:=by first | exact .inl rfl | exact .inr rfl | assumption):wpAny M A (storeName X.env x u) Q E s :=
 Zhd I hN hi hx r (fun s' I' _=>h s' I') hf
theorem Inv.call'{s':P1}{ch:List Addr}(I:Inv X pins σ H s)(ho:s'.os=s.os)(u:Un (frs X.stack) ch H H' s.heap s'.heap)(hok:HOk X.prog X.w H' s'.heap)(hg:AllBare s'.gens)
  (hch:∀b∈ch,(b∈X.ex\/X.s₀.heap.objs.size<=b)/\b≠X.env.locals/\(∀x c,X.env.cells.lookup x=some c->c≠b)/\∀p∈X.pn++pins,p.1≠b):Inv X pins σ H' s':=by
 obtain⟨h',g',d',t',o'⟩:=s';have e:o'=s.os:=ho;subst e;exact I.call (g':=g') (t':=t') (d':=d') u hok hg hch
end
noncomputable abbrev XK:=P9->Option Addr->Hp->Prop
noncomputable abbrev St:=List (Option V)
noncomputable abbrev VK:=V->Hp->Prop
noncomputable abbrev TE:=St->Hp->VK->Prop
noncomputable abbrev TT:=St->Hp->(Bool->Hp->Prop)->Prop
noncomputable abbrev TA:=St->Hp->(List V->Hp->Prop)->Prop
structure Ends where
 nx:St->Hp->Prop
 rt:VK
 bk:St->Hp->Prop:=fun _ _=>False
 ct:St->Hp->Prop:=fun _ _=>False
noncomputable abbrev TS:=Ends->St->Hp->Prop
def EP(X:Cx)(pins:List (Addr×Obj))(σ:St)(Q:VK)(u:P9)(s':P1):Prop:=∃v H',Inv X pins σ H' s'/\RelV v u/\Q v H'
def TP(X:Cx)(pins:List (Addr×Obj))(σ:St)(Q:Bool->Hp->Prop)(b:Bool)(s':P1):Prop:=∃H',Inv X pins σ H' s'/\Q b H'
def AP(X:Cx)(pins:List (Addr×Obj))(σ:St)(Q:List V->Hp->Prop)(us:List P9)(s':P1):Prop:=∃vs H',Inv X pins σ H' s'/\Vals vs us/\Q vs H'
def SP(X:Cx)(pins:List (Addr×Obj))(D:Ends)(f:Flow)(s':P1):Prop :=
 match f with
 | .next => ∃σ' H',Inv X pins σ' H' s'/\D.nx σ' H'
 | .brk => ∃σ' H',Inv X pins σ' H' s'/\D.bk σ' H'
 | .cont => ∃σ' H',Inv X pins σ' H' s'/\D.ct σ' H'
 | .ret u => ∃v σ' H',Inv X pins σ' H' s'/\RelV v u/\D.rt v H'
def PE(X:Cx)(e:Expr)(t:TE):Prop :=
 ∀(pins:List (Addr×Obj)) (s:P1) (σ:St) (H:Hp) (Q:VK),Inv X pins σ H s->t σ H Q->wpAny (model X.prog X.w) X.A (eval e X.env) (EP X pins σ Q) X.xe s
def PT(X:Cx)(e:Expr)(t:TT):Prop :=
 ∀(pins:List (Addr×Obj)) (s:P1) (σ:St) (H:Hp) (Q:Bool->Hp->Prop),Inv X pins σ H s->t σ H Q->wpAny (model X.prog X.w) X.A (isTrue e X.env (eval e X.env)) (TP X pins σ Q) X.xe s
def PW(X:Cx)(e:Expr)(t:TT):Prop :=
 ∀(whole:Sem P9) (pins:List (Addr×Obj)) (s:P1) (σ:St) (H:Hp) (Q:Bool->Hp->Prop),Inv X pins σ H s->t σ H Q->wpAny (model X.prog X.w) X.A (isTrue e X.env whole) (TP X pins σ Q) X.xe s
theorem PW.pt{X:Cx}{e:Expr}{t:TT}(h:PW X e t):PT X e t:=h _
def PA(X:Cx)(es:List Expr)(t:TA):Prop :=
 ∀(pos:Pos) (pins:List (Addr×Obj)) (s:P1) (σ:St) (H:Hp) (Q:List V->Hp->Prop),Inv X pins σ H s->t σ H Q->wpAny (model X.prog X.w) X.A (spliced (backTo pos (starEach es X.env))) (AP X pins σ Q) X.xe s
def PS(X:Cx)(st:Stmt)(t:TS):Prop :=
 ∀(pins:List (Addr×Obj)) (s:P1) (σ:St) (H:Hp) (D:Ends),Inv X pins σ H s->t D σ H->wpAny (model X.prog X.w) X.A (exec st X.env) (SP X pins D) X.xe s
def PSs(X:Cx)(st:List Stmt)(t:TS):Prop :=
 ∀(pins:List (Addr×Obj)) (s:P1) (σ:St) (H:Hp) (D:Ends),Inv X pins σ H s->t D σ H->wpAny (model X.prog X.w) X.A (execs st X.env) (SP X pins D) X.xe s
theorem thn{α:Type}{t:Sem α}{Q Q':α->P1->Prop}{M:Model}{A:P6}{E:P9->P1->Prop}{s:P1}(h:wpAny M A t Q E s)(hQ:∀a s,Q a s->Q' a s):wpAny M A t Q' E s:=YK h hQ fun _ _ x=>x
section
variable{X:Cx}
def ZqF(i:Nat):TE:=fun σ H Q => ∃v,σ[i]?=some (some v)/\Q v H
def tC(v:V):TE:=fun _ H Q=>Q v H
theorem Zq3{i:Nat}{x:Str}{pos:Pos}(hN:X.N[i]?=some x)(hv:Vis X.env.scope x)(hd:(x == ("__debug__" : Str))=false:=by decide)(hcd:(x == ("__classdict__" : Str))=false:=by decide):PE X (.Name x pos) (ZqF i):=by
 intro pins s σ H Q I h;obtain⟨v,e,h⟩:=h;obtain⟨m,hn,hl⟩:=I.loc;obtain⟨u,r,l⟩:=hl i x v hN e hv;have fin:EP X pins σ Q u s:=⟨v,H,I,r,h⟩;rcases l with⟨hk,hm⟩ | ⟨hk,c,hc,hcell⟩
 ·exact UH (wpAny_loadName_local I.ok.kind hk hn hm fin) hd
 ·rcases hk with hk | hk
  ·exact UH (wpAny_loadName_cell I.ok.kind hk hc hcell fin) hd
  ·exact UH (wpAny_loadName_free I.ok.kind hk hc hcell fin hcd) hd
theorem Zrj{i j pos}:PE X (.Constant (.int i) j pos) (tC (.int i)):=fun _ _ _ H _ I h=>wpAny_Constant_int ⟨.int i,H,I.tok _,⟨_,rfl⟩,h⟩
theorem Zrf{b j pos}:PE X (.Constant (.bool b) j pos) (tC (.bl b)):=fun _ _ _ H _ I h=>Constant_bool ⟨.bl b,H,I,rfl,h⟩
theorem ZmS{x j pos}:PE X (.Constant (.str x) j pos) (tC (.str x)):=fun _ _ _ H _ I h=>Calls.Constant_str ⟨.str x,H,I.tok _,⟨_,rfl⟩,h⟩
def Gl(X:Cx)(x:Str):Prop:=X.env.kindOf x=some .globalImplicit
theorem Zo5{E:P9->P1->Prop}{pins:List (Addr×Obj)}{s:P1}{σ:St}{H:Hp}{x:Str}{u:P9}{pos:Pos}{Q:P9->P1->Prop}(I:Inv X pins σ H s)(hg:Gl X x)(hm:X.mg x=some u)(h:Q u s)
  (hd:(x == ("__debug__" : Str))=false:=by decide):wpAny (model X.prog X.w) X.A (eval (.Name x pos) X.env) Q E s :=
 Calls.Name_function_global I.ok.kind hg (Calls.loadGlobal_global (by rw[I.ok.glob]; exact I.mod.glob.keeps I.bk) hm h) hd
theorem ZaE{E:P9->P1->Prop}{pins:List (Addr×Obj)}{s:P1}{σ:St}{H:Hp}{x:Str}{u:P9}{pos:Pos}{Q:P9->P1->Prop}(I:Inv X pins σ H s)(hg:Gl X x)(hm:X.mg x=none)(hv:bootBuiltins x=some u)(h:Q u s)
  (hn:x≠"__name__":=by decide) (hd:(x == ("__debug__" : Str))=false:=by decide):wpAny (model X.prog X.w) X.A (eval (.Name x pos) X.env) Q E s:=by
 obtain⟨mb,h1,h2⟩:=I.mod.blt;exact Calls.Name_function_global I.ok.kind hg (Calls.loadGlobal_builtin (by rw[I.ok.glob]; exact I.mod.glob.keeps I.bk) hm (by rw[I.ok.blt]; exact h1.keeps I.bk) ((h2 x hn).trans hv) h) hd
variable{a b:Expr}{ta tb:TE}{pos:Pos}
def tB(t:TE):TT:=fun σ H Q=>t σ H fun x H1 => ∃c,x = .bl c/\Q c H1
theorem Zou{e:Expr}{t:TE}(h:PE X e t)(he:∀whole,isTrue e X.env whole=(do let v <-whole; standAt e.pos; holding [v] (truthy v)):=by intro _; rfl):PT X e (tB t):=by
 intro pins s σ H Q I hw;refine isTrue_plain (thn (h pins s σ H _ I hw) fun v s1 ⟨x,H1,I1,r1,q1⟩ => ?_) (he _);obtain⟨d,rfl,q⟩:=q1;cases r1;exact Uz ⟨H1,I1,q⟩
variable{tA tB':TT}{rest:List Expr}
def Zmu(t u:TT):TT:=fun σ H Q=>t σ H fun c H1=>if c=true then u σ H1 Q else Q false H1
def tOr(t u:TT):TT:=fun σ H Q=>t σ H fun c H1=>if c=true then Q true H1 else u σ H1 Q
theorem ZoO(ha:PT X a tA):PW X (.BoolOp .And [a] pos) tA:=by
 intro wh pins s σ H Q I h;refine isTrue_and (thn (ha pins s σ H Q I h) fun c s1 e => ?_);cases c with
 | true=>exact isTrue_and_nil e
 | false=>exact e
theorem Zsb(ha:PT X a tA):PW X (.BoolOp .Or [a] pos) tA:=by
 intro wh pins s σ H Q I h;refine isTrue_or (thn (ha pins s σ H Q I h) fun c s1 e => ?_);cases c with
 | false=>exact isTrue_or_nil e
 | true=>exact e
theorem ZpA(ha:PT X a tA)(hb:PW X (.BoolOp .And (b :: rest) pos) tB'):PW X (.BoolOp .And (a :: b :: rest) pos) (Zmu tA tB'):=by
 intro wh pins s σ H Q I h;refine isTrue_and (thn (ha pins s σ H _ I h) fun c s1 ⟨H1,I1,q1⟩ => ?_);cases c with
 | true=>exact hb wh pins s1 σ H1 Q I1 q1
 | false=>exact⟨H1,I1,q1⟩
theorem Zrl(ha:PT X a tA)(hb:PW X (.BoolOp .Or (b :: rest) pos) tB'):PW X (.BoolOp .Or (a :: b :: rest) pos) (tOr tA tB'):=by
 intro wh pins s σ H Q I h;refine isTrue_or (thn (ha pins s σ H _ I h) fun c s1 ⟨H1,I1,q1⟩ => ?_);cases c with
 | true=>exact⟨H1,I1,q1⟩
 | false=>exact hb wh pins s1 σ H1 Q I1 q1
end
def SqL(K:P5)(H:Hp)(a:Addr)(xs:List V):Prop :=
 Rd H a (.lst xs) \/
  ∃(o:Obj) (its:Array P9) (n:Nat),K.lookup a=some o/\o.cls = .type "list"/\o.dict=none/\o.data = .seq its n/\its.size<=sizeLine/\Vals xs its.toList
def SqT(K:P5)(H:Hp)(a:Addr)(xs:List V):Prop :=
 Rd H a (.tup xs) \/
  ∃(o:Obj) (its:Array P9) (n:Nat),K.lookup a=some o/\o.cls = .type "tuple"/\o.data = .seq its n/\its.size<=sizeLine/\Vals xs its.toList
def ZqC:P9->Option V
 | .none=>some .non
 | .bool b=>some (.bl b)
 | .int i _=>some (.int i)
 | .str x _=>some (.str x)
 | .bytes b _=>some (.byt b)
 | .float b _=>some (.flt b)
 | .ref a=>some (.ref a)
 | .type n=>some (.ty n)
 | _=>none
theorem RelV.abs{x:V}{u:P9}(r:RelV x u):ZqC u=some x:=by
 cases x with
 | non=>cases r; rfl
 | bl _=>cases r; rfl
 | int _=>obtain⟨t,rfl⟩:=r; rfl
 | str _=>obtain⟨t,rfl⟩:=r; rfl
 | byt _=>obtain⟨t,rfl⟩:=r; rfl
 | flt _=>obtain⟨t,rfl⟩:=r; rfl
 | ref _=>cases r; rfl
 | ty _=>cases r; rfl
theorem RelV.inj{x y:V}{u:P9}(r:RelV x u)(q:RelV y u):x=y:=Option.some.inj (r.abs.symm.trans q.abs)
theorem Vals.inj:∀{xs ys:List V} {us:List P9},Vals xs us->Vals ys us->xs=ys
 | _,_,_,.nil,.nil=>rfl
 | _,_,_,.cons r t,.cons r' t'=>by rw[r.inj r',Vals.inj t t']
section
variable{X:Cx}{pins:List (Addr×Obj)}{σ:St}{H:Hp}{s:P1}{a:Addr}{xs ys:List V}
theorem SqL.of{K:P5}(h:H a=some (.lst xs)):SqL K H a xs:=.inl (.inl h)
theorem SqT.of{K:P5}(h:H a=some (.tup xs)):SqT K H a xs:=.inl (.inl h)
theorem Inv.list(I:Inv X pins σ H s)(h:SqL X.K H a xs):∃its:List P9,Vals xs its/\PlainL s.heap a its.toArray/\xs.length<=sizeLine:=by
 rcases h with h | ⟨o,its,n,hk,hc,hd,hs,hz,r⟩
 ·obtain⟨z,its,n,r,e⟩:=h.ok I.hok;exact⟨its,r,⟨_,n,e,rfl,rfl,rfl⟩,z⟩
 ·refine⟨its.toList,r,⟨o,n,I.kIn a o hk,hc,hd,by simpa using hs⟩,?_⟩;have e:=r.length;simp only[Yq] at e;omega
theorem Inv.tuple(I:Inv X pins σ H s)(h:SqT X.K H a xs):∃its:List P9,Vals xs its/\IsTup s.heap a its.toArray/\xs.length<=sizeLine:=by
 rcases h with h | ⟨o,its,n,hk,hc,hs,hz,r⟩
 ·obtain⟨z,its,r,p,_⟩:=h.ok I.hok;exact⟨its,r,p,z⟩
 ·refine⟨its.toList,r,⟨o,I.kIn a o hk,hc,n,by simpa using hs⟩,?_⟩;have e:=r.length;simp only[Yq] at e;omega
theorem Inv.list_inj(I:Inv X pins σ H s)(h:SqL X.K H a xs)(h':SqL X.K H a ys):xs=ys:=by
 obtain⟨its,r,⟨o,n,e,_,_,d⟩,_⟩:=I.list h;obtain⟨its',r',⟨o',n',e',_,_,d'⟩,_⟩:=I.list h';rw[e] at e'; cases e';rw[d] at d';injection d' with d1 _;have:its=its':=by simpa using congrArg Array.toList d1
 subst this;exact r.inj r'
theorem Inv.tuple_inj(I:Inv X pins σ H s)(h:SqT X.K H a xs)(h':SqT X.K H a ys):xs=ys:=by
 obtain⟨its,r,⟨o,e,_,n,d⟩,_⟩:=I.tuple h;obtain⟨its',r',⟨o',e',_,n',d'⟩,_⟩:=I.tuple h';rw[e] at e'; cases e';rw[d] at d';injection d' with d1 _;have:its=its':=by simpa using congrArg Array.toList d1
 subst this;exact r.inj r'
end
noncomputable abbrev Cx.wish(X:Cx)(E:P9->P1->Prop):Cx:={ X with xe:=E }
noncomputable abbrev Cx.nox(X:Cx):Cx:=X.wish fun _ _=>False
theorem Cx.Ok.wish{X:Cx}(ok:X.Ok)(E:P9->P1->Prop):(X.wish E).Ok :=
 ⟨ok.mod,ok.kind,ok.glob,ok.blt,ok.above,ok.inj,ok.has,ok.cab,ok.hd,ok.frames,ok.stk,ok.exf,ok.bs,ok.bsz,ok.noex,ok.exfs,ok.funs,ok.frf⟩
theorem Cx.Ok.unwish{X:Cx}{E:P9->P1->Prop}(ok:(X.wish E).Ok):X.Ok :=
 ⟨ok.mod,ok.kind,ok.glob,ok.blt,ok.above,ok.inj,ok.has,ok.cab,ok.hd,ok.frames,ok.stk,ok.exf,ok.bs,ok.bsz,ok.noex,ok.exfs,ok.funs,ok.frf⟩
section
variable{X:Cx}{pins:List (Addr×Obj)}{σ:St}{H:Hp}{s:P1}{E:P9->P1->Prop}
theorem Inv.wish(I:Inv X pins σ H s)(E:P9->P1->Prop):Inv (X.wish E) pins σ H s:=⟨I.ok.wish E,I.os,I.bare,I.base,I.loc,I.cell,I.free,I.freeC,I.pin,I.hok,I.len⟩
theorem Inv.unwish(I:Inv (X.wish E) pins σ H s):Inv X pins σ H s:=⟨I.ok.unwish,I.os,I.bare,I.base,I.loc,I.cell,I.free,I.freeC,I.pin,I.hok,I.len⟩
theorem SP.unwish{D:Ends}{f:Flow}{s':P1}(h:SP (X.wish E) pins D f s'):SP X pins D f s':=by
 cases f with
 | next=>obtain⟨σ',H',I,q⟩:=h; exact⟨σ',H',I.unwish,q⟩
 | brk=>obtain⟨σ',H',I,q⟩:=h; exact⟨σ',H',I.unwish,q⟩
 | cont=>obtain⟨σ',H',I,q⟩:=h; exact⟨σ',H',I.unwish,q⟩
 | ret u=>obtain⟨v,σ',H',I,r,q⟩:=h; exact⟨v,σ',H',I.unwish,r,q⟩
theorem PSs.nox{st:List Stmt}{t:TS}(h:PSs X.nox st t):PSs X st t:=fun pins s σ H D I hw =>
 YK (h pins s σ H D (I.wish _) hw) (fun _ _ q=>q.unwish) fun _ _ z=>False.elim z
end
section
variable{X:Cx}{st:Stmt}{rest:List Stmt}{t u:TS}{e:Expr}{te:TE}{pos:Pos}
def Zms:TS:=fun D σ H=>D.nx σ H
def ZmP(t u:TS):TS:=fun D σ H=>t { D with nx:=u D } σ H
theorem Zpn:PSs X [] Zms:=fun _ _ σ H _ I h=>wpAny_execs_nil ⟨σ,H,I,h⟩
theorem Zl9(h1:PS X st t)(h2:PSs X rest u):PSs X (st :: rest) (ZmP t u):=by
 intro pins s σ H D I h;refine wpAny_execs_cons (thn (h1 pins s σ H { D with nx:=u D } I h) fun f s1 q => ?_);cases f with
 | next =>
  obtain⟨σ',H',I',q⟩:=q;exact h2 pins s1 σ' H' D I' q
 | ret v=>exact q
 | brk=>exact q
 | cont=>exact q
theorem Zle(h1:PS X st t):PSs X [st] t:=by
 intro pins s σ H D I h;refine wpAny_execs_cons (thn (h1 pins s σ H D I h) fun f s1 q => ?_);cases f with
 | next=>exact wpAny_execs_nil q
 | ret v=>exact q
 | brk=>exact q
 | cont=>exact q
theorem Inv.quiet{pins:List (Addr×Obj)}{σ:St}{H:Hp}{s:P1}(I:Inv X pins σ H s):interactive X.env=false:=by simp[interactive,I.ok.kind]
def Zr8(te:TE):TS:=fun D σ H=>te σ H fun _ H1=>D.nx σ H1
theorem Zp2(he:PE X e te)(hs:swapsWith e none pos.line X.env=pure false:=by rfl):PS X (.Expr e pos) (Zr8 te):=by
 intro pins s σ H D I h;exact wpAny_Expr_any (thn (he pins s σ H _ I h) fun v s1 ⟨x,H1,I1,r1,q1⟩=>⟨σ,H1,I1,q1⟩) I.quiet hs
def ZnK(te:TE):TS:=fun D σ H=>te σ H D.rt
theorem Zpi(he:PE X e te):PS X (.Return (some e) pos) (ZnK te):=by
 intro pins s σ H D I h;exact wpAny_Return_some (thn (he pins s σ H _ I h) fun v s1 ⟨x,H1,I1,r1,q1⟩=>⟨x,σ,H1,I1,r1,q1⟩)
def Zlf(c:TT)(t u:TS):TS:=fun D σ H=>c σ H fun b H1=>if b=true then t D σ H1 else u D σ H1
theorem Zny{c:Expr}{a b:List Stmt}{tc:TT}(hc:PT X c tc)(ha:PSs X a t)(hb:PSs X b u):PS X (.If c a b pos) (Zlf tc t u):=by
 intro pins s σ H D I h;refine wpAny_If (thn (hc pins s σ H _ I h) fun d s1 ⟨H1,I1,q1⟩ => ?_);cases d with
 | true=>exact ha pins s1 σ H1 D I1 q1
 | false=>exact hb pins s1 σ H1 D I1 q1
end
noncomputable abbrev TG:=V->St->Hp->(St->Hp->Prop)->Prop
noncomputable abbrev TGs:=List V->St->Hp->(St->Hp->Prop)->Prop
def PG(X:Cx)(target:Expr)(t:TG):Prop :=
 ∀(pins:List (Addr×Obj)) (s:P1) (σ:St) (H:Hp) (v:V) (u:P9) (Q:St->Hp->Prop),Inv X pins σ H s->RelV v u->t v σ H Q ->
  wpAny (model X.prog X.w) X.A (assign target X.env u) (fun _ s' => ∃σ' H',Inv X pins σ' H' s'/\Q σ' H') X.xe s
def PGs(X:Cx)(ts:List Expr)(t:TGs):Prop :=
 ∀(pins:List (Addr×Obj)) (s:P1) (σ:St) (H:Hp) (vs:List V) (us:List P9) (Q:St->Hp->Prop),Inv X pins σ H s->Vals vs us->t vs σ H Q ->
  wpAny (model X.prog X.w) X.A (assignInOrder ((assignEach ts X.env).map (·.2)) us) (fun _ s' => ∃σ' H',Inv X pins σ' H' s'/\Q σ' H') X.xe s
section
variable{X:Cx}{pos:Pos}
def ZhM(i:Nat):TG:=fun v σ H Q=>Q (σ.set i (some v)) H
theorem Zh4{i:Nat}{x:Str}(hN:X.N.Nodup)(hi:X.N[i]?=some x)(hx:Loc X.env.scope x)(hf:X.fn x=true\/X.env.scope.names.lookup x=some .local:=by first | exact .inl rfl | exact .inr rfl | assumption):PG X (.Name x pos) (ZhM i):=by
 intro pins s σ H v u Q I r h;exact wpAny_assign_Name (Zji I hN hi hx r (fun s' I'=>⟨_,H,I',h⟩) hf)
def ZlL:TGs:=fun vs σ H Q=>vs=[]/\Q σ H
def ZoT(t:TG)(u:TGs):TGs:=fun vs σ H Q => ∃v r,vs=v :: r/\t v σ H fun σ' H'=>u r σ' H' Q
theorem Zpd:PGs X [] ZlL:=by
 intro pins s σ H vs us Q I r h;obtain⟨e,h⟩:=h;subst e;cases r;exact assignInOrder_nil ⟨σ,H,I,h⟩
theorem Zn5{e:Expr}{es:List Expr}{t:TG}{u:TGs}(h1:PG X e t)(h2:PGs X es u)
  (hs:(assignEach (e :: es) X.env).map (·.2)=assign e X.env :: (assignEach es X.env).map (·.2):=by rfl):PGs X (e :: es) (ZoT t u):=by
 intro pins s σ H vs us Q I r h;obtain⟨v,vr,e1,h⟩:=h;subst e1;cases r with
 | cons r rr =>
  rw[hs];refine assignInOrder_cons (thn (h1 pins s σ H _ _ _ I r h) fun _ s1 ⟨σ1,H1,I1,q1⟩ => ?_);exact h2 pins s1 σ1 H1 _ _ Q I1 rr q1
def Zp6(K:P5)(n:Nat)(t:TGs):TG:=fun v σ H Q => ∃a xs,v = .ref a/\SqT K H a xs/\xs.length=n/\t xs σ H Q
theorem Zlt{es:List Expr}{k:Nat}{t:TGs}{n:Nat}(hc:X.calm=true)(h:PGs X es t)
  (hn:(assignEach es X.env).length=n:=by rfl) (hst:(assignEach es X.env).findIdx? (·.1)=none:=by rfl):PG X (.Tuple es k pos) (Zp6 X.K n t):=by
 intro pins s σ H v u Q I r hw;obtain⟨a,xs,e1,hq,hl,hw⟩:=hw;subst e1;cases r;obtain⟨its,rv,ht,hz⟩:=I.tuple hq;refine assign_Tuple_tuple (I.ok.hd hc) ht (by simp[hn,<-hl,rv.length]) hst fun h' hx => ?_;have I1:Inv X pins σ H { s with heap:=h' }:=I.kept (t':=s.toks) fun b o e=>hx b o (Yp (Yg e)) e;exact h pins _ σ H xs _ Q I1 (by simpa using rv) hw
def ZpN(te:TE)(g:TG):TS:=fun D σ H=>te σ H fun x H1=>g x σ H1 D.nx
theorem Zim{i:Nat}{x:Str}{e:Expr}{te:TE}{pos':Pos}(hN:X.N.Nodup)(hi:X.N[i]?=some x)(hx:Loc X.env.scope x)(he:PE X e te)(hs:swapsWith e (some (.Name x pos')) pos.line X.env=pure false:=by rfl)(hf:X.fn x=true\/X.env.scope.names.lookup x=some .local:=by first | exact .inl rfl | exact .inr rfl | assumption) :
  PS X (.Assign [.Name x pos'] e pos) (ZpN te (ZhM i)):=by
 intro pins s σ H D I h;refine wpAny_Assign_Name (thn (he pins s σ H _ I h) fun v s1 ⟨y,H1,I1,r1,q1⟩ => ?_) hs;exact Zji I1 hN hi hx r1 (fun s2 I2=>⟨_,H1,I2,q1⟩) hf
end
structure It where
 go:Nat->Hp->Prop
 yld:Nat->Hp->V->Hp->Prop
 stop:Nat->Hp->Prop
def ZaC(X:Cx)(pins:List (Addr×Obj))(H:Hp)(b:Addr):Prop :=
 H b=none/\b≠X.env.locals/\b ∉ X.fs/\(b∈X.ex\/X.s₀.heap.objs.size<=b)/\(∀x c,X.env.cells.lookup x=some c->c≠b)/\∀p∈X.pn++pins,p.1≠b
theorem Inv.fpOk{X:Cx}{pins:List (Addr×Obj)}{σ:St}{H H':Hp}{s:P1}{b:Addr}(I:Inv X pins σ H s)(hb:s.heap.objs.size<=b)(hn:H' b=none):ZaC X pins H' b:=by
 refine⟨hn,Qb (Yy I.lt hb),I.nofs hb,.inr (YL I.sz hb),fun x c e z => ?_,fun p hp z => ?_⟩
 ·obtain⟨v,q⟩:=I.cell x c e;exact absurd (Yy q.lt (by rw[z]; exact hb)) (YT _)
 ·exact absurd (Yy (Yg (I.pin p hp).1) (by rw[z]; exact hb)) (YT _)
structure Turn(P:P7)(w:World)(K:P5)(tg:Expr)(J:It)(fp:List Addr)(it:Addr)(tn:Nat->Heap->Prop):Prop where
 mem:it∈fp
 obj:∀i h,tn i h->∀b∈fp,∃o,h.get? b=some o/\∀v,o.data≠.cell v
 keep:∀i h h',tn i h->(∀b∈fp,∀o,h.get? b=some o->h'.get? b=some o)->tn i h'
 item:∀(X:Cx),X.prog=P->X.w=w->X.K=K->X.calm=true->∀(i:Nat) (pins:List (Addr×Obj)) (s:P1) (σ:St) (H:Hp) (E:P9->P1->Prop),Inv X pins σ H s->(∀b∈fp,ZaC X pins H b)->tn i s.heap->J.go i H ->
  wpAny (model P w) X.A (pyNext (.ref it)) (fun r s1 => ∃u,r=some u /\
   wpAny (model P w) X.A (letOwnedTupleGo tg (.ref it) u) (fun _ s2 => ∃x H',Inv X pins σ H' s2/\RelV x u/\J.yld i H x H'/\tn (i+1) s2.heap/\∀b∈fp,H' b=none) E s1) E s
 done:∀(X:Cx),X.prog=P->X.w=w->X.K=K->X.calm=true->∀(i:Nat) (pins:List (Addr×Obj)) (s:P1) (σ:St) (H:Hp) (E:P9->P1->Prop),Inv X pins σ H s->(∀b∈fp,ZaC X pins H b)->tn i s.heap->J.stop i H ->
  wpAny (model P w) X.A (pyNext (.ref it)) (fun r s1=>r=none/\Inv X pins σ H s1) E s
 self:∀(A:P6) (i:Nat) (s:P1) (Q:P9->P1->Prop) (E:P9->P1->Prop),tn i s.heap->Q (.ref it) s->wpAny (model P w) A (pyIter (.ref it)) Q E s
noncomputable abbrev TI:=St->Hp->(It->Hp->Prop)->Prop
def PIE(X:Cx)(pins:List (Addr×Obj))(σ:St)(tg:Expr)(R:It->Hp->Prop)(itv:P9)(s2:P1):Prop :=
 ∃(it:Addr) (fp:List Addr) (tn:Nat->Heap->Prop) (J:It) (H':Hp),itv = .ref it/\Inv X pins σ H' s2/\Turn X.prog X.w X.K tg J fp it tn/\tn 0 s2.heap/\(∀b∈fp,ZaC X pins H' b)/\R J H'
def PI(X:Cx)(tg iter:Expr)(wi:TI):Prop :=
 ∀(pins:List (Addr×Obj)) (s:P1) (σ:St) (H:Hp) (R:It->Hp->Prop),Inv X pins σ H s->wi σ H R ->
  wpAny (model X.prog X.w) X.A (eval iter X.env) (fun v s1=>wpAny (model X.prog X.w) X.A (pyIter v) (PIE X pins σ tg R) X.xe s1) X.xe s
theorem ZdG{M:Model}{A:P6}{E:P9->P1->Prop}{s:P1}{tg:Expr}{it:Addr}{u:P9}{o:Obj}{n:String}{vs:Array P9}{Q:Unit->P1->Prop}(ho:s.heap.get? it=some o)(hc:o.cls = .type n)(hd:o.data = .fields vs)
    (hn:["enumerate", "zip", "dict_itemiterator", "dict_reverseitemiterator", "odict_iterator", "itertools.zip_longest", "itertools.pairwise"].contains n=false) (hQ:Q () s):wpAny M A (letOwnedTupleGo tg (.ref it) u) Q E s:=by
  unfold letOwnedTupleGo;cases tg <;> first
    | exact Yb hQ
    | (cases u <;> first
        | exact Yb hQ
        | (refine Ya (UI ho ?_)
           rw[hc,hd];show wpAny M A (if (["enumerate", "zip", "dict_itemiterator", "dict_reverseitemiterator", "odict_iterator", "itertools.zip_longest", "itertools.pairwise"].contains n && vs[0]? == some (rawInt _))=true then _ else _) Q E s;rw[Yh (by intro h; rw[hn,VB] at h; cases h)];exact Yb hQ))
def Itl(K:P5)(a:Addr):It :=
 ⟨fun i H => ∃xs x,SqL K H a xs/\xs[i]?=some x,fun i H x H'=>H'=H/\∀xs,SqL K H a xs->xs[i]?=some x,fun i H => ∃xs,SqL K H a xs/\xs.length<=i⟩
def Itt(K:P5)(a:Addr):It :=
 ⟨fun i H => ∃xs x,SqT K H a xs/\xs[i]?=some x,fun i H x H'=>H'=H/\∀xs,SqT K H a xs->xs[i]?=some x,fun i H => ∃xs,SqT K H a xs/\xs.length<=i⟩
def Itr(lo:Int)(n:Nat):It:=⟨fun i _=>i<n,fun i H x H'=>H'=H/\x = .int (lo+i),fun i _=>n<=i⟩
theorem Zp3{P:P7}{w:World}{K:P5}{tg:Expr}(a it:Addr):Turn P w K tg (Itl K a) [it] it (fun i h=>h.IsListIter it a i) where
 mem:=by simp
 obj:=fun i h st b hb=>by
  have e:b=it:=by simpa using hb
  subst e;obtain⟨o,e,c,d⟩:=st;exact⟨o,e,fun v z=>by rw[d] at z; cases z⟩
 keep:=fun i h h' st k=>st.at fun o e=>k it (by simp) o e
 item:=by
  intro X hP hw hK hc i pins s σ H E I hf st hg;subst hP hw hK;obtain⟨xs,x,hq,hx⟩:=hg;obtain⟨its,rv,p,hz⟩:=I.list hq;obtain⟨u,hu,ru⟩:=rv.get hx;obtain⟨f0,f1,f2,f3,f4,f5⟩:=hf it (by simp);refine wpAny_pyNext_list_item st p.isList (x:=u) (by simpa using hu) fun h' st' sb => ?_;have I1:Inv X pins σ H { s with heap:=h' }:=I.turned (t':=s.toks) (fun b o hb e=>(sb.2 b hb).trans e) f0 f1 f3 f4 f5;obtain⟨o,e,c,d⟩:=id st';exact⟨u,rfl,ZdG (s:={ s with heap:=h' }) e c d (by decide) ⟨x,H,I1,ru,⟨rfl,fun ys hy=>by rw[I.list_inj hy hq]; exact hx⟩,st',fun b hb=>(hf b hb).1⟩⟩
 done:=by
  intro X hP hw hK hc i pins s σ H E I hf st hg;subst hP hw hK;obtain⟨xs,hq,hx⟩:=hg;obtain⟨its,rv,p,hz⟩:=I.list hq;obtain⟨f0,f1,f2,f3,f4,f5⟩:=hf it (by simp);have hl:=rv.length;exact wpAny_pyNext_list_end (I.ok.hd hc) st p.isList (by simp; omega) fun h' eb=>⟨rfl,I.turned (t':=s.toks) (fun b o hb e=>eb b o hb e) f0 f1 f3 f4 f5⟩
 self:=fun _ _ _ _ _ st h=>wpAny_pyIter_listiter st h
theorem ZmI{P:P7}{w:World}{K:P5}{tg:Expr}(a it:Addr):Turn P w K tg (Itt K a) [it] it (fun i h=>h.IsTupleIter it a i) where
 mem:=by simp
 obj:=fun i h st b hb=>by
  have e:b=it:=by simpa using hb
  subst e;obtain⟨o,e,c,d⟩:=st;exact⟨o,e,fun v z=>by rw[d] at z; cases z⟩
 keep:=fun i h h' st k=>st.at fun o e=>k it (by simp) o e
 item:=by
  intro X hP hw hK hc i pins s σ H E I hf st hg;subst hP hw hK;obtain⟨xs,x,hq,hx⟩:=hg;obtain⟨its,rv,p,hz⟩:=I.tuple hq;obtain⟨u,hu,ru⟩:=rv.get hx;obtain⟨f0,f1,f2,f3,f4,f5⟩:=hf it (by simp);refine wpAny_pyNext_tuple_item st (show s.heap.IsTuple a its.toArray from p) (x:=u) (by simpa using hu) fun h' st' sb => ?_;have I1:Inv X pins σ H { s with heap:=h' }:=I.turned (t':=s.toks) (fun b o hb e=>(sb.2 b hb).trans e) f0 f1 f3 f4 f5;obtain⟨o,e,c,d⟩:=id st';exact⟨u,rfl,ZdG (s:={ s with heap:=h' }) e c d (by decide) ⟨x,H,I1,ru,⟨rfl,fun ys hy=>by rw[I.tuple_inj hy hq]; exact hx⟩,st',fun b hb=>(hf b hb).1⟩⟩
 done:=by
  intro X hP hw hK hc i pins s σ H E I hf st hg;subst hP hw hK;obtain⟨xs,hq,hx⟩:=hg;obtain⟨its,rv,p,hz⟩:=I.tuple hq;obtain⟨f0,f1,f2,f3,f4,f5⟩:=hf it (by simp);have hl:=rv.length;exact wpAny_pyNext_tuple_end (I.ok.hd hc) st (show s.heap.IsTuple a its.toArray from p) (by simp; omega) fun h' eb=>⟨rfl,I.turned (t':=s.toks) (fun b o hb e=>eb b o hb e) f0 f1 f3 f4 f5⟩
 self:=fun _ _ _ _ _ st h=>wpAny_pyIter_tupleiter st h
theorem Zr1{P:P7}{w:World}{K:P5}{tg:Expr}(it:Addr)(lo:Int)(n:Nat):Turn P w K tg (Itr lo n) [it] it (fun i h=>IsRangeIter h it (lo+(i:Nat) * 1) ((n:Int) - (i:Nat)) 1) where
 mem:=by simp
 obj:=fun i h st b hb=>by
  have e:b=it:=by simpa using hb
  subst e;exact⟨_,st,fun v z=>by
   have z':Data.fields _=Data.cell v:=z;cases z'⟩
 keep:=fun i h h' st k=>k it (by simp) _ st
 item:=by
  intro X hP hw hK hc i pins s σ H E I hf st hg;subst hP hw hK;obtain⟨f0,f1,f2,f3,f4,f5⟩:=hf it (by simp);have W:=Walks.range (prog:=X.prog) (w:=X.w) (I.ok.hd hc) it lo 1 n;refine W.item i s _ _ hg st fun v h' tk hv st' kk => ?_;obtain⟨t,rfl⟩:=hv;have I1:Inv X pins σ H { s with heap:=h',toks:=tk }:=I.turned (fun b o hb e=>kk b o (by simpa using hb) e) f0 f1 f3 f4 f5;refine⟨_,rfl,ZdG (s:={ s with heap:=h',toks:=tk }) (n:="range_iterator") st' rfl rfl (by decide) ⟨.int (lo+i),H,I1,⟨t,?_⟩,⟨rfl,rfl⟩,st',fun b hb=>(hf b hb).1⟩⟩;rw[Int.mul_one]
 done:=by
  intro X hP hw hK hc i pins s σ H E I hf st hg;subst hP hw hK;obtain⟨f0,f1,f2,f3,f4,f5⟩:=hf it (by simp);exact wpAny_pyNext_range_end (I.ok.hd hc) st (by have:n<=i:=hg; omega) fun h' eb=>⟨rfl,I.turned (t':=s.toks) (fun b o hb e=>eb b o hb e) f0 f1 f3 f4 f5⟩
 self:=fun _ _ _ _ _ st h=>wpAny_pyIter_rangeiter st h
section
variable{X:Cx}{tg:Expr}
def Zl1(K:P5)(tl:TE):TI:=fun σ H R=>tl σ H fun x H1 => ∃a,x = .ref a/\(∃xs,SqL K H1 a xs)/\R (Itl K a) H1
def Zmx(K:P5)(tl:TE):TI:=fun σ H R=>tl σ H fun x H1 => ∃a,x = .ref a/\(∃xs,SqT K H1 a xs)/\R (Itt K a) H1
theorem ZnT{l:Expr}{tl:TE}(hl:PE X l tl):PI X tg l (Zl1 X.K tl):=by
 intro pins s σ H R I h;refine thn (hl pins s σ H _ I h) fun v s1 ⟨x,H1,I1,r1,q1⟩ => ?_;obtain⟨a,e,⟨xs,hq⟩,q⟩:=q1;subst e;cases r1;obtain⟨its,rv,p,hz⟩:=I1.list hq;refine Qp p.isList ?_;refine⟨s1.heap.objs.size,[s1.heap.objs.size],_,_,H1,rfl,I1.kept (t':=s1.toks) fun b o e=>Yc _ e,Zp3 a _,⟨_,Yi _ rfl,rfl,rfl⟩,fun b hb => ?_,q⟩;have e:b=s1.heap.objs.size:=by simpa using hb
 subst e;exact I1.fpOk (Yj _) (I1.hok.fresh (Yj _))
theorem ZrL{l:Expr}{tl:TE}(hl:PE X l tl):PI X tg l (Zmx X.K tl):=by
 intro pins s σ H R I h;refine thn (hl pins s σ H _ I h) fun v s1 ⟨x,H1,I1,r1,q1⟩ => ?_;obtain⟨a,e,⟨xs,hq⟩,q⟩:=q1;subst e;cases r1;obtain⟨its,rv,p,hz⟩:=I1.tuple hq;refine wpAny_pyIter_tuple (show s1.heap.IsTuple a its.toArray from p) ?_;refine⟨s1.heap.objs.size,[s1.heap.objs.size],_,_,H1,rfl,I1.kept (t':=s1.toks) fun b o e=>Yc _ e,ZmI a _,⟨_,Yi _ rfl,rfl,rfl⟩,fun b hb => ?_,q⟩;have e:b=s1.heap.objs.size:=by simpa using hb
 subst e;exact I1.fpOk (Yj _) (I1.hok.fresh (Yj _))
theorem ZrS{pins:List (Addr×Obj)}{σ:St}{H:Hp}{s:P1}{R:It->Hp->Prop}{E:P9->P1->Prop}{lo hi:Int}{t u v:Tok}{tk:Nat}(I:Inv X pins σ H s)(h1 : -(2 ^ 62)<=lo)(h2:lo<2 ^ 62)(h3 : -(2 ^ 62)<=hi)(h4:hi<2 ^ 62)
  (q:R (Itr lo (hi - lo).toNat) H):wpAny (model X.prog X.w) X.A (pyIter (.ref s.heap.objs.size)) (PIE X pins σ tg R) E { s with heap:=s.heap.push { cls:=.type "range",data:=.fields #[.int lo t,.int hi u,.int 1 v] },toks:=tk }:=by
 refine wpAny_pyIter_range (IsRange.new ..) (small_one h1 h2 h3 h4) ?_;have I1:Inv X pins σ H { s with heap:=s.heap.push { cls:=.type "range",data:=.fields #[.int lo t,.int hi u,.int 1 v] },toks:=tk }:=I.kept fun b o e=>Yc _ e;refine⟨(s.heap.push { cls:=.type "range",data:=.fields #[.int lo t,.int hi u,.int 1 v] }).objs.size,[(s.heap.push { cls:=.type "range",data:=.fields #[.int lo t,.int hi u,.int 1 v] }).objs.size],_,_,H,rfl,
  I1.kept (t':=tk) fun b o e=>Yc _ e,Zr1 _ lo (hi - lo).toNat,?_,fun b hb => ?_,q⟩
 ·have e1:lo+((0:Nat):Int) * 1=lo:=by simp
  have e2:(((hi - lo).toNat:Nat):Int) - ((0:Nat):Int)=Builtin.Range.rangeSize lo hi 1:=by rw[rangeSize_one]; split <;> omega
  show IsRangeIter _ _ (lo+((0:Nat):Int) * 1) ((((hi - lo).toNat:Nat):Int) - ((0:Nat):Int)) 1;rw[e1,e2];exact Yi _ rfl
 ·have e:b=(s.heap.push { cls:=.type "range",data:=.fields #[.int lo t,.int hi u,.int 1 v] }).objs.size:=by simpa using hb
  subst e;exact I1.fpOk (Yj _) (I1.hok.fresh (Yj _))
def Zng(ta:TA):TI:=fun σ H R=>ta σ H fun vs H1 => ∃j:Int,vs=[.int j]/\-(2 ^ 62)<=j/\j<2 ^ 62/\R (Itr 0 j.toNat) H1
theorem Zsh{a:Expr}{ta:TA}{p pos:Pos}(hg:Gl X "range")(hm:X.mg "range" = none)(ha:PA X [a] ta)(hs:starEach [a] X.env=[(false,eval a X.env)]:=by rfl):PI X tg (.Call (.Name "range" p) [a] [] pos) (Zng ta):=by
 intro pins s σ H R I h;refine Call_ (ZaE I hg hm boot_range (WG (thn (ha pos pins s σ H _ I h) fun us s1 ⟨vs,H1,I1,r1,q1⟩ => ?_) hs rfl));obtain⟨j,e,q1,q2,q⟩:=q1;subst e;cases r1 with
 | cons r rr =>
  cases rr;obtain⟨t,rfl⟩:=r;exact call_range_1 (ZrS I1 (by omega) (by omega) q1 q2 (by simpa using q))
def ZlK(wi:TI)(g:TG)(tb:TS):TS:=fun D σ H=>wi σ H fun J H1 => ∃W:Nat->Nat->St->Hp->Prop,(∃m,W 0 m σ H1)/\∀i m σ H,W i m σ H ->
 (J.stop i H/\D.nx σ H)\/(J.go i H/\∃N:St->Hp->Prop,(∀σ' H',N σ' H'->∃m',m' < m/\W (i+1) m' σ' H')/\∀x H',J.yld i H x H'->g x σ H' fun σ2 H2=>tb { D with nx:=N,ct:=N,bk:=D.nx } σ2 H2)
def ZaH(fp:List Addr)(h:Heap):List (Addr×Obj):=fp.filterMap fun b=>(h.get? b).map fun o=>(b,o)
theorem Zez{fp:List Addr}{h:Heap}{b:Addr}{o:Obj}(hb:b∈fp)(e:h.get? b=some o):(b,o)∈ZaH fp h:=Vr.mpr ⟨b,hb,by rw[e]; rfl⟩
theorem Zh3{fp:List Addr}{h:Heap}{p:Addr×Obj}(hp:p∈ZaH fp h):p.1∈fp/\h.get? p.1=some p.2:=by
 obtain⟨b,hb,e⟩:=Vr.mp hp;cases q:h.get? b with
 | none=>rw[q] at e; cases e
 | some o =>
  rw[q] at e;have e':(b,o)=p:=Option.some.inj e;subst e';exact⟨hb,q⟩
theorem Inv.pinned{pins:List (Addr×Obj)}{σ:St}{H:Hp}{s:P1}{fp:List Addr}(I:Inv X pins σ H s)(hf:∀b∈fp,ZaC X pins H b)(ho:∀b∈fp,∃o,s.heap.get? b=some o/\∀v,o.data≠.cell v):Inv X (pins++ZaH fp s.heap) σ H s :=
 I.pins_of fun p hp=>(Wu.mp hp).elim (fun z=>I.pin p (Y0 _ z)) fun z=>by
  obtain⟨hb,e⟩:=Zh3 z;obtain⟨f0,f1,f2,_⟩:=hf p.1 hb;obtain⟨o,e',d⟩:=ho p.1 hb;rw[e] at e'; cases e';exact⟨e,f0,f1,f2,d⟩
theorem Inv.unpinned{pins pl:List (Addr×Obj)}{σ:St}{H:Hp}{s:P1}(I:Inv X (pins++pl) σ H s):Inv X pins σ H s:=I.pins_of fun p hp=>I.pin p (Y0 _ (WI _ hp))
theorem Zir{iter:Expr}{body:List Stmt}{wi:TI}{g:TG}{tb:TS}{pos:Pos}(hp:PassesOwn (model X.prog X.w) X.A X.env X.xe)(hc:X.calm=true)(hi:PI X tg iter wi)(hg:PG X tg g)(hb:PSs X body tb)
  (hs:∀x,foldedSetIterable iter X.env x=pure x:=by intro _; rfl):PS X (.For tg iter body [] pos) (ZlK wi g tb):=by
 intro pins s σ H D I h;refine wpAny_For (thn (hi pins s σ H _ I h) fun v s1 h1=>thn h1 fun itv s2 h2 => ?_) hs;obtain⟨it,fp,tn,J,H2,e,I2,T,st2,f2,W,⟨m0,w0⟩,turn⟩:=h2;subst e;have stat:∀{H':Hp},(∀b∈fp,H' b=none)->∀b∈fp,ZaC X pins H' b:=fun hn b hb=>⟨hn b hb,(f2 b hb).2⟩;refine codeAny_forLoop_any (fun n s' => ∃i σ' H',Inv X pins σ' H' s'/\tn i s'.heap/\(∀b∈fp,H' b=none)/\W i n σ' H') ?_ m0 ⟨0,σ,H2,I2,st2,fun b hb=>(f2 b hb).1,w0⟩;rintro n s3 ⟨i,σ3,H3,I3,st3,fr3,w3⟩;rcases turn i n σ3 H3 w3 with⟨stop,qn⟩ | ⟨go,N,hN,step⟩
 ·refine Vl hp (thn (T.done X rfl rfl rfl hc i pins s3 σ3 H3 X.xe I3 (stat fr3) st3 stop) fun r s4 ⟨hr,I4⟩ => ?_);subst hr;exact wpAny_execs_nil ⟨σ3,H3,I4,qn⟩
 ·refine Vl hp (thn (T.item X rfl rfl rfl hc i pins s3 σ3 H3 X.xe I3 (stat fr3) st3 go) fun r s4 ⟨u,hr,h4⟩ => ?_);subst hr;refine Vl hp (thn h4 fun _ s5 ⟨x,H5,I5,r5,y5,st5,fr5⟩ => ?_);have I5':=I5.pinned (stat fr5) (T.obj _ _ st5);refine Vl hp (thn (hg _ s5 σ3 H5 x u _ I5' r5 (step x H5 y5)) fun _ s6 ⟨σ6,H6,I6,q6⟩ => ?_);refine Vl hp (thn (hb _ s6 σ6 H6 _ I6 q6) fun f s7 q7 => ?_);have again:∀{σ7:St} {H7:Hp},Inv X (pins++ZaH fp s5.heap) σ7 H7 s7->N σ7 H7->∃m,m<n/\∃i σ' H',Inv X pins σ' H' s7/\tn i s7.heap/\(∀b∈fp,H' b=none)/\W i m σ' H':=fun {σ7 H7} I7 n7=>by
   obtain⟨m',hm,w7⟩:=hN σ7 H7 n7;refine⟨m',hm,i+1,σ7,H7,I7.unpinned,T.keep _ _ _ st5 fun b hb o e=>(I7.pin (b,o) (Y0 _ (Y0 _ (Zez hb e)))).1,fun b hb => ?_,w7⟩;obtain⟨o,e,d⟩:=T.obj _ _ st5 b hb;exact (I7.pin (b,o) (Y0 _ (Y0 _ (Zez hb e)))).2.1
  cases f with
  | next=>obtain⟨σ7,H7,I7,n7⟩:=q7; exact again I7 n7
  | cont=>obtain⟨σ7,H7,I7,n7⟩:=q7; exact again I7 n7
  | brk=>obtain⟨σ7,H7,I7,q7⟩:=q7; exact⟨σ7,H7,I7.unpinned,q7⟩
  | ret v=>obtain⟨x7,σ7,H7,I7,r7,q7⟩:=q7; exact⟨x7,σ7,H7,I7.unpinned,r7,q7⟩
end
noncomputable abbrev R2:=V->V->Hp->VK->Prop
def OpR(X:Cx)(f:P9->P9->Sem P9)(r:R2):Prop :=
 ∀(pins:List (Addr×Obj)) (s:P1) (σ:St) (H:Hp) (x y:V) (v u:P9) (Q:VK),Inv X pins σ H s->RelV x v->RelV y u->r x y H Q ->
  wpAny (model X.prog X.w) X.A (f v u) (EP X pins σ Q) X.xe s
def UnR(X:Cx)(f:P9->Sem P9)(r:V->Hp->VK->Prop):Prop :=
 ∀(pins:List (Addr×Obj)) (s:P1) (σ:St) (H:Hp) (x:V) (v:P9) (Q:VK),Inv X pins σ H s->RelV x v->r x H Q ->
  wpAny (model X.prog X.w) X.A (f v) (EP X pins σ Q) X.xe s
def Zbe(X:Cx)(f:P9)(r:List V->Hp->VK->Prop):Prop :=
 ∀(pins:List (Addr×Obj)) (s:P1) (σ:St) (H:Hp) (xs:List V) (us:List P9) (Q:VK),Inv X pins σ H s->Vals xs us->r xs H Q ->
  wpAny (model X.prog X.w) X.A (call f us) (EP X pins σ Q) X.xe s
def tOp(r:R2)(ta tb:TE):TE:=fun σ H Q=>ta σ H fun x H1=>tb σ H1 fun y H2=>r x y H2 Q
def tUn(r:V->Hp->VK->Prop)(ta:TE):TE:=fun σ H Q=>ta σ H fun x H1=>r x H1 Q
def rI(C:Int->Int->Prop)(g:Int->Int->V):R2:=fun x y H Q => ∃i j,x = .int i/\y = .int j/\C i j/\Q (g i j) H
def rI0(g:Int->Int->V):R2:=fun x y H Q => ∃i j,x = .int i/\y = .int j/\Q (g i j) H
def rU(g:Int->V):V->Hp->VK->Prop:=fun x H Q => ∃i,x = .int i/\Q (g i) H
section
variable{X:Cx}{a b c:Expr}{ta tb tc:TE}{pos:Pos}
theorem ZgQ(ha:PE X a ta)(hb:PE X b tb){pins:List (Addr×Obj)}{s:P1}{σ:St}{H:Hp}{R:V->V->Hp->Prop}(I:Inv X pins σ H s)
  (h:ta σ H fun x H1=>tb σ H1 fun y H2=>R x y H2) {Q:P9->P1->Prop} {f:P9->P9->Sem P9}
  (hf:∀v u s2 x y H2,Inv X pins σ H2 s2->RelV x v->RelV y u->R x y H2->wpAny (model X.prog X.w) X.A (f v u) Q X.xe s2) :
  wpAny (model X.prog X.w) X.A (eval a X.env) (fun v s₁=>wpAny (model X.prog X.w) X.A (eval b X.env) (fun u s₂=>wpAny (model X.prog X.w) X.A (f v u) Q X.xe s₂) X.xe s₁) X.xe s:=by
 refine thn (ha pins s σ H _ I h) fun v s1 ⟨x,H1,I1,r1,q1⟩ => ?_;refine thn (hb pins s1 σ H1 _ I1 q1) fun u s2 ⟨y,H2,I2,r2,q2⟩ => ?_;exact hf v u s2 x y H2 I2 r1 r2 q2
theorem Zjh{op:Operator}{r:R2}(ho:OpR X (binaryOp op) r)(ha:PE X a ta)(hb:PE X b tb):PE X (.BinOp a op b pos) (tOp r ta tb):=by
 intro pins s σ H Q I h;exact wpAny_BinOp (ZgQ ha hb I h fun v u s2 x y H2 I2 rx ry q=>ho pins s2 σ H2 x y v u Q I2 rx ry q)
theorem Zna{op:UnaryOp}{r:V->Hp->VK->Prop}(ho:UnR X (unaryOp op) r)(ha:PE X a ta):PE X (.UnaryOp op a pos) (tUn r ta):=by
 intro pins s σ H Q I h;exact UnaryOp_ (thn (ha pins s σ H _ I h) fun v s1 ⟨x,H1,I1,r1,q1⟩=>ho pins s1 σ H1 x v Q I1 r1 q1)
theorem opI{f:P9->P9->Sem P9}{C:Int->Int->Prop}{g:Int->Int->Int}
  (rule:∀(i j:Int) (t u:Tok) (s:P1) (Q:P9->P1->Prop) (E:P9->P1->Prop),C i j->Q (.int (g i j) s.toks) { s with toks:=s.toks+1 }->wpAny (model X.prog X.w) X.A (f (.int i t) (.int j u)) Q E s) :
  OpR X f (rI C fun i j => .int (g i j)):=by
 intro pins s σ H x y v u Q I rx ry h;obtain⟨i,j,rfl,rfl,hc,q⟩:=h;obtain⟨t,rfl⟩:=rx;obtain⟨t',rfl⟩:=ry;exact rule i j t t' s _ _ hc ⟨.int (g i j),H,I.tok _,⟨_,rfl⟩,q⟩
theorem Zg9{f:P9->P9->Sem P9}{g:Int->Int->Int}
  (rule:∀(i j:Int) (t u:Tok) (s:P1) (Q:P9->P1->Prop) (E:P9->P1->Prop),Q (.int (g i j) s.toks) { s with toks:=s.toks+1 }->wpAny (model X.prog X.w) X.A (f (.int i t) (.int j u)) Q E s) :
  OpR X f (rI0 fun i j => .int (g i j)):=by
 intro pins s σ H x y v u Q I rx ry h;obtain⟨i,j,rfl,rfl,q⟩:=h;obtain⟨t,rfl⟩:=rx;obtain⟨t',rfl⟩:=ry;exact rule i j t t' s _ _ ⟨.int (g i j),H,I.tok _,⟨_,rfl⟩,q⟩
theorem Zns{f:P9->P9->Sem P9}{g:Int->Int->Bool}
  (rule:∀(i j:Int) (t u:Tok) (s:P1) (Q:P9->P1->Prop) (E:P9->P1->Prop),Q (.bool (g i j)) s->wpAny (model X.prog X.w) X.A (f (.int i t) (.int j u)) Q E s) :
  OpR X f (rI0 fun i j => .bl (g i j)):=by
 intro pins s σ H x y v u Q I rx ry h;obtain⟨i,j,rfl,rfl,q⟩:=h;obtain⟨t,rfl⟩:=rx;obtain⟨t',rfl⟩:=ry;exact rule i j t t' s _ _ ⟨.bl (g i j),H,I,rfl,q⟩
def Zp0(i j:Int):Prop:=0<j/\j<1073741824
def CMul(i j:Int):Prop:=(-(2 ^ 64)<i/\i<2 ^ 64)\/(-(2 ^ 64)<j/\j<2 ^ 64)
theorem CMul.ok{i j:Int}(h:CMul i j):IntMulOk i j:=by
 rcases h with⟨h1,h2⟩ | ⟨h1,h2⟩
 ·exact .of_left (intBits_le_64 h1 h2)
 ·exact .of_right (intBits_le_64 h1 h2)
theorem ZoP:OpR X (binaryOp .Add) (rI0 fun i j => .int (i+j)):=Zg9 fun _ _ _ _ _ _ _ q=>add_int q
theorem ZpF:OpR X (binaryOp .Sub) (rI0 fun i j => .int (i - j)):=Zg9 fun _ _ _ _ _ _ _ q=>sub_int q
theorem Zq2:OpR X (binaryOp .Mult) (rI CMul fun i j => .int (i * j)):=opI fun _ _ _ _ _ _ _ hc q=>mul_int q hc.ok
theorem ZoJ:OpR X (binaryOp .FloorDiv) (rI Zp0 fun i j => .int (i / j)):=opI fun i j _ _ _ _ _ hc q=>by
 have h1:(0:Int)<j:=hc.1;have h2:j<1073741824:=hc.2;exact floordiv_int (by omega) (by rw[Int.fdiv_eq_ediv_of_nonneg i (by omega)]; exact q) (.inl (PyProof.noPylong_small (by omega)))
theorem Zry:OpR X (binaryOp .Mod) (rI (fun _ j=>0<j) fun i j => .int (i % j)):=opI fun i j _ _ _ _ _ hc q=>by
 have h1:(0:Int)<j:=hc;exact mod_int' (by omega) (by rw[Int.fmod_eq_emod_of_nonneg i (by omega)]; exact q)
theorem unI{f:P9->Sem P9}{g:Int->Int}
  (rule:∀(i:Int) (t:Tok) (s:P1) (Q:P9->P1->Prop) (E:P9->P1->Prop),Q (.int (g i) s.toks) { s with toks:=s.toks+1 }->wpAny (model X.prog X.w) X.A (f (.int i t)) Q E s) :
  UnR X f (rU fun i => .int (g i)):=by
 intro pins s σ H x v Q I rx h;obtain⟨i,rfl,q⟩:=h;obtain⟨t,rfl⟩:=rx;exact rule i t s _ _ ⟨.int (g i),H,I.tok _,⟨_,rfl⟩,q⟩
theorem Zp9:UnR X (unaryOp .USub) (rU fun i => .int (-i)):=unI fun _ _ _ _ _ q=>neg_int q
end
section
variable{X:Cx}{a b c:Expr}{ta tb tc:TE}{pos:Pos}
theorem Zo0:OpR X (compareOp .Gt) (rI0 fun i j => .bl (decide (j<i))):=Zns fun _ _ _ _ _ _ _ q=>gt_int q
theorem Zjd(b:Expr){op:CmpOp}(h:op≠.In:=by decide)(h2:op≠.NotIn:=by decide):behindInMarks op b=false:=by
 have e1:(op == CmpOp.In)=false:=by cases op <;> first | rfl | exact absurd rfl h
 have e2:(op == CmpOp.NotIn)=false:=by cases op <;> first | rfl | exact absurd rfl h2
 cases b <;> simp[behindInMarks,e1,e2]
theorem Zr2{op:CmpOp}{r:R2}(ho:OpR X (compareOp op) r)(ha:PE X a ta)(hb:PE X b tb)(hm:behindInMarks op b=false):PE X (.Compare a [op] [b] pos) (tOp r ta tb):=by
 intro pins s σ H Q I h;exact wpAny_Compare1 (ZgQ ha hb I h fun v u s2 x y H2 I2 rx ry q=>ho pins s2 σ H2 x y v u Q I2 rx ry q) hm
def Zlr(t:TE):TT:=fun σ H Q=>t σ H fun x H' => ∃k,x = .bl k/\Q k H'
theorem Zrr{op:CmpOp}{r:R2}(ho:OpR X (compareOp op) r)(ha:PE X a ta)(hb:PE X b tb)(hm:behindInMarks op b=false):PT X (.Compare a [op] [b] pos) (Zlr (tOp r ta tb)):=by
 intro pins s σ H Q I h;refine wpAny_isTrue_Compare1 (thn (ha pins s σ H _ I h) fun v s1 ⟨x,H1,I1,r1,q1⟩=>thn (hb pins s1 σ H1 _ I1 q1) fun u s2 ⟨y,H2,I2,r2,q2⟩ =>
  thn (ho pins s2 σ H2 x y v u _ I2 r1 r2 q2) fun c s3 ⟨z,H3,I3,r3,k,e,q3⟩ => ?_) hm
 subst e;cases r3;exact Uz ⟨H3,I3,q3⟩
theorem Zc3:(sizeLine:Nat)<2 ^ 63:=by rw[YG]; decide
theorem ZmE:OpR X (binaryOp .Add) (fun x y H Q => ∃i j,x = .str i/\y = .str j/\i.length+j.length<=sizeLine/\Q (.str (i++j)) H):=by
 intro pins s σ H x y v u Q I rx ry h;obtain⟨i,j,rfl,rfl,hz,q⟩:=h;obtain⟨t,rfl⟩:=rx;obtain⟨t',rfl⟩:=ry;exact add_str (fun t' tk=>⟨.str (i++j),H,I.tok _,⟨_,rfl⟩,q⟩) hz
theorem vals1{x:V}{us:List P9}(r:Vals [x] us):∃u,us=[u]/\RelV x u:=by
 cases r with
 | cons r1 r2=>cases r2; exact⟨_,rfl,r1⟩
theorem vals2{x y:V}{us:List P9}(r:Vals [x,y] us):∃u w',us=[u,w']/\RelV x u/\RelV y w':=by
 cases r with
 | cons r1 r2 =>
  cases r2 with
  | cons r3 r4=>cases r4; exact⟨_,_,rfl,r1,r3⟩
theorem Zmt(hc:X.calm=true):Zbe X (.builtin "max") (fun xs H Q => ∃i j,xs=[.int i,.int j]/\Q (.int (if j > i then j else i)) H):=by
 intro pins s σ H xs us Q I r h;obtain⟨i,j,rfl,q⟩:=h;obtain⟨u,w',rfl,⟨t,rfl⟩,⟨t',rfl⟩⟩:=vals2 r;refine max_two_ints (I.ok.hd hc) fun h' tk k=>⟨_,H,I.kept k,?_,q⟩;by_cases hj:j > i
 ·rw[Yf hj,Yf hj]; exact⟨_,rfl⟩
 ·rw[Yh hj,Yh hj]; exact⟨_,rfl⟩
end
structure ObjM(h:Heap)(x dx C:Addr)(mA:Str->Option P9):Prop where
 obj:h.get? x=some (PySem.W.instObj C dx)
 ns:h.Ns1 dx mA
 ne:dx≠x
def ZeN(f:Str)(v:V):List (Str×V)->List (Str×V)
 | []=>[(f,v)]
 | (g,x) :: r=>if g=f then (g,v) :: r else (g,x) :: ZeN f v r
theorem RelO.some_of{v:V}{o:Option P9}(r:RelO (some v) o):∃u,o=some u/\RelV v u:=by
 cases o with
 | none=>exact (show False from r).elim
 | some u=>exact⟨u,rfl,r⟩
structure Cls(K:P5)(C:Addr):Prop where
 pg:PySem.W.plainGet K C Str.empty=true
 hd:PySem.W.hasDictIn K C=true
 po:PySem.W.plainOver K C=true
 sa:PySem.W.findIn K (.ref C) "__setattr__" = some (some (.builtin "object.__setattr__"))
structure Con(K:P5)(C:Addr)(f:Str)(v:V)(u:P9):Prop where
 at_:PySem.W.findIn K (.ref C) f=some (some u)
 rel:RelV v u
 get:PySem.W.specialIn K u "__get__" = some none
 cp:PySem.W.copiedNames.contains f=false
structure Meth(K:P5)(C:Addr)(m:Str)(f:Addr):Prop where
 at_:PySem.W.findIn K (.ref C) m=some (some (.ref f))
 fn:PySem.W.isFn K (.ref f)=true
 kp:PySem.W.keepIn K (.ref f)=true
section
variable{X:Cx}{pins:List (Addr×Obj)}{σ:St}{H:Hp}{s:P1}{A:P6}{E:P9->P1->Prop}{Q:P9->P1->Prop}{c:P9}{b:Bool}
inductive TyOf(K:P5)(H:Hp):V->P9->Prop where
 | non:TyOf K H .non (.type "NoneType")
 | bl (x:Bool):TyOf K H (.bl x) (.type "bool")
 | int (i:Int):TyOf K H (.int i) (.type "int")
 | str (x:Str):TyOf K H (.str x) (.type "str")
 | flt (x:UInt64):TyOf K H (.flt x) (.type "float")
 | lst {a:Addr} {xs:List V} (e:H a=some (.lst xs)):TyOf K H (.ref a) (.type "list")
 | frz {a:Addr} {o:Obj} {xs:List V} (e:H a=some (.frz o (.lst xs))):TyOf K H (.ref a) (.type "list")
 | tup {a:Addr} {xs:List V} (e:H a=some (.tup xs)):TyOf K H (.ref a) (.type "tuple")
 | dK {a:Addr} {kvs:List (Key×V)} (e:H a=some (.dK kvs)):TyOf K H (.ref a) (.type "dict")
 | dT {a:Addr} {kvs:List (List Key×V)} (e:H a=some (.dT kvs)):TyOf K H (.ref a) (.type "dict")
 | ins {a C dx:Addr} {fs:List (Str×V)} (e:H a=some (.ins C dx fs)) (cl:Cls K C) (ha:PySem.W.findIn K (.ref C) "__class__" = some (some (.builtin "object.__class__")))
   (hn:PySem.W.specialIn K (.builtin "object.__class__") "__get__" = some (some (.builtin "getset_descriptor.__get__"))) (htk:PySem.W.takesIn K (.builtin "object.__class__")=some true)
   (hm:PySem.W.mroIn K C (.type "object")=some true):TyOf K H (.ref a) (.ref C)
end
structure Room(k:Nat)(A:P6):Prop where
 hd:A.handled=none
 dp:A.depth+3 * k+5<recursionLimit
 un:A.units+16 * k+200<cLine
theorem Room.mono{j k:Nat}{A:P6}(r:Room k A)(h:j<=k):Room j A:=⟨r.hd,by have:=r.dp; omega,by have:=r.un; omega⟩
theorem Room.deeper{k:Nat}{A:P6}(r:Room (k+1) A)(env:Env):Room k (A.deeper env) :=
 ⟨r.hd,by have:=r.dp; show A.depth+1+3 * k+5<_; omega,by have:=r.un; show A.units+3+16 * k+200<_; omega⟩
theorem Room.depth{k:Nat}{A:P6}(r:Room k A):A.depth<recursionLimit:=by have:=r.dp; omega
theorem Room.units{k:Nat}{A:P6}(r:Room k A):A.units+64<cLine:=by have:=r.un; omega
def Znr:TA:=fun _ H Q=>Q [] H
def Zn3(ta:TE)(tr:TA):TA:=fun σ H Q=>ta σ H fun x H1=>tr σ H1 fun xs H2=>Q (x :: xs) H2
section
variable{X:Cx}{e:Expr}{es:List Expr}{te:TE}{t:TA}{pos:Pos}
theorem Zl2:PA X [] Znr:=fun _ _ _ _ H Q I h=>W8 ⟨[],H,I,.nil,h⟩
theorem ZqV(ha:PE X e te)(hr:PA X es t)(hs:starEach (e :: es) X.env=(false,eval e X.env) :: starEach es X.env:=by rfl):PA X (e :: es) (Zn3 te t):=by
 intro pos pins s σ H Q I h;rw[hs];show wpAny _ _ (spliced ((false,eval e X.env) :: backTo pos (starEach es X.env))) _ _ s;refine WH (thn (ha pins s σ H _ I h) fun u s1 ⟨x,H1,I1,r1,q1⟩ => ?_);exact thn (hr pos pins s1 σ H1 _ I1 q1) fun us s2 ⟨xs,H2,I2,r2,q2⟩=>⟨x :: xs,H2,I2,.cons r1 r2,q2⟩
def Zno(t:TA):TE:=fun σ H Q=>t σ H fun xs H1=>xs.length<=sizeLine/\∀p,H1 p=none->Q (.ref p) (upd H1 p (.tup xs))
def Zqk(t:TA):TE:=fun σ H Q=>t σ H fun xs H1=>xs.length<=sizeLine/\∀p,H1 p=none->Q (.ref p) (upd H1 p (.lst xs))
theorem Zoj{x1}(h:PA X es t):PE X (.Tuple es x1 pos) (Zno t):=by
 intro pins s σ H Q I hq;refine wpAny_Tuple_spliced (thn (h pos pins s σ H _ I hq) fun us s1 ⟨xs,H1,I1,r,z,q⟩=>⟨by rw[<-r.length]; exact z,?_⟩);have hf:H1 s1.heap.objs.size=none:=I1.hok.fresh (Yj _);refine⟨.ref s1.heap.objs.size,upd H1 s1.heap.objs.size (.tup xs),I1.laid (t':=s1.toks) (fun b u e=>Yc _ e) (Yj _) ?_,rfl,q _ hf⟩;exact⟨z,us,r,⟨_,Yi _ rfl,rfl,_,rfl⟩,fun o2 e2=>by rw[Yi _ rfl] at e2; cases e2; rfl⟩
theorem Zse(h:PA X es t):PE X (.List es pos) (Zqk t):=by
 intro pins s σ H Q I hq;refine wpAny_List_spliced (thn (h pos pins s σ H _ I hq) fun us s1 ⟨xs,H1,I1,r,z,q⟩=>⟨by rw[<-r.length]; exact z,?_⟩);have hf:H1 s1.heap.objs.size=none:=I1.hok.fresh (Yj _);refine⟨.ref s1.heap.objs.size,upd H1 s1.heap.objs.size (.lst xs),I1.laid (t':=s1.toks) (fun b u e=>Yc _ e) (Yj _) ?_,rfl,q _ hf⟩;exact⟨z,us,0,r,Yi _ rfl⟩
end
noncomputable abbrev Sp:=List V->Hp->VK->XK->Prop
noncomputable abbrev CXT:=List Env->Hp->P1->XK->P9->P1->Prop
structure Env0(P:P7)(w:World)(K:P5)(mg:Str->Option P9)(base:Heap)(A:P6)(outer:List Env)(s:P1)(H:Hp):Prop where
 frames:A.frames=some outer
 mod:Mod K mg base
 bs:∀b o,base.get? b=some o->s.heap.get? b=some o/\H b=none
 bsz:base.objs.size<=s.heap.objs.size
 funs:s.heap.FunFrames base outer
 frf:∀b∈frs outer,H b=none
 hok:HOk P w H s.heap
 bare:AllBare s.gens
def CE(outer:List Env)(P:P7)(w:World)(H:Hp)(s:P1)(Q:VK)(u:P9)(s':P1):Prop :=
 ∃v H',s'.os=s.os/\AllBare s'.gens/\Un (frs outer) [] H H' s.heap s'.heap/\HOk P w H' s'.heap/\RelV v u/\Q v H'
def CR(CX:CXT)(outer:List Env)(P:P7)(w:World)(H:Hp)(s:P1)(Q:VK)(E:XK)(r:Result)(s':P1):Prop :=
 match r with
 | .ok (.ret u)=>CE outer P w H s Q u s'
 | .ok _=>False
 | .error e=>CX outer H s E e s'
structure FnOk(P:P7)(w:World)(K:P5)(mg:Str->Option P9)(base:Heap)(CX:CXT)(k:Nat)(f:Addr)(fd:P8)(ps:List Str)(sp:Sp):Prop where
 len:∀vs H Q E,sp vs H Q E->vs.length=ps.length
 run:∀(A:P6) (outer:List Env) (s:P1) (H:Hp) (args:Args) (us:List P9) (vs:List V) (Q:VK) (E:XK),Room k A->Env0 P w K mg base A outer s H->BindsTo s fd args (ps.zip us)->Vals vs us->sp vs H Q E ->
  codeAny (model P w) A (.call (.ref f) args) (CR CX outer P w H s Q E) s
section
variable{X:Cx}{pins:List (Addr×Obj)}{σ:St}{H:Hp}{s s':P1}
theorem Inv.env0(I:Inv X pins σ H s):Env0 X.prog X.w X.K X.mg X.base X.A X.stack s H :=
 ⟨I.ok.frames,I.ok.mod,I.bs,YL I.ok.bsz I.sz,I.stack,I.stkFree,I.hok,I.bare⟩
theorem Inv.after{Q:VK}{u:P9}(I:Inv X pins σ H s)(h:CE X.stack X.prog X.w H s Q u s'):EP X pins σ Q u s':=by
 obtain⟨v,H',os,bare,un,hok,r,q⟩:=h;obtain⟨hh,g,d,t,os'⟩:=s';obtain rfl:os'=s.os:=os;exact⟨v,H',I.call (h':=hh) (g':=g) (d':=d) (t':=t) (ch:=[]) un hok bare (fun b z=>absurd z (by simp)),r,q⟩
end
def ZqG(sp:Sp)(dvs:List V)(E:XK)(t:TA):TE:=fun σ H Q=>t σ H fun vs H1=>sp (vs++dvs) H1 Q E
def Binds(K:P5)(fd:P8)(ps:List Str)(ds:List P9):Prop :=
 ∀(s:P1) (us:List P9),K.In s.heap->(us++ds).length=ps.length->BindsTo s fd ⟨us,[]⟩ (ps.zip (us++ds))
theorem Binds.all{K:P5}{fd:P8}{ps:List Str}(h:∀us:List P9,us.length=ps.length->bindArgs fd ⟨us,[]⟩=pure (ps.zip us)):Binds K fd ps []:=fun s us _ hl=>by
 rw[Qm] at hl ⊢;exact .of_eq (h us hl)
def Passes(CX:CXT)(X:Cx)(E:XK):Prop:=∀(pins:List (Addr×Obj)) (σ:St) (H:Hp) (s:P1) (e:P9) (s':P1),Inv X pins σ H s->CX X.stack H s E e s'->X.xe e s'
section
variable{X:Cx}{CX:CXT}{k:Nat}{f C:Addr}{fd:P8}{ps:List Str}{sp:Sp}{dvs:List V}{ds:List P9}{E:XK}{x m:Str}{p pos apos:Pos}{e o:Expr}{es:List Expr}{ta:TE}{t:TA}
theorem ZrP{pins:List (Addr×Obj)}{σ:St}{H:Hp}{s:P1}{Q:VK}{us:List P9}{vs:List V}(F:FnOk X.prog X.w X.K X.mg X.base CX k f fd ps sp)(hr:Room k X.A)(hb:Binds X.K fd ps ds)(hd:Vals dvs ds)(hx:Passes CX X E)
  (I:Inv X pins σ H s) (r:Vals vs us) (h:sp (vs++dvs) H Q E):wpAny (model X.prog X.w) X.A (call (.ref f) us) (EP X pins σ Q) X.xe s:=by
 have r2:Vals (vs++dvs) (us++ds):=r.append hd;have hl:(us++ds).length=ps.length:=by rw[<-r2.length]; exact F.len _ _ _ _ h
 refine wpAny_call (V9 (F.run X.A X.stack s H ⟨us,[]⟩ (us++ds) (vs++dvs) Q E hr I.env0 (hb s us I.kIn hl) r2 h) fun r s' hq => ?_);cases r with
 | error e=>exact hx pins σ H s e s' I hq
 | ok fl =>
  cases fl with
  | ret u=>exact I.after hq
  | next=>exact False.elim hq
  | brk=>exact False.elim hq
  | cont=>exact False.elim hq
theorem Zsf(F:FnOk X.prog X.w X.K X.mg X.base CX k f fd ps sp)(hr:Room k X.A)(hg:Gl X x)(hm:X.mg x=some (.ref f))(hk:PySem.W.keepIn X.K (.ref f)=true)(hb:Binds X.K fd ps ds)(hd:Vals dvs ds)(hx:Passes CX X E)
  (ha:PA X (e :: es) t) (hdb:(x == ("__debug__" : Str))=false:=by decide) (he:starEach (e :: es) X.env=(false,eval e X.env) :: starEach es X.env:=by rfl) (hpl:(backTo pos (starEach es X.env)).any (·.1)=false:=by rfl) :
  PE X (.Call (.Name x p) (e :: es) [] pos) (ZqG sp dvs E t):=by
 intro pins s σ H Q I h;refine Wn (Zo5 I hg hm ?_ hdb);refine PySem.W.callWith_K (h₀:=X.base) I.ok.mod.kin hk (thn (ha pos pins s σ H _ I h) fun us s1 ⟨vs,H1,I1,r,q⟩=>⟨I1.kIn,?_⟩) he hpl;exact ZrP F hr hb hd hx I1 r q
structure Mk(K:P5)(C f:Addr):Prop where
 makes:PySem.W.makesIn K C=true
 init:PySem.W.findIn K (.ref C) "__init__" = some (some (.ref f))
 fn:PySem.W.isFn K (.ref f)=true
 kp:PySem.W.keepIn K (.ref C)=true
end
section
variable{X:Cx}{CX:CXT}{k:Nat}{f C:Addr}{fd:P8}{ps ks:List Str}{sp:Sp}{E:XK}{x m:Str}{p pos apos kpos:Pos}{e o:Expr}{es:List Expr}{kws:List Keyword}{te ta:TE}{t tk:TA}{nm:Option Str}
structure KBinds(K:P5)(fd:P8)(ps ks:List Str)(g:List P9->List P9->List P9)(gV:List V->List V->List V):Prop where
 to:∀(s:P1) (us ws:List P9),K.In s.heap->(g us ws).length=ps.length->BindsTo s fd ⟨us,ks.zip ws⟩ (ps.zip (g us ws))
 rel:∀{vs:List V} {us:List P9} {zs:List V} {ws:List P9},Vals vs us->Vals zs ws->Vals (gV vs zs) (g us ws)
variable{g:List P9->List P9->List P9}{gV:List V->List V->List V}
end
structure FnScope(N P:List Str)(sc:Scope):Prop where
 kind:sc.kind = .function
 co:sc.isCoroutine=false
 gen:sc.isGenerator=false
 nd:N.Nodup
 pre:N.take P.length=P
 par:∀x∈P,sc.names.lookup x=some .local\/sc.names.lookup x=some .cell
 nofree:∀y∈sc.names,y.2≠.free
theorem ZiE{kindOf:Str->Option NameKind}{x:Str}:∀{binds:List (Str×P9)} {m:Str->Option P9},(∀v,(x,v) ∉ binds)->bindL kindOf binds m x=m x
 | [],_,_=>rfl
 | (n,v) :: r,m,h=>by
  unfold bindL;rw[ZiE fun w hw=>h w (Yo _ hw)];split
  ·have:x≠n:=by rintro rfl; exact h v Yv
   simp[this]
  ·rfl
theorem Zi8{kindOf:Str->Option NameKind}{x:Str}:∀{binds:List (Str×P9)} {m:Str->Option P9},(∀v,(x,v) ∉ binds)->bindC kindOf binds m x=m x
 | [],_,_=>rfl
 | (n,v) :: r,m,h=>by
  unfold bindC;rw[Zi8 fun w hw=>h w (Yo _ hw)];split
  ·rfl
  ·have:x≠n:=by rintro rfl; exact h v Yv
   simp[this]
theorem Zi7{kindOf:Str->Option NameKind}{x:Str}{v:P9}:∀{P:List Str} {vs:List P9} {i:Nat} {m:Str->Option P9},P.Nodup->P[i]?=some x->vs[i]?=some v->kindOf x=some .local ->
  bindL kindOf (P.zip vs) m x=some v
 | [],_,_,_,_,h,_,_=>by simp at h
 | _ :: _,[],_,_,_,_,h,_=>by simp at h
 | p :: P,w :: vs,0,m,nd,h1,h2,hk=>by
  simp at h1 h2; subst h1; subst h2;show bindL kindOf ((p,w) :: P.zip vs) m p=_;unfold bindL;rw[ZiE fun v hv=>(Wd.mp nd).1 (UU hv).1,Yf hk];simp
 | p :: P,w :: vs,i+1,m,nd,h1,h2,hk=>by
  show bindL kindOf ((p,w) :: P.zip vs) m x=_;unfold bindL;exact Zi7 (i:=i) (Wd.mp nd).2 (by simpa using h1) (by simpa using h2) hk
theorem ZiL{kindOf:Str->Option NameKind}{x:Str}{v:P9}:∀{P:List Str} {vs:List P9} {i:Nat} {m:Str->Option P9},P.Nodup->P[i]?=some x->vs[i]?=some v->kindOf x≠some .local ->
  bindC kindOf (P.zip vs) m x=some v
 | [],_,_,_,_,h,_,_=>by simp at h
 | _ :: _,[],_,_,_,_,h,_=>by simp at h
 | p :: P,w :: vs,0,m,nd,h1,h2,hk=>by
  simp at h1 h2; subst h1; subst h2;show bindC kindOf ((p,w) :: P.zip vs) m p=_;unfold bindC;rw[Zi8 fun v hv=>(Wd.mp nd).1 (UU hv).1,Yh hk];simp
 | p :: P,w :: vs,i+1,m,nd,h1,h2,hk=>by
  show bindC kindOf ((p,w) :: P.zip vs) m x=_;unfold bindC;exact ZiL (i:=i) (Wd.mp nd).2 (by simpa using h1) (by simpa using h2) hk
def start(N:List Str)(vs:List V):St:=vs.map some++List.replicate (N.length - vs.length) none
def ZJ(CX:CXT)(P:P7)(w:World)(K:P5)(mg:Str->Option P9)(base:Heap)(N:List Str)(qual:Str)(scope:Scope)(f:Addr)(cd:P9)(A:P6)(outer:List Env)(s:P1)(H:Hp)(E:XK):Cx where
 prog:=P
 w:=w
 K:=K
 mg:=mg
 base:=base
 A:=A.deeper (envOfC qual scope s.heap.objs.size f cd)
 N:=N
 s₀:=s
 H₀:=H
 env:=envOfC qual scope s.heap.objs.size f cd
 outer:=outer
 stack:=envOfC qual scope s.heap.objs.size f cd :: outer
 ex:=[]
 calm:=true
 fn:=fun _=>true
 pn:=[]
 xe:=fun e s'=>wpAny (model P w) (A.deeper (envOfC qual scope s.heap.objs.size f cd)) (leaving (envOfC qual scope s.heap.objs.size f cd) e) (fun _ s''=>CX outer H s E e s'') (fun e' s''=>CX outer H s E e' s'') s'
theorem ZiR{sc:Scope}{n:Nat}{x:Str}(h:sc.names.lookup x=some .cell):∃c,(cellsFrom n sc.names []).lookup x=some c:=by
 have q:=PySem.W.cellsFrom_some sc.names n [] (.inl h);exact UL.mp q
theorem Zpq{CX:CXT}{P:P7}{w:World}{K:P5}{mg:Str->Option P9}{base:Heap}{N ps:List Str}{qual:Str}{scope:Scope}{f:Addr}{cd:P9}{A:P6}{outer:List Env}{s s1:P1}{H:Hp}{E:XK}{us:List P9}{vs:List V}
  (S:FnScope N ps scope) (hd:A.handled=none) (e0:Env0 P w K mg base A outer s H) (hl:vs.length=ps.length) (r:Vals vs us)
  (x:InCallC s s.heap.objs.size (bindL (envOfC qual scope s.heap.objs.size f cd).kindOf (ps.zip us) fun _=>none) (cellsFrom (s.heap.objs.size+1) scope.names []) (bindC (envOfC qual scope s.heap.objs.size f cd).kindOf (ps.zip us) fun _=>none) s1) :
  Inv (ZJ CX P w K mg base N qual scope f cd A outer s H E) [] (start N vs) H s1:=by
 have hpl:ps.length<=N.length:=by have:=congrArg List.length S.pre; rw[Y8] at this; omega
 obtain⟨h1,tk,rfl,hk⟩:=x.done;have noA:∀b:Addr,b ∉ (ZJ CX P w K mg base N qual scope f cd A outer s H E).ex:=fun b z=>absurd (show b∈([]:List Addr) from z) (by simp);refine⟨⟨e0.mod,S.kind,rfl,rfl,Yj _,fun y z c h1 h2 => ?_,fun y hy => ?_,fun y c _ h => ?_,fun _=>hd,Around.frames_deeper e0.frames,.inr ⟨rfl,rfl⟩,fun b z=>absurd z (noA b),e0.bs,e0.bsz,fun b _ _=>noA b,fun b z=>absurd z (noA b),e0.funs,e0.frf⟩,
  rfl,e0.bare,Un.kept hk,⟨_,x.toInCall.ns,fun i y v h1 h2 h3 => ?_⟩,fun y c h=>⟨_,x.cell y c h⟩,e0.hok.fresh (Yj _),fun y c h => ?_,fun p hp=>absurd (show p∈([]:List (Addr×Obj)) from hp) (by simp),e0.hok.kept hk,?_⟩
 ·exact name_of_addr x.apart (QN h1) (QN h2)
 ·have hy:scope.names.lookup y=some .cell\/scope.names.lookup y=some .free:=hy;rcases hy with hy | hy
  ·exact ZiR hy
  ·exact absurd rfl (S.nofree _ (QN hy))
 ·exact Q4 (x.above y c (QN h))
 ·have hi:i<vs.length:=by
   unfold start at h2;by_cases hi:i<vs.length
   ·exact hi
   ·rw[Ws (by simpa using hi)] at h2;rw[QO] at h2;split at h2 <;> cases h2
  have ha:vs[i]?=some v:=by
   unfold start at h2;rw[Wf (by simpa using hi),Yz] at h2;cases e:vs[i]? with
   | none=>rw[e] at h2; cases h2
   | some a=>rw[e] at h2; cases h2; rfl
  obtain⟨u,hu,rv⟩:=r.get ha;have hp:ps[i]?=some y:=by
   rw[<-S.pre,List.getElem?_take_of_lt (by omega)]; exact h1
  have ndP:ps.Nodup:=by rw[<-S.pre]; exact S.nd.sublist (VO _ _)
  refine⟨u,rv,?_⟩;rcases S.par y (Y2 hp) with k | k
  ·exact .inl ⟨k,Zi7 ndP hp hu k⟩
  ·obtain⟨c,e⟩:=ZiR (n:=s.heap.objs.size+1) k;refine .inr ⟨.inl k,c,e,?_⟩;have q:=x.cell y c e;rw[ZiL ndP hp hu (by show scope.names.lookup y≠_; rw[k]; decide)] at q;exact q
 ·exact e0.hok.fresh (Q4 (x.above y c (QN h)))
 ·unfold start;show _=N.length;rw[YW,Ym,V3];omega
theorem Zhx{CX:CXT}{P:P7}{w:World}{K:P5}{mg:Str->Option P9}{base:Heap}{k:Nat}{f:Addr}{name qual:Str}{params:Arguments}{body:List Stmt}{scope:Scope}{dV kV doc pm cdv ct oc:P9}{an od:Option Addr}
  {osl:Array (Option P9)} {N ps:List Str} {sp:Sp} (lk:K.lookup f=some ⟨oc,od,.func (PySem.W.fnOf name qual params body scope dV kV doc pm an cdv ct),osl⟩) (hcd:PySem.W.codeIn K cdv qual=true) (S:FnScope N ps scope)
  (len:∀vs H Q E,sp vs H Q E->vs.length=ps.length)
  (hbody:∀(A:P6) (outer:List Env) (s:P1) (H:Hp) (vs:List V) (Q:VK) (E:XK),Room k (A.deeper (envOfC qual scope s.heap.objs.size f cdv))->sp vs H Q E ->
   ∃t,PSs (ZJ CX P w K mg base N qual scope f cdv A outer s H E) body t/\t { nx:=fun _ H'=>Q .non H',rt:=Q } (start N vs) H) :
  FnOk P w K mg base CX (k+1) f (PySem.W.fnOf name qual params body scope dV kV doc pm an cdv ct) ps sp:=by
 refine⟨len,fun A outer s H args us vs Q E hr e0 hb r hsp => ?_⟩;have hl:=len _ _ _ _ hsp;have KX:K.In s.heap:=e0.mod.kin.keeps fun b o e=>(e0.bs b o e).1;have lim:s.heap.NoLimit:=e0.mod.nolimit.keeps fun b o e=>(e0.bs b o e).1;have hkind:∀y∈ps.zip us,scope.names.lookup y.1=some .local\/(scope.names.lookup y.1=some .cell/\((cellsFrom (s.heap.objs.size+1) scope.names []).lookup y.1).isSome=true):=fun⟨n,v⟩ hy=>by
  rcases S.par n (UU hy).1 with q | q
  ·exact .inl q
  ·exact .inr ⟨q,PySem.W.cellsFrom_some _ _ _ (.inl q)⟩
 refine codeAny_call_function hr.depth (KX _ _ lk) rfl S.co S.gen rfl (PySem.W.codeRec_of KX hcd) (hb _ _ _ _ ?_);refine wpAny_newFunctionEnv_cells S.kind hkind fun env he s1 x => ?_;subst he;refine⟨lim.keeps x.toInCall.keep,codeAny_func ?_⟩;obtain⟨t,ht,hq⟩:=hbody A outer s H vs Q E (hr.deeper _) hsp;have I:Inv (ZJ CX P w K mg base N qual scope f cdv A outer s H E) [] (start N vs) H s1:=Zpq S hr.hd e0 hl r x;refine YK (ht [] s1 (start N vs) H _ I hq) (fun fl s' hs => ?_) fun e s' hs=>hs;have fin:∀{σ':St} {H':Hp} {v:V} {u:P9},Inv (ZJ CX P w K mg base N qual scope f cdv A outer s H E) [] σ' H' s'->RelV v u->Q v H'->CE outer P w H s Q u s' :=
  fun {σ' H' v u} J rv q=>⟨v,H',J.os,J.bare,J.base,J.hok,rv,q⟩
 cases fl with
 | ret u =>
  obtain⟨v,σ',H',J,rv,q⟩:=hs;exact fin J rv q
 | next =>
  obtain⟨σ',H',J,q⟩:=hs;exact fin (v:=V.non) (u:=Value.none) J rfl q
 | brk =>
  obtain⟨_,_,_,q⟩:=hs;exact False.elim q
 | cont =>
  obtain⟨_,_,_,q⟩:=hs;exact False.elim q
section
variable{X:Cx}{x:Str}{p pos:Pos}{e:Expr}{es:List Expr}{t:TA}{id T:String}{r:List V->Hp->VK->Prop}
def tCB(r:List V->Hp->VK->Prop)(t:TA):TE:=fun σ H Q=>t σ H fun vs H1=>r vs H1 Q
theorem ZjM(hc:Zbe X (.builtin id) r)(hg:Gl X x)(hm:X.mg x=none)(hv:bootBuiltins x=some (.builtin id))(ha:PA X (e :: es) t)(hn:x≠"__name__":=by decide)(hdb:(x == ("__debug__" : Str))=false:=by decide)
  (he:starEach (e :: es) X.env=(false,eval e X.env) :: starEach es X.env:=by rfl) (hpl:(backTo pos (starEach es X.env)).any (·.1)=false:=by rfl):PE X (.Call (.Name x p) (e :: es) [] pos) (tCB r t):=by
 intro pins s σ H Q I h;refine Wn (ZaE I hg hm hv ?_ hn hdb);exact Wv (thn (ha pos pins s σ H _ I h) fun us s1 ⟨vs,H1,I1,r1,q1⟩=>hc pins s1 σ H1 vs us Q I1 r1 q1) he hpl
theorem Zhn(hc:Zbe X (.type T) r)(hg:Gl X x)(hm:X.mg x=none)(hv:bootBuiltins x=some (.type T))(ha:PA X (e :: es) t)(hn:x≠"__name__":=by decide)(hdb:(x == ("__debug__" : Str))=false:=by decide)
  (he:starEach (e :: es) X.env=(false,eval e X.env) :: starEach es X.env:=by rfl) (hpl:(backTo pos (starEach es X.env)).any (·.1)=false:=by rfl):PE X (.Call (.Name x p) (e :: es) [] pos) (tCB r t):=by
 intro pins s σ H Q I h;refine Wn (ZaE I hg hm hv ?_ hn hdb);exact WG (thn (ha pos pins s σ H _ I h) fun us s1 ⟨vs,H1,I1,r1,q1⟩=>hc pins s1 σ H1 vs us Q I1 r1 q1) he hpl
end
end L2
namespace HT
open PySem PyProof.Rows
section
variable{prog:P7}{w:World}{A:P6}{E:P9->P1->Prop}{s:P1}
theorem cat_tup{t b:Addr}{vs ws:List P9}{Q:P9->P1->Prop}(ht:IsTup s.heap t vs.toArray)(hb:IsTup s.heap b ws.toArray)(hv:vs≠[])
  (h1:ws=[]->Q (.ref t) s) (h2:ws≠[]->Q (.ref s.heap.objs.size) { s with heap:=s.heap.push { cls:=.type "tuple",data:=.seq (vs++ws).toArray } })
  (hsz:vs.length+ws.length<=sizeLine):wpAny (model prog w) A (binaryOp .Add (.ref t) (.ref b)) Q E s:=by
 obtain⟨⟨cls,dd,data,sl⟩,ho,hc,n,hd⟩:=id ht;obtain⟨⟨cls2,dd2,data2,sl2⟩,ho2,hc2,n2,hd2⟩:=id hb;simp only at hc hd hc2 hd2;subst hc hd hc2 hd2;have e:vs.toArray++ws.toArray=(vs++ws).toArray:=by simp
 by_cases hw:ws=[]
 ·exact concat_meets ⟨_,ho,rfl⟩ ⟨_,ho2,rfl⟩ UM seq_tuple_add VT VJ (Vs _ _)
   (tuple_addW1 t b vs.toArray ws.toArray n n2 dd dd2 sl sl2 (by simpa using hv) (by simp[hw])) ⟨ho,ho2,h1 hw⟩
 ·refine concat_meets ⟨_,ho,rfl⟩ ⟨_,ho2,rfl⟩ UM seq_tuple_add VT VJ (Vs _ _)
   (tuple_addW2 t b vs.toArray ws.toArray n n2 dd dd2 sl sl2 (by simpa using hv) (by simpa using hw) (by rw[Yt,Yt]; exact hsz)) ⟨ho,ho2,?_⟩
  rw[e];exact h2 hw
def sIx(n d:Nat):Option Int->Nat
 | none=>d
 | some v=>if v<0 then (v+(n:Int)).toNat else min v.toNat n
theorem sIx_none(n d:Nat):sIx n d none=d:=rfl
theorem sIx_nat(n d k:Nat):sIx n d (some (k:Int))=min k n:=by
 show (if (k:Int)<0 then ((k:Int)+(n:Int)).toNat else min (k:Int).toNat n)=min k n;rw[Yh (by omega),Y4]
theorem Zp1(n d:Nat)(hd:d<=n)(o:Option Int):sIx n d o<=n:=by
 cases o with
 | none=>exact hd
 | some v =>
  show (if v<0 then (v+(n:Int)).toNat else min v.toNat n)<=n;by_cases hv:v<0
  ·rw[Yf hv]; omega
  ·rw[Yh hv]; exact Nat.min_le_right _ _
theorem Zhl(v:Int)(n d:Nat):(if v<0 then max (v+(n:Int)) 0 else min v (n:Int))=((sIx n d (some v):Nat):Int):=by
 show (if v<0 then max (v+(n:Int)) 0 else min v (n:Int))=(((if v<0 then (v+(n:Int)).toNat else min v.toNat n):Nat):Int);by_cases hv:v<0
 ·simp only[Yf hv]; omega
 ·simp only[Yh hv]; omega
theorem Zl5(lo hi:Option Int)(n:Nat):Builtin.Slice.sliceAdjust lo hi 1 (n:Int)=(((sIx n 0 lo:Nat):Int),((sIx n n hi:Nat):Int)):=by
 have h1:¬ ((1:Int)<0):=by omega
 unfold Builtin.Slice.sliceAdjust;simp only[h1,Y3];refine Prod.ext ?_ ?_
 ·cases lo with
  | none=>rfl
  | some v=>exact Zhl v n 0
 ·cases hi with
  | none=>rfl
  | some v=>exact Zhl v n n
theorem Znt(i j:Nat):Builtin.Slice.slicePlaces (i:Int) (j:Int) 1=j - i:=by
 unfold Builtin.Slice.slicePlaces;have h1:(1:Int) > 0:=by omega
 simp only[h1,Y9,Int.ediv_one];split <;> omega
theorem Zki{v:P9}{o:Option Int}{Q:Option Int->P1->Prop}(p:IsPart v o)(h:Q o s):wpAny (model prog w) A (Builtin.Slice.slicePartIndex v) Q E s:=by
 cases p with
 | none=>exact slicePart_none h
 | int i t=>exact slicePart_int h
theorem ZhC{sl:Addr}{vl vu:P9}{lo hi:Option Int}{n:Nat}{Q:Int×Int×Nat->P1->Prop}(hs:s.heap.IsSliceOf sl vl vu .none)(pl:IsPart vl lo)(pu:IsPart vu hi)
  (h:Q (((sIx n 0 lo:Nat):Int),1,sIx n n hi - sIx n 0 lo) s):wpAny (model prog w) A (Builtin.Slice.sliceApplied (.ref sl) (pure (n:Int))) Q E s:=by
 obtain⟨os,hos,hcs,hds⟩:=id hs;unfold Builtin.Slice.sliceApplied Builtin.Slice.sliceFields;refine Ya (Ya (WN hos hds (x:=vl) rfl (Ya (WN hos hds (x:=vu) rfl (Ya (WN hos hds (x:=.none) rfl (Yb ?_)))))));refine Ya (slicePart_none ?_);show wpAny _ _ (if ((1:Int) == 0)=true then _ else _) _ _ s;rw[Yh (by decide)];refine Ya (Zki pl (Ya (Zki pu (Ya (Yb ?_)))));show wpAny _ _ (match Builtin.Slice.sliceAdjust lo hi 1 (n:Int) with | (lo,hi)=>pure (lo,(1:Int),Builtin.Slice.slicePlaces lo hi 1)) _ _ s;rw[Zl5 lo hi n];show wpAny _ _ (pure (((sIx n 0 lo:Nat):Int),(1:Int),Builtin.Slice.slicePlaces ((sIx n 0 lo:Nat):Int) ((sIx n n hi:Nat):Int) 1)) _ _ s;rw[Znt];exact Yb h
theorem ZrZ(xs:Array P9)(i k:Nat):((List.range k).filterMap fun (m:Nat)=>xs[((i:Int)+(m:Int) * 1).toNat]?).toArray=((xs.toList.drop i).take k).toArray:=by
 have e:(fun (m:Nat)=>xs[((i:Int)+(m:Int) * 1).toNat]?)=fun m=>xs[i+m]?:=by
  funext m;have:((i:Int)+(m:Int) * 1).toNat=i+m:=by omega
  rw[this]
 rw[e];have:=pick_run xs i k;rw[Uq] at this;have e2:((fun x=>xs[x]?) ∘ fun x=>i+x)=fun m=>xs[i+m]?:=rfl;rw[e2] at this;rw[this]
theorem getItem_tuple_cut{t sl:Addr}{items:Array P9}{vl vu:P9}{lo hi:Option Int}{Q:P9->P1->Prop}(ht:IsTup s.heap t items)(hs:s.heap.IsSliceOf sl vl vu .none)(pl:IsPart vl lo)(pu:IsPart vu hi)
  (hw:¬ (sIx items.size 0 lo=0/\sIx items.size items.size hi=items.size))
  (h:Q (.ref s.heap.objs.size) { s with heap:=s.heap.push { cls:=.type "tuple",data:=.seq ((items.toList.drop (sIx items.size 0 lo)).take (sIx items.size items.size hi - sIx items.size 0 lo)).toArray } })
  (hsz:items.size<=sizeLine):wpAny (model prog w) A (getItem (.ref t) (.ref sl)) Q E s:=by
 have htake:sizeOk (.seq ((items.toList.drop (sIx items.size 0 lo)).take (sIx items.size items.size hi - sIx items.size 0 lo)).toArray):=by
  show ((items.toList.drop (sIx items.size 0 lo)).take (sIx items.size items.size hi - sIx items.size 0 lo)).toArray.size<=sizeLine;rw[Yt,Y8,Qf,Yq];omega
 have hj:sIx items.size items.size hi<=items.size:=Zp1 _ _ (Yj _) hi;obtain⟨os,hos,hcs,hds⟩:=id hs;have hTs:s.TypeIs (.ref sl) "slice":=⟨os,hos,hcs⟩;unfold getItem
 try with_reducible refine YM ?_
 first | refine Ya (Yb ?_) | skip
 refine Ya (wpAny_sequenceKey ht.typeIs (by decide) ?_);refine Ya (YY (name:=Str.ofString "__getitem__") ht.typeIs Wr
  (YE Wr ht.typeIs entry_tuple_getitem ?_ (args_tuple_getitem _ _)))
 show wpAny _ _ (Builtin.Tuple.tupleItemsOf (.ref t) >>= _) _ _ s;refine Ya (tupleItemsOf_ ht ?_);refine Ya (WM hTs ?_);rw[Yf (by decide)];refine Ya (ZhC hs pl pu ?_);have hno:¬ ((((sIx items.size 0 lo:Nat):Int) == 0 && (1:Int) == 1 && (sIx items.size items.size hi - sIx items.size 0 lo) == items.size)=true):=by
  intro q;rw[YJ,YJ] at q;have q1:((sIx items.size 0 lo:Nat):Int)=0:=eq_of_beq q.1.1;have q2:sIx items.size items.size hi - sIx items.size 0 lo=items.size:=eq_of_beq q.2;exact hw ⟨by omega,by omega⟩
 show wpAny _ _ (if (((sIx items.size 0 lo:Nat):Int) == 0 && (1:Int) == 1 && (sIx items.size items.size hi - sIx items.size 0 lo) == items.size)=true then _ else _) _ _ s;rw[Yh hno,ZrZ]
 first
  | exact Ya (m:=Builtin.Tuple.tupleExact _) (YV (Yb ⟨_,rfl,Yb h⟩) htake)
  | exact Ya (m:=Builtin.Tuple.tupleExact _) (YV (Ya (Yb (Yb ⟨_,rfl,Yb h⟩))) htake)
  | exact Ya (Ya (m:=Builtin.Tuple.tupleExact _) (YV (Yb (Yb ⟨_,rfl,Yb h⟩)) htake))
  | exact Ya (Ya (m:=Builtin.Tuple.tupleExact _) (YV (Yb ⟨_,rfl,Yb h⟩) htake))
end
end HT
namespace L2
open PySem PySem.Spec PyProof.Rows
noncomputable abbrev TO:=St->Hp->(Option Int->Hp->Prop)->Prop
def PO(X:Cx)(e:Option Expr)(t:TO):Prop :=
 ∀(pins:List (Addr×Obj)) (s:P1) (σ:St) (H:Hp) (Q:Option Int->Hp->Prop),Inv X pins σ H s->t σ H Q ->
  wpAny (model X.prog X.w) X.A (evalPart e X.env) (fun u s' => ∃o H',Inv X pins σ H' s'/\IsPart u o/\Q o H') X.xe s
def Zm3:TO:=fun _ H Q=>Q none H
def Zqm(t:TE):TO:=fun σ H Q=>t σ H fun x H1 => ∃i,x = .int i/\Q (some i) H1
section
variable{X:Cx}{e:Expr}{te:TE}{lo hi:Option Expr}{tl th:TO}{pos p2:Pos}
theorem Zsi:PO X none Zm3:=by
 intro pins s σ H Q I h;rw[evalPart_none];exact Yb ⟨none,H,I,.none,h⟩
theorem ZpV(h:PE X e te):PO X (some e) (Zqm te):=by
 intro pins s σ H Q I hw;rw[evalPart_some];refine thn (h pins s σ H _ I hw) fun u s1 ⟨x,H1,I1,r1,q1⟩ => ?_;obtain⟨i,rfl,q⟩:=q1;obtain⟨t,rfl⟩:=r1;exact⟨some i,H1,I1,.int i t,q⟩
def SlR(X:Cx)(r:V->Option Int->Option Int->Hp->VK->Prop):Prop :=
 ∀(pins:List (Addr×Obj)) (s:P1) (σ:St) (H:Hp) (x:V) (v vl vu:P9) (lo hi:Option Int) (sl:Addr) (Q:VK),Inv X pins σ H s->RelV x v->s.heap.IsSliceOf sl vl vu .none->IsPart vl lo->IsPart vu hi->r x lo hi H Q ->
  ∃T id,typeLookup (.type T) "__getitem__" = pure (some (.builtin id))/\s.TypeIs v T/\wpAny (model X.prog X.w) X.A (getItem v (.ref sl)) (EP X pins σ Q) X.xe s
def tSl(r:V->Option Int->Option Int->Hp->VK->Prop)(te:TE)(tl th:TO):TE:=fun σ H Q=>te σ H fun x H1=>tl σ H1 fun l H2=>th σ H2 fun u H3=>r x l u H3 Q
theorem Zg3{r:V->Option Int->Option Int->Hp->VK->Prop}(hr:SlR X r)(he:PE X e te)(hl:PO X lo tl)(hu:PO X hi th):PE X (.Subscript e (.Slice lo hi none p2) pos) (tSl r te tl th):=by
 intro pins s σ H Q I h;refine Subscript_ (thn (he pins s σ H _ I h) fun v s1 ⟨x,H1,I1,r1,q1⟩ => ?_);refine wpAny_Slice (thn (hl pins s1 σ H1 _ I1 q1) fun vl s2 ⟨l,H2,I2,pl,q2⟩=>thn (hu pins s2 σ H2 _ I2 q2) fun vu s3 ⟨u,H3,I3,pu,q3⟩ => ?_);rw[evalPart_none];refine Yb ?_;have I4:Inv X pins σ H3 { s3 with heap:=s3.heap.push { cls:=.type "slice",data:=.fields #[vl,vu,.none] } }:=I3.kept (t':=s3.toks) fun b ob q=>Yc _ q;obtain⟨T,id,hT,ht,hg⟩:=hr pins { s3 with heap:=s3.heap.push { cls:=.type "slice",data:=.fields #[vl,vu,.none] } } σ H3 x v vl vu l u s3.heap.objs.size Q I4 r1 (Heap.IsSliceOf.new ..) pl pu q3;show wpAny (model X.prog X.w) X.A (subscriptTail e (.Slice lo hi none p2) v (.ref s3.heap.objs.size)) (EP X pins σ Q) X.xe { s3 with heap:=s3.heap.push { cls:=.type "slice",data:=.fields #[vl,vu,.none] } };exact tail_any (ops:=[.ref s3.heap.objs.size,v]) ht hT hg (by with_unfolding_all rfl)
def ZbK(xs:List V)(lo hi:Option Int):List V:=(xs.drop (HT.sIx xs.length 0 lo)).take (HT.sIx xs.length xs.length hi - HT.sIx xs.length 0 lo)
theorem Zhw(xs:List V)(lo hi:Option Int):(ZbK xs lo hi).length<=xs.length:=by
 unfold ZbK;rw[Y8,Qf];omega
def Zq8(K:P5):V->Option Int->Option Int->Hp->VK->Prop:=fun x lo hi H Q => ∃a xs,x = .ref a/\SqT K H a xs /\
 ¬ (HT.sIx xs.length 0 lo=0/\HT.sIx xs.length xs.length hi=xs.length)/\∀p,H p=none->Q (.ref p) (upd H p (.tup (ZbK xs lo hi)))
theorem Zqb:SlR X (Zq8 X.K):=by
 intro pins s σ H x v vl vu lo hi sl Q I rx hs pl pu h;obtain⟨a,xs,rfl,hx,hw,q⟩:=h;cases rx;obtain⟨its,r,ht,hz⟩:=I.tuple hx;have hlen:its.toArray.size=xs.length:=by rw[Yt]; exact r.length.symm
 refine⟨"tuple",_,Wr.lookup,ht.typeIs,?_⟩;refine HT.getItem_tuple_cut ht hs pl pu (by rw[hlen]; exact hw) ?_ (by rw[hlen]; exact hz);rw[hlen];refine⟨.ref s.heap.objs.size,_,I.laid (t':=s.toks) (o:=.tup (ZbK xs lo hi)) (fun b ob q=>Yc _ q) (Yj _) ?_,rfl,q _ (I.hok.fresh (Yj _))⟩;exact⟨YL (Zhw xs lo hi) hz,_,(r.drop (HT.sIx xs.length 0 lo)).take (HT.sIx xs.length xs.length hi - HT.sIx xs.length 0 lo),IsTup.new _ _,fun o2 e2=>by rw[Yi _ rfl] at e2; cases e2; rfl⟩
def Zmy(K:P5):R2:=fun x y H Q => ∃a b xs ys,x = .ref a/\y = .ref b/\SqT K H a xs/\SqT K H b ys/\xs≠[]/\xs.length+ys.length<=sizeLine /\
 (ys=[]->Q (.ref a) H)/\(ys≠[]->∀p,H p=none->Q (.ref p) (upd H p (.tup (xs++ys))))
theorem Vals.nil_iff{xs:List V}{us:List P9}(r:Vals xs us):us=[] ↔ xs=[]:=by
 cases r with
 | nil=>simp
 | cons _ _=>simp
theorem ZpE:OpR X (binaryOp .Add) (Zmy X.K):=by
 intro pins s σ H x y v u Q I rx ry h;obtain⟨a,b,xs,ys,rfl,rfl,ha,hb,hx,hz,q1,q2⟩:=h;cases rx;cases ry;obtain⟨its,r1,p1,_⟩:=I.tuple ha;obtain⟨its2,r2,p2,_⟩:=I.tuple hb;refine HT.cat_tup p1 p2 (fun z=>hx (r1.nil_iff.mp z)) (fun z=>⟨.ref a,H,I,rfl,q1 (r2.nil_iff.mp z)⟩) (fun z => ?_) (by rw[<-r1.length,<-r2.length]; exact hz);refine⟨.ref s.heap.objs.size,_,I.laid (t':=s.toks) (o:=.tup (xs++ys)) (fun b ob q=>Yc _ q) (Yj _) ?_,rfl,q2 (fun w=>z (r2.nil_iff.mpr w)) _ (I.hok.fresh (Yj _))⟩;exact⟨by rw[YW]; exact hz,_,r1.append r2,IsTup.new _ _,fun o2 e2=>by rw[Yi _ rfl] at e2; cases e2; rfl⟩
end
def ixN(n:Nat)(i:Int):Option Nat:=if 0<=i then (if i<n then some i.toNat else none) else if -(n:Int)<=i then some (i+n).toNat else none
def atI{α:Type}(xs:List α)(i:Int):Option α:=(ixN xs.length i).bind fun j=>xs[j]?
theorem Zsa{n:Nat}{i:Int}{j:Nat}(h:ixN n i=some j):seqIndex? i n=some j/\j<n/\-(n:Int)<=i/\i<n:=by
 unfold ixN at h;by_cases h0:0<=i
 ·rw[Yf h0] at h;by_cases h1:i<n
  ·rw[Yf h1] at h;have e:i.toNat=j:=Option.some.inj h;exact⟨by rw[seqIndex_of h0 h1,e],by omega,by omega,h1⟩
  ·rw[Yh h1] at h; cases h
 ·rw[Yh h0] at h;by_cases h1 : -(n:Int)<=i
  ·rw[Yf h1] at h;have e:(i+n).toNat=j:=Option.some.inj h;exact⟨by rw[seqIndex_neg (by omega) h1,e],by omega,h1,by omega⟩
  ·rw[Yh h1] at h; cases h
theorem Zgu{α:Type}{xs:List α}{i:Int}{v:α}(h:atI xs i=some v):∃j,seqIndex? i xs.length=some j/\xs[j]?=some v/\j<xs.length/\-(xs.length:Int)<=i/\i<xs.length:=by
 unfold atI at h;cases e:ixN xs.length i with
 | none=>rw[e] at h; cases h
 | some j =>
  rw[e] at h;obtain⟨h1,h2,h3,h4⟩:=Zsa e;exact⟨j,h1,h,h2,h3,h4⟩
theorem ZhP{α:Type}{xs:List α}{j:Nat}{v:α}(h:xs[j]?=some v):atI xs (j:Int)=some v:=by
 have hj:j<xs.length:=(Yk.mp h).1;have e:ixN xs.length (j:Int)=some j:=by
  unfold ixN;rw[Yf (by omega),Yf (by omega)]; simp
 unfold atI; rw[e]; exact h
def Zju(b:Expr):Prop:=∀o i,subscripted b false o i=operate [o,i] (getItem o i)
def IxR(X:Cx)(r:R2):Prop :=
 ∀(value slice:Expr) (pins:List (Addr×Obj)) (s:P1) (σ:St) (H:Hp) (x y:V) (v u:P9) (Q:VK),Inv X pins σ H s->RelV x v->RelV y u->r x y H Q ->
  subscripted slice false v u=operate [v,u] (getItem v u)->wpAny (model X.prog X.w) X.A (subscriptTail value slice v u) (EP X pins σ Q) X.xe s
def MtR(X:Cx)(id:String)(r:V->List V->Hp->VK->Prop):Prop :=
 ∀(pins:List (Addr×Obj)) (s:P1) (σ:St) (H:Hp) (x:V) (xs:List V) (v:P9) (us:List P9) (Q:VK),Inv X pins σ H s->RelV x v->Vals xs us->r x xs H Q ->
  wpAny (model X.prog X.w) X.A (call (.builtin id) (v :: us)) (EP X pins σ Q) X.xe s
section
variable{X:Cx}{a b:Expr}{ta tb:TE}{pos:Pos}
theorem Zq6{r:R2}(hr:IxR X r)(ha:PE X a ta)(hb:PE X b tb)(hs:Zju b):PE X (.Subscript a b pos) (tOp r ta tb):=by
 intro pins s σ H Q I h;exact Subscript_ (ZgQ ha hb I h fun v u s2 x y H2 I2 rx ry q=>hr a b pins s2 σ H2 x y v u Q I2 rx ry q (hs _ _))
def ZnA(K:P5):R2:=fun x y H Q => ∃p xs i v,x = .ref p/\y = .int i/\SqL K H p xs/\atI xs i=some v/\Q v H
def ZoU(K:P5):R2:=fun x y H Q => ∃p xs i v,x = .ref p/\y = .int i/\SqT K H p xs/\atI xs i=some v/\Q v H
def Zqq:R2:=fun x y H Q => ∃z i c,x = .str z/\y = .int i/\z.length<=sizeLine/\atI z.cps.toList i=some c/\Q (.str ⟨#[c]⟩) H
theorem ZnQ:IxR X (ZnA X.K):=by
 intro value slice pins s σ H x y v u Q I rx ry h hs;obtain⟨p,xs,i,z,rfl,rfl,hq,he,q⟩:=h;cases rx;obtain⟨t,rfl⟩:=ry;obtain⟨its,r,pl,hz⟩:=I.list hq;obtain⟨j,h1,h2,h3,h4,h5⟩:=Zgu he;obtain⟨w,ew,rw'⟩:=r.get h2;have hl:=r.length;have hn:=Zc3;have fin:EP X pins σ Q w s:=⟨z,H,I,rw',q⟩;by_cases h0:0<=i
 ·have hj:i.toNat=j:=by
   rw[seqIndex_of h0 h5] at h1;exact Option.some.inj h1
  exact item_listR pl.isList h0 (by omega) (by rw[hj]; simpa using ew) fin hs
 ·have hj:(i+(its.toArray.size:Int)).toNat=j:=by
   rw[seqIndex_neg (by omega) h4] at h1;rw[Yt,<-hl];exact Option.some.inj h1
  exact subscriptTail_builtinR (x:=w) pl.isList.typeIs slot_list_getitem.lookup
   (wpAny_getItem_list_neg (Q:=fun r s'=>r=w/\EP X pins σ Q r s') pl.isList (by omega) (by rw[Yt] <;> omega) (by omega) (by rw[hj]; simpa using ew) ⟨rfl,fin⟩) hs
theorem Zmf:IxR X (ZoU X.K):=by
 intro value slice pins s σ H x y v u Q I rx ry h hs;obtain⟨p,xs,i,z,rfl,rfl,hq,he,q⟩:=h;cases rx;obtain⟨t,rfl⟩:=ry;obtain⟨its,r,pl,hz⟩:=I.tuple hq;obtain⟨j,h1,h2,h3,h4,h5⟩:=Zgu he;obtain⟨w,ew,rw'⟩:=r.get h2;have hl:=r.length;have hn:=Zc3;have fin:EP X pins σ Q w s:=⟨z,H,I,rw',q⟩;exact subscriptTail_builtinR (x:=w) pl.typeIs slot_tuple_getitem.lookup
  (getItem_tuple (j:=j) (Q:=fun r s'=>r=w/\EP X pins σ Q r s') pl (by omega) (by omega) (by rw[Yt,<-hl]; exact h1) (by simpa using ew) ⟨rfl,fin⟩) hs
theorem Zmo:IxR X Zqq:=by
 intro value slice pins s σ H x y v u Q I rx ry h hs;obtain⟨z,i,c,rfl,rfl,hz,he,q⟩:=h;obtain⟨t,rfl⟩:=rx;obtain⟨t',rfl⟩:=ry;obtain⟨j,h1,h2,h3,h4,h5⟩:=Zgu he;have hl:z.cps.toList.length=z.length:=by simp[Str.length]
 rw[hl] at h1 h4 h5;have hn:=Zc3;exact tail_any (typeIs_str s z t) slot_str_getitem.lookup (getItem_str (c:=c) (by
  have e1:decide (i < -(2 ^ 63:Int))=false:=YS (by omega);have e2:decide (i ≥ 2 ^ 63)=false:=YS (by omega);rw[e1,e2,Bool.or_false]) (by rw[h1]; simpa using h2) ⟨.str ⟨#[c]⟩,H,I.tok _,⟨_,rfl⟩,q⟩) hs
theorem Zl4(lo hi:Option Int)(n:Nat):(sliceBounds lo hi none n).1=((HT.sIx n 0 lo:Nat):Int)/\(sliceBounds lo hi none n).2.1=((HT.sIx n n hi:Nat):Int)/\(sliceBounds lo hi none n).2.2=1:=by
 refine⟨?_,?_,rfl⟩
 ·cases lo with
  | none=>simp[sliceBounds,HT.sIx]
  | some i =>
   simp only[sliceBounds,HT.sIx,Option.getD_none,show (1:Int) > 0 by decide,Y9];by_cases h:i<0
   ·simp only[h,Y9] <;> omega
   ·simp only[h,Y3] <;> omega
 ·cases hi with
  | none=>simp[sliceBounds,HT.sIx]
  | some i =>
   simp only[sliceBounds,HT.sIx,Option.getD_none,show (1:Int) > 0 by decide,Y9];by_cases h:i<0
   ·simp only[h,Y9] <;> omega
   ·simp only[h,Y3] <;> omega
theorem Zml(its:List P9)(lo hi:Option Int):slicePick its.toArray lo hi none=((its.drop (HT.sIx its.length 0 lo)).take (HT.sIx its.length its.length hi - HT.sIx its.length 0 lo)).toArray:=by
 obtain⟨h1,h2,h3⟩:=Zl4 lo hi its.toArray.size;unfold slicePick;rw[h1,h2,h3];simp only[sliceRange_one,pick_run,Yt] <;> rfl
def Zrb(K:P5):V->Option Int->Option Int->Hp->VK->Prop:=fun x lo hi H Q => ∃a xs,x = .ref a/\SqL K H a xs/\∀p,H p=none->Q (.ref p) (upd H p (.lst (ZbK xs lo hi)))
theorem Zpa:SlR X (Zrb X.K):=by
 intro pins s σ H x v vl vu lo hi sl Q I rx hs pl pu h;obtain⟨a,xs,rfl,hx,q⟩:=h;cases rx;obtain⟨its,r,ht,hz⟩:=I.list hx;have hlen:=r.length;refine⟨"list",_,slot_list_getitem.lookup,ht.isList.typeIs,?_⟩;refine wpAny_getItem_list_slice ht.isList hs pl pu .none (by simp) ?_ (by rw[Yt] <;> omega);rw[Zml,<-hlen];refine⟨.ref s.heap.objs.size,_,I.laid (t':=s.toks) (o:=.lst (ZbK xs lo hi)) (fun b ob q=>Yc _ q) (Yj _) ?_,rfl,q _ (I.hok.fresh (Yj _))⟩;exact⟨YL (Zhw xs lo hi) hz,_,0,(r.drop (HT.sIx xs.length 0 lo)).take (HT.sIx xs.length xs.length hi - HT.sIx xs.length 0 lo),Yi _ rfl⟩
theorem ZqE:Zbe X (.builtin "len") (fun xs H Q => ∃p ys,xs=[.ref p]/\(SqL X.K H p ys\/SqT X.K H p ys)/\Q (.int ys.length) H):=by
 intro pins s σ H xs us Q I r h;obtain⟨p,ys,rfl,hq,q⟩:=h;obtain⟨u,rfl,rx⟩:=vals1 r;cases rx;have hn:=Zc3;rcases hq with hq | hq
 ·obtain⟨its,r',pl,hz⟩:=I.list hq;have hlen:=r'.length;exact Calls.call_len_list pl.isList (by simp only[Yt] <;> omega) ⟨.int ys.length,H,I.tok _,⟨s.toks+1,by rw[Yt,hlen]⟩,q⟩
 ·obtain⟨its,r',pl,hz⟩:=I.tuple hq;have hlen:=r'.length;exact len_tuple pl (by simp only[Yt] <;> omega) ⟨.int ys.length,H,I.tok _,⟨s.toks+1,by rw[Yt,hlen]⟩,q⟩
theorem Zli:Zbe X (.builtin "len") (fun xs H Q => ∃z,xs=[.str z]/\z.length<=sizeLine/\Q (.int z.length) H):=by
 intro pins s σ H xs us Q I r h;obtain⟨z,rfl,hz,q⟩:=h;obtain⟨u,rfl,t,rfl⟩:=vals1 r;have hn:=Zc3;exact len_str (by omega) ⟨.int z.length,H,I.tok _,⟨_,rfl⟩,q⟩
theorem ZlS:Zbe X (.type "list") (fun xs H Q => ∃p ys,xs=[.ref p]/\(SqL X.K H p ys\/SqT X.K H p ys)/\∀l,H l=none->Q (.ref l) (upd H l (.lst ys))):=by
 intro pins s σ H xs us Q I r h;obtain⟨p,ys,rfl,hq,q⟩:=h;obtain⟨u,rfl,rx⟩:=vals1 r;cases rx;have fin:∀(its:List P9),Vals ys its->ys.length<=sizeLine->∀(h':Heap) (c':Nat),(∀b o',s.heap.get? b=some o'->h'.get? b=some o') ->
   h'.get? s.heap.objs.size=some { cls:=.type "list",dict:=none,data:=.seq its.toArray c',slots:=#[] }->EP X pins σ Q (.ref s.heap.objs.size) { s with heap:=h' }:=fun its r' hz h' c' kp e =>
  ⟨.ref s.heap.objs.size,_,I.laid (t':=s.toks) kp (Yj _) (show ObjOk X.prog X.w _ h' _ (.lst ys) from⟨hz,its,c',r',e⟩),rfl,q _ (I.hok.fresh (Yj _))⟩
 rcases hq with hq | hq
 ·obtain⟨its,r',pl,hz⟩:=I.list hq;have hlen:=r'.length;obtain⟨o,ho,hc,n,hd⟩:=pl.isList;exact call_list_seq p (.inl rfl) ho hc hd (fun h' c' kp e=>fin its r' hz h' c' kp e) (by simp only[Yt] <;> omega)
 ·obtain⟨its,r',pl,hz⟩:=I.tuple hq;have hlen:=r'.length;obtain⟨o,ho,hc,n,hd⟩:=pl;exact call_list_seq p (.inr rfl) ho hc hd (fun h' c' kp e=>fin its r' hz h' c' kp e) (by simp only[Yt] <;> omega)
theorem Ziy:Zbe X (.type "tuple") (fun xs H Q => ∃p ys,xs=[.ref p]/\((SqL X.K H p ys/\∀l,H l=none->Q (.ref l) (upd H l (.tup ys)))\/(SqT X.K H p ys/\Q (.ref p) H))):=by
 intro pins s σ H xs us Q I r h;obtain⟨p,ys,rfl,h⟩:=h;obtain⟨u,rfl,rx⟩:=vals1 r;cases rx;rcases h with⟨hq,q⟩ | ⟨hq,q⟩
 ·obtain⟨its,r',pl,hz⟩:=I.list hq;have hlen:=r'.length;refine call_tuple_list pl.isList (fun h' kp => ?_) (by simp only[Yt] <;> omega);have I1:Inv X pins σ H { s with heap:=h' }:=I.kept (t':=s.toks) kp;have I2:Inv X pins σ (upd H h'.objs.size (.tup ys)) { s with heap:=h'.push { cls:=.type "tuple",data:=.seq its.toArray } } :=
   I1.laid (t':=s.toks) (fun b o e=>Yc _ e) (Yj _) (show ObjOk X.prog X.w _ _ _ (.tup ys) from⟨hz,its,r',IsTup.new _ _,fun o2 e2=>by rw[Yi _ rfl] at e2; cases e2; rfl⟩)
  exact⟨.ref h'.objs.size,_,I2,rfl,q _ (I1.hok.fresh (Yj _))⟩
 ·obtain⟨its,r',pl,hz⟩:=I.tuple hq;exact call_tuple_same pl ⟨.ref p,H,I,rfl,q⟩
def tyV(K:P5)(T:String)(x:V)(H:Hp):Prop:=match x with
 | .str _=>T = "str"
 | .int _=>T = "int"
 | .ref p=>(T = "list"/\∃xs,SqL K H p xs)\/(T = "tuple"/\∃o,K.lookup p=some o/\o.cls = .type "tuple"/\o.dict=none) \/
   (T = "dict"/\((∃kvs,H p=some (.dK kvs))\/∃kvs,H p=some (.dT kvs)))\/(T = "set"/\∃S n,H p=some (.set S n))
 | _=>False
theorem ZnU{pins:List (Addr×Obj)}{σ:St}{H:Hp}{s:P1}{T:String}{x:V}{v:P9}(I:Inv X pins σ H s)(r:RelV x v)(ty:tyV X.K T x H) :
  s.TypeIs v T/\∀a,v = .ref a->∃ob,s.heap.get? a=some ob/\ob.dict=none:=by
 cases x with
 | str z =>
  obtain⟨t,rfl⟩:=r;cases (show T = "str" from ty);exact⟨typeIs_str s z t,fun _ e=>nomatch e⟩
 | int i =>
  obtain⟨t,rfl⟩:=r;cases (show T = "int" from ty);exact⟨typeIs_int s i t,fun _ e=>nomatch e⟩
 | ref p =>
  cases r;rcases ty with⟨rfl,xs,hq⟩ | ⟨rfl,o,hk,hc,hd⟩ | ⟨rfl,hk⟩ | ⟨rfl,S,n,hk⟩
  ·obtain⟨its,_,pl,_⟩:=I.list hq;refine⟨pl.isList.typeIs,fun a e => ?_⟩;cases e;obtain⟨o,n,e,c,hd,_⟩:=pl;exact⟨o,e,hd⟩
  ·refine⟨⟨o,I.kIn p o hk,hc⟩,fun a e => ?_⟩;cases e;exact⟨o,I.kIn _ o hk,hd⟩
  ·have z:∃o,s.heap.get? p=some o/\o.ExactDict:=by
    rcases hk with⟨kvs,hk⟩ | ⟨kvs,hk⟩
    ·obtain⟨_,_,_,_,o,_,_,e,ex,_⟩:=I.hok p _ hk;exact⟨o,e,ex⟩
    ·obtain⟨_,_,_,_,o,_,_,e,ex,_⟩:=I.hok p _ hk;exact⟨o,e,ex⟩
   obtain⟨o,e,ex⟩:=z;refine⟨⟨o,e,ex.1⟩,fun a e2 => ?_⟩;cases e2;exact⟨o,e,ex.2.1⟩
  ·obtain⟨o,_,_,_,e,ex,_⟩:=I.hok p _ hk;refine⟨⟨o,e,ex.1⟩,fun a e2 => ?_⟩;cases e2;exact⟨o,e,ex.2.1⟩
 | _=>exact False.elim ty
def tBM(K:P5)(T:String)(r:V->List V->Hp->VK->Prop)(to:TE)(t:TA):TE:=fun σ H Q=>to σ H fun x H1=>tyV K T x H1/\t σ H1 fun xs H2=>r x xs H2 Q
variable{o e:Expr}{es:List Expr}{to:TE}{t:TA}{name:Str}{apos cpos:Pos}{T id:String}{r:V->List V->Hp->VK->Prop}
theorem Zjr(pa:PlainAttrs T)(slot:Slot T name id)(hty:typeOf (.builtin id)=pure (.type "method_descriptor"))(hm:MtR X id r)(ho:PE X o to)(ha:PA X (e :: es) t)
  (hbase:attributeBase o name X.env (eval o X.env)=eval o X.env:=by rfl)
  (hfew:((backTo cpos (starEach (e :: es) X.env)).all (fun x => !x.1) && (backToKw cpos (keywordEach [] X.env)).all (fun x=>x.1.isSome)
   && decide ((e :: es).length+([]:List Keyword).length+(if ([]:List Keyword).isEmpty then 0 else 1)<30))=true:=by rfl)
  (hline:(apos.endLine == cpos.line)=true:=by rfl) (hs:starEach (e :: es) X.env=(false,eval e X.env) :: starEach es X.env:=by rfl) (hplain:(backTo cpos (starEach es X.env)).any (·.1)=false:=by rfl) :
  PE X (.Call (.Attribute o name apos) (e :: es) [] cpos) (tBM X.K T r to t):=by
 intro pins s σ H Q I h;refine wpAny_Call_method_late hbase hfew hline rfl (thn (ho pins s σ H _ I h) fun v s1 ⟨x,H1,I1,r1,ty,q1⟩ => ?_);obtain⟨h1,h2⟩:=ZnU I1 r1 ty;refine⟨T,id,pa,slot,hty,h1,h2,?_⟩;have hA:=ha cpos pins s1 σ H1 _ I1 q1;rw[hs] at hA ⊢;refine QX (by show (false || (backTo cpos (starEach es X.env)).any (·.1))=false; rw[hplain] <;> rfl) (Calls.evalArgs_plain ?_);exact thn hA fun us s2 ⟨vs,H2,I2,r2,q2⟩=>hm pins s2 σ H2 x vs v us Q I2 r1 r2 q2
/- xs.append(e), list.index on a module's tuple .. are MtR facts of 06m -/
end
def MtM(X:Cx)(id:String)(r:V->List V->Hp->VK->Prop):Prop :=
 ∀(pins:List (Addr×Obj)) (s:P1) (σ:St) (H:Hp) (x:V) (xs:List V) (v:P9) (us:List P9) (Q:VK),Inv X pins σ H s->RelV x v->Vals xs us->r x xs H Q ->
  wpAny (model X.prog X.w) X.A (call (.builtin id) (v :: us)) (EP X pins σ Q) X.xe s
theorem Vals.one:∀{x:V} {us:List P9},Vals [x] us->∃u,us=[u]/\RelV x u
 | _,_,.cons r .nil=>⟨_,rfl,r⟩
section
variable{X:Cx}{pins:List (Addr×Obj)}{σ:St}{H:Hp}{s:P1}{l b:Addr}{xs ys zs:List V}
theorem Inv.lset{its its':List P9}{n:Nat}{f:Array P9->Array P9}{t':Nat}(I:Inv X pins σ H s)(hH:H l=some (.lst xs))
  (e:s.heap.get? l=some { cls:=.type "list",data:=.seq its.toArray n }) (hf:f its.toArray=its'.toArray) (hv:Vals ys its') (hz:ys.length<=sizeLine) :
  Inv X pins σ (upd H l (.lst ys)) { s with heap:=s.heap.update l (Obj.mapSeq f),toks:=t' }:=by
 have q:=PySem.IsL.update e f;rw[hf] at q;refine I.write (x:=l) (e:=l) (by rw[hH]; exact trivial) (.inl rfl) (fun b' u hb hu=>(Qc s.heap (Obj.mapSeq f) (YX hb)).trans hu) ⟨_,q⟩ ?_;exact⟨hz,its',_,hv,q⟩
theorem Inv.lnew{its:List P9}{t':Nat}(I:Inv X pins σ H s)(hv:Vals ys its)(hz:ys.length<=sizeLine) :
  Inv X pins σ (upd H s.heap.objs.size (.lst ys)) { s with heap:=s.heap.push { cls:=.type "list",data:=.seq its.toArray },toks:=t' } :=
 I.laid (fun _ _ q=>Yc _ q) (Yj _) ⟨hz,its,0,hv,Yi _ rfl⟩
theorem Inv.fresh(I:Inv X pins σ H s):H s.heap.objs.size=none:=I.hok.fresh (Yj _)
theorem Inv.lstM(I:Inv X pins σ H s)(hH:H l=some (.lst xs)):xs.length<=sizeLine/\∃(its:List P9) (n:Nat),Vals xs its/\xs.length=its.length/\s.heap.get? l=some { cls:=.type "list",data:=.seq its.toArray n }:=by
 obtain⟨z,its,n,r,e⟩:=I.hok l _ hH;exact⟨z,its,n,r,r.length,e⟩
end
section
variable{X:Cx}
def ZpC:V->List V->Hp->VK->Prop:=fun x vs H Q => ∃l xs y,x = .ref l/\vs=[y]/\H l=some (.lst xs)/\xs.length<sizeLine/\Q .non (upd H l (.lst (xs++[y])))
theorem ZoG:MtM X "list.append" ZpC:=by
 intro pins s σ H x vs v us Q I rx rv h;obtain⟨l,xs,y,rfl,rfl,hH,hz,q⟩:=h;cases rx;obtain⟨u,rfl,ru⟩:=rv.one;obtain⟨z,its,n,r,hl,e⟩:=I.lstM hH;refine call_meets F.slot_list_append ⟨_,e,rfl⟩ F.entry_list_append (F.args_list_append_2 _ _) (PySem.list_append l its.toArray n u (by rw[Yt]; omega)) ⟨e,?_⟩;refine⟨.non,_,I.lset (its':=its++[u]) hH e (by simp) (r.append (.cons ru .nil)) ?_,rfl,q⟩;rw[YW,V4];omega
def Zqu:R2:=fun x y H Q => ∃l b xs zs,x = .ref l/\y = .ref b/\H l=some (.lst xs)/\H b=some (.lst zs)/\xs.length+zs.length<=sizeLine/\∀p,H p=none->Q (.ref p) (upd H p (.lst (xs++zs)))
theorem ZrA:OpR X (binaryOp .Add) Zqu:=by
 intro pins s σ H x y v u Q I rx ry h;obtain⟨l,b,xs,zs,rfl,rfl,hH,hB,hz,q⟩:=h;cases rx;cases ry;obtain⟨z,its,n,r,hl,e⟩:=I.lstM hH;obtain⟨z2,its2,n2,r2,hl2,e2⟩:=I.lstM hB;refine PySem.P.add_list e e2 ?_ (by rw[Yt,Yt]; omega);have ea:its.toArray++its2.toArray=(its++its2).toArray:=by simp
 rw[ea];exact⟨.ref _,_,I.lnew (t':=s.toks) (r.append r2) (by rw[YW]; omega),rfl,q _ I.fresh⟩
end
end L2
namespace Att
open PySem PySem.W PySem.Calls PyProof.Rows
theorem ZlG{P:Params}{h:Heap}:∀(ns:List Int) (vs:List P9),WellAll P h vs (ns.map WData.int)->IntsAre vs ns:=by
 intro ns
 induction ns with
 | nil =>
  intro vs w;rw[Q5] at w;cases w;exact .nil
 | cons n ns ih =>
  intro vs w;rw[Yn] at w;cases w with
  | cons a b =>
   cases a;exact .cons _ _ (ih _ b)
theorem ZoD{l:OpenLaw}{n:Nat}(hn:l.most=some n){P:Params}{h:Heap}{args:List WData}{vals:List P9}
  (hpre:l.row.toRowW.claim.pre args=true) (hwl:WellAll P h vals args) :
  ∃a vs ns,vals=[Value.ref a]/\args=[WData.list (ns.map WData.int)]/\h.get? a=some { cls:=.type "list",data:=.seq vs.toArray }/\IntsAre vs ns/\ns.length<=n:=by
 have hsh:WShape.hasAll [] args [.list .int]=true:=(pre_splitW hpre).1;have hc:l.pre.holds [] { args:=args }=true:=(pre_splitW hpre).2;obtain⟨d,r,rfl,h1,h2⟩:=hasAllW_cons hsh;obtain rfl:=hasAllW_nil h2;obtain⟨xs,rfl,h3⟩:=hasW_list h1;obtain⟨ns,rfl⟩:=items_int h3;have hlen:ns.length<=n:=by
  unfold OpenLaw.pre at hc;have h4:(WTm.not (.lt (.lit (.int (n:Int))) (.len (.arg 0)))).holds [] { args:=[.list (ns.map .int)] }=true:=by
   have h4:=(holds_andW hc).1;rw[hn] at h4;exact h4
  have h5:=condW_of h4 (w_not (w_lt w_lit (w_len_list (w_arg rfl))));rw[Ym] at h5;refine Nat.le_of_not_lt fun q => ?_;have q':(n:Int)<((ns.length:Nat):Int):=by omega
  first
   | (rw[YN q'] at h5; exact absurd h5 (by decide))
   | (simp at h5; omega)
 cases hwl with
 | cons w1 w2 =>
  cases w2;cases w1 with
  | list ho hall=>exact⟨_,_,ns,rfl,rfl,ho,ZlG ns _ hall,hlen⟩
theorem ZrD(l:OpenLaw)(args:List WData):l.row.toRowW.claim.post args (.bool true) args=true :=
 postW_of (r:=l.row.toRowW) (X:=(true == true))
  (show WShape.has [] (.bool true) .bool=true by first | rfl | decide | simp[WShape.has,WShape.arms,WShape.armsAll])
  (show (WTm.eq .res (.lit (.bool true))).value [] { args:=args,res:=some (.bool true),after:=args }=some (.bool (true == true)) from w_eq_bool (w_res rfl) w_lit) rfl
theorem attach_call{l:OpenLaw}{n:Nat}{q:P7}{loose:List Str}{XP:(Str->Option P9)->Heap->Prop}{YP:World->Heap->Prop}{d:DefRec}
  (hn:l.most=some n) (hdf:d.params.defaults=[])
  (call:∀(w:World) (s₀ s₁:P1) (mg mb:Str->Option P9) (fa:Addr) (o:Obj) (pm cd doc:P9) (a:Addr) (vs:List P9) (ns:List Int),
   Ground q loose [] XP w s₀ mg mb s₁.heap->YP w s₁.heap ->
   s₁.heap.get? fa=some o->o.data = .func (docDef d.name d.params d.body d.scope pm cd doc)->s₁.heap.CodeRec cd d.name->mg d.name=some (.ref fa) ->
   s₁.heap.get? a=some { cls:=.type "list",data:=.seq vs.toArray }->IntsAre vs ns->ns.length<=n->s₁.gens = #[] ->
   codeAny (model l.prog w) callerA (.call (.ref fa) ⟨[.ref a],[]⟩) (fun r s'=>r = .ok (.ret (.bool true))/\OldK s₁.heap s'.heap/\s'.os=s₁.os/\AllBare s'.gens) s₁) :
  WalkO q loose XP YP l.row.toRowW d [] (fun f vs=>PySem.call f vs):=by
 intro w s₀ s₁ mg mb G Y fa o pm cd doc dV kV ho hd hcd hD hmg hg args vals as hpre hlay hrd hwl hlo;obtain rfl:dV = .none:=Dflts.none hD hdf;obtain rfl:kV = .none:=Dflts.noKw hD;obtain⟨a,vs,ns,rfl,rfl,hobj,hints,hlen⟩:=ZoD hn hpre hwl;refine enter_call (V9 (call w s₀ s₁ mg mb fa o pm cd doc a vs ns G Y ho (fd_plain hd) hcd hmg hobj hints hlen hg) fun r s' hq => ?_);obtain⟨rfl,h2,h3,h4⟩:=hq;exact⟨.inl ⟨.bool true,.bool true,[],rfl,fun _=>rfl,.bool true,ZrD l _,fun _=>⟨List.Pairwise.nil,fun _ hm=>(nomatch hm)⟩⟩,h2,h3,h4⟩
end Att
namespace L2
open PySem PySem.Spec PyProof.Rows
theorem Zde:∀{vs:List P9} {ns:List Int},IntsAre vs ns->Vals (ns.map V.int) vs
 | _,_,.nil => .nil
 | _,_,.cons n t h => .cons ⟨t,rfl⟩ (Zde h)
end L2
/- THE LAST THEOREM (shape; LID, My.* are yours):
   My.Adr: a structure of the addresses that your layer names (classes,functions); My.Txt K t: a structure (Prop) of the equations over K;
   My.txt_mk:{K} {implicit addresses ..} (e1:nsIn K mainGlobals "law" = some (some (.ref f))) (e2:K.lookup f=some ⟨oc,od,.func (fnOf "law" "law" params body scope dV kV doc pm an cdv ct),sl⟩) (e3:codeIn K cdv "law" = true) .. : ∃t,My.Txt K t
set_option maxRecDepth 100000 in
theorem PySem.Challenge.cw_LID_holds : PySem.Challenge.rw_LID.Holds := by
 w_on; o_law; k_head; (case hw=>w_witness2)
 k_fill
 refine L2.walk_of (l:=PySem.Challenge.rw_LID) (n:=63) (k:=40) (x:="script") (CX:=fun w => ..) (sp:=fun _=>My.sp_law) rfl (by decide) rfl ⟨rfl,by decide,by decide⟩ (fun w h Y=>PySem.W.kIn_of Y) ?F ?S ?C
 case F =>
  intro w mg fa h KX G hmg;have T:∃t,My.Txt (L2.KOf KX) t:=by
   dsimp only [L2.KOf]                          -- K must stand as «<heap const> w.params» for k_is
   refine' My.txt_mk ?e1 ?e2 ?e3 ..
   (case e1 => PySem.W.k_is)                    -- in the order: a name -> its address -> its object -> its parts
   (case e2=>PySem.W.k_is)
   ..
  obtain ⟨t,T⟩:=T;have e0:=hmg.symm.trans (Wc KX G T.law);cases e0                                       -- fa is the law's own address
  exact ⟨_, fun s u => .of_eq rfl, fun base kb nb => My.law_fn T kb nb⟩     -- if «.of_eq rfl» comes too early: refine' ⟨_, ?b, fun base kb nb => My.law_fn T kb nb⟩; exact fun s u => .of_eq rfl
 case S=>exact fun w H a ns hl hO hS => ..
 case C=>exact ..
(the tactic k_is has no namespace: write k_is) -/
namespace L2
open PySem PySem.Spec PyProof.Rows
def Z4(s:Stmt):Arguments:=match s with
 | .FunctionDef _ a _ _ _ _ _ _ _ _=>a
 | _ => { posonlyargs:=[],args:=[],vararg:=none,kwonlyargs:=[],kw_defaults:=[],kwarg:=none,defaults:=[] }
def Zt(s:Stmt):List Stmt:=match s with
 | .FunctionDef _ _ b _ _ _ _ _ _ _=>b
 | _=>[]
def Ze(s:Stmt):Scope:=match s with
 | .FunctionDef _ _ _ _ _ _ sc _ _ _=>sc
 | _ => { kind:=.function,names:=[],isGenerator:=false,isCoroutine:=false }
noncomputable abbrev CX0:CXT:=fun _ _ _ _ _ _=>False
structure Fun(K:P5)(x qual:Str)(st:Stmt)(f:Addr)(fd:P8):Prop where
 ex:∃(oc:P9) (od:Option Addr) (kV doc pm:P9) (an:Option Addr) (cdv ct:P9) (osl:Array (Option P9)),
  fd=PySem.W.fnOf x qual (Z4 st) (Zt st) (Ze st) .none kV doc pm an cdv ct/\K.lookup f=some ⟨oc,od,.func fd,osl⟩/\PySem.W.codeIn K cdv qual=true
 kp:PySem.W.keepIn K (.ref f)=true
section
variable{P:P7}{w:World}{K:P5}{mg:Str->Option P9}{base:Heap}
theorem Fun.ok{x qual:Str}{st:Stmt}{f:Addr}{fd:P8}{N ps:List Str}{k:Nat}{sp:Sp}(F:Fun K x qual st f fd)(S:FnScope N ps (Ze st))(len:∀vs H Q E,sp vs H Q E->vs.length=ps.length)
  (hbody:∀(cdv:P9) (A:P6) (outer:List Env) (s:P1) (H:Hp) (vs:List V) (Q:VK) (E:XK),Room k (A.deeper (envOfC qual (Ze st) s.heap.objs.size f cdv))->sp vs H Q E ->
   ∃t,PSs (ZJ CX0 P w K mg base N qual (Ze st) f cdv A outer s H E).nox (Zt st) t/\t { nx:=fun _ H'=>Q .non H',rt:=Q } (start N vs) H):FnOk P w K mg base CX0 (k+1) f fd ps sp:=by
 obtain⟨oc,od,kV,doc,pm,an,cdv,ct,osl,rfl,lk,hcd⟩:=F.ex;refine Zhx lk hcd S len fun A outer s H vs Q E hr hsp => ?_;obtain⟨t,h,q⟩:=hbody cdv A outer s H vs Q E hr hsp;exact⟨t,h.nox,q⟩
theorem Fun.binds{x qual:Str}{st:Stmt}{f:Addr}{fd:P8}{ps:List Str}(F:Fun K x qual st f fd)
  (h:∀(kV doc pm:P9) (an:Option Addr) (cdv ct:P9) (us:List P9),us.length=ps.length->bindArgs (PySem.W.fnOf x qual (Z4 st) (Zt st) (Ze st) .none kV doc pm an cdv ct) ⟨us,[]⟩=pure (ps.zip us)):Binds K fd ps []:=by
 obtain⟨oc,od,kV,doc,pm,an,cdv,ct,osl,rfl,lk,hcd⟩:=F.ex;exact .all (h kV doc pm an cdv ct)
theorem Zaq{x qual:Str}{st:Stmt}{f:Addr}{oc:P9}{od an:Option Addr}{osl:Array (Option P9)}{kV doc pm cdv ct:P9}(l:K.lookup f=some ⟨oc,od,.func (PySem.W.fnOf x qual (Z4 st) (Zt st) (Ze st) .none kV doc pm an cdv ct),osl⟩)
  (c:PySem.W.codeIn K cdv qual=true) (k:PySem.W.keepIn K (.ref f)=true):Fun K x qual st f (PySem.W.fnOf x qual (Z4 st) (Zt st) (Ze st) .none kV doc pm an cdv ct):=⟨⟨oc,od,kV,doc,pm,an,cdv,ct,osl,rfl,l,c⟩,k⟩
end
end L2
section
namespace DL
open PySem PySem.Spec PyProof.Rows L2
inductive D where
 | non | bl (b:Bool) | int (i:Int) | str (x:Str) | tup (xs:List D) | lst (xs:List D) | scr (xs:List D) | res (i:Nat) | exv (C:Addr)
inductive S where
 | lst (xs:List D)
 | ins (C:Addr) (fs:List (Str×D))
 | dct (kvs:List (D×D))
 | dtt (kvs:List (D×D))
 | fdc (kvs:List (D×D))
 | fdt (o:Obj) (kvs:List (D×D))
 | tab (P:Addr) (b:Bool)
noncomputable abbrev Sto:=List S
noncomputable abbrev Ev:=List (Option D)
inductive Out(α:Type) where
 | ok (a:α) (st:Sto)
 | exc (c:Addr) (st:Sto)
 | bad
def Out.bind{α β:Type}(r:Out α)(k:α->Sto->Out β):Out β:=match r with
 | .ok a st=>k a st
 | .exc c st => .exc c st
 | .bad => .bad
theorem Zil{α:Type}{l:List α}(hl:l.Nodup){i j:Nat}{x:α}(a:l[i]?=some x)(b:l[j]?=some x):i=j:=by
 obtain⟨h1,e1⟩:=Yk.mp a;obtain⟨h2,e2⟩:=Yk.mp b;have hp:=WT.mp hl;rcases Nat.lt_trichotomy i j with h | h | h
 ·exact absurd (e1.trans e2.symm) (hp i j h1 h2 h)
 ·exact h
 ·exact absurd (e2.trans e1.symm) (hp j i h2 h1 h)
def ExcO(a C:Addr):Heap->Prop:=fun h => ∃o vs,h.get? a=some o/\o.cls = .ref C/\o.data = .fields vs
theorem ExcO.inj{a C C':Addr}{h:Heap}(x:ExcO a C h)(y:ExcO a C' h):C=C':=by
 obtain⟨o,_,e,c,_⟩:=x;obtain⟨o',_,e',c',_⟩:=y;rw[e] at e';cases e';rw[c] at c';exact Value.ref.inj c'
section
variable(K:P5)
def SqF(H:Hp)(a:Addr)(vs:List V):Prop :=
 (∃o,H a=some (.frz o (.lst vs)))\/∃(o:Obj) (its:Array P9) (n:Nat),K.lookup a=some o/\o.cls = .type "list"/\o.dict=none/\o.data = .seq its n/\its.size<=sizeLine/\Vals vs its.toList
mutual
def Rep(O:List Addr)(H:Hp):D->V->Prop
 | .non,v=>v = .non
 | .bl b,v=>v = .bl b
 | .int i,v=>v = .int i
 | .str x,v=>v = .str x
 | .tup ds,v => ∃a vs,v = .ref a/\H a=some (.tup vs)/\Reps O H ds vs
 | .lst ds,v => ∃a vs,v = .ref a/\a ∉ O/\H a=some (.lst vs)/\Reps O H ds vs
 | .scr ds,v => ∃a vs,v = .ref a/\SqF K H a vs/\Reps O H ds vs
 | .res i,v => ∃a,v = .ref a/\O[i]?=some a
 | .exv C,v => ∃a,v = .ref a/\H a=some (.ext (ExcO a C))
def Reps(O:List Addr)(H:Hp):List D->List V->Prop
 | [],vs=>vs=[]
 | d :: ds,vs => ∃v r,vs=v :: r/\Rep O H d v/\Reps O H ds r
end
def Flds(O:List Addr)(H:Hp):List (Str×D)->List (Str×V)->Prop
 | [],vs=>vs=[]
 | (x,d) :: ds,vs => ∃v r,vs=(x,v) :: r/\Rep K O H d v/\Flds O H ds r
def Zx:D->Option Key
 | .int i=>some (.inl i)
 | .str x=>some (.inr x)
 | _=>none
def Za5:List D->Option (List Key)
 | []=>some []
 | d :: ds=>match Zx d,Za5 ds with
  | some k,some ks=>some (k :: ks)
  | _,_=>none
def Zo:D->Option (List Key)
 | .tup ds=>Za5 ds
 | _=>none
def Kvs{κ:Type}(f:D->Option κ)(O:List Addr)(H:Hp):List (D×D)->List (κ×V)->Prop
 | [],vs=>vs=[]
 | (k,d) :: ds,vs => ∃q v r,vs=(q,v) :: r/\f k=some q/\Rep K O H d v/\Kvs f O H ds r
def RepS(O:List Addr)(H:Hp)(a:Addr):S->Prop
 | .dct ds => ∃vs,H a=some (.dK vs)/\Kvs K Zx O H ds vs
 | .dtt ds => ∃vs,H a=some (.dT vs)/\Kvs K Zo O H ds vs
 | .fdc ds => ∃o vs,H a=some (.frz o (.dK vs))/\Kvs K Zx O H ds vs
 | .fdt o ds => ∃vs,H a=some (.frz o (.dT vs))/\Kvs K Zo O H ds vs
 | .lst ds => ∃vs,H a=some (.lst vs)/\Reps K O H ds vs
 | .ins C fs => ∃dx vfs,H a=some (.ins C dx vfs)/\Flds K O H fs vfs
 | .tab P b=>a=P/\∃ps,H a=some (.tbl ps)/\(b=false->ps = #[])
structure WR(O:List Addr)(H:Hp)(st:Sto):Prop where
 len:O.length=st.length
 nd:O.Nodup
 at_:∀(i:Nat) (a:Addr) (s:S),O[i]?=some a->st[i]?=some s->RepS K O H a s
structure Keep(O:List Addr)(H:Hp)(O':List Addr)(H':Hp):Prop where
 tup:∀a vs,H a=some (.tup vs)->H' a=some (.tup vs)
 lst:∀a vs,a ∉ O->H a=some (.lst vs)->a ∉ O'/\H' a=some (.lst vs)
 frz:∀a vs,SqF K H a vs->SqF K H' a vs
 pre:∀(i:Nat) (a:Addr),O[i]?=some a->O'[i]?=some a
 exv:∀a C,H a=some (.ext (ExcO a C))->H' a=some (.ext (ExcO a C))
end
section
variable{K:P5}{O O1 O2 O':List Addr}{H H1 H2 H':Hp}{st st':Sto}
theorem SqF.sq{a:Addr}{vs:List V}(h:SqF K H a vs):SqL K H a vs:=by
 rcases h with⟨o,h⟩ | h
 ·exact .inl (.inr ⟨o,h⟩)
 ·exact .inr h
theorem SqF.of{a:Addr}{vs:List V}(h:SqL K H a vs)(hn:H a≠some (.lst vs)):SqF K H a vs:=by
 rcases h with (h | ⟨o,h⟩) | h
 ·exact absurd h hn
 ·exact .inl ⟨o,h⟩
 ·exact .inr h
theorem Keep.refl:Keep K O H O H:=⟨fun _ _ h=>h,fun _ _ n h=>⟨n,h⟩,fun _ _ h=>h,fun _ _ h=>h,fun _ _ h=>h⟩
theorem Keep.trans(a:Keep K O H O1 H1)(b:Keep K O1 H1 O2 H2):Keep K O H O2 H2 :=
 ⟨fun x vs h=>b.tup x vs (a.tup x vs h),fun x vs n h=>let ⟨n1,h1⟩:=a.lst x vs n h; b.lst x vs n1 h1,fun x vs h=>b.frz x vs (a.frz x vs h),fun i x h=>b.pre i x (a.pre i x h),fun x C h=>b.exv x C (a.exv x C h)⟩
mutual
theorem Rep.mono(k:Keep K O H O' H'):∀(d:D) (v:V),Rep K O H d v->Rep K O' H' d v
 | .non,_,h=>by unfold Rep at h ⊢; exact h
 | .bl _,_,h=>by unfold Rep at h ⊢; exact h
 | .int _,_,h=>by unfold Rep at h ⊢; exact h
 | .str _,_,h=>by unfold Rep at h ⊢; exact h
 | .tup ds,v,h=>by
  unfold Rep at h ⊢;obtain⟨a,vs,e,q,r⟩:=h;exact⟨a,vs,e,k.tup _ _ q,Reps.mono k ds vs r⟩
 | .lst ds,v,h=>by
  unfold Rep at h ⊢;obtain⟨a,vs,e,n,q,r⟩:=h;exact⟨a,vs,e,(k.lst _ _ n q).1,(k.lst _ _ n q).2,Reps.mono k ds vs r⟩
 | .scr ds,v,h=>by
  unfold Rep at h ⊢;obtain⟨a,vs,e,q,r⟩:=h;exact⟨a,vs,e,k.frz _ _ q,Reps.mono k ds vs r⟩
 | .res i,v,h=>by
  unfold Rep at h ⊢;obtain⟨a,e,q⟩:=h;exact⟨a,e,k.pre _ _ q⟩
 | .exv C,v,h=>by
  unfold Rep at h ⊢;obtain⟨a,e,q⟩:=h;exact⟨a,e,k.exv _ _ q⟩
theorem Reps.mono(k:Keep K O H O' H'):∀(ds:List D) (vs:List V),Reps K O H ds vs->Reps K O' H' ds vs
 | [],_,h=>by unfold Reps at h ⊢; exact h
 | d :: ds,vs,h=>by
  unfold Reps at h ⊢;obtain⟨v,r,e,q,t⟩:=h;exact⟨v,r,e,Rep.mono k d v q,Reps.mono k ds r t⟩
end
theorem Kvs.mono{κ:Type}{f:D->Option κ}(k:Keep K O H O' H'):∀(ds:List (D×D)) (vs:List (κ×V)),Kvs K f O H ds vs->Kvs K f O' H' ds vs
 | [],_,h=>by unfold Kvs at h ⊢; exact h
 | (x,d) :: ds,vs,h=>by
  unfold Kvs at h ⊢;obtain⟨q,v,r,e,z,y,t⟩:=h;exact⟨q,v,r,e,z,Rep.mono k d v y,Kvs.mono k ds r t⟩
theorem Flds.mono(k:Keep K O H O' H'):∀(ds:List (Str×D)) (vs:List (Str×V)),Flds K O H ds vs->Flds K O' H' ds vs
 | [],_,h=>by unfold Flds at h ⊢; exact h
 | (x,d) :: ds,vs,h=>by
  unfold Flds at h ⊢;obtain⟨v,r,e,q,t⟩:=h;exact⟨v,r,e,Rep.mono k d v q,Flds.mono k ds r t⟩
theorem Rep.non_i{v:V}:Rep K O H .non v ↔ v = .non:=by unfold Rep; exact Q6
theorem Rep.bl_i{b:Bool}{v:V}:Rep K O H (.bl b) v ↔ v = .bl b:=by unfold Rep; exact Q6
theorem Rep.int_i{i:Int}{v:V}:Rep K O H (.int i) v ↔ v = .int i:=by unfold Rep; exact Q6
theorem Rep.str_i{x:Str}{v:V}:Rep K O H (.str x) v ↔ v = .str x:=by unfold Rep; exact Q6
theorem Rep.tup_i{ds:List D}{v:V}:Rep K O H (.tup ds) v ↔ ∃a vs,v = .ref a/\H a=some (.tup vs)/\Reps K O H ds vs:=by unfold Rep; exact Q6
theorem Rep.lst_i{ds:List D}{v:V}:Rep K O H (.lst ds) v ↔ ∃a vs,v = .ref a/\a ∉ O/\H a=some (.lst vs)/\Reps K O H ds vs:=by unfold Rep; exact Q6
theorem Rep.scr_i{ds:List D}{v:V}:Rep K O H (.scr ds) v ↔ ∃a vs,v = .ref a/\SqF K H a vs/\Reps K O H ds vs:=by unfold Rep; exact Q6
theorem Rep.res_i{i:Nat}{v:V}:Rep K O H (.res i) v ↔ ∃a,v = .ref a/\O[i]?=some a:=by unfold Rep; exact Q6
theorem Rep.exv_i{C:Addr}{v:V}:Rep K O H (.exv C) v ↔ ∃a,v = .ref a/\H a=some (.ext (ExcO a C)):=by unfold Rep; exact Q6
theorem Reps.nil_i{vs:List V}:Reps K O H [] vs ↔ vs=[]:=by unfold Reps; exact Q6
theorem Reps.cons_i{d:D}{ds:List D}{vs:List V}:Reps K O H (d :: ds) vs ↔ ∃v r,vs=v :: r/\Rep K O H d v/\Reps K O H ds r:=by
 constructor
 ·intro h; unfold Reps at h; exact h
 ·intro h; unfold Reps; exact h
theorem Reps.length:∀{ds:List D} {vs:List V},Reps K O H ds vs->ds.length=vs.length
 | [],_,h=>by rw[Reps.nil_i] at h; subst h; rfl
 | d :: ds,vs,h=>by
  obtain⟨v,r,rfl,_,t⟩:=Reps.cons_i.mp h;rw[Yw,Yw,Reps.length t]
theorem Reps.get:∀{ds:List D} {vs:List V} {i:Nat} {d:D},Reps K O H ds vs->ds[i]?=some d->∃v,vs[i]?=some v/\Rep K O H d v
 | [],_,i,d,_,e=>by simp at e
 | x :: ds,vs,0,d,h,e=>by
  obtain⟨v,r,rfl,q,_⟩:=Reps.cons_i.mp h;simp at e; subst e;exact⟨v,rfl,q⟩
 | x :: ds,vs,i+1,d,h,e=>by
  obtain⟨v,r,rfl,_,t⟩:=Reps.cons_i.mp h;obtain⟨u,e1,q⟩:=Reps.get (i:=i) (d:=d) t (by simpa using e);exact⟨u,by simpa using e1,q⟩
theorem Reps.append:∀{ds es:List D} {vs us:List V},Reps K O H ds vs->Reps K O H es us->Reps K O H (ds++es) (vs++us)
 | [],_,_,_,h,k=>by rw[Reps.nil_i] at h; subst h; exact k
 | d :: ds,es,vs,us,h,k=>by
  obtain⟨v,r,rfl,q,t⟩:=Reps.cons_i.mp h;exact Reps.cons_i.mpr ⟨v,r++us,rfl,q,Reps.append t k⟩
theorem Reps.take:∀{ds:List D} {vs:List V} (n:Nat),Reps K O H ds vs->Reps K O H (ds.take n) (vs.take n)
 | ds,vs,0,_=>by rw[VC,VC]; exact Reps.nil_i.mpr rfl
 | [],vs,n+1,h=>by rw[Reps.nil_i] at h; subst h; exact Reps.nil_i.mpr rfl
 | d :: ds,vs,n+1,h=>by
  obtain⟨v,r,rfl,q,t⟩:=Reps.cons_i.mp h;exact Reps.cons_i.mpr ⟨v,r.take n,rfl,q,Reps.take n t⟩
theorem Reps.drop:∀{ds:List D} {vs:List V} (n:Nat),Reps K O H ds vs->Reps K O H (ds.drop n) (vs.drop n)
 | ds,vs,0,h=>by rw[VD,VD]; exact h
 | [],vs,n+1,h=>by rw[Reps.nil_i] at h; subst h; exact Reps.nil_i.mpr rfl
 | d :: ds,vs,n+1,h=>by
  obtain⟨v,r,rfl,q,t⟩:=Reps.cons_i.mp h;exact Reps.drop n t
theorem Reps.set{d:D}{v:V}(q:Rep K O H d v):∀{ds:List D} {vs:List V} (n:Nat),Reps K O H ds vs->Reps K O H (ds.set n d) (vs.set n v)
 | [],vs,n,h=>by rw[Reps.nil_i] at h; subst h; exact Reps.nil_i.mpr rfl
 | x :: ds,vs,0,h=>by
  obtain⟨u,r,rfl,_,t⟩:=Reps.cons_i.mp h;exact Reps.cons_i.mpr ⟨v,r,rfl,q,t⟩
 | x :: ds,vs,n+1,h=>by
  obtain⟨u,r,rfl,q',t⟩:=Reps.cons_i.mp h;exact Reps.cons_i.mpr ⟨u,r.set n v,rfl,q',Reps.set q n t⟩
theorem Reps.one{d:D}{v:V}(q:Rep K O H d v):Reps K O H [d] [v]:=Reps.cons_i.mpr ⟨v,[],rfl,q,Reps.nil_i.mpr rfl⟩
def isS:HO->Bool
 | .lst _=>true
 | .ins _ _ _=>true
 | .dK _=>true
 | .dT _=>true
 | .frz _ (.dK _)=>true
 | .frz _ (.dT _)=>true
 | .tbl _=>true
 | _=>false
theorem Zf9{a p:Addr}{o:HO}{vs:List V}(h:H a=some (.tup vs))(hp:H p=none\/∃o,H p=some o/\isS o=true):upd H p o a=some (.tup vs):=by
 rw[Zh]
 ·exact h
 ·rintro rfl;rcases hp with q | ⟨u,q,z⟩
  ·rw[q] at h; cases h
  ·rw[q] at h; cases h; cases z
theorem ZgV{a p:Addr}{o:HO}{vs:List V}(h:SqF K H a vs)(hp:H p=none\/∃o,H p=some o/\isS o=true):SqF K (upd H p o) a vs:=by
 rcases h with⟨ob,h⟩ | h
 ·refine .inl ⟨ob,?_⟩;rw[Zh]
  ·exact h
  ·rintro rfl;rcases hp with q | ⟨u,q,z⟩
   ·rw[q] at h; cases h
   ·rw[q] at h; cases h; cases z
 ·exact .inr h
theorem Keep.laid{p:Addr}{o:HO}(hp:H p=none):Keep K O H O (upd H p o) :=
 ⟨fun _ _ h=>Zf9 h (.inl hp),fun a vs n h=>⟨n,by rw[Zh (ZG h hp)]; exact h⟩,fun _ _ h=>ZgV h (.inl hp),fun _ _ h=>h,fun a C h=>by rw[Zh (ZG h hp)]; exact h⟩
theorem RepS.mono'(k:Keep K O H O' H'){a:Addr}(e:H' a=H a):∀{s:S},RepS K O H a s->RepS K O' H' a s
 | .lst ds,h=>by
  obtain⟨vs,q,r⟩:=h;exact⟨vs,by rw[e]; exact q,Reps.mono k _ _ r⟩
 | .ins C fs,h=>by
  obtain⟨dx,vs,q,r⟩:=h;exact⟨dx,vs,by rw[e]; exact q,Flds.mono k _ _ r⟩
 | .dct ds,h=>by
  obtain⟨vs,q,r⟩:=h;exact⟨vs,by rw[e]; exact q,Kvs.mono k _ _ r⟩
 | .dtt ds,h=>by
  obtain⟨vs,q,r⟩:=h;exact⟨vs,by rw[e]; exact q,Kvs.mono k _ _ r⟩
 | .fdc ds,h=>by
  obtain⟨o,vs,q,r⟩:=h;exact⟨o,vs,by rw[e]; exact q,Kvs.mono k _ _ r⟩
 | .fdt o ds,h=>by
  obtain⟨vs,q,r⟩:=h;exact⟨vs,by rw[e]; exact q,Kvs.mono k _ _ r⟩
 | .tab P b,h=>by
  obtain⟨z,ps,q,r⟩:=h;exact⟨z,ps,by rw[e]; exact q,r⟩
theorem RepS.some_of{a:Addr}:∀{s:S},RepS K O H a s->∃o,H a=some o/\isS o=true
 | .lst ds,⟨vs,q,_⟩=>⟨_,q,rfl⟩
 | .ins C fs,⟨dx,vs,q,_⟩=>⟨_,q,rfl⟩
 | .dct ds,⟨vs,q,_⟩=>⟨_,q,rfl⟩
 | .dtt ds,⟨vs,q,_⟩=>⟨_,q,rfl⟩
 | .fdc ds,⟨_,vs,q,_⟩=>⟨_,q,rfl⟩
 | .fdt o ds,⟨vs,q,_⟩=>⟨_,q,rfl⟩
 | .tab P b,⟨_,ps,q,_⟩=>⟨_,q,rfl⟩
theorem WR.some_of(W:WR K O H st){i:Nat}{a:Addr}(h:O[i]?=some a):∃o,H a=some o/\isS o=true:=by
 have hi:i<st.length:=by rw[<-W.len]; exact (Yk.mp h).1
 exact (W.at_ i a st[i] h (Yd hi)).some_of
theorem WR.ne(W:WR K O H st){i:Nat}{a p:Addr}(h:O[i]?=some a)(hp:H p=none):a≠p:=by
 rintro rfl;obtain⟨_,q,_⟩:=W.some_of h;rw[hp] at q;cases q
theorem WR.laid(W:WR K O H st){p:Addr}{o:HO}(hp:H p=none):WR K O (upd H p o) st :=
 ⟨W.len,W.nd,fun i a s h1 h2=>(W.at_ i a s h1 h2).mono' (Keep.laid hp) (by rw[Zh (W.ne h1 hp)])⟩
theorem Keep.push{p:Addr}{o:HO}(hp:H p=none):Keep K O H (O++[p]) (upd H p o) :=
 ⟨fun _ _ h=>Zf9 h (.inl hp),fun a vs n h=>⟨fun hm=>by
   rcases Wu.mp hm with q | q
   ·exact n q
   ·rw[YC] at q; exact ZG h hp q,by rw[Zh (ZG h hp)]; exact h⟩,
  fun _ _ h=>ZgV h (.inl hp),fun i a h=>by rw[Wf (Yk.mp h).1]; exact h,fun a C h=>by rw[Zh (ZG h hp)]; exact h⟩
theorem WR.push'(W:WR K O H st){p:Addr}{o:HO}{s:S}(hp:H p=none)(hs:RepS K (O++[p]) (upd H p o) p s):WR K (O++[p]) (upd H p o) (st++[s]):=by
 refine⟨by simp[W.len],?_,fun i a s' h1 h2 => ?_⟩
 ·refine Qq.mpr ⟨W.nd,by simp,fun a ha b hb => ?_⟩;rw[YC] at hb;subst hb;obtain⟨i,hi⟩:=WW.mp ha;exact W.ne hi hp
 ·by_cases hi:i<O.length
  ·rw[Wf hi] at h1;rw[Wf (by rw[<-W.len]; exact hi)] at h2;exact (W.at_ i a s' h1 h2).mono' (Keep.push hp) (by rw[Zh (W.ne h1 hp)])
  ·rw[Ws (by omega)] at h1;rw[Ws (by rw[<-W.len]; omega)] at h2;rw[<-W.len] at h2;have e0:i - O.length=0:=by
    have:=(Yk.mp h1).1;simp at this;omega
   rw[e0] at h1 h2;simp at h1 h2;subst h1 h2;exact hs
theorem WR.push(W:WR K O H st){p:Addr}{ds:List D}{vs:List V}(hp:H p=none)(r:Reps K O H ds vs):WR K (O++[p]) (upd H p (.lst vs)) (st++[.lst ds]) :=
 W.push' hp ⟨vs,ZH,Reps.mono (Keep.push hp) _ _ r⟩
theorem Zlp{p:Addr}{st:Sto}(e:O.length=st.length):Rep K (O++[p]) H' (.res st.length) (.ref p):=by
 rw[Rep.res_i];exact⟨p,rfl,by rw[<-e,Ws (Yj _)]; simp⟩
theorem Keep.write(W:WR K O H st){i:Nat}{a:Addr}{o:HO}(h:O[i]?=some a):Keep K O H O (upd H a o):=by
 have q:=W.some_of h;refine⟨fun _ _ z=>Zf9 z (.inr q),fun b vs n z=>⟨n,?_⟩,fun _ _ z=>ZgV z (.inr q),fun _ _ z=>z,fun b C z => ?_⟩
 ·rw[Zh]
  ·exact z
  ·rintro rfl;exact n (Y2 h)
 ·rw[Zh]
  ·exact z
  ·rintro rfl;obtain⟨_,q,y⟩:=q;rw[z] at q;cases q;cases y
theorem WR.write(W:WR K O H st){i:Nat}{a:Addr}{o:HO}{s:S}(h:O[i]?=some a)(hs:RepS K O (upd H a o) a s):WR K O (upd H a o) (st.set i s):=by
 refine⟨by rw[Qy]; exact W.len,W.nd,fun j b s' h1 h2 => ?_⟩;by_cases hj:i=j
 ·subst hj;rw[h] at h1;cases h1;have hi:i<st.length:=by rw[<-W.len]; exact (Yk.mp h).1
  rw[Qa hi] at h2;cases h2;exact hs
 ·rw[WJ hj] at h2;refine (W.at_ j b s' h1 h2).mono' (Keep.write W h) ?_;rw[Zh];rintro rfl;exact hj (Zil W.nd h h1)
theorem WR.writeL(W:WR K O H st){i:Nat}{a:Addr}{ds:List D}{vs:List V}(h:O[i]?=some a)(r:Reps K O H ds vs):WR K O (upd H a (.lst vs)) (st.set i (.lst ds)) :=
 W.write h ⟨vs,ZH,Reps.mono (Keep.write W h) _ _ r⟩
def Zp(st:Sto):D->Option (List D)
 | .lst xs=>some xs
 | .scr xs=>some xs
 | .res i=>match st[i]? with
  | some (.lst xs)=>some xs
  | _=>none
 | _=>none
def ZaG(st:Sto):D->Option (List D)
 | .lst xs=>some xs
 | .res i=>match st[i]? with
  | some (.lst xs)=>some xs
  | _=>none
 | _=>none
theorem rdO(W:WR K O H st){d:D}{v:V}{ds:List D}(r:Rep K O H d v)(e:ZaG st d=some ds):∃a vs,v = .ref a/\H a=some (.lst vs)/\Reps K O H ds vs:=by
 cases d with
 | lst xs =>
  rw[Rep.lst_i] at r;obtain⟨a,vs,rfl,_,q,t⟩:=r;simp only[ZaG,Yx] at e;subst e;exact⟨a,vs,rfl,q,t⟩
 | res i =>
  rw[Rep.res_i] at r;obtain⟨a,rfl,q⟩:=r;have hi:i<st.length:=by rw[<-W.len]; exact (Yk.mp q).1
  have z:=W.at_ i a st[i] q (Yd hi);simp only[ZaG,Yd hi] at e;cases hs:st[i] with
  | lst xs =>
   rw[hs] at e z;simp only[Yx] at e;subst e;obtain⟨vs,z1,z2⟩:=z;exact⟨a,vs,rfl,z1,z2⟩
  | _=>rw[hs] at e; cases e
 | _=>cases e
theorem rdL(W:WR K O H st){d:D}{v:V}{ds:List D}(r:Rep K O H d v)(e:Zp st d=some ds):∃a vs,v = .ref a/\SqL K H a vs/\Reps K O H ds vs:=by
 cases d with
 | scr xs =>
  rw[Rep.scr_i] at r;obtain⟨a,vs,rfl,q,t⟩:=r;simp only[Zp,Yx] at e;subst e;exact⟨a,vs,rfl,q.sq,t⟩
 | lst xs =>
  obtain⟨a,vs,h1,h2,h3⟩:=rdO W r (show ZaG st (.lst xs)=some ds from e);exact⟨a,vs,h1,SqL.of h2,h3⟩
 | res i =>
  obtain⟨a,vs,h1,h2,h3⟩:=rdO W r (show ZaG st (.res i)=some ds from e);exact⟨a,vs,h1,SqL.of h2,h3⟩
 | _=>cases e
section
variable{X:Cx}{pins:List (Addr×Obj)}{σ:L2.St}{s:P1}
theorem Zbq(I:Inv X pins σ H s){a:Addr}{o:Obj}(h:X.K.lookup a=some o):H a=none:=(I.bs a o (I.ok.mod.kin a o h)).2
end
end
end DL
end
section
namespace DL
open PySem PySem.Spec PyProof.Rows L2
def Ans(A:P6)(s:P1)(u w:P9)(k:Bool):Prop:=SeqAt.EqAt A s u w k/\SeqAt.RcAt A s u w k/\SeqAt.RcNeAt A s u w (!k)
section
variable{A:P6}{s:P1}
theorem Zk1:Ans A s .none .none true:=⟨SeqAt.EqAt.same _,SeqAt.RcAt.none_none,SeqAt.RcNeAt.none_none⟩
theorem Zq7{b2:Bool}:Ans A s .none (.bool b2) false:=⟨SeqAt.EqAt.none_bool _,SeqAt.RcAt.none_bool _,SeqAt.RcNeAt.none_bool _⟩
theorem ZmM{i2:Int}{t2:Tok}:Ans A s .none (.int i2 t2) false:=⟨SeqAt.EqAt.none_int _ _,SeqAt.RcAt.none_int _ _,SeqAt.RcNeAt.none_int _ _⟩
theorem ZnD{x2:Str}{t2:Tok}:Ans A s .none (.str x2 t2) false:=⟨SeqAt.EqAt.none_str _ _,SeqAt.RcAt.none_str _ _,SeqAt.RcNeAt.none_str _ _⟩
theorem Zor{a2:Addr}{its2:Array P9}(z2:s.heap.IsTuple a2 its2)(hu:A.units<cLine):Ans A s .none (.ref a2) false:=⟨SeqAt.EqAt.none_tuple z2 hu,SeqAt.RcAt.none_tuple z2 hu,SeqAt.RcNeAt.none_tuple z2 hu⟩
theorem Zlh{a2:Addr}{its2:Array P9}(z2:s.heap.IsList a2 its2)(hu:A.units<cLine):Ans A s .none (.ref a2) false:=⟨SeqAt.EqAt.none_list z2 hu,SeqAt.RcAt.none_list z2 hu,SeqAt.RcNeAt.none_list z2 hu⟩
theorem ZoM{b1:Bool}:Ans A s (.bool b1) .none false:=⟨SeqAt.EqAt.bool_none _,SeqAt.RcAt.bool_none _,SeqAt.RcNeAt.bool_none _⟩
theorem Zla{b1:Bool}{b2:Bool}:Ans A s (.bool b1) (.bool b2) (b1 == b2):=⟨SeqAt.EqAt.bool_bool _ _,SeqAt.RcAt.bool_bool _ _,SeqAt.RcNeAt.bool_bool _ _⟩
theorem Zk4{b1:Bool}{i2:Int}{t2:Tok}:Ans A s (.bool b1) (.int i2 t2) ((if b1 then 1 else 0) == i2):=⟨SeqAt.EqAt.bool_int _ _ _,SeqAt.RcAt.bool_int _ _ _,SeqAt.RcNeAt.bool_int _ _ _⟩
theorem Znj{b1:Bool}{x2:Str}{t2:Tok}:Ans A s (.bool b1) (.str x2 t2) false:=⟨SeqAt.EqAt.bool_str _ _ _,SeqAt.RcAt.bool_str _ _ _,SeqAt.RcNeAt.bool_str _ _ _⟩
theorem ZlA{b1:Bool}{a2:Addr}{its2:Array P9}(z2:s.heap.IsTuple a2 its2)(hu:A.units<cLine):Ans A s (.bool b1) (.ref a2) false:=⟨SeqAt.EqAt.bool_tuple _ z2 hu,SeqAt.RcAt.bool_tuple _ z2 hu,SeqAt.RcNeAt.bool_tuple _ z2 hu⟩
theorem Zrg{b1:Bool}{a2:Addr}{its2:Array P9}(z2:s.heap.IsList a2 its2)(hu:A.units<cLine):Ans A s (.bool b1) (.ref a2) false:=⟨SeqAt.EqAt.bool_list _ z2 hu,SeqAt.RcAt.bool_list _ z2 hu,SeqAt.RcNeAt.bool_list _ z2 hu⟩
theorem ZqK{i1:Int}{t1:Tok}:Ans A s (.int i1 t1) .none false:=⟨SeqAt.EqAt.int_none _ _,SeqAt.RcAt.int_none _ _,SeqAt.RcNeAt.int_none _ _⟩
theorem ZoV{i1:Int}{t1:Tok}{b2:Bool}:Ans A s (.int i1 t1) (.bool b2) (i1 == (if b2 then 1 else 0)):=⟨SeqAt.EqAt.int_bool _ _ _,SeqAt.RcAt.int_bool _ _ _,SeqAt.RcNeAt.int_bool _ _ _⟩
theorem Zoi{i1:Int}{t1:Tok}{i2:Int}{t2:Tok}:Ans A s (.int i1 t1) (.int i2 t2) (i1 == i2):=⟨SeqAt.EqAt.int_int _ _ _ _,SeqAt.RcAt.int_int _ _ _ _,SeqAt.RcNeAt.int_int _ _ _ _⟩
theorem Zn9{i1:Int}{t1:Tok}{x2:Str}{t2:Tok}:Ans A s (.int i1 t1) (.str x2 t2) false:=⟨SeqAt.EqAt.int_str _ _ _ _,SeqAt.RcAt.int_str _ _ _ _,SeqAt.RcNeAt.int_str _ _ _ _⟩
theorem Zlo{i1:Int}{t1:Tok}{a2:Addr}{its2:Array P9}(z2:s.heap.IsTuple a2 its2)(hu:A.units<cLine):Ans A s (.int i1 t1) (.ref a2) false:=⟨SeqAt.EqAt.int_tuple _ _ z2 hu,SeqAt.RcAt.int_tuple _ _ z2 hu,SeqAt.RcNeAt.int_tuple _ _ z2 hu⟩
theorem ZlJ{i1:Int}{t1:Tok}{a2:Addr}{its2:Array P9}(z2:s.heap.IsList a2 its2)(hu:A.units<cLine):Ans A s (.int i1 t1) (.ref a2) false:=⟨SeqAt.EqAt.int_list _ _ z2 hu,SeqAt.RcAt.int_list _ _ z2 hu,SeqAt.RcNeAt.int_list _ _ z2 hu⟩
theorem Zqy{x1:Str}{t1:Tok}:Ans A s (.str x1 t1) .none false:=⟨SeqAt.EqAt.str_none _ _,SeqAt.RcAt.str_none _ _,SeqAt.RcNeAt.str_none _ _⟩
theorem Zqn{x1:Str}{t1:Tok}{b2:Bool}:Ans A s (.str x1 t1) (.bool b2) false:=⟨SeqAt.EqAt.str_bool _ _ _,SeqAt.RcAt.str_bool _ _ _,SeqAt.RcNeAt.str_bool _ _ _⟩
theorem Zl7{x1:Str}{t1:Tok}{i2:Int}{t2:Tok}:Ans A s (.str x1 t1) (.int i2 t2) false:=⟨SeqAt.EqAt.str_int _ _ _ _,SeqAt.RcAt.str_int _ _ _ _,SeqAt.RcNeAt.str_int _ _ _ _⟩
theorem Znz{x1:Str}{t1:Tok}{x2:Str}{t2:Tok}:Ans A s (.str x1 t1) (.str x2 t2) (x1 == x2):=⟨SeqAt.EqAt.str_str _ _ _ _,SeqAt.RcAt.str_str _ _ _ _,SeqAt.RcNeAt.str_str _ _ _ _⟩
theorem Zmw{x1:Str}{t1:Tok}{a2:Addr}{its2:Array P9}(z2:s.heap.IsTuple a2 its2)(hu:A.units<cLine):Ans A s (.str x1 t1) (.ref a2) false:=⟨SeqAt.EqAt.str_tuple _ _ z2 hu,SeqAt.RcAt.str_tuple _ _ z2 hu,SeqAt.RcNeAt.str_tuple _ _ z2 hu⟩
theorem Zpj{x1:Str}{t1:Tok}{a2:Addr}{its2:Array P9}(z2:s.heap.IsList a2 its2)(hu:A.units<cLine):Ans A s (.str x1 t1) (.ref a2) false:=⟨SeqAt.EqAt.str_list _ _ z2 hu,SeqAt.RcAt.str_list _ _ z2 hu,SeqAt.RcNeAt.str_list _ _ z2 hu⟩
theorem Zrx{a1:Addr}{its1:Array P9}(z1:s.heap.IsTuple a1 its1)(hu:A.units<cLine):Ans A s (.ref a1) .none false:=⟨SeqAt.EqAt.tuple_none z1 hu,SeqAt.RcAt.tuple_none z1 hu,SeqAt.RcNeAt.tuple_none z1 hu⟩
theorem Zly{a1:Addr}{its1:Array P9}(z1:s.heap.IsTuple a1 its1){b2:Bool}(hu:A.units<cLine):Ans A s (.ref a1) (.bool b2) false:=⟨SeqAt.EqAt.tuple_bool _ z1 hu,SeqAt.RcAt.tuple_bool _ z1 hu,SeqAt.RcNeAt.tuple_bool _ z1 hu⟩
theorem Zqz{a1:Addr}{its1:Array P9}(z1:s.heap.IsTuple a1 its1){i2:Int}{t2:Tok}(hu:A.units<cLine):Ans A s (.ref a1) (.int i2 t2) false:=⟨SeqAt.EqAt.tuple_int _ _ z1 hu,SeqAt.RcAt.tuple_int _ _ z1 hu,SeqAt.RcNeAt.tuple_int _ _ z1 hu⟩
theorem Zmq{a1:Addr}{its1:Array P9}(z1:s.heap.IsTuple a1 its1){x2:Str}{t2:Tok}(hu:A.units<cLine):Ans A s (.ref a1) (.str x2 t2) false:=⟨SeqAt.EqAt.tuple_str _ _ z1 hu,SeqAt.RcAt.tuple_str _ _ z1 hu,SeqAt.RcNeAt.tuple_str _ _ z1 hu⟩
theorem ZpH{a1:Addr}{its1:Array P9}(z1:s.heap.IsTuple a1 its1){a2:Addr}{its2:Array P9}(z2:s.heap.IsList a2 its2)(hu:A.units<cLine):Ans A s (.ref a1) (.ref a2) false:=⟨SeqAt.EqAt.tuple_list z1 z2 hu,SeqAt.RcAt.tuple_list z1 z2 hu,SeqAt.RcNeAt.tuple_list z1 z2 hu⟩
theorem Zoa{a1:Addr}{its1:Array P9}(z1:s.heap.IsList a1 its1)(hu:A.units<cLine):Ans A s (.ref a1) .none false:=⟨SeqAt.EqAt.list_none z1 hu,SeqAt.RcAt.list_none z1 hu,SeqAt.RcNeAt.list_none z1 hu⟩
theorem Zok{a1:Addr}{its1:Array P9}(z1:s.heap.IsList a1 its1){b2:Bool}(hu:A.units<cLine):Ans A s (.ref a1) (.bool b2) false:=⟨SeqAt.EqAt.list_bool _ z1 hu,SeqAt.RcAt.list_bool _ z1 hu,SeqAt.RcNeAt.list_bool _ z1 hu⟩
theorem Znl{a1:Addr}{its1:Array P9}(z1:s.heap.IsList a1 its1){i2:Int}{t2:Tok}(hu:A.units<cLine):Ans A s (.ref a1) (.int i2 t2) false:=⟨SeqAt.EqAt.list_int _ _ z1 hu,SeqAt.RcAt.list_int _ _ z1 hu,SeqAt.RcNeAt.list_int _ _ z1 hu⟩
theorem ZqL{a1:Addr}{its1:Array P9}(z1:s.heap.IsList a1 its1){x2:Str}{t2:Tok}(hu:A.units<cLine):Ans A s (.ref a1) (.str x2 t2) false:=⟨SeqAt.EqAt.list_str _ _ z1 hu,SeqAt.RcAt.list_str _ _ z1 hu,SeqAt.RcNeAt.list_str _ _ z1 hu⟩
theorem Zoh{a1:Addr}{its1:Array P9}(z1:s.heap.IsList a1 its1){a2:Addr}{its2:Array P9}(z2:s.heap.IsTuple a2 its2)(hu:A.units<cLine):Ans A s (.ref a1) (.ref a2) false:=⟨SeqAt.EqAt.list_tuple z1 z2 hu,SeqAt.RcAt.list_tuple z1 z2 hu,SeqAt.RcNeAt.list_tuple z1 z2 hu⟩
end
inductive Kd where
 | non | bl (b:Bool) | int (i:Int) | str (x:Str) | tup (xs:List D) | lst (xs:List D) | no
def kd(st:Sto):D->Kd
 | .non => .non
 | .bl b => .bl b
 | .int i => .int i
 | .str x => .str x
 | .tup xs => .tup xs
 | .lst xs => .lst xs
 | .scr xs => .lst xs
 | .res i=>match st[i]? with
  | some (.lst xs) => .lst xs
  | _ => .no
 | .exv _ => .no
def ZY(f:D->D->Option Bool):List D->List D->Option Bool
 | [],[]=>some true
 | [],_ :: _=>some false
 | _ :: _,[]=>some false
 | x :: xs,y :: ys=>match f x y,ZY f xs ys with
  | some a,some b=>some (a && b)
  | _,_=>none
def eqN(st:Sto):Nat->D->D->Option Bool
 | 0,_,_=>none
 | n+1,a,b=>match kd st a,kd st b with
  | .tup xs,.tup ys=>ZY (eqN st n) xs ys
  | .lst xs,.lst ys=>ZY (eqN st n) xs ys
  | .non,.non=>some true
  | .bl x,.bl y=>some (x == y)
  | .int x,.int y=>some (x == y)
  | .str x,.str y=>some (x == y)
  | .bl x,.int y=>some ((if x then 1 else 0) == y)
  | .int x,.bl y=>some (x == (if y then 1 else 0))
  | .no,_=>none
  | _,.no=>none
  | _,_=>some false
section
variable{X:Cx}{pins:List (Addr×Obj)}{σ:L2.St}{s:P1}{O:List Addr}{H:Hp}{st:Sto}
theorem Zjw(I:Inv X pins σ H s){a:Addr}{vs xs:List V}(h:SqT X.K H a vs)(q:H a=some (.lst xs)):False:=by
 rcases h with (h | ⟨ob,h⟩) | ⟨o,_,_,h,_⟩
 ·rw[h] at q; cases q
 ·rw[h] at q; cases q
 ·rw[Zbq I h] at q; cases q
theorem Zhv(I:Inv X pins σ H s){a:Addr}{vs xs:List V}(h:SqF X.K H a vs)(q:H a=some (.lst xs)):False:=by
 rcases h with⟨ob,h⟩ | ⟨o,_,_,h,_⟩
 ·rw[h] at q; cases q
 ·rw[Zbq I h] at q; cases q
theorem ZkS(I:Inv X pins σ H s){a:Addr}{vs xs:List V}(h:SqT X.K H a vs)(q:SqF X.K H a xs):False:=by
 rcases h with (h | ⟨ob,h⟩) | ⟨o,_,_,h,c,_⟩ <;> rcases q with⟨ob',q⟩ | ⟨o',_,_,q,c',_⟩
 ·rw[h] at q; cases q
 ·rw[Zbq I q] at h; cases h
 ·rw[h] at q; cases q
 ·rw[Zbq I q] at h; cases h
 ·rw[Zbq I h] at q; cases q
 ·rw[h] at q; cases q; rw[c] at c'; exact absurd (Value.type.inj c') (by decide)
theorem Zpf(I:Inv X pins σ H s){a:Addr}{vs:List V}{o:HO}(h:SqT X.K H a vs)(q:H a=some o)(z:isS o=true):False:=by
 rcases h with (h | ⟨ob,h⟩) | ⟨_,_,_,h,_⟩
 ·rw[h] at q; cases q; cases z
 ·rw[h] at q; cases q; cases z
 ·rw[Zbq I h] at q; cases q
theorem Zlq(I:Inv X pins σ H s){a:Addr}{vs:List V}{o:HO}(h:SqF X.K H a vs)(q:H a=some o)(z:isS o=true):False:=by
 rcases h with⟨ob,h⟩ | ⟨_,_,_,h,_⟩
 ·rw[h] at q; cases q; cases z
 ·rw[Zbq I h] at q; cases q
theorem ZhT(I:Inv X pins σ H s){a:Addr}{vs:List V}{φ:Heap->Prop}(h:SqT X.K H a vs)(q:H a=some (.ext φ)):False:=by
 rcases h with (h | ⟨ob,h⟩) | ⟨_,_,_,h,_⟩
 ·rw[h] at q; cases q
 ·rw[h] at q; cases q
 ·rw[Zbq I h] at q; cases q
theorem ZjJ(I:Inv X pins σ H s){a:Addr}{vs:List V}{φ:Heap->Prop}(h:SqF X.K H a vs)(q:H a=some (.ext φ)):False:=by
 rcases h with⟨ob,h⟩ | ⟨_,_,_,h,_⟩
 ·rw[h] at q; cases q
 ·rw[Zbq I h] at q; cases q
theorem ZjQ(I:Inv X pins σ H s)(W:WR X.K O H st){i:Nat}{a:Addr}{vs:List V}(h:O[i]?=some a)(q:SqT X.K H a vs):False:=by
 obtain⟨o,z,y⟩:=W.some_of h;exact Zpf I q z y
theorem Zg8(I:Inv X pins σ H s)(W:WR X.K O H st){i:Nat}{a:Addr}{vs:List V}(h:O[i]?=some a)(q:SqF X.K H a vs):False:=by
 obtain⟨o,z,y⟩:=W.some_of h;exact Zlq I q z y
theorem Zi1(W:WR X.K O H st){i:Nat}{a:Addr}{φ:Heap->Prop}(h:O[i]?=some a)(q:H a=some (.ext φ)):False:=by
 obtain⟨o,z,y⟩:=W.some_of h;rw[q] at z;cases z;cases y
mutual
theorem Rep.inj(I:Inv X pins σ H s)(W:WR X.K O H st):∀(d d':D) (v:V),Rep X.K O H d v->Rep X.K O H d' v->d=d'
 | .non,d',v,h,h'=>by
  rw[Rep.non_i] at h; subst h;cases d' <;> unfold Rep at h' <;> first | rfl | (cases h'; done) | (obtain⟨_,_,e,_⟩:=h'; cases e) | (obtain⟨_,e,_⟩:=h'; cases e)
 | .bl b,d',v,h,h'=>by
  rw[Rep.bl_i] at h; subst h;cases d' <;> unfold Rep at h' <;> first | (cases h'; rfl) | (cases h'; done) | (obtain⟨_,_,e,_⟩:=h'; cases e) | (obtain⟨_,e,_⟩:=h'; cases e)
 | .int b,d',v,h,h'=>by
  rw[Rep.int_i] at h; subst h;cases d' <;> unfold Rep at h' <;> first | (cases h'; rfl) | (cases h'; done) | (obtain⟨_,_,e,_⟩:=h'; cases e) | (obtain⟨_,e,_⟩:=h'; cases e)
 | .str b,d',v,h,h'=>by
  rw[Rep.str_i] at h; subst h;cases d' <;> unfold Rep at h' <;> first | (cases h'; rfl) | (cases h'; done) | (obtain⟨_,_,e,_⟩:=h'; cases e) | (obtain⟨_,e,_⟩:=h'; cases e)
 | .tup ds,d',v,h,h'=>by
  rw[Rep.tup_i] at h;obtain⟨a,vs,rfl,q,r⟩:=h;cases d' with
  | tup ds' =>
   rw[Rep.tup_i] at h';obtain⟨a',vs',e,q',r'⟩:=h';cases e;have ev:vs=vs':=I.tuple_inj (SqT.of q) (SqT.of q');subst ev;rw[Reps.inj I W ds ds' vs r r']
  | lst ds'=>rw[Rep.lst_i] at h'; obtain⟨a',vs',e,_,q',_⟩:=h'; cases e; exact (Zjw I (SqT.of q) q').elim
  | scr ds'=>rw[Rep.scr_i] at h'; obtain⟨a',vs',e,q',_⟩:=h'; cases e; exact (ZkS I (SqT.of q) q').elim
  | res i=>rw[Rep.res_i] at h'; obtain⟨a',e,q'⟩:=h'; cases e; exact (ZjQ I W q' (SqT.of q)).elim
  | exv C=>rw[Rep.exv_i] at h'; obtain⟨a',e,q'⟩:=h'; cases e; exact (ZhT I (SqT.of q) q').elim
  | _=>unfold Rep at h'; cases h'
 | .lst ds,d',v,h,h'=>by
  rw[Rep.lst_i] at h;obtain⟨a,vs,rfl,n,q,r⟩:=h;cases d' with
  | tup ds'=>rw[Rep.tup_i] at h'; obtain⟨a',vs',e,q',_⟩:=h'; cases e; exact (Zjw I (SqT.of q') q).elim
  | lst ds' =>
   rw[Rep.lst_i] at h';obtain⟨a',vs',e,_,q',r'⟩:=h';cases e;rw[q] at q';cases q';rw[Reps.inj I W ds ds' vs r r']
  | scr ds'=>rw[Rep.scr_i] at h'; obtain⟨a',vs',e,q',_⟩:=h'; cases e; exact (Zhv I q' q).elim
  | res i=>rw[Rep.res_i] at h'; obtain⟨a',e,q'⟩:=h'; cases e; exact (n (Y2 q')).elim
  | exv C=>rw[Rep.exv_i] at h'; obtain⟨a',e,q'⟩:=h'; cases e; rw[q] at q'; cases q'
  | _=>unfold Rep at h'; cases h'
 | .scr ds,d',v,h,h'=>by
  rw[Rep.scr_i] at h;obtain⟨a,vs,rfl,q,r⟩:=h;cases d' with
  | tup ds'=>rw[Rep.tup_i] at h'; obtain⟨a',vs',e,q',_⟩:=h'; cases e; exact (ZkS I (SqT.of q') q).elim
  | lst ds'=>rw[Rep.lst_i] at h'; obtain⟨a',vs',e,_,q',_⟩:=h'; cases e; exact (Zhv I q q').elim
  | scr ds' =>
   rw[Rep.scr_i] at h';obtain⟨a',vs',e,q',r'⟩:=h';cases e;have ev:vs=vs':=I.list_inj q.sq q'.sq;subst ev;rw[Reps.inj I W ds ds' vs r r']
  | res i=>rw[Rep.res_i] at h'; obtain⟨a',e,q'⟩:=h'; cases e; exact (Zg8 I W q' q).elim
  | exv C=>rw[Rep.exv_i] at h'; obtain⟨a',e,q'⟩:=h'; cases e; exact (ZjJ I q q').elim
  | _=>unfold Rep at h'; cases h'
 | .res i,d',v,h,h'=>by
  rw[Rep.res_i] at h;obtain⟨a,rfl,q⟩:=h;cases d' with
  | tup ds'=>rw[Rep.tup_i] at h'; obtain⟨a',vs',e,q',_⟩:=h'; cases e; exact (ZjQ I W q (SqT.of q')).elim
  | lst ds'=>rw[Rep.lst_i] at h'; obtain⟨a',vs',e,n,_,_⟩:=h'; cases e; exact (n (Y2 q)).elim
  | scr ds'=>rw[Rep.scr_i] at h'; obtain⟨a',vs',e,q',_⟩:=h'; cases e; exact (Zg8 I W q q').elim
  | res j =>
   rw[Rep.res_i] at h';obtain⟨a',e,q'⟩:=h';cases e;rw[Zil W.nd q q']
  | exv C=>rw[Rep.exv_i] at h'; obtain⟨a',e,q'⟩:=h'; cases e; exact (Zi1 W q q').elim
  | _=>unfold Rep at h'; cases h'
 | .exv C,d',v,h,h'=>by
  rw[Rep.exv_i] at h;obtain⟨a,rfl,q⟩:=h;cases d' with
  | tup ds'=>rw[Rep.tup_i] at h'; obtain⟨a',vs',e,q',_⟩:=h'; cases e; exact (ZhT I (SqT.of q') q).elim
  | lst ds'=>rw[Rep.lst_i] at h'; obtain⟨a',vs',e,n,q',_⟩:=h'; cases e; rw[q] at q'; cases q'
  | scr ds'=>rw[Rep.scr_i] at h'; obtain⟨a',vs',e,q',_⟩:=h'; cases e; exact (ZjJ I q' q).elim
  | res j=>rw[Rep.res_i] at h'; obtain⟨a',e,q'⟩:=h'; cases e; exact (Zi1 W q' q).elim
  | exv C' =>
   rw[Rep.exv_i] at h';obtain⟨a',e,q'⟩:=h';cases e;rw[(I.hok _ _ q).1.inj (I.hok _ _ q').1]
  | _=>unfold Rep at h'; cases h'
theorem Reps.inj(I:Inv X pins σ H s)(W:WR X.K O H st):∀(ds ds':List D) (vs:List V),Reps X.K O H ds vs->Reps X.K O H ds' vs->ds=ds'
 | [],ds',vs,h,h'=>by
  rw[Reps.nil_i] at h; subst h;cases ds' with
  | nil=>rfl
  | cons d r=>obtain⟨_,_,e,_⟩:=Reps.cons_i.mp h'; cases e
 | d :: ds,ds',vs,h,h'=>by
  obtain⟨v,r,rfl,q,t⟩:=Reps.cons_i.mp h;cases ds' with
  | nil=>rw[Reps.nil_i] at h'; cases h'
  | cons d' r' =>
   obtain⟨v',r2,e,q',t'⟩:=Reps.cons_i.mp h';cases e;rw[Rep.inj I W d d' v q q',Reps.inj I W ds r' r t t']
end
theorem Zcq{f:D->D->Option Bool}(hf:∀d k,f d d=some k->k=true):∀(xs:List D) (k:Bool),ZY f xs xs=some k->k=true
 | [],k,h=>by simp only[ZY,Yx] at h; exact h.symm
 | x :: xs,k,h=>by
  unfold ZY at h;cases e1:f x x with
  | none=>rw[e1] at h; cases h
  | some a =>
   cases e2:ZY f xs xs with
   | none=>rw[e1,e2] at h; cases h
   | some b =>
    rw[e1,e2] at h;simp only[Yx] at h;rw[<-h,hf x a e1,Zcq hf xs b e2];rfl
theorem Zfo:∀(n:Nat) (d:D) (k:Bool),eqN st n d d=some k->k=true
 | 0,d,k,h=>by cases h
 | n+1,d,k,h=>by
  unfold eqN at h;cases e:kd st d <;> rw[e] at h <;> simp only[V0,Yx] at h
  case tup xs=>exact Zcq (Zfo n) xs k h
  case lst xs=>exact Zcq (Zfo n) xs k h
  case no=>cases h
  all_goals exact h.symm
theorem Zkp{f:D->D->Option Bool}:∀(xs ys:List D) (k:Bool),ZY f xs ys=some k ->
  (∀(j:Nat) (x y:D),xs[j]?=some x->ys[j]?=some y->∃kj,f x y=some kj) /\
  k=((List.range (min xs.length ys.length)).all (fun j=>((xs[j]?.bind fun x=>ys[j]?.bind fun y=>f x y).getD false)) && xs.length == ys.length)
 | [],[],k,h=>by
  simp only[ZY,Yx] at h;subst h;exact⟨fun j x y e=>by simp at e,rfl⟩
 | [],y :: ys,k,h=>by
  simp only[ZY,Yx] at h;subst h;exact⟨fun j x y e=>by simp at e,by simp⟩
 | x :: xs,[],k,h=>by
  simp only[ZY,Yx] at h;subst h;exact⟨fun j x y _ e=>by simp at e,by simp⟩
 | x :: xs,y :: ys,k,h=>by
  unfold ZY at h;cases e1:f x y with
  | none=>rw[e1] at h; cases h
  | some a =>
   cases e2:ZY f xs ys with
   | none=>rw[e1,e2] at h; cases h
   | some b =>
    rw[e1,e2] at h;simp only[Yx] at h;obtain⟨h1,h2⟩:=Zkp xs ys b e2;refine⟨fun j u w eu ew => ?_,?_⟩
    ·cases j with
     | zero=>simp at eu ew; subst eu ew; exact⟨a,e1⟩
     | succ j=>exact h1 j u w (by simpa using eu) (by simpa using ew)
    ·rw[<-h,h2];have em:min (x :: xs).length (y :: ys).length=min xs.length ys.length+1:=by simp only[Yw]; omega
     rw[em,VU];simp only[QR,List.all_map,Yu,Option.bind_some,e1,Option.getD_some,Yw,QY,YA,Nat.succ_eq_add_one,Bool.and_assoc];congr 2;by_cases hl:xs.length=ys.length
     ·simp[hl]
     ·have:¬ (xs.length+1=ys.length+1):=by omega
      simp[hl]
def KdV(K:P5)(O:List Addr)(H:Hp)(s:P1):Kd->P9->Prop
 | .non,u=>u = .none
 | .bl b,u=>u = .bool b
 | .int i,u => ∃t,u = .int i t
 | .str x,u => ∃t,u = .str x t
 | .tup xs,u => ∃a vs its,u = .ref a/\Reps K O H xs vs/\Vals vs its/\s.heap.IsTuple a its.toArray
 | .lst xs,u => ∃a vs its,u = .ref a/\Reps K O H xs vs/\Vals vs its/\s.heap.IsList a its.toArray
 | .no,_=>True
theorem ZfB(I:Inv X pins σ H s)(W:WR X.K O H st){d:D}{v:V}{u:P9}{xs:List D}(r:Rep X.K O H d v)(q:RelV v u)(e:Zp st d=some xs):KdV X.K O H s (.lst xs) u:=by
 obtain⟨a,vs,rfl,z,t⟩:=rdL W r e;obtain⟨its,hv,hp,_⟩:=I.list z;have q':u=Value.ref a:=q;subst q';exact⟨a,vs,its,rfl,t,hv,hp.isList⟩
theorem kdV(I:Inv X pins σ H s)(W:WR X.K O H st):∀{d:D} {v:V} {u:P9},Rep X.K O H d v->RelV v u->KdV X.K O H s (kd st d) u
 | .non,v,u,r,q=>by rw[Rep.non_i] at r; subst r; exact q
 | .bl b,v,u,r,q=>by rw[Rep.bl_i] at r; subst r; exact q
 | .int b,v,u,r,q=>by rw[Rep.int_i] at r; subst r; exact q
 | .str b,v,u,r,q=>by rw[Rep.str_i] at r; subst r; exact q
 | .tup ds,v,u,r,q=>by
  rw[Rep.tup_i] at r;obtain⟨a,vs,rfl,z,t⟩:=r;obtain⟨its,hv,hp,_⟩:=I.tuple (SqT.of z);have q':u=Value.ref a:=q;subst q';exact⟨a,vs,its,rfl,t,hv,hp⟩
 | .lst ds,v,u,r,q=>ZfB I W r q rfl
 | .scr ds,v,u,r,q=>ZfB I W r q rfl
 | .res i,v,u,r,q=>by
  have e:Zp st (.res i)=match st[i]? with
   | some (.lst xs)=>some xs
   | _=>none:=rfl
  have e':kd st (.res i)=match st[i]? with
   | some (.lst xs) => .lst xs
   | _ => .no:=rfl
  rw[e'];cases hs:st[i]? with
  | none=>exact trivial
  | some so =>
   cases so with
   | ins C fs=>exact trivial
   | dct kvs=>exact trivial
   | dtt kvs=>exact trivial
   | fdc kvs=>exact trivial
   | fdt o kvs=>exact trivial
   | tab P b=>exact trivial
   | lst xs =>
    rw[hs] at e;exact ZfB I W r q e
 | .exv C,v,u,r,q=>trivial
theorem in1_units(A:P6):A.in1.units=A.units+1:=rfl
theorem Zdk(I:Inv X pins σ H s)(W:WR X.K O H st):∀(n:Nat) (a b:D) (k:Bool),eqN st n a b=some k->∀(A:P6) (x y:V) (u w:P9),
  Rep X.K O H a x->Rep X.K O H b y->RelV x u->RelV y w->A.units+n<cLine->Ans A s u w k
 | 0,a,b,k,h=>by cases h
 | n+1,a,b,k,h=>by
  intro A x y u w ra rb qa qb hn;have hu:A.units<cLine:=by omega
  have same:u=w->k=true:=by
   intro e;subst e;have e2:x=y:=qa.inj qb;subst e2;have e3:=Rep.inj I W a b x ra rb;subst e3;exact Zfo (n+1) a k h
  have ka:=kdV I W ra qa;have kb:=kdV I W rb qb;have items:∀{xs ys:List D} {vs ws:List V} {its its2:List P9},ZY (eqN st n) xs ys=some k->Reps X.K O H xs vs->Reps X.K O H ys ws->Vals vs its->Vals ws its2 ->
    (∀j (h1:j<its.toArray.size) (h2:j<its2.toArray.size),SeqAt.EqAt A.in1 s its.toArray[j] its2.toArray[j] ((xs[j]?.bind fun x=>ys[j]?.bind fun y=>eqN st n x y).getD false)) /\
    k=((List.range (min its.toArray.size its2.toArray.size)).all (fun j=>((xs[j]?.bind fun x=>ys[j]?.bind fun y=>eqN st n x y).getD false)) && its.toArray.size == its2.toArray.size):=by
   intro xs ys vs ws its its2 he r1 r2 v1 v2;obtain⟨h1,h2⟩:=Zkp xs ys k he;have l1:its.toArray.size=xs.length:=by rw[Yt,<-v1.length,r1.length]
   have l2:its2.toArray.size=ys.length:=by rw[Yt,<-v2.length,r2.length]
   refine⟨fun j j1 j2 => ?_,by rw[l1,l2]; exact h2⟩;have j1':j<xs.length:=by rw[<-l1]; exact j1
   have j2':j<ys.length:=by rw[<-l2]; exact j2
   have ex:xs[j]?=some xs[j]:=Yd j1';have ey:ys[j]?=some ys[j]:=Yd j2';obtain⟨kj,ek⟩:=h1 j xs[j] ys[j] ex ey;obtain⟨vx,e3,rx⟩:=r1.get ex;obtain⟨vy,e4,ry⟩:=r2.get ey;obtain⟨ux,e5,qx⟩:=v1.get e3;obtain⟨uy,e6,qy⟩:=v2.get e4;have e7:its.toArray[j]=ux:=by
    have:=(Yk.mp e5).2;simpa using this
   have e8:its2.toArray[j]=uy:=by
    have:=(Yk.mp e6).2;simpa using this
   rw[ex,ey,e7,e8];simp only[Option.bind_some,ek,Option.getD_some];exact (Zdk I W n xs[j] ys[j] kj ek A.in1 vx vy ux uy rx ry qx qy (by rw[in1_units]; omega)).1
  unfold eqN at h;generalize kd st a=da at h ka;generalize kd st b=db at h kb;cases da with
  | no=>cases db <;> cases h
  | non =>
   cases db with
   | no=>cases h
   | non =>
    have e1:u=_:=ka;subst e1;have e2:w=_:=kb;subst e2;cases h;exact Zk1
   | bl b2 =>
    have e1:u=_:=ka;subst e1;have e2:w=_:=kb;subst e2;cases h;exact Zq7
   | int i2 =>
    have e1:u=_:=ka;subst e1;obtain⟨t2,rfl⟩:=kb;cases h;exact ZmM
   | str x2 =>
    have e1:u=_:=ka;subst e1;obtain⟨t2,rfl⟩:=kb;cases h;exact ZnD
   | tup ys =>
    have e1:u=_:=ka;subst e1;obtain⟨a2,vs2,its2,rfl,r2,q2,z2⟩:=kb;cases h;exact Zor z2 hu
   | lst ys =>
    have e1:u=_:=ka;subst e1;obtain⟨a2,vs2,its2,rfl,r2,q2,z2⟩:=kb;cases h;exact Zlh z2 hu
  | bl b1 =>
   cases db with
   | no=>cases h
   | non =>
    have e1:u=_:=ka;subst e1;have e2:w=_:=kb;subst e2;cases h;exact ZoM
   | bl b2 =>
    have e1:u=_:=ka;subst e1;have e2:w=_:=kb;subst e2;cases h;exact Zla
   | int i2 =>
    have e1:u=_:=ka;subst e1;obtain⟨t2,rfl⟩:=kb;cases h;exact Zk4
   | str x2 =>
    have e1:u=_:=ka;subst e1;obtain⟨t2,rfl⟩:=kb;cases h;exact Znj
   | tup ys =>
    have e1:u=_:=ka;subst e1;obtain⟨a2,vs2,its2,rfl,r2,q2,z2⟩:=kb;cases h;exact ZlA z2 hu
   | lst ys =>
    have e1:u=_:=ka;subst e1;obtain⟨a2,vs2,its2,rfl,r2,q2,z2⟩:=kb;cases h;exact Zrg z2 hu
  | int i1 =>
   cases db with
   | no=>cases h
   | non =>
    obtain⟨t1,rfl⟩:=ka;have e2:w=_:=kb;subst e2;cases h;exact ZqK
   | bl b2 =>
    obtain⟨t1,rfl⟩:=ka;have e2:w=_:=kb;subst e2;cases h;exact ZoV
   | int i2 =>
    obtain⟨t1,rfl⟩:=ka;obtain⟨t2,rfl⟩:=kb;cases h;exact Zoi
   | str x2 =>
    obtain⟨t1,rfl⟩:=ka;obtain⟨t2,rfl⟩:=kb;cases h;exact Zn9
   | tup ys =>
    obtain⟨t1,rfl⟩:=ka;obtain⟨a2,vs2,its2,rfl,r2,q2,z2⟩:=kb;cases h;exact Zlo z2 hu
   | lst ys =>
    obtain⟨t1,rfl⟩:=ka;obtain⟨a2,vs2,its2,rfl,r2,q2,z2⟩:=kb;cases h;exact ZlJ z2 hu
  | str x1 =>
   cases db with
   | no=>cases h
   | non =>
    obtain⟨t1,rfl⟩:=ka;have e2:w=_:=kb;subst e2;cases h;exact Zqy
   | bl b2 =>
    obtain⟨t1,rfl⟩:=ka;have e2:w=_:=kb;subst e2;cases h;exact Zqn
   | int i2 =>
    obtain⟨t1,rfl⟩:=ka;obtain⟨t2,rfl⟩:=kb;cases h;exact Zl7
   | str x2 =>
    obtain⟨t1,rfl⟩:=ka;obtain⟨t2,rfl⟩:=kb;cases h;exact Znz
   | tup ys =>
    obtain⟨t1,rfl⟩:=ka;obtain⟨a2,vs2,its2,rfl,r2,q2,z2⟩:=kb;cases h;exact Zmw z2 hu
   | lst ys =>
    obtain⟨t1,rfl⟩:=ka;obtain⟨a2,vs2,its2,rfl,r2,q2,z2⟩:=kb;cases h;exact Zpj z2 hu
  | tup xs =>
   cases db with
   | no=>cases h
   | non =>
    obtain⟨a1,vs1,its1,rfl,r1,q1,z1⟩:=ka;have e2:w=_:=kb;subst e2;cases h;exact Zrx z1 hu
   | bl b2 =>
    obtain⟨a1,vs1,its1,rfl,r1,q1,z1⟩:=ka;have e2:w=_:=kb;subst e2;cases h;exact Zly z1 hu
   | int i2 =>
    obtain⟨a1,vs1,its1,rfl,r1,q1,z1⟩:=ka;obtain⟨t2,rfl⟩:=kb;cases h;exact Zqz z1 hu
   | str x2 =>
    obtain⟨a1,vs1,its1,rfl,r1,q1,z1⟩:=ka;obtain⟨t2,rfl⟩:=kb;cases h;exact Zmq z1 hu
   | tup ys =>
    obtain⟨a1,vs1,its1,rfl,r1,q1,z1⟩:=ka;obtain⟨a2,vs2,its2,rfl,r2,q2,z2⟩:=kb;obtain⟨he,hk⟩:=items h r1 r2 q1 q2;have R:=SeqAt.RcAt.tuples z1 z2 hu he;have N:=SeqAt.RcNeAt.tuples z1 z2 hu he;rw[<-hk] at R N;refine⟨?_,R,N⟩;by_cases ea:a1=a2
    ·subst ea;rw[same rfl];exact SeqAt.EqAt.same _
    ·exact SeqAt.EqAt.of_refs ea R
   | lst ys =>
    obtain⟨a1,vs1,its1,rfl,r1,q1,z1⟩:=ka;obtain⟨a2,vs2,its2,rfl,r2,q2,z2⟩:=kb;cases h;exact ZpH z1 z2 hu
  | lst xs =>
   cases db with
   | no=>cases h
   | non =>
    obtain⟨a1,vs1,its1,rfl,r1,q1,z1⟩:=ka;have e2:w=_:=kb;subst e2;cases h;exact Zoa z1 hu
   | bl b2 =>
    obtain⟨a1,vs1,its1,rfl,r1,q1,z1⟩:=ka;have e2:w=_:=kb;subst e2;cases h;exact Zok z1 hu
   | int i2 =>
    obtain⟨a1,vs1,its1,rfl,r1,q1,z1⟩:=ka;obtain⟨t2,rfl⟩:=kb;cases h;exact Znl z1 hu
   | str x2 =>
    obtain⟨a1,vs1,its1,rfl,r1,q1,z1⟩:=ka;obtain⟨t2,rfl⟩:=kb;cases h;exact ZqL z1 hu
   | tup ys =>
    obtain⟨a1,vs1,its1,rfl,r1,q1,z1⟩:=ka;obtain⟨a2,vs2,its2,rfl,r2,q2,z2⟩:=kb;cases h;exact Zoh z1 z2 hu
   | lst ys =>
    obtain⟨a1,vs1,its1,rfl,r1,q1,z1⟩:=ka;obtain⟨a2,vs2,its2,rfl,r2,q2,z2⟩:=kb;obtain⟨he,hk⟩:=items h r1 r2 q1 q2;have RN:SeqAt.RcAt A s (.ref a1) (.ref a2) k/\SeqAt.RcNeAt A s (.ref a1) (.ref a2) (!k):=by
     by_cases hz:its1.toArray.size=its2.toArray.size
     ·have R:=SeqAt.RcAt.lists z1 z2 hz hu he;have N:=SeqAt.RcNeAt.lists z1 z2 hz hu he;have hk2:k=(List.range its1.toArray.size).all (fun j=>((xs[j]?.bind fun x=>ys[j]?.bind fun y=>eqN st n x y).getD false)):=by
       rw[hk,<-hz,Nat.min_self];simp
      rw[<-hk2] at R N;exact⟨R,N⟩
     ·have hk2:k=false:=by
       rw[hk];simp only[QM.mpr hz,Bool.and_false]
      have hb:(its1.toArray.size != its2.toArray.size)=true:=by simpa using hz
      subst hk2;exact⟨SeqAt.RcAt.lists_lengths z1 z2 hb hu,SeqAt.RcNeAt.lists_lengths z1 z2 hb hu⟩
    refine⟨?_,RN.1,RN.2⟩;by_cases ea:a1=a2
    ·subst ea;rw[same rfl];exact SeqAt.EqAt.same _
    ·exact SeqAt.EqAt.of_refs ea RN.1
end
end DL
end
section
namespace DL
open PySem PySem.Spec PyProof.Rows L2
noncomputable abbrev EXT:=Addr->Sto->List Addr->Hp->Prop
def Run(K:P5)(EX:EXT){α:Type}(O:List Addr)(H:Hp)(r:Out α)(k:α->Sto->List Addr->Hp->Prop):Prop:=match r with
 | .ok a st => ∀O' H',Keep K O H O' H'->WR K O' H' st->k a st O' H'
 | .exc c st => ∀O' H',Keep K O H O' H'->WR K O' H' st->EX c st O' H'
 | .bad=>False
section
variable{K:P5}{EX:EXT}{α β:Type}{O O':List Addr}{H H':Hp}{st:Sto}
theorem Run.now{a:α}{k:α->Sto->List Addr->Hp->Prop}(h:Run K EX O H (.ok a st) k)(W:WR K O H st):k a st O H:=h O H Keep.refl W
theorem Run.later{r:Out α}{k:α->Sto->List Addr->Hp->Prop}(h:Run K EX O H r k)(kp:Keep K O H O' H'):Run K EX O' H' r k:=by
 cases r with
 | ok a st=>exact fun O2 H2 k2 W2=>h O2 H2 (kp.trans k2) W2
 | exc c st=>exact fun O2 H2 k2 W2=>h O2 H2 (kp.trans k2) W2
 | bad=>exact h
theorem Run.mono{r:Out α}{k k':α->Sto->List Addr->Hp->Prop}(h:Run K EX O H r k)(f:∀a st O' H',Keep K O H O' H'->WR K O' H' st->k a st O' H'->k' a st O' H'):Run K EX O H r k':=by
 cases r with
 | ok a st=>exact fun O' H' kp W=>f a st O' H' kp W (h O' H' kp W)
 | exc c st=>exact h
 | bad=>exact h
theorem Run.bind{r:Out α}{g:α->Sto->Out β}{k:β->Sto->List Addr->Hp->Prop}(h:Run K EX O H (r.bind g) k):Run K EX O H r (fun a st O' H'=>Run K EX O' H' (g a st) k):=by
 cases r with
 | ok a st=>exact fun O' H' kp W=>Run.later (r:=g a st) h kp
 | exc c st=>exact h
 | bad=>exact h
end
structure REnv(K:P5)(O:List Addr)(H:Hp)(ρ:Ev)(σ:L2.St):Prop where
 len:ρ.length=σ.length
 at_:∀(i:Nat) (d:D),ρ[i]?=some (some d)->∃v,σ[i]?=some (some v)/\Rep K O H d v
section
variable{K:P5}{O O':List Addr}{H H':Hp}{ρ:Ev}{σ:L2.St}
theorem REnv.mono(E:REnv K O H ρ σ)(k:Keep K O H O' H'):REnv K O' H' ρ σ :=
 ⟨E.len,fun i d e=>let ⟨v,h,r⟩:=E.at_ i d e; ⟨v,h,Rep.mono k d v r⟩⟩
theorem REnv.set(E:REnv K O H ρ σ){i:Nat}{d:D}{v:V}(r:Rep K O H d v):REnv K O H (ρ.set i (some d)) (σ.set i (some v)):=by
 refine⟨by rw[Qy,Qy,E.len],fun j e h => ?_⟩;by_cases hij:i=j
 ·subst hij;have hl:i<ρ.length:=by
   have:=(Yk.mp h).1;rwa[Qy] at this
  rw[Qa hl] at h;cases h;exact⟨v,Qa (by rw[<-E.len]; exact hl),r⟩
 ·rw[WJ hij] at h;obtain⟨u,h1,h2⟩:=E.at_ j e h;exact⟨u,by rw[WJ hij]; exact h1,h2⟩
end
noncomputable abbrev DE:=Ev->Sto->Out D
noncomputable abbrev DT:=Ev->Sto->Out Bool
noncomputable abbrev DA:=Ev->Sto->Out (List D)
def EX0:EXT:=fun _ _ _ _=>False
section
variable(K:P5)(EX:EXT)
def Val(Q:VK)(d:D)(_:Sto)(O:List Addr)(H:Hp):Prop:=∀v,Rep K O H d v->Q v H
def Vls(Q:List V->Hp->Prop)(ds:List D)(_:Sto)(O:List Addr)(H:Hp):Prop:=∀vs,Reps K O H ds vs->Q vs H
def New(Q:VK)(ds:List D)(_:Sto)(O:List Addr)(H:Hp):Prop:=∀p vs,Reps K O H ds vs->H p=none->Q (.ref p) (upd H p (.lst vs))
def tD(f:DE):TE:=fun σ H Q => ∃O ρ st,WR K O H st/\REnv K O H ρ σ/\Run K EX O H (f ρ st) (Val K Q)
def tDT(f:DT):TT:=fun σ H Q => ∃O ρ st,WR K O H st/\REnv K O H ρ σ/\Run K EX O H (f ρ st) (fun b _ _ H'=>Q b H')
def tDA(f:DA):TA:=fun σ H Q => ∃O ρ st,WR K O H st/\REnv K O H ρ σ/\Run K EX O H (f ρ st) (Vls K Q)
def tDF(f:DA):TE:=fun σ H Q => ∃O ρ st,WR K O H st/\REnv K O H ρ σ/\Run K EX O H (f ρ st) (New K Q)
def rD2(g:D->D->Sto->Out D):R2:=fun x y H Q => ∃O a b st,WR K O H st/\Rep K O H a x/\Rep K O H b y/\Run K EX O H (g a b st) (Val K Q)
def ZjO(g:D->D->Sto->Out (List D)):R2:=fun x y H Q => ∃O a b st,WR K O H st/\Rep K O H a x/\Rep K O H b y/\Run K EX O H (g a b st) (New K Q)
def rDC(g:List D->Sto->Out D):List V->Hp->VK->Prop:=fun xs H Q => ∃O ds st,WR K O H st/\Reps K O H ds xs/\Run K EX O H (g ds st) (Val K Q)
def ZhE(g:List D->Sto->Out (List D)):List V->Hp->VK->Prop:=fun xs H Q => ∃O ds st,WR K O H st/\Reps K O H ds xs/\Run K EX O H (g ds st) (New K Q)
end
section
variable(X:Cx)(EX:EXT)
def PD(e:Expr)(f:DE):Prop:=PE X e (tD X.K EX f)
def PDT(e:Expr)(f:DT):Prop:=PT X e (tDT X.K EX f)
def PDW(e:Expr)(f:DT):Prop:=PW X e (tDT X.K EX f)
def PDA(es:List Expr)(f:DA):Prop:=PA X es (tDA X.K EX f)
def PDF(e:Expr)(f:DA):Prop:=PE X e (tDF X.K EX f)
def OpD(f:P9->P9->Sem P9)(g:D->D->Sto->Out D):Prop:=OpR X f (rD2 X.K EX g)
def OpF(f:P9->P9->Sem P9)(g:D->D->Sto->Out (List D)):Prop:=OpR X f (ZjO X.K EX g)
def Zco(f:P9)(g:List D->Sto->Out D):Prop:=Zbe X f (rDC X.K EX g)
def ZcE(f:P9)(g:List D->Sto->Out (List D)):Prop:=Zbe X f (ZhE X.K EX g)
end
theorem PE.mono{X:Cx}{e:Expr}{t t':TE}(h:PE X e t)(f:∀σ H Q,t' σ H Q->t σ H Q):PE X e t':=fun pins s σ H Q I q=>h pins s σ H Q I (f σ H Q q)
theorem PT.mono{X:Cx}{e:Expr}{t t':TT}(h:PT X e t)(f:∀σ H Q,t' σ H Q->t σ H Q):PT X e t':=fun pins s σ H Q I q=>h pins s σ H Q I (f σ H Q q)
theorem PW.mono{X:Cx}{e:Expr}{t t':TT}(h:PW X e t)(f:∀σ H Q,t' σ H Q->t σ H Q):PW X e t':=fun wh pins s σ H Q I q=>h wh pins s σ H Q I (f σ H Q q)
theorem PA.mono{X:Cx}{es:List Expr}{t t':TA}(h:PA X es t)(f:∀σ H Q,t' σ H Q->t σ H Q):PA X es t':=fun pos pins s σ H Q I q=>h pos pins s σ H Q I (f σ H Q q)
theorem PS.mono{X:Cx}{e:Stmt}{t t':TS}(h:PS X e t)(f:∀D σ H,t' D σ H->t D σ H):PS X e t':=fun pins s σ H D I q=>h pins s σ H D I (f D σ H q)
theorem PSs.mono{X:Cx}{e:List Stmt}{t t':TS}(h:PSs X e t)(f:∀D σ H,t' D σ H->t D σ H):PSs X e t':=fun pins s σ H D I q=>h pins s σ H D I (f D σ H q)
theorem OpR.mono{X:Cx}{f:P9->P9->Sem P9}{r r':R2}(h:OpR X f r)(g:∀x y H Q,r' x y H Q->r x y H Q):OpR X f r':=fun pins s σ H x y v u Q I rx ry q=>h pins s σ H x y v u Q I rx ry (g x y H Q q)
section
variable{X:Cx}{EX:EXT}{a b c e:Expr}{fa fb fc:DE}{pos:Pos}{ta tb:DT}
def Za(i:Nat):DE:=fun ρ st=>match ρ[i]? with
 | some (some d) => .ok d st
 | _ => .bad
theorem Zb(i:Nat){x:Str}{pos:Pos}(hN:X.N[i]?=some x:=by rfl)(hv:Vis X.env.scope x:=by first | exact Or.inl rfl | exact Or.inr (Or.inl rfl) | exact Or.inr (Or.inr rfl))(hd:(x == ("__debug__" : Str))=false:=by decide)
  (hcd:(x == ("__classdict__" : Str))=false:=by decide):PD X EX (.Name x pos) (Za i):=by
 refine PE.mono (Zq3 hN hv hd hcd) ?_;rintro σ H Q ⟨O,ρ,st,W,E,R⟩;unfold Za at R;cases h:ρ[i]? with
 | none=>rw[h] at R; exact R.elim
 | some z =>
  cases z with
  | none=>rw[h] at R; exact R.elim
  | some d =>
   rw[h] at R;obtain⟨v,h1,r⟩:=E.at_ i d h;exact⟨v,h1,R.now W v r⟩
def dC(d:D):DE:=fun _ st => .ok d st
theorem Zgh{v:V}{d:D}(h:PE X e (tC v))(hr:∀O H,Rep X.K O H d v):PD X EX e (dC d):=by
 refine PE.mono h ?_;rintro σ H Q ⟨O,ρ,st,W,E,R⟩;exact R.now W v (hr O H)
theorem Zr{i j pos}:PD X EX (.Constant (.int i) j pos) (dC (.int i)):=Zgh Zrj fun _ _=>Rep.int_i.mpr rfl
theorem ZaX{b j pos}:PD X EX (.Constant (.bool b) j pos) (dC (.bl b)):=Zgh Zrf fun _ _=>Rep.bl_i.mpr rfl
theorem ZpQ{x j pos}:PD X EX (.Constant (.str x) j pos) (dC (.str x)):=Zgh ZmS fun _ _=>Rep.str_i.mpr rfl
def Zm(g:D->D->Sto->Out D)(fa fb:DE):DE:=fun ρ st=>(fa ρ st).bind fun x st1=>(fb ρ st1).bind fun y st2=>g x y st2
def ZbW(g:D->D->Sto->Out (List D))(fa fb:DE):DA:=fun ρ st=>(fa ρ st).bind fun x st1=>(fb ρ st1).bind fun y st2=>g x y st2
theorem Zep{g:D->D->Sto->Out D}:∀σ H Q,tD X.K EX (Zm g fa fb) σ H Q->tOp (rD2 X.K EX g) (tD X.K EX fa) (tD X.K EX fb) σ H Q:=by
 rintro σ H Q ⟨O,ρ,st,W,E,R⟩;refine⟨O,ρ,st,W,E,R.bind.mono fun x st1 O1 H1 k1 W1 R1 v r => ?_⟩;refine⟨O1,ρ,st1,W1,E.mono k1,R1.bind.mono fun y st2 O2 H2 k2 W2 R2 u r2 => ?_⟩;exact⟨O2,x,y,st2,W2,Rep.mono k2 x v r,r2,R2⟩
theorem ZnV{g:D->D->Sto->Out (List D)}:∀σ H Q,tDF X.K EX (ZbW g fa fb) σ H Q->tOp (ZjO X.K EX g) (tD X.K EX fa) (tD X.K EX fb) σ H Q:=by
 rintro σ H Q ⟨O,ρ,st,W,E,R⟩;refine⟨O,ρ,st,W,E,R.bind.mono fun x st1 O1 H1 k1 W1 R1 v r => ?_⟩;refine⟨O1,ρ,st1,W1,E.mono k1,R1.bind.mono fun y st2 O2 H2 k2 W2 R2 u r2 => ?_⟩;exact⟨O2,x,y,st2,W2,Rep.mono k2 x v r,r2,R2⟩
theorem Zw{op:Operator}{g:D->D->Sto->Out D}(ho:OpD X EX (binaryOp op) g)(ha:PD X EX a fa)(hb:PD X EX b fb):PD X EX (.BinOp a op b pos) (Zm g fa fb) :=
 PE.mono (Zjh ho ha hb) Zep
theorem Zel{op:Operator}{g:D->D->Sto->Out (List D)}(ho:OpF X EX (binaryOp op) g)(ha:PD X EX a fa)(hb:PD X EX b fb):PDF X EX (.BinOp a op b pos) (ZbW g fa fb) :=
 PE.mono (Zjh ho ha hb) ZnV
theorem Zih{op:CmpOp}{g:D->D->Sto->Out D}(ho:OpD X EX (compareOp op) g)(ha:PD X EX a fa)(hb:PD X EX b fb)(hm:behindInMarks op b=false:=by first | exact Zjd _ (by decide) (by decide) | with_unfolding_all rfl):PD X EX (.Compare a [op] [b] pos) (Zm g fa fb) :=
 PE.mono (Zr2 ho ha hb hm) Zep
def asB:D->Sto->Out Bool
 | .bl b,st => .ok b st
 | _,_ => .bad
def dB(f:DE):DT:=fun ρ st=>(f ρ st).bind asB
theorem Zj8{O:List Addr}{H:Hp}{st:Sto}{d:D}{v:V}{Q:Bool->Hp->Prop}(W:WR X.K O H st)(r:Rep X.K O H d v)(R:Run X.K EX O H (asB d st) (fun b _ _ H'=>Q b H')):∃k,v = .bl k/\Q k H:=by
 cases d with
 | bl b=>exact⟨b,Rep.bl_i.mp r,Run.now (k:=fun b _ _ H'=>Q b H') R W⟩
 | _=>exact R.elim
theorem Z5{op:CmpOp}{g:D->D->Sto->Out D}(ho:OpD X EX (compareOp op) g)(ha:PD X EX a fa)(hb:PD X EX b fb)(hm:behindInMarks op b=false:=by first | exact Zjd _ (by decide) (by decide) | with_unfolding_all rfl):PDT X EX (.Compare a [op] [b] pos) (dB (Zm g fa fb)):=by
 refine PT.mono (Zrr ho ha hb hm) ?_;rintro σ H Q ⟨O,ρ,st,W,E,R⟩;exact Zep (X:=X) (EX:=EX) σ H _ ⟨O,ρ,st,W,E,R.bind.mono fun d st1 O1 H1 k1 W1 R1 v r=>Zj8 W1 r R1⟩
theorem Zkg{f:DE}(h:PD X EX e f)(he:∀whole,isTrue e X.env whole=(do let v <-whole; standAt e.pos; holding [v] (truthy v)):=by intro _; rfl):PDT X EX e (dB f):=by
 refine PT.mono (Zou h he) ?_;rintro σ H Q ⟨O,ρ,st,W,E,R⟩;exact⟨O,ρ,st,W,E,R.bind.mono fun d st1 O1 H1 k1 W1 R1 v r=>Zj8 W1 r R1⟩
def Zgd(ta tb:DT):DT:=fun ρ st=>(ta ρ st).bind fun x st1=>if x=true then tb ρ st1 else .ok false st1
def dOr(ta tb:DT):DT:=fun ρ st=>(ta ρ st).bind fun x st1=>if x=true then .ok true st1 else tb ρ st1
theorem Znk(ha:PDT X EX a ta):PDW X EX (.BoolOp .And [a] pos) ta:=ZoO ha
theorem ZdC(ha:PDT X EX a ta):PDW X EX (.BoolOp .Or [a] pos) ta:=Zsb ha
theorem Zq1{rest:List Expr}(ha:PDT X EX a ta)(hb:PDW X EX (.BoolOp .And (b :: rest) pos) tb):PDW X EX (.BoolOp .And (a :: b :: rest) pos) (Zgd ta tb):=by
 refine PW.mono (ZpA ha hb) ?_;rintro σ H Q ⟨O,ρ,st,W,E,R⟩;refine⟨O,ρ,st,W,E,R.bind.mono fun x st1 O1 H1 k1 W1 R1 => ?_⟩;cases x with
 | true=>exact⟨O1,ρ,st1,W1,E.mono k1,R1⟩
 | false=>exact Run.now (k:=fun b _ _ H'=>Q b H') R1 W1
theorem ZbT{rest:List Expr}(ha:PDT X EX a ta)(hb:PDW X EX (.BoolOp .Or (b :: rest) pos) tb):PDW X EX (.BoolOp .Or (a :: b :: rest) pos) (dOr ta tb):=by
 refine PW.mono (Zrl ha hb) ?_;rintro σ H Q ⟨O,ρ,st,W,E,R⟩;refine⟨O,ρ,st,W,E,R.bind.mono fun x st1 O1 H1 k1 W1 R1 => ?_⟩;cases x with
 | true=>exact Run.now (k:=fun b _ _ H'=>Q b H') R1 W1
 | false=>exact⟨O1,ρ,st1,W1,E.mono k1,R1⟩
theorem PDW.pt(h:PDW X EX e ta):PDT X EX e ta:=PW.pt h
def Zi:DA:=fun _ st => .ok [] st
def Zc(f:DE)(g:DA):DA:=fun ρ st=>(f ρ st).bind fun x st1=>(g ρ st1).bind fun xs st2 => .ok (x :: xs) st2
theorem Zn:PDA X EX [] Zi:=by
 refine PA.mono Zl2 ?_;rintro σ H Q ⟨O,ρ,st,W,E,R⟩;exact Run.now (k:=Vls X.K Q) R W _ (Reps.nil_i.mpr rfl)
theorem Zf{es:List Expr}{g:DA}(ha:PD X EX a fa)(hr:PDA X EX es g)(hs:starEach (a :: es) X.env=(false,eval a X.env) :: starEach es X.env:=by rfl):PDA X EX (a :: es) (Zc fa g):=by
 refine PA.mono (ZqV ha hr hs) ?_;rintro σ H Q ⟨O,ρ,st,W,E,R⟩;refine⟨O,ρ,st,W,E,R.bind.mono fun x st1 O1 H1 k1 W1 R1 v r => ?_⟩;refine⟨O1,ρ,st1,W1,E.mono k1,R1.bind.mono fun xs st2 O2 H2 k2 W2 R2 vs rs => ?_⟩;exact Run.now (k:=Vls X.K Q) R2 W2 _ (Reps.cons_i.mpr ⟨v,vs,rfl,Rep.mono k2 x v r,rs⟩)
def small:Nat:=10000
theorem ZaL:small<=sizeLine:=by rw[YG]; decide
def Zdx(g:DA):DE:=fun ρ st=>(g ρ st).bind fun xs st1=>if xs.length<=small then .ok (.tup xs) st1 else .bad
def Zbv(g:DA):DA:=fun ρ st=>(g ρ st).bind fun xs st1=>if xs.length<=small then .ok xs st1 else .bad
theorem Zej{O:List Addr}{H:Hp}{st:Sto}{xs:List D}{vs:List V}{p:Addr}{Q:VK}(W:WR X.K O H st)(r:Reps X.K O H xs vs)(hp:H p=none)(R:Run X.K EX O H (.ok (.tup xs) st) (Val X.K Q)):Q (.ref p) (upd H p (.tup vs)) :=
 R O (upd H p (.tup vs)) (Keep.laid hp) (W.laid hp) _ (Rep.tup_i.mpr ⟨p,vs,rfl,ZH,Reps.mono (Keep.laid hp) _ _ r⟩)
theorem ZnL{O:List Addr}{H:Hp}{st:Sto}{xs:List D}{vs:List V}{p:Addr}{Q:VK}(W:WR X.K O H st)(r:Reps X.K O H xs vs)(hp:H p=none)(R:Run X.K EX O H (.ok (.lst xs) st) (Val X.K Q)):Q (.ref p) (upd H p (.lst vs)):=by
 refine R O (upd H p (.lst vs)) (Keep.laid hp) (W.laid hp) _ (Rep.lst_i.mpr ⟨p,vs,rfl,fun hm => ?_,ZH,Reps.mono (Keep.laid hp) _ _ r⟩);obtain⟨i,hi⟩:=WW.mp hm;exact W.ne hi hp rfl
theorem ZgR{es:List Expr}{x1}{g:DA}(h:PDA X EX es g):PD X EX (.Tuple es x1 pos) (Zdx g):=by
 refine PE.mono (Zoj h) ?_;rintro σ H Q ⟨O,ρ,st,W,E,R⟩;refine⟨O,ρ,st,W,E,R.bind.mono fun xs st1 O1 H1 k1 W1 R1 vs r => ?_⟩;by_cases hz:xs.length<=small
 ·rw[Yf hz] at R1;exact⟨by rw[<-r.length]; exact YL hz ZaL,fun p hp=>Zej W1 r hp R1⟩
 ·rw[Yh hz] at R1;exact R1.elim
theorem Zdb{es:List Expr}{g:DA}(h:PDA X EX es g):PDF X EX (.List es pos) (Zbv g):=by
 refine PE.mono (Zse h) ?_;rintro σ H Q ⟨O,ρ,st,W,E,R⟩;refine⟨O,ρ,st,W,E,R.bind.mono fun xs st1 O1 H1 k1 W1 R1 vs r => ?_⟩;by_cases hz:xs.length<=small
 ·rw[Yf hz] at R1;exact⟨by rw[<-r.length]; exact YL hz ZaL,fun p hp=>Run.now (k:=New X.K Q) R1 W1 p vs r hp⟩
 ·rw[Yh hz] at R1;exact R1.elim
def dF(f:DA):DE:=fun ρ st=>(f ρ st).bind fun xs st1 => .ok (.lst xs) st1
theorem ZA{f:DA}(h:PDF X EX e f):PD X EX e (dF f):=by
 refine PE.mono h ?_;rintro σ H Q ⟨O,ρ,st,W,E,R⟩;exact⟨O,ρ,st,W,E,R.bind.mono fun xs st1 O1 H1 k1 W1 R1 p vs r hp=>ZnL W1 r hp R1⟩
end
end DL
end
section
namespace HT
open PySem PyProof.Rows
section
open PySem.SeqAt
open PySem.AutoSeq1 (wpAny_loadPart')
open PySem.MeetsSeq PySem.MeetsSeq2 PySem.MeetsSeq3
variable{prog:P7}{w:World}{A:P6}{E:P9->P1->Prop}{s:P1}
theorem cat_tup0{t b:Addr}{ws:List P9}{Q:P9->P1->Prop}(ht:IsTup s.heap t #[])(hb:IsTup s.heap b ws.toArray)(h:Q (.ref b) s):wpAny (model prog w) A (binaryOp .Add (.ref t) (.ref b)) Q E s:=by
 obtain⟨⟨cls,dd,data,sl⟩,ho,hc,n,hd⟩:=id ht;obtain⟨⟨cls2,dd2,data2,sl2⟩,ho2,hc2,n2,hd2⟩:=id hb;simp only at hc hd hc2 hd2;subst hc hd hc2 hd2;exact concat_meets ⟨_,ho,rfl⟩ ⟨_,ho2,rfl⟩ UM seq_tuple_add VT VJ (Vs _ _)
   (tuple_addW0 t b #[] ws.toArray n n2 dd dd2 sl sl2 rfl) ⟨ho,ho2,h⟩
theorem getItem_tuple_whole{t sl:Addr}{items:Array P9}{vl vu:P9}{lo hi:Option Int}{Q:P9->P1->Prop}(ht:IsTup s.heap t items)(hs:s.heap.IsSliceOf sl vl vu .none)(pl:IsPart vl lo)(pu:IsPart vu hi)
  (hw:sIx items.size 0 lo=0/\sIx items.size items.size hi=items.size) (h:Q (.ref t) s):wpAny (model prog w) A (getItem (.ref t) (.ref sl)) Q E s:=by
 obtain⟨os,hos,hcs,hds⟩:=id hs;have hTs:s.TypeIs (.ref sl) "slice":=⟨os,hos,hcs⟩;unfold getItem
 try with_reducible refine YM ?_
 first | refine Ya (Yb ?_) | skip
 refine Ya (wpAny_sequenceKey ht.typeIs (by decide) ?_);refine Ya (YY (name:=Str.ofString "__getitem__") ht.typeIs Wr
  (YE Wr ht.typeIs entry_tuple_getitem ?_ (args_tuple_getitem _ _)))
 show wpAny _ _ (Builtin.Tuple.tupleItemsOf (.ref t) >>= _) _ _ s;refine Ya (tupleItemsOf_ ht ?_);refine Ya (WM hTs ?_);rw[Yf (by decide)];refine Ya (ZhC hs pl pu ?_);have hyes:((((sIx items.size 0 lo:Nat):Int) == 0 && (1:Int) == 1 && (sIx items.size items.size hi - sIx items.size 0 lo) == items.size)=true):=by
  rw[hw.1,hw.2];simp
 show wpAny _ _ (if (((sIx items.size 0 lo:Nat):Int) == 0 && (1:Int) == 1 && (sIx items.size items.size hi - sIx items.size 0 lo) == items.size)=true then _ else _) _ _ s;rw[Yf hyes];unfold Builtin.Tuple.tupleIsExact;refine Ya (Ya (WM ht.typeIs (Yb ?_)));rw[Yf (by decide)];refine Ya (W5 ?_)
 first
  | exact Ya (Yb (Yb ⟨_,rfl,Yb h⟩))
  | exact Ya (Ya (Yb (Yb ⟨_,rfl,Yb h⟩)))
  | exact Yb ⟨_,rfl,Yb h⟩
end
end HT
namespace DL
open PySem PySem.Spec PyProof.Rows L2
section
variable{X:Cx}{EX:EXT}
def ZQ:D->D->Sto->Out D
 | .int a,.int b,st => .ok (.int (a+b)) st
 | .str a,.str b,st=>if a.length+b.length<=small then .ok (.str (a++b)) st else .bad
 | .tup xs,.tup ys,st=>if xs.length+ys.length<=small then .ok (.tup (xs++ys)) st else .bad
 | _,_,_ => .bad
theorem Zai:OpD X EX (binaryOp .Add) ZQ:=by
 intro pins s σ H x y v u Q I rx ry h;obtain⟨O,a,b,st,W,ra,rb,R⟩:=h;cases a <;> cases b <;> first | exact R.elim | skip
 case int.int i j =>
  rw[Rep.int_i] at ra rb;subst ra rb;exact ZoP pins s σ H _ _ v u Q I rx ry ⟨i,j,rfl,rfl,Run.now (k:=Val X.K Q) R W _ (Rep.int_i.mpr rfl)⟩
 case str.str i j =>
  rw[Rep.str_i] at ra rb;subst ra rb;dsimp only[ZQ] at R;by_cases hz:i.length+j.length<=small
  ·rw[Yf hz] at R;exact ZmE pins s σ H _ _ v u Q I rx ry ⟨i,j,rfl,rfl,YL hz ZaL,Run.now (k:=Val X.K Q) R W _ (Rep.str_i.mpr rfl)⟩
  ·rw[Yh hz] at R; exact R.elim
 case tup.tup xs ys =>
  dsimp only[ZQ] at R;by_cases hz:xs.length+ys.length<=small
  ·rw[Yf hz] at R;rw[Rep.tup_i] at ra rb;obtain⟨a,vs,rfl,q1,r1⟩:=ra;obtain⟨b,ws,rfl,q2,r2⟩:=rb;by_cases h0:xs=[]
   ·subst h0;rw[Reps.nil_i] at r1;subst r1;cases rx;cases ry;obtain⟨its,v1,p1,_⟩:=I.tuple (SqT.of q1);obtain⟨its2,v2,p2,_⟩:=I.tuple (SqT.of q2);cases v1;exact HT.cat_tup0 p1 p2 ⟨.ref b,H,I,rfl,Run.now (k:=Val X.K Q) R W _ (Rep.tup_i.mpr ⟨b,ws,rfl,q2,r2⟩)⟩
   ·refine ZpE pins s σ H _ _ v u Q I rx ry ⟨a,b,vs,ws,rfl,rfl,SqT.of q1,SqT.of q2,fun z=>h0 ?_,?_,fun z => ?_,fun z p hp => ?_⟩
    ·have:=r1.length; rw[z] at this; exact W7.mp this
    ·rw[<-r1.length,<-r2.length]; exact YL hz ZaL
    ·have e:ys=[]:=by have:=r2.length; rw[z] at this; exact W7.mp this
     subst e;rw[Qm] at R;exact Run.now (k:=Val X.K Q) R W _ (Rep.tup_i.mpr ⟨a,vs,rfl,q1,r1⟩)
    ·exact Zej W (r1.append r2) hp R
  ·rw[Yh hz] at R; exact R.elim
def Zat(a b:D)(st:Sto):Out (List D):=match ZaG st a,ZaG st b with
 | some xs,some ys=>if xs.length+ys.length<=small then .ok (xs++ys) st else .bad
 | _,_ => .bad
theorem ZdP:OpF X EX (binaryOp .Add) Zat:=by
 intro pins s σ H x y v u Q I rx ry h;obtain⟨O,a,b,st,W,ra,rb,R⟩:=h;unfold Zat at R;cases ea:ZaG st a with
 | none=>rw[ea] at R; exact R.elim
 | some xs =>
  cases eb:ZaG st b with
  | none=>rw[ea,eb] at R; exact R.elim
  | some ys =>
   rw[ea,eb] at R;dsimp only at R;by_cases hz:xs.length+ys.length<=small
   ·rw[Yf hz] at R;obtain⟨p1,vs,rfl,q1,r1⟩:=rdO W ra ea;obtain⟨p2,ws,rfl,q2,r2⟩:=rdO W rb eb;exact ZrA pins s σ H _ _ v u Q I rx ry ⟨p1,p2,vs,ws,rfl,rfl,q1,q2,by rw[<-r1.length,<-r2.length]; exact YL hz ZaL,fun p hp=>Run.now (k:=New X.K Q) R W p _ (r1.append r2) hp⟩
   ·rw[Yh hz] at R; exact R.elim
def intOp(C:Int->Int->Bool)(g:Int->Int->Int):D->D->Sto->Out D
 | .int a,.int b,st=>if C a b=true then .ok (.int (g a b)) st else .bad
 | _,_,_ => .bad
theorem ZfZ{f:P9->P9->Sem P9}{C:Int->Int->Bool}{P:Int->Int->Prop}{g:Int->Int->Int}(h:OpR X f (rI P fun i j => .int (g i j)))(hC:∀i j,C i j=true->P i j):OpD X EX f (intOp C g):=by
 intro pins s σ H x y v u Q I rx ry h';obtain⟨O,a,b,st,W,ra,rb,R⟩:=h';cases a <;> cases b <;> first | exact R.elim | skip
 rename_i i j;rw[Rep.int_i] at ra rb;subst ra rb;dsimp only[intOp] at R;by_cases hz:C i j=true
 ·rw[Yf hz] at R;exact h pins s σ H _ _ v u Q I rx ry ⟨i,j,rfl,rfl,hC i j hz,Run.now (k:=Val X.K Q) R W _ (Rep.int_i.mpr rfl)⟩
 ·rw[Yh hz] at R; exact R.elim
def ZdJ:D->D->Sto->Out D
 | .int a,.int b,st => .ok (.int (a - b)) st
 | _,_,_ => .bad
theorem ZiB:OpD X EX (binaryOp .Sub) ZdJ:=by
 intro pins s σ H x y v u Q I rx ry h;obtain⟨O,a,b,st,W,ra,rb,R⟩:=h;cases a <;> cases b <;> first | exact R.elim | skip
 rename_i i j;rw[Rep.int_i] at ra rb;subst ra rb;exact ZpF pins s σ H _ _ v u Q I rx ry ⟨i,j,rfl,rfl,Run.now (k:=Val X.K Q) R W _ (Rep.int_i.mpr rfl)⟩
def Zb5(i j:Int):Bool:=(decide (-(2 ^ 64)<i) && decide (i<2 ^ 64)) || (decide (-(2 ^ 64)<j) && decide (j<2 ^ 64))
def Zal:D->D->Sto->Out D:=intOp Zb5 fun i j=>i * j
theorem Za8:OpD X EX (binaryOp .Mult) Zal:=ZfZ Zq2 fun i j h=>by
 unfold Zb5 at h;rw[QT,YJ,YJ] at h;rcases h with⟨h1,h2⟩ | ⟨h1,h2⟩
 ·exact .inl ⟨Wg h1,Wg h2⟩
 ·exact .inr ⟨Wg h1,Wg h2⟩
def ZjB(_ j:Int):Bool:=@decide (0<j/\j<1073741824) (Classical.propDecidable _)
def Zb1:D->D->Sto->Out D:=intOp ZjB fun i j=>i / j
theorem ZeF:OpD X EX (binaryOp .FloorDiv) Zb1:=ZfZ ZoJ fun i j h => @Wg (0<j/\j<1073741824) (Classical.propDecidable _) h
def Zbu:D->D->Sto->Out D:=intOp (fun _ j=>decide (0<j)) fun i j=>i % j
theorem Zcv:OpD X EX (binaryOp .Mod) Zbu:=ZfZ Zry fun i j h=>Wg h
def depth:Nat:=50
def eqD(a b:D)(st:Sto):Out D:=match eqN st depth a b with
 | some k => .ok (.bl k) st
 | none => .bad
def neD(a b:D)(st:Sto):Out D:=match eqN st depth a b with
 | some k => .ok (.bl (!k)) st
 | none => .bad
theorem Zi3(hu:X.A.units+64<cLine):OpD X EX (compareOp .Eq) eqD:=by
 intro pins s σ H x y v u Q I rx ry h;obtain⟨O,a,b,st,W,ra,rb,R⟩:=h;unfold eqD at R;cases e:eqN st depth a b with
 | none=>rw[e] at R; exact R.elim
 | some k =>
  rw[e] at R;have h:=(Zdk I W depth a b k e X.A x y v u ra rb rx ry (by show X.A.units+50<cLine; omega)).2.1;exact h X.prog X.w X.xe _ ⟨.bl k,H,I,rfl,Run.now (k:=Val X.K Q) R W _ (Rep.bl_i.mpr rfl)⟩
theorem Zah(hu:X.A.units+64<cLine):OpD X EX (compareOp .NotEq) neD:=by
 intro pins s σ H x y v u Q I rx ry h;obtain⟨O,a,b,st,W,ra,rb,R⟩:=h;unfold neD at R;cases e:eqN st depth a b with
 | none=>rw[e] at R; exact R.elim
 | some k =>
  rw[e] at R;have h:=(Zdk I W depth a b k e X.A x y v u ra rb rx ry (by show X.A.units+50<cLine; omega)).2.2;exact h X.prog X.w X.xe _ ⟨.bl (!k),H,I,rfl,Run.now (k:=Val X.K Q) R W _ (Rep.bl_i.mpr rfl)⟩
def ZiH(g:Int->Int->Bool):D->D->Sto->Out D
 | .int a,.int b,st => .ok (.bl (g a b)) st
 | _,_,_ => .bad
theorem ZqZ{f:P9->P9->Sem P9}{g:Int->Int->Bool}(h:OpR X f (rI0 fun i j => .bl (g i j))):OpD X EX f (ZiH g):=by
 intro pins s σ H x y v u Q I rx ry h';obtain⟨O,a,b,st,W,ra,rb,R⟩:=h';cases a <;> cases b <;> first | exact R.elim | skip
 rename_i i j;rw[Rep.int_i] at ra rb;subst ra rb;exact h pins s σ H _ _ v u Q I rx ry ⟨i,j,rfl,rfl,Run.now (k:=Val X.K Q) R W _ (Rep.bl_i.mpr rfl)⟩
def gtD:=ZiH fun i j=>decide (j<i)
theorem Zpl:OpD X EX (compareOp .Gt) gtD:=ZqZ Zo0
def inN(st:Sto)(n:Nat)(x:D):List D->Option Bool
 | []=>some false
 | y :: ys=>match eqN st n y x,inN st n x ys with
  | some a,some b=>some (a || b)
  | _,_=>none
def itemsOf(st:Sto):D->Option (List D)
 | .tup xs=>some xs
 | d=>Zp st d
def inD(x c:D)(st:Sto):Out D:=match itemsOf st c with
 | some ys=>match inN st depth x ys with
  | some k => .ok (.bl k) st
  | none => .bad
 | none => .bad
def ZdH(x c:D)(st:Sto):Out D:=match itemsOf st c with
 | some ys=>match inN st depth x ys with
  | some k => .ok (.bl (!k)) st
  | none => .bad
 | none => .bad
open Classical in
theorem Zdn{pins:List (Addr×Obj)}{σ:L2.St}{s:P1}{O:List Addr}{H:Hp}{st:Sto}(I:Inv X pins σ H s)(W:WR X.K O H st){x:D}{vx:V}{ux:P9}(rx:Rep X.K O H x vx)(qx:RelV vx ux){A:P6}(hA:A.units+depth<cLine) :
  ∀{ys:List D} {vs:List V} {its:List P9} {k:Bool},inN st depth x ys=some k->Reps X.K O H ys vs->Vals vs its ->
   ∃e:P9->Bool,(∀z,e z=decide (∃d v,Rep X.K O H d v/\RelV v z/\eqN st depth d x=some true))/\(∀z∈its,SeqAt.EqAt A s z ux (e z))/\its.any e=k
 | [],vs,its,k,h,r,q=>by
  rw[Reps.nil_i] at r;subst r;cases q;simp only[inN,Yx] at h;subst h;exact⟨fun z=>decide (∃d v,Rep X.K O H d v/\RelV v z/\eqN st depth d x=some true),fun _=>rfl,(fun z hz=>(by cases hz)),rfl⟩
 | y :: ys,vs,its,k,h,r,q=>by
  obtain⟨v,vs',rfl,ry,rs⟩:=Reps.cons_i.mp r;cases q with
  | cons q1 q2 =>
   rename_i u us;unfold inN at h;cases e1:eqN st depth y x with
   | none=>rw[e1] at h; cases h
   | some a =>
    cases e2:inN st depth x ys with
    | none=>rw[e1,e2] at h; cases h
    | some b =>
     rw[e1,e2] at h;simp only[Yx] at h;obtain⟨e,he,h1,h2⟩:=Zdn I W rx qx hA e2 rs q2;have hu:e u=a:=by
      rw[he u];cases a with
      | true=>exact YN ⟨y,v,ry,q1,e1⟩
      | false =>
       refine YS ?_;rintro⟨d,v',r',q',e'⟩;have ev:v'=v:=q'.inj q1;subst ev;have ed:=Rep.inj I W d y v' r' ry;subst ed;rw[e1] at e';cases e'
     refine⟨e,he,fun z hz => ?_,?_⟩
     ·rcases Yl.mp hz with rfl | hz
      ·rw[hu];exact (Zdk I W depth y x a e1 A v vx z ux ry rx q1 qx hA).1
      ·exact h1 z hz
     ·rw[QS,hu,h2];exact h
theorem Zdd{A:P6}(hu:A.units+64<cLine):A.in1.units+depth<cLine:=by
 show A.units+1+50<cLine;omega
theorem ZrQ(hu:X.A.units+64<cLine):OpD X EX (compareOp .In) inD:=by
 intro pins s σ H x y v u Q I rx ry h;obtain⟨O,a,b,st,W,ra,rb,R⟩:=h;unfold inD at R;cases e1:itemsOf st b with
 | none=>rw[e1] at R; exact R.elim
 | some ys =>
  rw[e1] at R;dsimp only at R;cases e2:inN st depth a ys with
  | none=>rw[e2] at R; exact R.elim
  | some k =>
   rw[e2] at R;have fin:EP X pins σ Q (.bool k) s:=⟨.bl k,H,I,rfl,Run.now (k:=Val X.K Q) R W _ (Rep.bl_i.mpr rfl)⟩;by_cases hb:∃zs,b = .tup zs
   ·obtain⟨zs,rfl⟩:=hb;simp only[itemsOf,Yx] at e1;subst e1;rw[Rep.tup_i] at rb;obtain⟨p,vs,rfl,q,r⟩:=rb;cases ry;obtain⟨its,hv,hp,_⟩:=I.tuple (SqT.of q);obtain⟨e,_,h1,h2⟩:=Zdn I W ra rx (Zdd hu) e2 r hv;exact SeqAt.in_tupleAt e hp (fun z hz=>h1 z (by simpa using hz)) (by simpa[h2] using fin)
   ·have e3:Zp st b=some ys:=by
     cases b <;> first | exact e1 | exact absurd ⟨_,rfl⟩ hb
    obtain⟨p,vs,rfl,q,r⟩:=rdL W rb e3;cases ry;obtain⟨its,hv,hp,_⟩:=I.list q;obtain⟨e,_,h1,h2⟩:=Zdn I W ra rx (Zdd hu) e2 r hv;exact SeqAt.in_listAt e hp.isList (fun z hz=>h1 z (by simpa using hz)) (by simpa[h2] using fin)
theorem ZqQ(hu:X.A.units+64<cLine):OpD X EX (compareOp .NotIn) ZdH:=by
 intro pins s σ H x y v u Q I rx ry h;obtain⟨O,a,b,st,W,ra,rb,R⟩:=h;unfold ZdH at R;cases e1:itemsOf st b with
 | none=>rw[e1] at R; exact R.elim
 | some ys =>
  rw[e1] at R;dsimp only at R;cases e2:inN st depth a ys with
  | none=>rw[e2] at R; exact R.elim
  | some k =>
   rw[e2] at R;have fin:EP X pins σ Q (.bool (!k)) s:=⟨.bl (!k),H,I,rfl,Run.now (k:=Val X.K Q) R W _ (Rep.bl_i.mpr rfl)⟩;by_cases hb:∃zs,b = .tup zs
   ·obtain⟨zs,rfl⟩:=hb;simp only[itemsOf,Yx] at e1;subst e1;rw[Rep.tup_i] at rb;obtain⟨p,vs,rfl,q,r⟩:=rb;cases ry;obtain⟨its,hv,hp,_⟩:=I.tuple (SqT.of q);obtain⟨e,_,h1,h2⟩:=Zdn I W ra rx (Zdd hu) e2 r hv;exact SeqAt.notIn_tupleAt e hp (fun z hz=>h1 z (by simpa using hz)) (by simpa[h2] using fin)
   ·have e3:Zp st b=some ys:=by
     cases b <;> first | exact e1 | exact absurd ⟨_,rfl⟩ hb
    obtain⟨p,vs,rfl,q,r⟩:=rdL W rb e3;cases ry;obtain⟨its,hv,hp,_⟩:=I.list q;obtain⟨e,_,h1,h2⟩:=Zdn I W ra rx (Zdd hu) e2 r hv;exact SeqAt.notIn_listAt e hp.isList (fun z hz=>h1 z (by simpa using hz)) (by simpa[h2] using fin)
end
end DL
end
section
namespace DL
open PySem PySem.Spec PyProof.Rows L2
section
variable{X:Cx}{EX:EXT}{a b c e:Expr}{fa fb fc:DE}{pos p2:Pos}{ta tb:DT}
noncomputable abbrev DO:=Ev->Sto->Out (Option Int)
def tDO(K:P5)(EX:EXT)(f:DO):TO:=fun σ H Q => ∃O ρ st,WR K O H st/\REnv K O H ρ σ/\Run K EX O H (f ρ st) (fun o _ _ H'=>Q o H')
def PDO(X:Cx)(EX:EXT)(e:Option Expr)(f:DO):Prop:=PO X e (tDO X.K EX f)
def Zaw:DO:=fun _ st => .ok none st
def Ze6:D->Sto->Out (Option Int)
 | .int i,st => .ok (some i) st
 | _,_ => .bad
def Zav(f:DE):DO:=fun ρ st=>(f ρ st).bind Ze6
theorem PO.mono{e:Option Expr}{t t':TO}(h:PO X e t)(f:∀σ H Q,t' σ H Q->t σ H Q):PO X e t':=fun pins s σ H Q I q=>h pins s σ H Q I (f σ H Q q)
theorem ZaU:PDO X EX none Zaw:=by
 refine PO.mono Zsi ?_;rintro σ H Q ⟨O,ρ,st,W,E,R⟩;exact Run.now (k:=fun o _ _ H'=>Q o H') R W
theorem ZaW{f:DE}(h:PD X EX e f):PDO X EX (some e) (Zav f):=by
 refine PO.mono (ZpV h) ?_;rintro σ H Q ⟨O,ρ,st,W,E,R⟩;refine⟨O,ρ,st,W,E,R.bind.mono fun d st1 O1 H1 k1 W1 R1 v r => ?_⟩;cases d with
 | int i=>exact⟨i,Rep.int_i.mp r,Run.now (k:=fun o _ _ H'=>Q o H') R1 W1⟩
 | _=>exact R1.elim
def Zab{α:Type}(xs:List α)(lo hi:Option Int):List α:=(xs.drop (HT.sIx xs.length 0 lo)).take (HT.sIx xs.length xs.length hi - HT.sIx xs.length 0 lo)
theorem Reps.cut{K:P5}{O:List Addr}{H:Hp}{ds:List D}{vs:List V}(r:Reps K O H ds vs)(lo hi:Option Int):Reps K O H (Zab ds lo hi) (ZbK vs lo hi):=by
 unfold Zab ZbK;rw[r.length];exact (r.drop _).take _
def rDS(K:P5)(EX:EXT)(g:D->Option Int->Option Int->Sto->Out D):V->Option Int->Option Int->Hp->VK->Prop:=fun x lo hi H Q => ∃O d st,WR K O H st/\Rep K O H d x/\Run K EX O H (g d lo hi st) (Val K Q)
def ZiD(K:P5)(EX:EXT)(g:D->Option Int->Option Int->Sto->Out (List D)):V->Option Int->Option Int->Hp->VK->Prop:=fun x lo hi H Q => ∃O d st,WR K O H st/\Rep K O H d x/\Run K EX O H (g d lo hi st) (New K Q)
def dSl{α:Type}(g:D->Option Int->Option Int->Sto->Out α)(f:DE)(l h:DO):Ev->Sto->Out α:=fun ρ st=>(f ρ st).bind fun x st1=>(l ρ st1).bind fun lo st2=>(h ρ st2).bind fun hi st3=>g x lo hi st3
theorem ZiY{g:D->Option Int->Option Int->Sto->Out D}{lo hi:Option Expr}{fl fh:DO}(hr:SlR X (rDS X.K EX g))(he:PD X EX e fa)(hl:PDO X EX lo fl)(hh:PDO X EX hi fh):PD X EX (.Subscript e (.Slice lo hi none p2) pos) (dSl g fa fl fh):=by
 refine PE.mono (Zg3 hr he hl hh) ?_;rintro σ H Q ⟨O,ρ,st,W,E,R⟩;refine⟨O,ρ,st,W,E,R.bind.mono fun x st1 O1 H1 k1 W1 R1 v r => ?_⟩;refine⟨O1,ρ,st1,W1,E.mono k1,R1.bind.mono fun lo st2 O2 H2 k2 W2 R2 => ?_⟩;refine⟨O2,ρ,st2,W2,E.mono (k1.trans k2),R2.bind.mono fun hi st3 O3 H3 k3 W3 R3 => ?_⟩;exact⟨O3,x,st3,W3,Rep.mono (k2.trans k3) x v r,R3⟩
theorem Zbs{g:D->Option Int->Option Int->Sto->Out (List D)}{lo hi:Option Expr}{fl fh:DO}(hr:SlR X (ZiD X.K EX g))(he:PD X EX e fa)(hl:PDO X EX lo fl)(hh:PDO X EX hi fh):PDF X EX (.Subscript e (.Slice lo hi none p2) pos) (dSl g fa fl fh):=by
 refine PE.mono (Zg3 hr he hl hh) ?_;rintro σ H Q ⟨O,ρ,st,W,E,R⟩;refine⟨O,ρ,st,W,E,R.bind.mono fun x st1 O1 H1 k1 W1 R1 v r => ?_⟩;refine⟨O1,ρ,st1,W1,E.mono k1,R1.bind.mono fun lo st2 O2 H2 k2 W2 R2 => ?_⟩;refine⟨O2,ρ,st2,W2,E.mono (k1.trans k2),R2.bind.mono fun hi st3 O3 H3 k3 W3 R3 => ?_⟩;exact⟨O3,x,st3,W3,Rep.mono (k2.trans k3) x v r,R3⟩
def ZcL:D->Option Int->Option Int->Sto->Out D
 | .tup xs,lo,hi,st => .ok (.tup (Zab xs lo hi)) st
 | _,_,_,_ => .bad
theorem Zjl:SlR X (rDS X.K EX ZcL):=by
 intro pins s σ H x v vl vu lo hi sl Q I rx hs pl pu h;obtain⟨O,d,st,W,r,R⟩:=h;cases d with
 | tup xs =>
  rw[Rep.tup_i] at r;obtain⟨a,vs,rfl,q,rs⟩:=r;by_cases hw:HT.sIx vs.length 0 lo=0/\HT.sIx vs.length vs.length hi=vs.length
  ·cases rx;obtain⟨its,hv,ht,hz⟩:=I.tuple (SqT.of q);have hlen:its.toArray.size=vs.length:=by rw[Yt]; exact hv.length.symm
   refine⟨"tuple",_,Wr.lookup,ht.typeIs,HT.getItem_tuple_whole ht hs pl pu (by rw[hlen]; exact hw) ?_⟩;have e:Zab xs lo hi=xs:=by
    unfold Zab;rw[rs.length,hw.1,hw.2,VD,Nat.sub_zero,<-rs.length,Qt]
   refine⟨.ref a,H,I,rfl,?_⟩;dsimp only[ZcL] at R;rw[e] at R;exact Run.now (k:=Val X.K Q) R W _ (Rep.tup_i.mpr ⟨a,vs,rfl,q,rs⟩)
  ·exact Zqb pins s σ H _ v vl vu lo hi sl Q I rx hs pl pu ⟨a,vs,rfl,SqT.of q,hw,fun p hp=>Zej W (rs.cut lo hi) hp R⟩
 | _=>exact R.elim
def ZZ(d:D)(lo hi:Option Int)(st:Sto):Out (List D):=match Zp st d with
 | some xs => .ok (Zab xs lo hi) st
 | none => .bad
theorem Zbh:SlR X (ZiD X.K EX ZZ):=by
 intro pins s σ H x v vl vu lo hi sl Q I rx hs pl pu h;obtain⟨O,d,st,W,r,R⟩:=h;unfold ZZ at R;cases e:Zp st d with
 | none=>rw[e] at R; exact R.elim
 | some xs =>
  rw[e] at R;obtain⟨a,vs,rfl,q,rs⟩:=rdL W r e;exact Zpa pins s σ H _ v vl vu lo hi sl Q I rx hs pl pu ⟨a,vs,rfl,q,fun p hp=>Run.now (k:=New X.K Q) R W p _ (rs.cut lo hi) hp⟩
def ixD(d:D)(i:D)(st:Sto):Out D:=match i with
 | .int k=>match d with
  | .str z=>if z.length<=small then (match atI z.cps.toList k with
   | some c => .ok (.str ⟨#[c]⟩) st
   | none => .bad) else .bad
  | _=>match itemsOf st d with
   | some xs=>match atI xs k with
    | some x => .ok x st
    | none => .bad
   | none => .bad
 | _ => .bad
theorem Reps.atI{K:P5}{O:List Addr}{H:Hp}{ds:List D}{vs:List V}{k:Int}{d:D}(r:Reps K O H ds vs)(h:L2.atI ds k=some d):∃v,L2.atI vs k=some v/\Rep K O H d v:=by
 unfold L2.atI at h ⊢;rw[<-r.length];cases e:ixN ds.length k with
 | none=>rw[e] at h; cases h
 | some j =>
  rw[e] at h;obtain⟨v,h1,h2⟩:=r.get (i:=j) (d:=d) h;exact⟨v,h1,h2⟩
theorem Zl3:IxR X (rD2 X.K EX ixD):=by
 intro value slice pins s σ H x y v u Q I rx ry h hsub;obtain⟨O,d,i,st,W,rd,ri,R⟩:=h;cases i with
 | int k =>
  rw[Rep.int_i] at ri;subst ri;have seq:∀xs,itemsOf st d=some xs->Run X.K EX O H (match L2.atI xs k with
    | some x => .ok x st
    | none => .bad) (Val X.K Q)->wpAny (model X.prog X.w) X.A (subscriptTail value slice v u) (EP X pins σ Q) X.xe s:=by
   intro xs e1 R';clear R;cases e2:L2.atI xs k with
   | none=>rw[e2] at R'; exact R'.elim
   | some z =>
    rw[e2] at R';by_cases hb:∃zs,d = .tup zs
    ·obtain⟨zs,rfl⟩:=hb;simp only[itemsOf,Yx] at e1;subst e1;rw[Rep.tup_i] at rd;obtain⟨p,vs,rfl,q,r⟩:=rd;obtain⟨w,h1,h2⟩:=r.atI e2;exact Zmf value slice pins s σ H _ _ v u Q I rx ry ⟨p,vs,k,w,rfl,rfl,SqT.of q,h1,Run.now (k:=Val X.K Q) R' W _ h2⟩ hsub
    ·have e3:Zp st d=some xs:=by
      cases d <;> first | exact e1 | exact absurd ⟨_,rfl⟩ hb
     obtain⟨p,vs,rfl,q,r⟩:=rdL W rd e3;obtain⟨w,h1,h2⟩:=r.atI e2;exact ZnQ value slice pins s σ H _ _ v u Q I rx ry ⟨p,vs,k,w,rfl,rfl,q,h1,Run.now (k:=Val X.K Q) R' W _ h2⟩ hsub
  cases d with
  | str z =>
   rw[Rep.str_i] at rd;subst rd;dsimp only[ixD] at R;by_cases hz:z.length<=small
   ·rw[Yf hz] at R;cases e:L2.atI z.cps.toList k with
    | none=>rw[e] at R; exact R.elim
    | some c =>
     rw[e] at R;exact Zmo value slice pins s σ H _ _ v u Q I rx ry ⟨z,k,c,rfl,rfl,YL hz ZaL,e,Run.now (k:=Val X.K Q) R W _ (Rep.str_i.mpr rfl)⟩ hsub
   ·rw[Yh hz] at R; exact R.elim
  | tup xs=>exact seq xs rfl R
  | lst xs=>exact seq xs rfl R
  | scr xs=>exact seq xs rfl R
  | res j =>
   dsimp only[ixD] at R;cases e:itemsOf st (.res j) with
   | none=>rw[e] at R; exact R.elim
   | some xs=>rw[e] at R; exact seq xs e R
  | _=>exact R.elim
 | _=>exact R.elim
theorem Zea(ha:PD X EX a fa)(hb:PD X EX b fb)(hs:Zju b:=by intro _ _; rfl):PD X EX (.Subscript a b pos) (Zm ixD fa fb):=PE.mono (Zq6 Zl3 ha hb hs) Zep
def Zl{α:Type}(g:List D->Sto->Out α)(f:DA):Ev->Sto->Out α:=fun ρ st=>(f ρ st).bind g
theorem Ze8{g:List D->Sto->Out D}{f:DA}:∀σ H Q,tD X.K EX (Zl g f) σ H Q->tCB (rDC X.K EX g) (tDA X.K EX f) σ H Q:=by
 rintro σ H Q ⟨O,ρ,st,W,E,R⟩;exact⟨O,ρ,st,W,E,R.bind.mono fun ds st1 O1 H1 k1 W1 R1 vs r=>⟨O1,ds,st1,W1,r,R1⟩⟩
theorem ZfS{g:List D->Sto->Out (List D)}{f:DA}:∀σ H Q,tDF X.K EX (Zl g f) σ H Q->tCB (ZhE X.K EX g) (tDA X.K EX f) σ H Q:=by
 rintro σ H Q ⟨O,ρ,st,W,E,R⟩;exact⟨O,ρ,st,W,E,R.bind.mono fun ds st1 O1 H1 k1 W1 R1 vs r=>⟨O1,ds,st1,W1,r,R1⟩⟩
theorem ZaD{x:Str}{p:Pos}{es:List Expr}{id:String}{g:List D->Sto->Out D}{f:DA}(hc:Zco X EX (.builtin id) g)(hg:Gl X x)(hm:X.mg x=none)(hv:bootBuiltins x=some (.builtin id))(ha:PDA X EX (e :: es) f)(hn:x≠"__name__":=by decide)(hdb:(x == ("__debug__" : Str))=false:=by decide)
  (he:starEach (e :: es) X.env=(false,eval e X.env) :: starEach es X.env:=by rfl) (hpl:(backTo pos (starEach es X.env)).any (·.1)=false:=by rfl):PD X EX (.Call (.Name x p) (e :: es) [] pos) (Zl g f):=PE.mono (ZjM hc hg hm hv ha hn hdb he hpl) Ze8
theorem Zkb{x:Str}{p:Pos}{es:List Expr}{T:String}{g:List D->Sto->Out D}{f:DA}(hc:Zco X EX (.type T) g)(hg:Gl X x)(hm:X.mg x=none)(hv:bootBuiltins x=some (.type T))(ha:PDA X EX (e :: es) f)(hn:x≠"__name__":=by decide)(hdb:(x == ("__debug__" : Str))=false:=by decide)
  (he:starEach (e :: es) X.env=(false,eval e X.env) :: starEach es X.env:=by rfl) (hpl:(backTo pos (starEach es X.env)).any (·.1)=false:=by rfl):PD X EX (.Call (.Name x p) (e :: es) [] pos) (Zl g f):=PE.mono (Zhn hc hg hm hv ha hn hdb he hpl) Ze8
theorem Zkk{x:Str}{p:Pos}{es:List Expr}{T:String}{g:List D->Sto->Out (List D)}{f:DA}(hc:ZcE X EX (.type T) g)(hg:Gl X x)(hm:X.mg x=none)(hv:bootBuiltins x=some (.type T))(ha:PDA X EX (e :: es) f)(hn:x≠"__name__":=by decide)(hdb:(x == ("__debug__" : Str))=false:=by decide)
  (he:starEach (e :: es) X.env=(false,eval e X.env) :: starEach es X.env:=by rfl) (hpl:(backTo pos (starEach es X.env)).any (·.1)=false:=by rfl):PDF X EX (.Call (.Name x p) (e :: es) [] pos) (Zl g f):=PE.mono (Zhn hc hg hm hv ha hn hdb he hpl) ZfS
def ZR:List D->Sto->Out D
 | [.str x],st=>if x.length<=small then .ok (.int x.length) st else .bad
 | [d],st=>match itemsOf st d with
  | some xs => .ok (.int xs.length) st
  | none => .bad
 | _,_ => .bad
theorem Ze4{O:List Addr}{H:Hp}{st:Sto}(W:WR X.K O H st){d:D}{v:V}{xs:List D}(r:Rep X.K O H d v)(e:itemsOf st d=some xs):∃p vs,v = .ref p/\(SqL X.K H p vs\/H p=some (.tup vs))/\Reps X.K O H xs vs:=by
 by_cases hb:∃zs,d = .tup zs
 ·obtain⟨zs,rfl⟩:=hb;simp only[itemsOf,Yx] at e;subst e;rw[Rep.tup_i] at r;obtain⟨p,vs,rfl,q,r⟩:=r;exact⟨p,vs,rfl,.inr q,r⟩
 ·have e3:Zp st d=some xs:=by
   cases d <;> first | exact e | exact absurd ⟨_,rfl⟩ hb
  obtain⟨p,vs,rfl,q,r⟩:=rdL W r e3;exact⟨p,vs,rfl,.inl q,r⟩
theorem Reps.one_of{K:P5}{O:List Addr}{H:Hp}{d:D}{vs:List V}(h:Reps K O H [d] vs):∃v,vs=[v]/\Rep K O H d v:=by
 obtain⟨v,r,rfl,q,t⟩:=Reps.cons_i.mp h;rw[Reps.nil_i] at t;subst t;exact⟨v,rfl,q⟩
theorem Reps.two_of{K:P5}{O:List Addr}{H:Hp}{d e:D}{vs:List V}(h:Reps K O H [d,e] vs):∃v w,vs=[v,w]/\Rep K O H d v/\Rep K O H e w:=by
 obtain⟨v,r,rfl,q,t⟩:=Reps.cons_i.mp h;obtain⟨w,rfl,q2⟩:=t.one_of;exact⟨v,w,rfl,q,q2⟩
theorem ZaM:Zco X EX (.builtin "len") ZR:=by
 intro pins s σ H xs us Q I rx h;obtain⟨O,ds,st,W,r,R⟩:=h
 match ds,r,R with
 | [],_,R=>exact R.elim
 | [d],r,R =>
  obtain⟨v,rfl,rv⟩:=r.one_of;have seq:∀zs,itemsOf st d=some zs->Run X.K EX O H (.ok (.int zs.length) st) (Val X.K Q)->wpAny (model X.prog X.w) X.A (PySem.call (.builtin "len") us) (EP X pins σ Q) X.xe s:=by
   intro zs e R;obtain⟨p,vs,rfl,q,rs⟩:=Ze4 W rv e;exact ZqE pins s σ H _ us Q I rx ⟨p,vs,rfl,q.imp_right SqT.of,by rw[<-rs.length]; exact Run.now (k:=Val X.K Q) R W _ (Rep.int_i.mpr rfl)⟩
  cases d with
  | str x =>
   rw[Rep.str_i] at rv;subst rv;dsimp only[ZR] at R;by_cases hz:x.length<=small
   ·rw[Yf hz] at R;exact Zli pins s σ H _ us Q I rx ⟨x,rfl,YL hz ZaL,Run.now (k:=Val X.K Q) R W _ (Rep.int_i.mpr rfl)⟩
   ·rw[Yh hz] at R; exact R.elim
  | tup zs=>exact seq zs rfl R
  | lst zs=>exact seq zs rfl R
  | scr zs=>exact seq zs rfl R
  | res j =>
   dsimp only[ZR] at R;cases e:itemsOf st (.res j) with
   | none=>rw[e] at R; exact R.elim
   | some xs=>rw[e] at R; exact seq xs e R
  | _=>exact R.elim
 | d1 :: _ :: _,_,R=>cases d1 <;> exact R.elim
def Zdh:List D->Sto->Out (List D)
 | [d],st=>match itemsOf st d with
  | some xs => .ok xs st
  | none => .bad
 | _,_ => .bad
def ZdW:List D->Sto->Out D
 | [d],st=>match itemsOf st d with
  | some xs => .ok (.tup xs) st
  | none => .bad
 | _,_ => .bad
theorem Zlz:ZcE X EX (.type "list") Zdh:=by
 intro pins s σ H xs us Q I rx h;obtain⟨O,ds,st,W,r,R⟩:=h
 match ds,r,R with
 | [],_,R=>exact R.elim
 | [d],r,R =>
  obtain⟨v,rfl,rv⟩:=r.one_of;dsimp only[Zdh] at R;cases e:itemsOf st d with
  | none=>rw[e] at R; exact R.elim
  | some zs =>
   rw[e] at R;obtain⟨p,vs,rfl,q,rs⟩:=Ze4 W rv e;exact ZlS pins s σ H _ us Q I rx ⟨p,vs,rfl,q.imp_right SqT.of,fun l hl=>Run.now (k:=New X.K Q) R W l _ rs hl⟩
 | _ :: _ :: _,_,R=>exact R.elim
theorem Zo7:Zco X EX (.type "tuple") ZdW:=by
 intro pins s σ H xs us Q I rx h;obtain⟨O,ds,st,W,r,R⟩:=h
 match ds,r,R with
 | [],_,R=>exact R.elim
 | [d],r,R =>
  obtain⟨v,rfl,rv⟩:=r.one_of;dsimp only[ZdW] at R;cases e:itemsOf st d with
  | none=>rw[e] at R; exact R.elim
  | some zs =>
   rw[e] at R;obtain⟨p,vs,rfl,q,rs⟩:=Ze4 W rv e;rcases q with q | q
   ·exact Ziy pins s σ H _ us Q I rx ⟨p,vs,rfl,.inl ⟨q,fun l hl=>Zej W rs hl R⟩⟩
   ·exact Ziy pins s σ H _ us Q I rx ⟨p,vs,rfl,.inr ⟨SqT.of q,Run.now (k:=Val X.K Q) R W _ (Rep.tup_i.mpr ⟨p,vs,rfl,q,rs⟩)⟩⟩
 | _ :: _ :: _,_,R=>exact R.elim
def Zdm:List D->Sto->Out D
 | [.int i,.int j],st => .ok (.int (if j > i then j else i)) st
 | _,_ => .bad
theorem ZrR(hc:X.calm=true):Zco X EX (.builtin "max") Zdm:=by
 intro pins s σ H xs us Q I rx h;obtain⟨O,ds,st,W,r,R⟩:=h;unfold Zdm at R;split at R
 ·obtain⟨v,w,rfl,r1,r2⟩:=r.two_of;rw[Rep.int_i] at r1 r2;subst r1 r2;exact Zmt hc pins s σ H _ us Q I rx ⟨_,_,rfl,Run.now (k:=Val X.K Q) R W _ (Rep.int_i.mpr rfl)⟩
 ·exact R.elim
end
end DL
end
section
namespace DL
open PySem PySem.Spec PyProof.Rows L2
noncomputable abbrev FD:=List D->Sto->Out D
def spD(K:P5)(F:FD):Sp:=fun vs H Q E => ∃O ds st,WR K O H st/\Reps K O H ds vs/\Run K (fun c _ _ H'=>E (.ref c) Option.none H') O H (F ds st) (Val K Q)
def eOf(EX:EXT):XK:=fun Cv _ H' => ∃c st O',Cv = .ref c/\EX c st O' H'
noncomputable abbrev ZjD(CX:CXT)(X:Cx)(EX:EXT):Prop:=Passes CX X (eOf EX)
theorem xe0{X:Cx}{EX:EXT}:ZjD CX0 X EX:=fun _ _ _ _ _ _ _ h=>h.elim
theorem Run.ex{K:P5}{EX EX':EXT}{α:Type}{O:List Addr}{H:Hp}{r:Out α}{k:α->Sto->List Addr->Hp->Prop}(h:Run K EX O H r k)(f:∀c st O' H',EX c st O' H'->EX' c st O' H'):Run K EX' O H r k:=by
 cases r with
 | ok a st=>exact h
 | exc c st=>exact fun O' H' kp W=>f _ _ _ _ (h O' H' kp W)
 | bad=>exact h
theorem Run.eOf{K:P5}{EX:EXT}{α:Type}{O:List Addr}{H:Hp}{r:Out α}{k:α->Sto->List Addr->Hp->Prop}(h:Run K EX O H r k):Run K (fun c _ _ H'=>eOf EX (.ref c) Option.none H') O H r k :=
 h.ex fun c st O' H' z=>⟨c,st,O',rfl,z⟩
def ZgL(f:Str)(d:D):List (Str×D)->List (Str×D)
 | []=>[(f,d)]
 | (g,x) :: r=>if g=f then (g,d) :: r else (g,x) :: ZgL f d r
theorem Flds.put{K:P5}{O:List Addr}{H:Hp}{f:Str}{d:D}{v:V}(q:Rep K O H d v):∀{ds:List (Str×D)} {vs:List (Str×V)},Flds K O H ds vs->Flds K O H (ZgL f d ds) (ZeN f v vs)
 | [],vs,h=>by
  unfold Flds at h;subst h;show Flds K O H [(f,d)] [(f,v)];unfold Flds;exact⟨v,[],rfl,q,by unfold Flds; rfl⟩
 | (x,e) :: ds,vs,h=>by
  unfold Flds at h;obtain⟨u,r,rfl,q',t⟩:=h;unfold ZgL ZeN;by_cases hx:x=f
  ·rw[Yf hx,Yf hx];unfold Flds;exact⟨v,r,rfl,q,t⟩
  ·rw[Yh hx,Yh hx];unfold Flds;exact⟨u,ZeN f v r,rfl,q',Flds.put q t⟩
theorem Flds.length{K:P5}{O:List Addr}{H:Hp}:∀{ds:List (Str×D)} {vs:List (Str×V)},Flds K O H ds vs->ds.length=vs.length
 | [],vs,h=>by unfold Flds at h; subst h; rfl
 | (x,e) :: ds,vs,h=>by
  unfold Flds at h;obtain⟨u,r,rfl,q',t⟩:=h;rw[Yw,Yw,Flds.length t]
section
variable{X:Cx}{EX:EXT}{a b c e o:Expr}{fa fb fc fo:DE}{pos p apos:Pos}{ta tb:DT}{CX:CXT}{k:Nat}{f C:Addr}{fd:P8}{ps:List Str}{n:Nat}{F:FD}{x m:Str}{es:List Expr}{g:DA}
theorem ZpL(G:FnOk X.prog X.w X.K X.mg X.base CX k f fd ps (spD X.K F))(hr:Room k X.A)(hg:Gl X x)(hm:X.mg x=some (.ref f))(hk:PySem.W.keepIn X.K (.ref f)=true)(hb:Binds X.K fd ps [])(hx:ZjD CX X EX)(ha:PDA X EX (e :: es) g)
  (hdb:(x == ("__debug__" : Str))=false:=by decide) (he:starEach (e :: es) X.env=(false,eval e X.env) :: starEach es X.env:=by rfl) (hpl:(backTo pos (starEach es X.env)).any (·.1)=false:=by rfl) :
  PD X EX (.Call (.Name x p) (e :: es) [] pos) (Zl F g):=by
 refine PE.mono (Zsf G hr hg hm hk hb .nil hx ha hdb he hpl) ?_;rintro σ H Q ⟨O,ρ,st,W,E,R⟩;refine⟨O,ρ,st,W,E,R.bind.mono fun ds st1 O1 H1 k1 W1 R2 vs r => ?_⟩;dsimp only;rw[Qm];exact⟨O1,ds,st1,W1,r,R2.eOf⟩
end
inductive OutS where
 | nx (ρ:Ev) (st:Sto) | rt (d:D) (st:Sto) | bk (ρ:Ev) (st:Sto) | ct (ρ:Ev) (st:Sto) | exc (c:Addr) (st:Sto) | bad
noncomputable abbrev DS:=Ev->Sto->OutS
def RunS(K:P5)(EX:EXT)(Dn:Ends)(O:List Addr)(H:Hp):OutS->Prop
 | .nx ρ st => ∀O' H' σ,Keep K O H O' H'->WR K O' H' st->REnv K O' H' ρ σ->Dn.nx σ H'
 | .bk ρ st => ∀O' H' σ,Keep K O H O' H'->WR K O' H' st->REnv K O' H' ρ σ->Dn.bk σ H'
 | .ct ρ st => ∀O' H' σ,Keep K O H O' H'->WR K O' H' st->REnv K O' H' ρ σ->Dn.ct σ H'
 | .rt d st => ∀O' H' v,Keep K O H O' H'->WR K O' H' st->Rep K O' H' d v->Dn.rt v H'
 | .exc c st => ∀O' H',Keep K O H O' H'->WR K O' H' st->EX c st O' H'
 | .bad=>False
def tDS(K:P5)(EX:EXT)(g:DS):TS:=fun Dn σ H => ∃O ρ st,WR K O H st/\REnv K O H ρ σ/\RunS K EX Dn O H (g ρ st)
def PDs(X:Cx)(EX:EXT)(s:Stmt)(g:DS):Prop:=PS X s (tDS X.K EX g)
def PDS(X:Cx)(EX:EXT)(ss:List Stmt)(g:DS):Prop:=PSs X ss (tDS X.K EX g)
theorem RunS.later{K:P5}{EX:EXT}{Dn:Ends}{O O':List Addr}{H H':Hp}{r:OutS}(h:RunS K EX Dn O H r)(kp:Keep K O H O' H'):RunS K EX Dn O' H' r:=by
 cases r with
 | bad=>exact h
 | exc c st=>exact fun O2 H2 k2 W2=>h O2 H2 (kp.trans k2) W2
 | rt d st=>exact fun O2 H2 v k2 W2 r2=>h O2 H2 v (kp.trans k2) W2 r2
 | nx ρ st=>exact fun O2 H2 v k2 W2 r2=>h O2 H2 v (kp.trans k2) W2 r2
 | bk ρ st=>exact fun O2 H2 v k2 W2 r2=>h O2 H2 v (kp.trans k2) W2 r2
 | ct ρ st=>exact fun O2 H2 v k2 W2 r2=>h O2 H2 v (kp.trans k2) W2 r2
def Out.to{α:Type}(r:Out α)(k:α->Sto->OutS):OutS:=match r with
 | .ok a st=>k a st
 | .exc c st => .exc c st
 | .bad => .bad
theorem RunS.to{K:P5}{EX:EXT}{Dn:Ends}{α:Type}{O:List Addr}{H:Hp}{r:Out α}{g:α->Sto->OutS}(h:RunS K EX Dn O H (r.to g)):Run K EX O H r (fun a st O' H'=>RunS K EX Dn O' H' (g a st)):=by
 cases r with
 | ok a st=>exact fun O' H' kp W=>RunS.later (r:=g a st) h kp
 | exc c st=>exact h
 | bad=>exact h
section
variable{X:Cx}{EX:EXT}{a b c e o tg:Expr}{fa fb fc fo:DE}{pos p apos:Pos}{ta tb:DT}{s:Stmt}{ss:List Stmt}{g g':DS}{x:Str}{C:Addr}
def ZaI:DS:=fun ρ st => .nx ρ st
def Zu(g g':DS):DS:=fun ρ st=>match g ρ st with
 | .nx ρ' st'=>g' ρ' st'
 | r=>r
theorem Zbd:PDS X EX [] ZaI:=by
 refine PSs.mono Zpn ?_;rintro Dn σ H ⟨O,ρ,st,W,E,R⟩;exact R O H σ Keep.refl W E
theorem Zy(h1:PDs X EX s g)(h2:PDS X EX ss g'):PDS X EX (s :: ss) (Zu g g'):=by
 refine PSs.mono (Zl9 h1 h2) ?_;rintro Dn σ H ⟨O,ρ,st,W,E,R⟩;refine⟨O,ρ,st,W,E,?_⟩;unfold Zu at R;cases hg:g ρ st with
 | nx ρ' st' =>
  rw[hg] at R;exact fun O' H' σ' kp W' E'=>⟨O',ρ',st',W',E',RunS.later R kp⟩
 | _=>rw[hg] at R; exact R
theorem ZD(h1:PDs X EX s g):PDS X EX [s] g:=Zle h1
def Ze5(f:DE):DS:=fun ρ st=>(f ρ st).to fun _ st1 => .nx ρ st1
theorem ZlF(he:PD X EX e fa)(hs:swapsWith e none pos.line X.env=pure false:=by rfl):PDs X EX (.Expr e pos) (Ze5 fa):=by
 refine PS.mono (Zp2 he hs) ?_;rintro Dn σ H ⟨O,ρ,st,W,E,R⟩;exact⟨O,ρ,st,W,E,R.to.mono fun d st1 O1 H1 k1 W1 R1 v r=>R1 O1 H1 σ Keep.refl W1 (E.mono k1)⟩
def ZN(f:DE):DS:=fun ρ st=>(f ρ st).to fun d st1 => .rt d st1
theorem ZP(he:PD X EX e fa):PDs X EX (.Return (some e) pos) (ZN fa):=by
 refine PS.mono (Zpi he) ?_;rintro Dn σ H ⟨O,ρ,st,W,E,R⟩;exact⟨O,ρ,st,W,E,R.to.mono fun d st1 O1 H1 k1 W1 R1 v r=>R1 O1 H1 v Keep.refl W1 r⟩
def sIf(t:DT)(g g':DS):DS:=fun ρ st=>(t ρ st).to fun x st1=>if x=true then g ρ st1 else g' ρ st1
theorem ZaR{sa sb:List Stmt}(hc:PDT X EX c ta)(ha:PDS X EX sa g)(hb:PDS X EX sb g'):PDs X EX (.If c sa sb pos) (sIf ta g g'):=by
 refine PS.mono (Zny hc ha hb) ?_;rintro Dn σ H ⟨O,ρ,st,W,E,R⟩;refine⟨O,ρ,st,W,E,R.to.mono fun x st1 O1 H1 k1 W1 R1 => ?_⟩;cases x with
 | true=>exact⟨O1,ρ,st1,W1,E.mono k1,R1⟩
 | false=>exact⟨O1,ρ,st1,W1,E.mono k1,R1⟩
def ZE(i:Nat)(f:DE):DS:=fun ρ st=>(f ρ st).to fun d st1 => .nx (ρ.set i (some d)) st1
theorem Z6(i:Nat){pos':Pos}(hN:X.N.Nodup)(hi:X.N[i]?=some x)(hx:Loc X.env.scope x)(he:PD X EX e fa)(hs:swapsWith e (some (.Name x pos')) pos.line X.env=pure false:=by rfl)
  (hf:X.fn x=true\/X.env.scope.names.lookup x=some .local:=by first | exact .inl rfl | exact .inr rfl | assumption):PDs X EX (.Assign [.Name x pos'] e pos) (ZE i fa):=by
 refine PS.mono (Zim hN hi hx he hs hf) ?_;rintro Dn σ H ⟨O,ρ,st,W,E,R⟩;exact⟨O,ρ,st,W,E,R.to.mono fun d st1 O1 H1 k1 W1 R1 v r=>R1 O1 H1 _ Keep.refl W1 ((E.mono k1).set r)⟩
def Zdg(i:Nat)(f:DA):DS:=fun ρ st=>(f ρ st).to fun ds st1 => .nx (ρ.set i (some (.res st1.length))) (st1++[.lst ds])
theorem ZhI(i:Nat){f:DA}{pos':Pos}(hN:X.N.Nodup)(hi:X.N[i]?=some x)(hx:Loc X.env.scope x)(he:PDF X EX e f)(hs:swapsWith e (some (.Name x pos')) pos.line X.env=pure false:=by rfl)
  (hf:X.fn x=true\/X.env.scope.names.lookup x=some .local:=by first | exact .inl rfl | exact .inr rfl | assumption):PDs X EX (.Assign [.Name x pos'] e pos) (Zdg i f):=by
 refine PS.mono (Zim hN hi hx he hs hf) ?_;rintro Dn σ H ⟨O,ρ,st,W,E,R⟩;exact⟨O,ρ,st,W,E,R.to.mono fun ds st1 O1 H1 k1 W1 R1 p vs r hp=>R1 (O1++[p]) _ _ (Keep.push hp) (W1.push hp r) ((E.mono (k1.trans (Keep.push hp))).set (Zlp W1.len))⟩
def ZL(N n:Nat)(g:DS):FD:=fun ds st=>if ds.length=n then (match g (ds.map some++List.replicate (N - n) none) st with
 | .nx _ st' => .ok .non st'
 | .rt d st' => .ok d st'
 | _ => .bad) else .bad
end
section
variable{P:P7}{w:World}{K:P5}{mg:Str->Option P9}{base:Heap}
theorem ZhX{O:List Addr}{H:Hp}{N:List Str}:∀{ds:List D} {vs:List V} (m:Nat),Reps K O H ds vs->REnv K O H (ds.map some++List.replicate m none) (vs.map some++List.replicate m none):=by
 intro ds vs m r;refine⟨by simp[r.length],fun i d h => ?_⟩;by_cases hi:i<ds.length
 ·rw[Wf (by simpa using hi)] at h;rw[Yz] at h;cases e:ds[i]? with
  | none=>rw[e] at h; cases h
  | some d' =>
   rw[e] at h;simp only[Vm,Yx] at h;subst h;obtain⟨v,h1,h2⟩:=r.get e;exact⟨v,by rw[Wf (by rw[Ym,<-r.length]; exact hi),Yz,h1]; rfl,h2⟩
 ·rw[Ws (by rw[Ym]; omega),QO] at h;split at h <;> cases h
theorem fnD{x qual:Str}{st:Stmt}{f:Addr}{fd:P8}{N ps:List Str}{k:Nat}{g:DS}(F:Fun K x qual st f fd)(S:FnScope N ps (Ze st))
  (hbody:∀(cdv:P9) (A:P6) (outer:List Env) (s:P1) (H:Hp) (E:XK),Room k (A.deeper (envOfC qual (Ze st) s.heap.objs.size f cdv)) ->
   PDS (ZJ CX0 P w K mg base N qual (Ze st) f cdv A outer s H E).nox EX0 (Zt st) g):FnOk P w K mg base CX0 (k+1) f fd ps (spD K (ZL N.length ps.length g)):=by
 have hlen:∀vs H Q E,spD K (ZL N.length ps.length g) vs H Q E->vs.length=ps.length:=by
  rintro vs H Q E ⟨O,ds,st,W,r,R⟩;unfold ZL at R;by_cases hl:ds.length=ps.length
  ·rw[<-r.length]; exact hl
  ·rw[Yh hl] at R; exact R.elim
 refine F.ok S hlen fun cdv A outer s H vs Q E hr h => ?_;refine⟨_,hbody cdv A outer s H E hr,?_⟩;have hl:=hlen vs H Q E h;obtain⟨O,ds,st,W,r,R⟩:=h;have hd:ds.length=ps.length:=by rw[r.length]; exact hl
 unfold ZL at R;rw[Yf hd] at R;refine⟨O,ds.map some++List.replicate (N.length - ps.length) none,st,W,?_,?_⟩
 ·unfold L2.start;rw[hl];exact ZhX (N:=N) _ r
 ·cases hg:g (ds.map some++List.replicate (N.length - ps.length) none) st with
  | nx ρ st'=>rw[hg] at R; exact fun O' H' σ kp W' _=>R O' H' kp W' _ (Rep.non_i.mpr rfl)
  | rt d st'=>rw[hg] at R; exact fun O' H' v kp W' rv=>R O' H' kp W' v rv
  | exc c st'=>rw[hg] at R; exact R.elim
  | bad=>rw[hg] at R; exact R
  | bk ρ st'=>rw[hg] at R; exact R.elim
  | ct ρ st'=>rw[hg] at R; exact R.elim
end
end DL
end
section
namespace DL
open PySem PySem.Spec PyProof.Rows L2
noncomputable abbrev TgD:=D->Ev->Option Ev
def tgD(K:P5)(t:TgD):TG:=fun v σ H Q => ∃O d ρ ρ',Rep K O H d v/\REnv K O H ρ σ/\t d ρ=some ρ'/\∀σ',REnv K O H ρ' σ'->Q σ' H
def PGD(X:Cx)(tg:Expr)(t:TgD):Prop:=PG X tg (tgD X.K t)
theorem PG.mono{X:Cx}{tg:Expr}{t t':TG}(h:PG X tg t)(f:∀v σ H Q,t' v σ H Q->t v σ H Q):PG X tg t':=fun pins s σ H v u Q I r q=>h pins s σ H v u Q I r (f v σ H Q q)
theorem PGs.mono{X:Cx}{tg:List Expr}{t t':TGs}(h:PGs X tg t)(f:∀v σ H Q,t' v σ H Q->t v σ H Q):PGs X tg t':=fun pins s σ H v u Q I r q=>h pins s σ H v u Q I r (f v σ H Q q)
def Zz(i:Nat):TgD:=fun d ρ=>some (ρ.set i (some d))
def ZfG:List Nat->List D->Ev->Ev
 | i :: is,d :: ds,ρ=>ZfG is ds (ρ.set i (some d))
 | _,_,ρ=>ρ
def Zew(K:P5)(is:List Nat):TGs:=fun vs σ H Q => ∃O ds ρ,Reps K O H ds vs/\REnv K O H ρ σ/\ds.length=is.length/\∀σ',REnv K O H (ZfG is ds ρ) σ'->Q σ' H
def Za7(is:List Nat):TgD
 | .tup ds,ρ=>if ds.length=is.length then some (ZfG is ds ρ) else none
 | _,_=>none
section
variable{X:Cx}{EX:EXT}{pos:Pos}{x:Str}
theorem Zax(i:Nat)(hN:X.N.Nodup)(hi:X.N[i]?=some x)(hx:Loc X.env.scope x)(hf:X.fn x=true\/X.env.scope.names.lookup x=some .local:=by first | exact .inl rfl | exact .inr rfl | assumption):PGD X (.Name x pos) (Zz i):=by
 refine PG.mono (Zh4 hN hi hx hf) ?_;rintro v σ H Q ⟨O,d,ρ,ρ',r,E,ht,q⟩;cases ht;exact q _ (E.set r)
theorem Zfu:PGs X [] (Zew X.K []):=by
 refine PGs.mono Zpd ?_;rintro vs σ H Q ⟨O,ds,ρ,r,E,hl,q⟩;have e:ds=[]:=W7.mp hl;subst e;rw[Reps.nil_i] at r;exact⟨r,q _ E⟩
theorem ZbZ(i:Nat){is:List Nat}{es:List Expr}(hN:X.N.Nodup)(hi:X.N[i]?=some x)(hx:Loc X.env.scope x)(h2:PGs X es (Zew X.K is))(hf:X.fn x=true\/X.env.scope.names.lookup x=some .local:=by first | exact .inl rfl | exact .inr rfl | assumption)
  (hs:(assignEach (.Name x pos :: es) X.env).map (·.2)=assign (.Name x pos) X.env :: (assignEach es X.env).map (·.2):=by rfl):PGs X (.Name x pos :: es) (Zew X.K (i :: is)):=by
 refine PGs.mono (Zn5 (Zh4 hN hi hx hf) h2 hs) ?_;rintro vs σ H Q ⟨O,ds,ρ,r,E,hl,q⟩;cases ds with
 | nil=>cases hl
 | cons d ds =>
  obtain⟨v,vs',rfl,q1,t⟩:=Reps.cons_i.mp r;exact⟨v,vs',rfl,O,ds,_,t,E.set q1,by simpa using hl,q⟩
theorem Zfg{is:List Nat}{es:List Expr}{k:Nat}(hc:X.calm=true)(h:PGs X es (Zew X.K is))(hn:(assignEach es X.env).length=is.length:=by rfl)(hst:(assignEach es X.env).findIdx? (·.1)=none:=by rfl):PGD X (.Tuple es k pos) (Za7 is):=by
 refine PG.mono (Zlt hc h hn hst) ?_;rintro v σ H Q ⟨O,d,ρ,ρ',r,E,ht,q⟩;cases d with
 | tup ds =>
  dsimp only[Za7] at ht;by_cases hl:ds.length=is.length
  ·rw[Yf hl] at ht;cases ht;rw[Rep.tup_i] at r;obtain⟨a,vs,rfl,hq,rs⟩:=r;exact⟨a,vs,rfl,SqT.of hq,by rw[<-rs.length]; exact hl,O,ds,ρ,rs,E,hl,q⟩
  ·rw[Yh hl] at ht; cases ht
 | _=>cases ht
end
noncomputable abbrev Wk:=List D×(Sto->Prop)
def ItD(K:P5)(J:It)(O0:List Addr)(H0:Hp)(q:Wk):Prop :=
 ∀(i:Nat) (O:List Addr) (H:Hp) (st:Sto),Keep K O0 H0 O H->WR K O H st->q.2 st ->
  (∀d,q.1[i]?=some d->J.go i H/\∀x H',J.yld i H x H'->Keep K O H O H'/\WR K O H' st/\Rep K O H' d x)/\(q.1.length<=i->J.stop i H)
noncomputable abbrev DI:=Ev->Sto->Out Wk
def wiD(K:P5)(EX:EXT)(f:DI):TI:=fun σ H R => ∃O ρ st,WR K O H st/\REnv K O H ρ σ/\Run K EX O H (f ρ st) (fun q _ O' H' => ∀J,ItD K J O' H' q->R J H')
def PID(X:Cx)(EX:EXT)(tg iter:Expr)(f:DI):Prop:=PI X tg iter (wiD X.K EX f)
theorem PI.mono{X:Cx}{tg it:Expr}{t t':TI}(h:PI X tg it t)(f:∀σ H Q,t' σ H Q->t σ H Q):PI X tg it t':=fun pins s σ H Q I q=>h pins s σ H Q I (f σ H Q q)
theorem PI.or{X:Cx}{tg it:Expr}{t t':TI}(h:PI X tg it t)(h':PI X tg it t'):PI X tg it (fun σ H R=>t σ H R\/t' σ H R):=fun pins s σ H Q I q=>by
 rcases q with q | q
 ·exact h pins s σ H Q I q
 ·exact h' pins s σ H Q I q
section
variable{K:P5}{O:List Addr}{H:Hp}{st:Sto}
theorem ZlY{a:Addr}{vs:List V}{xs:List D}{P:Sto->Prop}(q:H a=some (.tup vs))(r:Reps K O H xs vs):ItD K (Itt K a) O H (xs,P):=by
 intro i O' H' st' kp W' _;refine⟨fun d hd => ?_,fun hl=>⟨vs,SqT.of (kp.tup _ _ q),by rw[<-r.length]; exact hl⟩⟩;obtain⟨v,h1,h2⟩:=r.get hd;refine⟨⟨vs,v,SqT.of (kp.tup _ _ q),h1⟩,?_⟩;rintro x H2 ⟨rfl,h3⟩;have h4:=h3 vs (SqT.of (kp.tup _ _ q));rw[h1] at h4;cases h4;exact⟨Keep.refl,W',Rep.mono kp _ _ h2⟩
theorem ZlD{a:Addr}{xs:List D}{P:Sto->Prop}(h:∀(O':List Addr) (H':Hp) (st':Sto),Keep K O H O' H'->WR K O' H' st'->P st'->∃vs,SqL K H' a vs/\Reps K O' H' xs vs):ItD K (Itl K a) O H (xs,P):=by
 intro i O' H' st' kp W' hp;obtain⟨vs,q,r⟩:=h O' H' st' kp W' hp;refine⟨fun d hd => ?_,fun hl=>⟨vs,q,by rw[<-r.length]; exact hl⟩⟩;obtain⟨v,h1,h2⟩:=r.get hd;refine⟨⟨vs,v,q,h1⟩,?_⟩;rintro x H2 ⟨rfl,h3⟩;have h4:=h3 vs q;rw[h1] at h4;cases h4;exact⟨Keep.refl,W',h2⟩
theorem Zm4{lo:Int}{n:Nat}{P:Sto->Prop}:ItD K (Itr lo n) O H ((List.range n).map (fun (i:Nat)=>D.int (lo+i)),P):=by
 intro i O' H' st' kp W' hp;refine⟨fun d hd => ?_,fun hl=>(show n<=i by simpa using hl)⟩;have hi:i<n:=by
  have:=(Yk.mp hd).1;simpa using this
 have e:d=D.int (lo+i):=by
  rw[Yz,List.getElem?_range hi] at hd;simpa using hd.symm
 subst e;refine⟨hi,?_⟩;rintro x H2 ⟨rfl,rfl⟩;exact⟨Keep.refl,W',Rep.int_i.mpr rfl⟩
end
section
variable{X:Cx}{EX:EXT}{tg e a b:Expr}{f:DE}{g:DA}{pos p:Pos}
def Zag(f:DE):DI:=fun ρ st=>(f ρ st).bind fun d st1=>match itemsOf st1 d with
 | some xs => .ok (xs,fun st=>itemsOf st d=some xs) st1
 | none => .bad
theorem Zbi(h:PD X EX e f):PID X EX tg e (Zag f):=by
 refine PI.mono (PI.or (ZrL h) (ZnT h)) ?_;rintro σ H R ⟨O,ρ,st,W,E,R0⟩;have R1:=R0.bind;cases hf:f ρ st with
 | bad=>rw[hf] at R1; exact R1.elim
 | exc c st' =>
  rw[hf] at R1;exact .inl ⟨O,ρ,st,W,E,by rw[hf]; exact R1⟩
 | ok d st' =>
  rw[hf] at R1;by_cases hb:∃zs,d = .tup zs
  ·obtain⟨zs,rfl⟩:=hb;refine .inl ⟨O,ρ,st,W,E,?_⟩;rw[hf];intro O1 H1 k1 W1 v r;have R2:=R1 O1 H1 k1 W1;rw[Rep.tup_i] at r;obtain⟨q,vs,rfl,hq,rs⟩:=r;exact⟨q,rfl,⟨vs,SqT.of hq⟩,Run.now (k:=fun q _ O' H' => ∀J,ItD X.K J O' H' q->R J H') R2 W1 _ (ZlY hq rs)⟩
  ·refine .inr ⟨O,ρ,st,W,E,?_⟩;rw[hf];intro O1 H1 k1 W1 v r;have R2:=R1 O1 H1 k1 W1;have ei:∀s',itemsOf s' d=Zp s' d:=by
    intro s';cases d <;> first | rfl | exact absurd ⟨_,rfl⟩ hb
   dsimp only at R2;rw[ei] at R2;cases e1:Zp st' d with
   | none=>rw[e1] at R2; exact R2.elim
   | some xs =>
    rw[e1] at R2;obtain⟨q,vs,rfl,hq,rs⟩:=rdL W1 r e1;refine⟨q,rfl,⟨vs,hq⟩,Run.now (k:=fun q _ O' H' => ∀J,ItD X.K J O' H' q->R J H') R2 W1 _ (ZlD fun O' H' st2 kp W' hp => ?_)⟩;rw[ei] at hp;obtain⟨q',vs',e2,hq',rs'⟩:=rdL W' (Rep.mono kp _ _ r) hp;cases e2;exact⟨vs',hq',rs'⟩
def Zbl(j:Int):Bool:=@decide (-(2 ^ 62)<=j/\j<2 ^ 62) (Classical.propDecidable _)
theorem rngOk_iff{j:Int}:Zbl j=true ↔ (-(2 ^ 62)<=j/\j<2 ^ 62):=by
 unfold Zbl;exact @decide_eq_true_iff _ (Classical.propDecidable _)
theorem ZdV{j:Int}(h1 : -1000000<=j)(h2:j<=1000000):Zbl j=true:=rngOk_iff.mpr ⟨by omega,by omega⟩
def ZbB(g:DA):DI:=fun ρ st=>(g ρ st).bind fun ds st1=>match ds with
 | [.int j]=>if Zbl j=true then .ok ((List.range j.toNat).map (fun (i:Nat)=>D.int (0+i)),fun _=>True) st1 else .bad
 | _ => .bad
theorem ZeH(hg:Gl X "range")(hm:X.mg "range" = none)(ha:PDA X EX [a] g)(hs:starEach [a] X.env=[(false,eval a X.env)]:=by rfl):PID X EX tg (.Call (.Name "range" p) [a] [] pos) (ZbB g):=by
 refine PI.mono (Zsh hg hm ha hs) ?_;rintro σ H R ⟨O,ρ,st,W,E,R0⟩;refine⟨O,ρ,st,W,E,R0.bind.mono fun ds st1 O1 H1 k1 W1 R1 vs r => ?_⟩;split at R1
 ·rename_i j;obtain⟨v,rfl,rv⟩:=r.one_of;rw[Rep.int_i] at rv;subst rv;by_cases hj:Zbl j=true
  ·rw[Yf hj] at R1;exact⟨j,rfl,(rngOk_iff.mp hj).1,(rngOk_iff.mp hj).2,Run.now (k:=fun q _ O' H' => ∀J,ItD X.K J O' H' q->R J H') R1 W1 _ Zm4⟩
  ·rw[Yh hj] at R1; exact R1.elim
 ·exact R1.elim
end
open Classical in
def ZO(chk:Sto->Prop)(t:TgD)(g:DS):List D->DS
 | [],ρ,st=>if chk st then .nx ρ st else .bad
 | x :: xs,ρ,st=>if chk st then (match t x ρ with
  | none => .bad
  | some ρ1=>match g ρ1 st with
   | .nx ρ' st'=>ZO chk t g xs ρ' st'
   | .ct ρ' st'=>ZO chk t g xs ρ' st'
   | .bk ρ' st' => .nx ρ' st'
   | r=>r) else .bad
def ZbN(f:DI)(t:TgD)(g:DS):DS:=fun ρ st=>(f ρ st).to fun q st1=>ZO q.2 t g q.1 ρ st1
section
variable{X:Cx}{EX:EXT}{tg it:Expr}{f:DI}{t:TgD}{g:DS}{pos:Pos}{body:List Stmt}
theorem Zc4(hp:PassesOwn (model X.prog X.w) X.A X.env X.xe)(hc:X.calm=true)(hi:PID X EX tg it f)(hg:PGD X tg t)(hb:PDS X EX body g)(hs:∀x,foldedSetIterable it X.env x=pure x:=by intro _; rfl):PDs X EX (.For tg it body [] pos) (ZbN f t g):=by
 refine PS.mono (Zir hp hc hi hg hb hs) ?_;rintro Dn σ H ⟨O,ρ,st,W,E,R⟩;refine⟨O,ρ,st,W,E,R.to.mono fun q st1 O1 H1 k1 W1 R1 J hJ => ?_⟩;refine⟨fun i m σ' H'=>m+i=q.1.length/\∃O' ρ' st',Keep X.K O1 H1 O' H'/\WR X.K O' H' st'/\REnv X.K O' H' ρ' σ'/\RunS X.K EX Dn O' H' (ZO q.2 t g (q.1.drop i) ρ' st'),⟨q.1.length,rfl,O1,ρ,st1,Keep.refl,W1,E.mono k1,R1⟩,?_⟩;rintro i m σ' H' ⟨hm,O',ρ',st',kp,W',E',R'⟩;cases hd:q.1.drop i with
 | nil =>
  rw[hd] at R';unfold ZO at R';have hl:q.1.length<=i:=Ua.mp hd;by_cases hch:q.2 st'
  ·rw[Yf hch] at R';exact .inl ⟨(hJ i O' H' st' kp W' hch).2 hl,R' O' H' σ' Keep.refl W' E'⟩
  ·rw[Yh hch] at R'; exact R'.elim
 | cons x xs =>
  rw[hd] at R';unfold ZO at R';have hx:q.1[i]?=some x:=by
   have:=Ur (xs:=q.1) (i:=i) (j:=0);rw[hd] at this;simpa using this.symm
  have hxs:q.1.drop (i+1)=xs:=by
   have:=Um (i:=1) (j:=i) (l:=q.1);rw[hd] at this;simpa using this.symm
  have hi:i<q.1.length:=(Yk.mp hx).1;by_cases hch:q.2 st'
  ·rw[Yf hch] at R';obtain⟨hgo,hy⟩:=(hJ i O' H' st' kp W' hch).1 x hx;refine .inr ⟨hgo,fun σ2 H2=>(m - 1)+(i+1)=q.1.length/\∃O' ρ' st',True/\WR X.K O' H2 st'/\Keep X.K O1 H1 O' H2/\REnv X.K O' H2 ρ' σ2/\RunS X.K EX Dn O' H2 (ZO q.2 t g (q.1.drop (i+1)) ρ' st'),?_,?_⟩
   ·rintro σ2 H2 ⟨h1,O2,ρ2,st2,_,W2,kp2,E2,R2⟩;exact⟨m - 1,by omega,h1,O2,ρ2,st2,kp2,W2,E2,R2⟩
   ·intro v H2 hv;obtain⟨ky,Wy,ry⟩:=hy v H2 hv;cases ht:t x ρ' with
    | none=>rw[ht] at R'; exact R'.elim
    | some ρ1 =>
     rw[ht] at R';dsimp only at R';refine⟨O',x,ρ',ρ1,ry,E'.mono ky,ht,fun σ2 E2=>⟨O',ρ1,st',Wy,E2,?_⟩⟩;cases hgr:g ρ1 st' with
     | nx ρ2 st2 =>
      rw[hgr] at R';intro O3 H3 σ3 k3 W3 E3;exact⟨by omega,O3,ρ2,st2,trivial,W3,kp.trans (ky.trans k3),E3,by rw[hxs]; exact RunS.later R' (ky.trans k3)⟩
     | ct ρ2 st2 =>
      rw[hgr] at R';intro O3 H3 σ3 k3 W3 E3;exact⟨by omega,O3,ρ2,st2,trivial,W3,kp.trans (ky.trans k3),E3,by rw[hxs]; exact RunS.later R' (ky.trans k3)⟩
     | bk ρ2 st2 =>
      rw[hgr] at R';exact fun O3 H3 σ3 k3 W3 E3=>R' O3 H3 σ3 (ky.trans k3) W3 E3
     | rt d st2 =>
      rw[hgr] at R';exact fun O3 H3 σ3 k3 W3 E3=>R' O3 H3 σ3 (ky.trans k3) W3 E3
     | exc c st2 =>
      rw[hgr] at R';exact fun O3 H3 k3 W3=>R' O3 H3 (ky.trans k3) W3
     | bad=>rw[hgr] at R'; exact R'
  ·rw[Yh hch] at R'; exact R'.elim
end
end DL
end
section
namespace DL
open PySem PySem.Spec PyProof.Rows L2
section
variable{prog:P7}{w:World}{A:P6}{E:P9->P1->Prop}{R:Result->P1->Prop}{s:P1}
theorem ZoW{elt target iter:Expr}{ifs:List Expr}{scope:Scope}{pos:Pos}{it acc:P9}{env:Env}(I:Nat->P1->Prop)
  (turn:∀n s,I n s->wpAny (model prog w) A (pyNext it) (fun r s₁=>match r with
   | none=>R (.ok .next) s₁
   | some v=>wpAny (model prog w) A (letOwnedTupleGo target it v) (fun _ s₁'=>wpAny (model prog w) A (assign target env v) (fun _ s₂ =>
     wpAny (model prog w) A (forIn ifs true fun c r=>if r=true then do let ok <-isTrue c env (eval c env); pure (ForInStep.yield ok) else pure (ForInStep.yield r)) (fun ok s₃ =>
      if ok=true then wpAny (model prog w) A (eval elt env) (fun x s₄ =>
       wpAny (model prog w) A (call (.builtin "list.append") [acc,x]) (fun _ s₅ => ∃m,m<n/\I m s₅) (fun _ _=>False) s₄) (fun _ _=>False) s₃
      else ∃m,m<n/\I m s₃) (fun _ _=>False) s₂) (fun _ _=>False) s₁') (fun _ _=>False) s₁) (fun _ _=>False) s)
  (n:Nat) (h:I n s) :
  codeAny (model prog w) A (.compLoop (.ListComp elt [⟨target,iter,ifs,0⟩] scope pos) 0 it acc env) R s:=by
 refine codeAny_loop rfl I (fun n s hI => ?_) n h;show wpAny _ A ((compTurn (.ListComp elt [⟨target,iter,ifs,0⟩] scope pos) 0 it acc env).onRaise (fun x=>do noteFrame x env; theTreesLotGoes x)) _ _ s;refine wpAny_noted ?_;rw[compTurn_list];refine Ya (wpAny_standAt (Ya (YK (turn n s hI) (fun r s₁ h₁ => ?_) fun _ _ h'=>h'.elim)));cases r with
 | none=>exact Yb h₁
 | some v =>
  refine Ya (YK h₁ (fun _ s₁' h₁' => ?_) fun _ _ h'=>h'.elim);refine Ya (YK h₁' (fun _ s₂ h₂=>Ya (YK h₂ (fun ok s₃ h₃ => ?_) fun _ _ h'=>h'.elim)) fun _ _ h'=>h'.elim);cases ok with
  | false=>exact Yb ⟨rfl,h₃⟩
  | true =>
   exact Ya (Ya (YK h₃ (fun x s₄ h₄=>Ya (YK h₄ (fun _ s₅ h₅=>Yb (Yb ⟨rfl,h₅⟩)) fun _ _ h'=>h'.elim)) fun _ _ h'=>h'.elim))
theorem Zm9{l:Addr}{items:List P9}{n:Nat}{x:P9}{Q:P9->P1->Prop}(ho:s.heap.get? l=some { cls:=.type "list",data:=.seq items.toArray n })
  (hQ:∀h',h'.get? l=some { cls:=.type "list",data:=.seq (items++[x]).toArray (n+1) }->Heap.SameBut l s.heap h'->Q .none { s with heap:=h' }) (hsz:items.length<=sizeLine) :
  wpAny (model prog w) A (call (.builtin "list.append") [.ref l,x]) Q E s:=by
 have hl:s.heap.IsList l items.toArray:=⟨_,ho,rfl,n,rfl⟩;refine YE slot_list_append hl.typeIs entry_list_append ?_ (args_list_append _ _);show wpAny _ _ (updateSeq l (·.push x) >>= fun _=>ret .none) _ _ s;refine Ya ?_;refine Qn (hz:=by rw[Yt]; exact hsz) ho rfl (Yb ⟨.none,rfl,hQ _ ?_ (YB ..)⟩);rw[YI _ ho (by rfl)];simp[Obj.mapSeq]
end
def Zam(env:Env):List (Str×NameKind)->List (Str×Addr)->List (Str×Addr)
 | [],acc=>acc
 | (n,k) :: r,acc=>if k == .free then (match env.cells.lookup n with
  | some a=>Zam env r ((n,a) :: acc)
  | none=>Zam env r acc) else Zam env r acc
theorem ZkL(env:Env):∀(names:List (Str×NameKind)) (acc:List (Str×Addr)),(∀y∈names,y.2 = .free->∃a,env.cells.lookup y.1=some a) ->
  (forIn names acc fun (x:Str×NameKind) (cs:List (Str×Addr))=>(if (x.2 == NameKind.free)=true then do let a <-cellOf env x.1; pure (ForInStep.yield ((x.1,a) :: cs)) else pure (ForInStep.yield cs):Sem (ForInStep (List (Str×Addr)))))=pure (Zam env names acc)
 | [],acc,_=>rfl
 | (n,k) :: r,acc,h=>by
  have ih:=fun acc=>ZkL env r acc fun y hy=>h y (Yo _ hy);rw[Vn];unfold Zam;by_cases hk:(k == NameKind.free)=true
  ·obtain⟨a,ha⟩:=h (n,k) Yv (by simpa using hk);have e:cellOf env n=pure a:=by unfold cellOf; rw[ha]
   simp only[hk,Y9,e,ha,pure_bind];exact ih _
  ·have hk':(k == NameKind.free)=false:=by simpa using hk
   simp only[hk',YF,Y3,pure_bind];exact ih _
theorem Zk6{scope:Scope}{env:Env}(h:∀y∈scope.names,y.2 = .free->∃a,env.cells.lookup y.1=some a):closureFor scope env=pure (Zam env scope.names []):=by
 have e:=ZkL env scope.names [] h;unfold closureFor;simp only[bind_pure];refine Eq.trans ?_ e;rfl
theorem ZcW{env:Env}{x:Str}{c:Addr}:∀(names:List (Str×NameKind)) (acc:List (Str×Addr)),(∀y a,acc.lookup y=some a->env.cells.lookup y=some a)->(Zam env names acc).lookup x=some c->env.cells.lookup x=some c
 | [],acc,h,e=>h x c e
 | (n,k) :: r,acc,h,e=>by
  unfold Zam at e;split at e
  ·split at e
   ·rename_i a ha;refine ZcW r _ (fun y b hb => ?_) e;rw[V1] at hb;cases hy:y == n with
    | true =>
     rw[hy] at hb;have ey:y=n:=eq_of_beq hy;subst ey;cases hb;exact ha
    | false=>rw[hy] at hb; exact h y b hb
   ·exact ZcW r _ h e
  ·exact ZcW r _ h e
theorem ZdB{env:Env}{x:Str}{c:Addr}(hx:env.cells.lookup x=some c):∀(names:List (Str×NameKind)) (acc:List (Str×Addr)),acc.lookup x=some c\/(x,NameKind.free)∈names->(Zam env names acc).lookup x=some c
 | [],acc,h=>by
  rcases h with h | h
  ·exact h
  ·cases h
 | (n,k) :: r,acc,h=>by
  unfold Zam;have keep:∀a,env.cells.lookup n=some a->acc.lookup x=some c->((n,a) :: acc).lookup x=some c:=by
   intro a ha hl;rw[V1];cases hy:x == n with
   | true =>
    have ey:x=n:=eq_of_beq hy;subst ey;rw[hx] at ha;cases ha;rfl
   | false=>exact hl
  split
  ·rename_i hk;split
   ·rename_i a ha;refine ZdB hx r _ ?_;rcases h with h | h
    ·exact .inl (keep a ha h)
    ·rcases Yl.mp h with e | h
     ·cases e;refine .inl ?_;rw[hx] at ha;cases ha;simp
     ·exact .inr h
   ·rename_i hn;refine ZdB hx r _ ?_;rcases h with h | h
    ·exact .inl h
    ·rcases Yl.mp h with e | h
     ·cases e;rw[hx] at hn;cases hn
     ·exact .inr h
  ·rename_i hk;refine ZdB hx r _ ?_;rcases h with h | h
   ·exact .inl h
   ·rcases Yl.mp h with e | h
    ·cases e;exact absurd rfl hk
    ·exact .inr h
def ZaY(scope sc:Scope):Scope :=
 { scope with names:=scope.names.map fun (n,k)=>if (k == .free && sc.kind == .function && sc.names.lookup n == some .cell) then (n,.cell) else (n,k) }
structure Blk(sc scope:Scope)(N0 N:List Str)(caps:List Nat)(nT:Nat):Prop where
 kind:scope.kind = .function
 nocell:∀y∈scope.names,y.2≠.cell
 names:∀y∈scope.names,y.2 = .local->scope.names.lookup y.1=some .local
 free:∀y∈scope.names,y.2 = .free->sc.names.lookup y.1=some .cell\/sc.names.lookup y.1=some .free
 len:N.length=nT+caps.length
 cap:∀q∈(List.range caps.length),∃i x,caps[q]?=some i/\N[nT+q]?=some x/\N0[i]?=some x/\(x,NameKind.free)∈scope.names/\((ZaY scope sc).names.lookup x=some .cell\/(ZaY scope sc).names.lookup x=some .free)
def ZaQ(sc scope:Scope)(N0 N:List Str)(caps:List Nat)(nT:Nat):Bool :=
 (scope.kind == .function) && scope.names.all (fun y => !(y.2 == .cell)) && scope.names.all (fun y => !(y.2 == .local) || scope.names.lookup y.1 == some .local) &&
  scope.names.all (fun y => !(y.2 == .free) || (sc.names.lookup y.1 == some .cell || sc.names.lookup y.1 == some .free)) && (N.length == nT+caps.length) &&
  (List.range caps.length).all fun q=>match caps[q]?,N[nT+q]? with
   | some i,some x=>(N0[i]? == some x) && scope.names.any (fun y=>y.1 == x && y.2 == .free) && ((ZaY scope sc).names.lookup x == some .cell || (ZaY scope sc).names.lookup x == some .free)
   | _,_=>false
theorem Blk.of{sc scope:Scope}{N0 N:List Str}{caps:List Nat}{nT:Nat}(h:ZaQ sc scope N0 N caps nT=true):Blk sc scope N0 N caps nT:=by
 unfold ZaQ at h;simp only[YJ] at h;obtain⟨⟨⟨⟨⟨h1,h2⟩,h3⟩,h4⟩,h5⟩,h6⟩:=h;refine⟨eq_of_beq h1,fun y hy => ?_,fun y hy hl => ?_,fun y hy hl => ?_,eq_of_beq h5,fun q hq => ?_⟩
 ·have:=YH.mp h2 y hy;simpa using this
 ·have:=YH.mp h3 y hy;rw[hl] at this;simpa using this
 ·have:=YH.mp h4 y hy;rw[hl] at this;simpa using this
 ·have:=YH.mp h6 q hq;split at this
  ·rename_i i x e1 e2;simp only[YJ,QT,List.any_eq_true,beq_iff_eq] at this;obtain⟨⟨g1,⟨y,g2,g3,g4⟩⟩,g5⟩:=this;refine⟨i,x,e1,e2,g1,?_,g5⟩;obtain⟨y1,y2⟩:=y;simp only at g3 g4;subst g3 g4;exact g2
  ·cases this
def cxC(X:Cx)(N:List Str)(scope:Scope)(acc:Addr)(fp:List Addr)(s3:P1)(H:Hp):Cx :=
 { X with N:=N,s₀:=s3,H₀:=H,env:=compEnvC scope (Zam X.env scope.names []) s3.heap.objs.size X.env,outer:=X.stack,ex:=acc :: fp,fn:=fun _=>false,pn:=[],xe:=fun _ _=>False }
def Z1(ρ:Ev)(caps:List Nat)(nT:Nat):Ev:=List.replicate nT none++caps.map fun i=>(ρ[i]?).join
def Zbp(σ:L2.St)(caps:List Nat)(nT:Nat):L2.St:=List.replicate nT none++caps.map fun i=>(σ[i]?).join
theorem ZmH{K:P5}{O:List Addr}{H:Hp}{ρ:Ev}{σ:L2.St}(E:REnv K O H ρ σ)(caps:List Nat)(nT:Nat):REnv K O H (Z1 ρ caps nT) (Zbp σ caps nT):=by
 refine⟨by simp[Z1,Zbp],fun i d h => ?_⟩;unfold Z1 at h;unfold Zbp;by_cases hi:i<nT
 ·rw[Wf (by simpa using hi),QO] at h;split at h <;> cases h
 ·rw[Ws (by simpa using hi)] at h ⊢;rw[V3,Yz] at h ⊢;cases hc:caps[i - nT]? with
  | none=>rw[hc] at h; cases h
  | some j =>
   rw[hc] at h;simp only[Vm,Yx] at h ⊢;cases hj:ρ[j]? with
   | none=>rw[hj] at h; cases h
   | some z =>
    rw[hj] at h;simp only[Option.join_some] at h;subst h;obtain⟨v,h1,h2⟩:=E.at_ j d hj;exact⟨v,by rw[h1]; rfl,h2⟩
section
variable{X:Cx}{pins:List (Addr×Obj)}{σ:L2.St}{H:Hp}{s:P1}{scope:Scope}{N:List Str}{caps:List Nat}{nT:Nat}{fp:List Addr}
theorem ZrT(B:Blk X.env.scope scope X.N N caps nT)(I:Inv X pins σ H s)(hf:∀b∈fp,ZaC X pins H b)(ho:∀b∈fp,∃o,s.heap.get? b=some o){h4:Heap}{tk:Nat}
  (hns:h4.Ns (s.heap.push { cls:=.type "list",data:=.seq ([]:List P9).toArray }).objs.size (fun x=>([]:List (Str×P9)).reverse.lookup x))
  (hsb:Heap.SameBut (s.heap.push { cls:=.type "list",data:=.seq ([]:List P9).toArray }).objs.size ((s.heap.push { cls:=.type "list",data:=.seq ([]:List P9).toArray }).push { cls:=.type "dict",data:=.dict #[] }) h4) :
  Inv (cxC X N scope s.heap.objs.size fp { s with heap:=s.heap.push { cls:=.type "list",data:=.seq ([]:List P9).toArray } } H) [] (Zbp σ caps nT) H { s with heap:=h4,toks:=tk }:=by
 generalize hH2:s.heap.push { cls:=.type "list",data:=.seq ([]:List P9).toArray }=h3 at hns hsb ⊢;have hC:h3.objs.size=s.heap.objs.size+1:=by rw[<-hH2,Y5]
 have k3:∀b o,s.heap.get? b=some o->h3.get? b=some o:=fun b o e=>hH2 ▸ Yc _ e;have I3:Inv X pins σ H { s with heap:=h3 }:=I.kept (t':=s.toks) k3;have k4:∀b o,h3.get? b=some o->h4.get? b=some o:=fun b o e=>hsb.extBut b o (Yp (Yg e)) (Yc _ e);have lt3:∀b o,s.heap.get? b=some o->b<h3.objs.size:=fun b o e=>Yg (k3 b o e);have cells:∀x c,(Zam X.env scope.names []).lookup x=some c->X.env.cells.lookup x=some c:=fun x c e=>ZcW scope.names [] (fun y a z=>by cases z) e;have ok:(cxC X N scope s.heap.objs.size fp { s with heap:=h3 } H).Ok:=by
  refine⟨I.ok.mod,B.kind,I.ok.glob,I.ok.blt,Yj _,fun x y c h1 h2=>I.ok.inj x y c (cells _ _ h1) (cells _ _ h2),?_,fun x c hx=>(by cases hx),I.ok.hd,I.ok.frames,.inl rfl,?_,I3.bs,YL I.ok.bsz (YL I.sz (by show s.heap.objs.size<=h3.objs.size; omega)),?_,?_,I3.stack,I3.stkFree⟩
  ·intro x hx;have hx':(ZaY scope X.env.scope).names.lookup x=some .cell\/(ZaY scope X.env.scope).names.lookup x=some .free:=hx;have hm:(x,NameKind.free)∈scope.names:=by
    have mem:∀(l:List (Str×NameKind)),((l.map fun (n,k)=>if (k == NameKind.free && X.env.scope.kind == .function && X.env.scope.names.lookup n == some .cell) then (n,NameKind.cell) else (n,k)).lookup x=some .cell\/(l.map fun (n,k)=>if (k == NameKind.free && X.env.scope.kind == .function && X.env.scope.names.lookup n == some .cell) then (n,NameKind.cell) else (n,k)).lookup x=some .free)->(∀y∈l,y.2≠.cell)->(x,NameKind.free)∈l:=by
     intro l
     induction l with
     | nil=>intro h _; rcases h with h | h <;> cases h
     | cons y l ih =>
      obtain⟨n,k⟩:=y;intro h hnc;rw[Yn] at h;by_cases hc:(k == NameKind.free && X.env.scope.kind == .function && X.env.scope.names.lookup n == some .cell)=true
      ·simp only[hc,Y9,V1] at h;have hk:k = .free:=by simp only[YJ] at hc; simpa using hc.1.1
       cases hy:x == n with
       | true=>rw[eq_of_beq hy,hk]; exact Yv
       | false =>
        rw[hy] at h;exact Yo _ (ih h fun z hz=>hnc z (Yo _ hz))
      ·simp only[hc,Y3,V1,YF] at h;cases hy:x == n with
       | true =>
        rw[hy] at h;have hk:k = .free:=by
         rcases h with h | h
         ·exact absurd (Option.some.inj h) (hnc (n,k) Yv)
         ·exact Option.some.inj h
        rw[eq_of_beq hy,hk]; exact Yv
       | false =>
        rw[hy] at h;exact Yo _ (ih h fun z hz=>hnc z (Yo _ hz))
    exact mem scope.names hx' B.nocell
   obtain⟨c,hc⟩:=I.ok.has x (B.free _ hm rfl);exact⟨c,ZdB hc scope.names [] (.inr hm)⟩
  ·intro b hb;rcases Yl.mp hb with rfl | hb
   ·refine⟨?_,fun x c h1 h2 => ?_⟩
    ·show s.heap.objs.size≠h3.objs.size;omega
    ·obtain⟨v,o,ho',_⟩:=I.cell x c (cells _ _ h1);exact absurd (h2 ▸ Yg ho') (YT _)
   ·obtain⟨o,ho'⟩:=ho b hb;refine⟨?_,fun x c h1=>(hf b hb).2.2.2.2.1 x c (cells _ _ h1)⟩;exact Yp (lt3 b o ho')
  ·intro b o hb;intro hm;rcases Yl.mp hm with rfl | hm
   ·exact absurd (Yg (I.bk _ _ hb)) (YT _)
   ·rcases (hf b hm).2.2.2.1 with h1 | h1
    ·exact I.ok.noex b o hb h1
    ·exact absurd (Yy (Yg (I.ok.bs b o hb).1) h1) (YT _)
  ·intro b hb hm;rcases Yl.mp hb with rfl | hb
   ·rcases Yl.mp (I.stkSub _ hm) with h1 | h1
    ·have:=I.lt;rw[<-h1] at this;exact absurd this (YT _)
    ·exact I.nofs (Yj _) h1
   ·rcases Yl.mp (I.stkSub _ hm) with h1 | h1
    ·exact (hf b hb).2.1 h1
    ·exact (hf b hb).2.2.1 h1
 refine⟨ok,rfl,I.bare,Un.kept k4,?_,?_,?_,?_,(fun p hp=>(by cases hp)),I3.hok.kept k4,?_⟩
 ·refine⟨_,hns,fun i x v h1 h2 hv => ?_⟩;by_cases hi:i<nT
  ·unfold Zbp at h2;rw[Wf (by simpa using hi),QO] at h2;split at h2 <;> cases h2
  ·unfold Zbp at h2;rw[Ws (by simpa using hi),V3,Yz] at h2;cases hc:caps[i - nT]? with
   | none=>rw[hc] at h2; cases h2
   | some j =>
    rw[hc] at h2;simp only[Vm,Yx] at h2;cases hj:σ[j]? with
    | none=>rw[hj] at h2; cases h2
    | some z =>
     rw[hj] at h2;simp only[Option.join_some] at h2;subst h2;have hq:i - nT<caps.length:=(Yk.mp hc).1;obtain⟨j',x',e1,e2,e3,e4,e5⟩:=B.cap (i - nT) (Q3.mpr hq);rw[hc] at e1;cases e1;have en:nT+(i - nT)=i:=by omega
     rw[en] at e2;have ex:x'=x:=Option.some.inj (e2.symm.trans h1);subst ex;have hk:=B.free _ e4 rfl;obtain⟨m,hm,hloc⟩:=I.loc;obtain⟨u,ru,lk⟩:=hloc j x' v e3 hj (hk.elim (fun z => .inr (.inl z)) fun z => .inr (.inr z));rcases lk with⟨hl,_⟩ | ⟨_,c,hc1,hc2⟩
     ·rcases hk with hk | hk
      ·have:X.env.scope.names.lookup x'=some .local:=hl;rw[hk] at this; cases this
      ·have:X.env.scope.names.lookup x'=some .local:=hl;rw[hk] at this; cases this
     ·refine⟨u,ru,.inr ⟨e5,c,ZdB hc1 scope.names [] (.inr e4),?_⟩⟩;obtain⟨o,ho',hd⟩:=hc2;exact⟨o,k4 _ _ (k3 _ _ ho'),hd⟩
 ·intro x c h1;obtain⟨v,o,ho',hd⟩:=I.cell x c (cells _ _ h1);exact⟨v,o,k4 _ _ (k3 _ _ ho'),hd⟩
 ·exact I3.hok.fresh (Yj _)
 ·intro x c h1;exact I.freeC x c (cells _ _ h1)
 ·show (Zbp σ caps nT).length=N.length;rw[B.len];simp[Zbp]
end
end DL
end
section
namespace DL
open PySem PySem.Spec PyProof.Rows L2
section
variable{X:Cx}{pins:List (Addr×Obj)}{σ:L2.St}{H:Hp}{s:P1}{scope:Scope}{N:List Str}{fp:List Addr}
theorem Zpe(I:Inv X pins σ H s)(hf:∀b∈fp,ZaC X pins H b){σc:L2.St}{H':Hp}{s':P1}{vs:List V}{its:List P9}{n:Nat}
  (J:Inv (cxC X N scope s.heap.objs.size fp { s with heap:=s.heap.push { cls:=.type "list",data:=.seq ([]:List P9).toArray } } H) [] σc H' s')
  (ha:s'.heap.get? s.heap.objs.size=some { cls:=.type "list",data:=.seq its.toArray n }) (hn:H' s.heap.objs.size=none) (hv:Vals vs its) (hz:vs.length<=sizeLine):Inv X pins σ (upd H' s.heap.objs.size (.lst vs)) s':=by
 have u:=J.base;have push:∀b o,s.heap.get? b=some o->(s.heap.push { cls:=.type "list",data:=.seq ([]:List P9).toArray }).get? b=some o:=fun b o e=>Yc _ e;have ne:∀b o,s.heap.get? b=some o->b≠s.heap.objs.size:=fun b o e=>Yp (Yg e);have nex:∀b o,s.heap.get? b=some o->b ∉ fp->b ∉ s.heap.objs.size :: fp:=fun b o e hb hm=>by
  rcases Yl.mp hm with h | h
  ·exact ne b o e h
  ·exact hb h
 refine I.call' (ch:=fp) J.os ?_ ?_ J.bare fun b hb=>⟨(hf b hb).2.2.2.1,(hf b hb).2.1,(hf b hb).2.2.2.2.1,(hf b hb).2.2.2.2.2⟩
 ·refine⟨fun b o e h0 h1 h2=>u.keep b o (push b o e) h0 h1 (nex b o e h2),fun b o e h0 h1 h2=>u.slot b o (push b o e) h0 h1 (nex b o e h2),fun b o e h0 h2 => ?_,fun b o e h2=>u.there b o (push b o e) (nex b o e h2),fun b xs e => ?_,fun b o w e => ?_,fun b ps e => ?_⟩
  ·rw[Zh (ne b o e)];exact u.free b o (push b o e) h0 (nex b o e h2)
  ·have h1:=u.tups b xs e;rw[Zh (ZG h1 hn)];exact h1
  ·have h1:=u.frzs b o w e;rw[Zh (ZG h1 hn)];exact h1
  ·obtain⟨more,h1⟩:=u.tbls b ps e;exact⟨more,by rw[Zh (ZG h1 hn)]; exact h1⟩
 ·intro a o e;by_cases haa:a=s.heap.objs.size
  ·subst haa;rw[ZH] at e;cases e;exact⟨hz,its,n,hv,ha⟩
  ·rw[Zh haa] at e;exact (J.hok a o e).stay (fun b u _ q=>q) (fun b q=>by rw[Zh (ZG q hn)]; exact q) fun b xs q=>by rw[Zh (ZG q hn)]; exact q
end
def Zae:DT:=fun _ st => .ok true st
open Classical in
def ZK(chk:Sto->Prop)(t:TgD)(cond:DT)(fe:DE):List D->Ev->Sto->List D->Out (List D)
 | [],_,st,acc=>if chk st then .ok acc st else .bad
 | x :: xs,ρ,st,acc=>if chk st/\acc.length<small then (match t x ρ with
  | none => .bad
  | some ρ1=>match cond ρ1 st with
   | .ok true st1=>(match fe ρ1 st1 with
    | .ok d st2=>ZK chk t cond fe xs ρ1 st2 (acc++[d])
    | _ => .bad)
   | .ok false st1=>ZK chk t cond fe xs ρ1 st1 acc
   | _ => .bad) else .bad
def ZaB(caps:List Nat)(nT:Nat)(f:DI)(t:TgD)(cond:DT)(fe:DE):DA:=fun ρ st=>(f ρ st).bind fun q st1=>ZK q.2 t cond fe q.1 (Z1 ρ caps nT) st1 []
def PTs(X:Cx)(ifs:List Expr)(cond:DT):Prop:=∀(pins:List (Addr×Obj)) (s:P1) (σ:L2.St) (H:Hp) (Q:Bool->Hp->Prop),Inv X pins σ H s->tDT X.K EX0 cond σ H Q ->
 wpAny (model X.prog X.w) X.A (forIn ifs true fun c r=>if r=true then do let ok <-isTrue c X.env (eval c X.env); pure (ForInStep.yield ok) else pure (ForInStep.yield r)) (TP X pins σ Q) X.xe s
theorem Zcc{X:Cx}:PTs X [] Zae:=by
 rintro pins s σ H Q I ⟨O,ρ,st,W,E,R⟩;exact wpAny_tests_nil ⟨H,I,Run.now (k:=fun b _ _ H'=>Q b H') R W⟩
theorem ZeZ{X:Cx}{c:Expr}{t:DT}(h:PDT X EX0 c t):PTs X [c] t:=fun pins s σ H Q I q=>wpAny_tests_one (h pins s σ H Q I q)
section
variable{X:Cx}{EX:EXT}{scope:Scope}{N:List Str}{caps:List Nat}{nT:Nat}{elt tg iter:Expr}{ifs:List Expr}{pos:Pos}{f:DI}{t:TgD}{cond:DT}{fe:DE}
structure BlkOk(X:Cx)(scope:Scope)(N:List Str)(caps:List Nat)(nT:Nat)(tg elt:Expr)(ifs:List Expr)(t:TgD)(cond:DT)(fe:DE):Prop where
 blk:Blk X.env.scope scope X.N N caps nT
 tgt:∀acc fp s3 H,PGD (cxC X N scope acc fp s3 H) tg t
 tst:∀acc fp s3 H,PTs (cxC X N scope acc fp s3 H) ifs cond
 elt:∀acc fp s3 H,PD (cxC X N scope acc fp s3 H) EX0 elt fe
def ItF(K:P5)(J:It)(O0:List Addr)(H0:Hp)(q:Wk):Prop :=
 ∀(i:Nat) (O:List Addr) (H:Hp) (st:Sto),Keep K O0 H0 O H->(∀b o u,H0 b=some (.frz o u)->H b=some (.frz o u))->WR K O H st->q.2 st ->
  (∀d,q.1[i]?=some d->J.go i H/\∀x H',J.yld i H x H'->Keep K O H O H'/\WR K O H' st/\Rep K O H' d x)/\(q.1.length<=i->J.stop i H)
theorem ItD.fz{K:P5}{J:It}{O0:List Addr}{H0:Hp}{q:Wk}(h:ItD K J O0 H0 q):ItF K J O0 H0 q:=fun i O H st k _=>h i O H st k
theorem Zg5(hc:X.calm=true)(B:BlkOk X scope N caps nT tg elt ifs t cond fe){pins:List (Addr×Obj)}{σ:L2.St}{H:Hp}{s:P1}{O:List Addr}{ρ:Ev}{st:Sto}{q:Wk}{J:It}{fp:List Addr}{it:Addr}{tn:Nat->Heap->Prop}{Q:VK}{E:P9->P1->Prop}
  {RR:P9->Addr->Result->P1->Prop}
  (I:Inv X pins σ H s) (T:Turn X.prog X.w X.K tg J fp it tn) (h0:tn 0 s.heap) (hf:∀b∈fp,ZaC X pins H b) (hJ:ItF X.K J O H q) (W:WR X.K O H st) (Er:REnv X.K O H ρ σ)
  (R:Run X.K EX O H (ZK q.2 t cond fe q.1 (Z1 ρ caps nT) st []) (New X.K Q))
  (hRR:∀(p C:Addr) (H':Hp) (vs:List V) (s':P1) (m:Str->Option P9),s.heap.objs.size<=C->H' C=none->s'.heap.Ns C m->p≠C->Inv X pins σ (upd H' p (.lst vs)) s'->Q (.ref p) (upd H' p (.lst vs))->RR (.ref p) C (.ok .next) s') :
  wpAny (model X.prog X.w) X.A (newList []) (fun acc s₃=>wpAny (model X.prog X.w) X.A (newFunctionEnv scope X.env.globals (Zam X.env scope.names []) [] X.env.qual none .none (some X.env)) (fun cenv s₄ =>
   codeAny (model X.prog X.w) X.A (.compStart (.ListComp elt [⟨tg,iter,ifs,0⟩] scope pos) 0 (.ref it) acc { cenv with scope:=relabel scope X.env }) (RR acc cenv.locals) s₄) E s₃) E s:=by
 refine YV (wpAny_newFunctionEnv B.blk.nocell (by intro y hy; simp at hy) (fun h₁ hns₁ hsb₁ => ?_) B.blk.kind);dsimp only at hns₁ hsb₁ ⊢;have ltC:s.heap.objs.size<(s.heap.push { cls:=.type "list",data:=.seq ([]:List P9).toArray }).objs.size:=by rw[Y5]; exact Va _
 have fpo:∀b∈fp,∃o,s.heap.get? b=some o:=fun b hb=>let ⟨o,e,_⟩:=T.obj 0 _ h0 b hb; ⟨o,e⟩
 have I4:=ZrT (tk:=s.toks+([]:List (Str×P9)).length) B.blk I hf fpo hns₁ hsb₁;have fpne:∀b∈fp,b≠s.heap.objs.size:=fun b hb=>let ⟨o,e⟩:=fpo b hb; Yp (Yg e)
 generalize hXC:cxC X N scope s.heap.objs.size fp { s with heap:=s.heap.push { cls:=.type "list",data:=.seq ([]:List P9).toArray } } H=XC at I4;have fok:∀(H':Hp) (P:List (Addr×Obj)),(∀b∈fp,H' b=none)->(∀p∈P,p.1 ∉ fp)->∀b∈fp,ZaC XC P H' b:=by
  intro H' P h1 h2 b hb;subst hXC;obtain⟨o,e⟩:=fpo b hb;refine⟨h1 b hb,Yp (Q7 (Yg e) ltC),fun hm => ?_,.inl (Yo _ hb),fun x c hx=>(hf b hb).2.2.2.2.1 x c (ZcW scope.names [] (fun y a z=>(by cases z)) hx),fun p hp hpe=>h2 p (by have hp':p∈[]++P:=hp; simpa using hp') (hpe ▸ hb)⟩;rcases Yl.mp (I.stkSub _ hm) with z | z
  ·exact (hf b hb).2.1 z
  ·exact (hf b hb).2.2.1 z
 have aok:∀(H':Hp),H' s.heap.objs.size=none->ZaC XC [] H' s.heap.objs.size:=by
  intro H' h1;subst hXC;refine⟨h1,Yp ltC,fun hm => ?_,.inl Yv,fun x c hx z => ?_,fun p hp=>by cases hp⟩
  ·rcases Yl.mp (I.stkSub _ hm) with z | z
   ·have:=I.lt;rw[<-z] at this;exact absurd this (YT _)
   ·exact I.nofs (Yj _) z
  ·obtain⟨v,o,ho',_⟩:=I.cell x c (ZcW scope.names [] (fun y a z=>(by cases z)) hx);exact absurd (z ▸ Yg ho') (YT _)
 have k4:∀b o,s.heap.get? b=some o->h₁.get? b=some o:=fun b o e=>hsb₁.extBut b o (Yp (Q7 (Yg e) ltC)) (Yc _ (Yc _ e));have hacc0:h₁.get? s.heap.objs.size=some { cls:=.type "list",data:=.seq ([]:List P9).toArray }:=hsb₁.extBut _ _ (Yp ltC) (Yc _ (Yi _ rfl));have eP:XC.prog=X.prog:=by subst hXC; rfl
 have eW:XC.w=X.w:=by subst hXC; rfl
 have eK:XC.K=X.K:=by subst hXC; rfl
 have eA:XC.A=X.A:=by subst hXC; rfl
 have eC:XC.calm=true:=by subst hXC; exact hc
 have eX:XC.xe=fun _ _=>False:=by subst hXC; rfl
 have eE:XC.env=compEnvC scope (Zam X.env scope.names []) (s.heap.push { cls:=.type "list",data:=.seq ([]:List P9).toArray }).objs.size X.env:=by subst hXC; rfl
 have loop:∀s4:P1,s4 = { s with heap:=h₁,toks:=s.toks+([]:List (Str×P9)).length } ->
   codeAny (model X.prog X.w) X.A (.compLoop (.ListComp elt [⟨tg,iter,ifs,0⟩] scope pos) 0 (.ref it) (.ref s.heap.objs.size) XC.env) (RR (.ref s.heap.objs.size) (s.heap.push { cls:=.type "list",data:=.seq ([]:List P9).toArray }).objs.size) s4:=by
  intro s4 es4;refine ZoW (fun n s' => ∃(i:Nat) (O':List Addr) (ρ':Ev) (st':Sto) (ds:List D) (vs:List V) (its:List P9) (nn:Nat) (H':Hp) (σc:L2.St),n+i=q.1.length/\Inv XC [] σc H' s'/\Keep X.K O H O' H'/\WR X.K O' H' st'/\REnv X.K O' H' ρ' σc/\tn i s'.heap /\
   (∀b∈fp,H' b=none)/\s'.heap.get? s.heap.objs.size=some { cls:=.type "list",data:=.seq its.toArray nn }/\H' s.heap.objs.size=none/\Vals vs its/\Reps X.K O' H' ds vs/\ds.length<=small/\Run X.K EX O' H' (ZK q.2 t cond fe (q.1.drop i) ρ' st' ds) (New X.K Q)) ?_ q.1.length ?_
  ·rintro n s' ⟨i,O',ρ',st',ds,vs,its,nn,H',σc,hn,Ic,kp,W',E',htn,hfn,hacc,haccH,hv,hr,hz,hR⟩;have IcA:Inv XC (ZaH [s.heap.objs.size] s'.heap) σc H' s':=by
    have:=Ic.pinned (fp:=[s.heap.objs.size]) (fun b hb=>by rw[YC] at hb; subst hb; exact aok H' haccH) (fun b hb=>by rw[YC] at hb; subst hb; exact⟨_,hacc,fun v z=>by cases z⟩);simpa using this
   have pA:∀p∈ZaH [s.heap.objs.size] s'.heap,p.1 ∉ fp:=fun p hp hm=>by
    have:=(Zh3 hp).1;rw[YC] at this;exact fpne _ hm this
   have fz:∀b o u,H b=some (.frz o u)->H' b=some (.frz o u):=by subst hXC; exact Ic.base.frzs
   have hpin:(s.heap.objs.size,({ cls:=.type "list",data:=.seq its.toArray nn }:Obj))∈ZaH [s.heap.objs.size] s'.heap:=Zez (YC.mpr rfl) hacc;cases hd:q.1.drop i with
   | nil =>
    rw[hd] at hR;unfold ZK at hR;by_cases hch:q.2 st'
    ·rw[Yf hch] at hR;have hl:q.1.length<=i:=Ua.mp hd;have hstop:=(hJ i O' H' st' kp fz W' hch).2 hl;have hw:=T.done XC eP eW eK eC i (ZaH [s.heap.objs.size] s'.heap) s' σc H' (fun _ _=>False) IcA (fok H' _ hfn pA) htn hstop;rw[eA] at hw;refine YK hw (fun r s1 hr1 => ?_) fun _ _ z=>z;obtain⟨rfl,I1⟩:=hr1;obtain⟨p1,p2,_⟩:=I1.pin _ (Y0 _ hpin);obtain⟨m,hm,_⟩:=I1.loc;have I1':Inv XC [] σc H' s1:=I1.pins_of fun p hp=>I1.pin p (WI _ (by simpa using hp));have hCf:=I1.free;rw[eE] at hm hCf;refine hRR _ _ H' vs s1 m (Q4 ltC) hCf hm (Yp ltC) ?_ (Run.now (k:=New X.K Q) hR W' _ vs hr haccH);subst hXC;exact Zpe I hf I1' p1 haccH hv (by rw[<-hr.length]; exact YL hz ZaL)
    ·rw[Yh hch] at hR; exact hR.elim
   | cons x xs =>
    rw[hd] at hR;unfold ZK at hR;have hx:q.1[i]?=some x:=by
     have:=Ur (xs:=q.1) (i:=i) (j:=0);rw[hd] at this;simpa using this.symm
    have hxs:q.1.drop (i+1)=xs:=by
     have:=Um (i:=1) (j:=i) (l:=q.1);rw[hd] at this;simpa using this.symm
    have hi:i<q.1.length:=(Yk.mp hx).1;by_cases hch:q.2 st'/\ds.length<small
    ·rw[Yf hch] at hR;obtain⟨hgo,hy⟩:=(hJ i O' H' st' kp fz W' hch.1).1 x hx;have hw:=T.item XC eP eW eK eC i (ZaH [s.heap.objs.size] s'.heap) s' σc H' (fun _ _=>False) IcA (fok H' _ hfn pA) htn hgo;rw[eA] at hw;refine YK hw (fun r s1 hr1 => ?_) fun _ _ z=>z;obtain⟨u,rfl,hw2⟩:=hr1;refine YK hw2 (fun _ s2 hr2 => ?_) fun _ _ z=>z;obtain⟨x',H1,I1,rx,hyl,htn1,hfn1⟩:=hr2;obtain⟨ky,Wy,ry⟩:=hy x' H1 hyl;cases ht:t x ρ' with
     | none=>rw[ht] at hR; exact hR.elim
     | some ρ1 =>
      rw[ht] at hR;dsimp only at hR;have I1':Inv XC (ZaH [s.heap.objs.size] s'.heap++ZaH fp s2.heap) σc H1 s2:=I1.pinned (fok H1 _ hfn1 pA) fun b hb=>T.obj (i+1) _ htn1 b hb;generalize hP2:ZaH [s.heap.objs.size] s'.heap++ZaH fp s2.heap=P2 at I1';have hpa:(s.heap.objs.size,({ cls:=.type "list",data:=.seq its.toArray nn }:Obj))∈P2:=hP2 ▸ WI _ hpin;have hpf:∀b∈fp,∀o,s2.heap.get? b=some o->(b,o)∈P2:=fun b hb o e=>hP2 ▸ Y0 _ (Zez hb e);have back:∀{σ2:L2.St} {H2:Hp} {s3:P1},Inv XC P2 σ2 H2 s3->s3.heap.get? s.heap.objs.size=some { cls:=.type "list",data:=.seq its.toArray nn }/\H2 s.heap.objs.size=none/\(∀b∈fp,H2 b=none)/\(∀b∈fp,∀o,s2.heap.get? b=some o->s3.heap.get? b=some o)/\Inv XC [] σ2 H2 s3:=by
       intro σ2 H2 s3 I3;refine⟨(I3.pin _ (Y0 _ hpa)).1,(I3.pin _ (Y0 _ hpa)).2.1,fun b hb => ?_,fun b hb o e=>(I3.pin _ (Y0 _ (hpf b hb o e))).1,I3.pins_of fun p hp=>I3.pin p (WI _ (by simpa using hp))⟩;obtain⟨o,e,_⟩:=T.obj (i+1) _ htn1 b hb;exact (I3.pin _ (Y0 _ (hpf b hb o e))).2.1
      have PG1:PGD XC tg t:=by subst hXC; exact B.tgt _ _ _ _
      have PT1:PTs XC ifs cond:=by subst hXC; exact B.tst _ _ _ _
      have PE1:PD XC EX0 elt fe:=by subst hXC; exact B.elt _ _ _ _
      have ha:=PG1 P2 s2 σc H1 x' u (fun σ' H''=>H''=H1/\REnv X.K O' H1 ρ1 σ') I1' rx ⟨O',x,ρ',ρ1,by rw[eK]; exact ry,by rw[eK]; exact E'.mono ky,ht,fun σ' E2=>⟨rfl,by rw[eK] at E2; exact E2⟩⟩;rw[eP,eW,eA,eX] at ha;refine YK ha (fun _ s3 hr3 => ?_) fun _ _ z=>z;obtain⟨σ2,H1',I3,rfl,E2⟩:=hr3;have hb:=PT1 P2 s3 σ2 H1' (fun b H'' => ∃O'' stb,cond ρ1 st' = .ok b stb/\Keep X.K O' H1' O'' H''/\WR X.K O'' H'' stb) I3 ⟨O',ρ1,st',by rw[eK]; exact Wy,by rw[eK]; exact E2,by
       rw[eK];cases hcnd:cond ρ1 st' with
       | ok b stb=>exact fun O'' H'' k W=>⟨O'',stb,rfl,k,W⟩
       | exc c stb=>rw[hcnd] at hR; exact hR.elim
       | bad=>rw[hcnd] at hR; exact hR.elim⟩
      rw[eP,eW,eA,eX] at hb;refine YK hb (fun ok s4 hr4 => ?_) fun _ _ z=>z;obtain⟨H2,I4',O2,stb,hcnd,kb,Wb⟩:=hr4;rw[hcnd] at hR;cases ok with
      | false =>
       dsimp only at hR;obtain⟨b1,b2,b3,b4,b5⟩:=back I4';refine⟨n - 1,by omega,i+1,O2,ρ1,stb,ds,vs,its,nn,H2,σ2,by omega,b5,kp.trans (ky.trans kb),Wb,E2.mono kb,T.keep _ _ _ htn1 b4,b3,b1,b2,hv,Reps.mono (ky.trans kb) _ _ hr,hz,?_⟩;rw[hxs];exact Run.later hR (ky.trans kb)
      | true =>
       dsimp only at hR;have he:=PE1 P2 s4 σ2 H2 (fun v H3 => ∃O3 st3 d,fe ρ1 stb = .ok d st3/\Keep X.K O2 H2 O3 H3/\WR X.K O3 H3 st3/\Rep X.K O3 H3 d v) I4' ⟨O2,ρ1,stb,by rw[eK]; exact Wb,by rw[eK]; exact E2.mono kb,by
        rw[eK];cases hfe:fe ρ1 stb with
        | ok d st3=>exact fun O3 H3 k W v r=>⟨O3,st3,d,rfl,k,W,r⟩
        | exc c st3=>rw[hfe] at hR; exact hR.elim
        | bad=>rw[hfe] at hR; exact hR.elim⟩
       rw[eP,eW,eA,eX] at he;refine YK he (fun uv s5 hr5 => ?_) fun _ _ z=>z;obtain⟨v,H3,I5,rv,O3,st3,d,hfe,ke,We,re⟩:=hr5;rw[hfe] at hR;dsimp only at hR;obtain⟨b1,b2,b3,b4,b5⟩:=back I5;refine Zm9 b1 (fun h6 hg6 hs6 => ?_) (by rw[<-hv.length,<-hr.length]; exact YL hz ZaL);obtain⟨f0,f1,f2,f3,f4,f5⟩:=aok H3 b2;have I6:Inv XC [] σ2 H3 { s5 with heap:=h6 }:=b5.turned (t':=s5.toks) (fun b o hb e=>(hs6.2 b hb).trans e) f0 f1 f3 f4 f5;refine⟨n - 1,by omega,i+1,O3,ρ1,st3,ds++[d],vs++[v],its++[uv],nn+1,H3,σ2,by omega,I6,kp.trans (ky.trans (kb.trans ke)),We,E2.mono (kb.trans ke),T.keep _ _ _ htn1 (fun b hb o e=>(hs6.2 b (fpne b hb)).trans (b4 b hb o e)),b3,hg6,b2,hv.append (.cons rv .nil),(Reps.mono (ky.trans (kb.trans ke)) _ _ hr).append (Reps.one re),by rw[YW]; exact hch.2,?_⟩;rw[hxs];exact Run.later hR (ky.trans (kb.trans ke))
    ·rw[Yh hch] at hR; exact hR.elim
  ·subst es4;refine⟨0,O,Z1 ρ caps nT,st,[],[],[],0,H,Zbp σ caps nT,rfl,I4,Keep.refl,W,ZmH Er caps nT,T.keep _ _ _ h0 (fun b hb o e=>k4 b o e),fun b hb=>(hf b hb).1,hacc0,I.hok.fresh (Yj _),.nil,Reps.nil_i.mpr rfl,YU _,?_⟩;rw[VD];exact R
 have e5:({ newEnv scope (s.heap.push { cls:=.type "list",data:=.seq ([]:List P9).toArray }).objs.size X.env.globals (Zam X.env scope.names []) X.env.qual none .none (some X.env) builtinsNs with scope:=relabel scope X.env }:Env)=XC.env:=by rw[eE]; rfl
 have h5:=loop _ rfl;refine codeAny_compStart_list ?_ ?_
 ·exact e5 ▸ h5
 ·exact T.self _ 0 _ _ _ (T.keep _ _ _ h0 (fun b hb o e=>k4 b o e)) (e5 ▸ h5)
end
end DL
end
section
namespace DL
open PySem PySem.Spec PyProof.Rows L2
section
variable{X:Cx}{EX:EXT}{scope:Scope}{N:List Str}{caps:List Nat}{nT:Nat}{elt tg iter:Expr}{ifs:List Expr}{pos spos py:Pos}{f:DI}{t:TgD}{cond:DT}{fe:DE}{y:Str}
theorem gone{pins:List (Addr×Obj)}{σ:L2.St}{H H1:Hp}{s s1:P1}{C:Addr}{h':Heap}(I:Inv X pins σ H s)(hC:s.heap.objs.size<=C){σ1:L2.St}(I1:Inv X pins σ1 H1 s1)(hn:H1 C=none)(hs:Heap.SameBut C s1.heap h'):Inv X pins σ1 H1 { s1 with heap:=h' }:=by
 refine I1.turned (t':=s1.toks) (fun b o hb e=>(hs.2 b hb).trans e) hn ?_ (.inr (YL I.sz hC)) ?_ ?_
 ·intro z;exact absurd (Yy I.lt (z ▸ hC)) (YT _)
 ·intro x c hx z;obtain⟨v,o,ho,_⟩:=I.cell x c hx;exact absurd (Yy (Yg ho) (z ▸ hC)) (YT _)
 ·intro p hp z;obtain⟨h1,_⟩:=I.pin p hp;exact absurd (Yy (Yg h1) (z ▸ hC)) (YT _)
def LcI(X:Cx)(EX:EXT)(pins:List (Addr×Obj))(σ:L2.St)(tg:Expr)(caps:List Nat)(nT:Nat)(t:TgD)(cond:DT)(fe:DE)(Q:VK)(itv:P9)(s2:P1):Prop :=
 ∃(it:Addr) (fp:List Addr) (tn:Nat->Heap->Prop) (J:It) (H1:Hp),itv = .ref it/\Inv X pins σ H1 s2/\Turn X.prog X.w X.K tg J fp it tn/\tn 0 s2.heap/\(∀b∈fp,ZaC X pins H1 b) /\
  ∃O1 ρ q st1 Q',ItF X.K J O1 H1 q/\WR X.K O1 H1 st1/\REnv X.K O1 H1 ρ σ/\Run X.K EX O1 H1 (ZK q.2 t cond fe q.1 (Z1 ρ caps nT) st1 []) (New X.K Q') /\
   ∀p vs H2,Q' (.ref p) (upd H2 p (.lst vs))->∃H3,Q (.ref p) H3/\(∀C,C≠p->H2 C=none->H3 C=none)/\∀σ' s',Inv X pins σ' (upd H2 p (.lst vs)) s'->Inv X pins σ' H3 s'
def PLc(X:Cx)(EX:EXT)(tg iter:Expr)(caps:List Nat)(nT:Nat)(t:TgD)(cond:DT)(fe:DE)(F:DA):Prop :=
 ∀(pins:List (Addr×Obj)) (s:P1) (σ:L2.St) (H:Hp) (Q:VK),Inv X pins σ H s->tDF X.K EX F σ H Q ->
  wpAny (model X.prog X.w) X.A (eval iter X.env) (fun v s1=>wpAny (model X.prog X.w) X.A (pyIter v) (LcI X EX pins σ tg caps nT t cond fe Q) X.xe s1) X.xe s
theorem ZiS(hi:PID X EX tg iter f):PLc X EX tg iter caps nT t cond fe (ZaB caps nT f t cond fe):=by
 rintro pins s σ H Q I ⟨O,ρ,st,W,E,R⟩;refine YK (hi pins s σ H (fun J H1 => ∃O1 ρ q st1,ItD X.K J O1 H1 q/\WR X.K O1 H1 st1/\REnv X.K O1 H1 ρ σ/\Run X.K EX O1 H1 (ZK q.2 t cond fe q.1 (Z1 ρ caps nT) st1 []) (New X.K Q)) I
  ⟨O,ρ,st,W,E,R.bind.mono fun q st1 O1 H1 k1 W1 R1 J hJ=>⟨O1,ρ,q,st1,hJ,W1,E.mono k1,R1⟩⟩) (fun xv s₁ h₁=>YK h₁ (fun itv s₂ h₂ => ?_) fun _ _ e=>e) fun _ _ e=>e
 obtain⟨it,fp,tn,J,H',rfl,I',T,h0,hf,O1,ρ,q,st1,hJ,W1,E1,R1⟩:=h₂;exact⟨it,fp,tn,J,H',rfl,I',T,h0,hf,O1,ρ,q,st1,Q,hJ.fz,W1,E1,R1,fun p vs H2 hq=>⟨_,hq,fun C hC e=>by rw[Zh hC]; exact e,fun _ _ I=>I⟩⟩
theorem Zh1{pins:List (Addr×Obj)}{σ:L2.St}{H:Hp}{s:P1}(B:Blk X.env.scope scope X.N N caps nT)(I:Inv X pins σ H s):closureFor scope X.env=pure (Zam X.env scope.names []) :=
 Zk6 fun y hy hk=>I.ok.has y.1 (B.free y hy hk)
theorem Zjs{F:DA}(hc:X.calm=true)(B:BlkOk X scope N caps nT tg elt ifs t cond fe)(hi:PLc X EX tg iter caps nT t cond fe F)(hs:∀x,foldedSetIterable iter X.env x=pure x:=by intro _; rfl):PDF X EX (.ListComp elt [⟨tg,iter,ifs,0⟩] scope pos) F:=by
 intro pins s σ H Q I h;rw[eval_ListComp];refine wpAny_comprehension_free (use:=none) rfl hs (Zh1 B.blk I) B.blk.kind B.blk.names (YK (hi pins s σ H _ I h) (fun xv s₁ h₁=>YK h₁ (fun itv s₂ h₂ => ?_) fun _ _ e=>e) fun _ _ e=>e);obtain⟨it,fp,tn,J,H',rfl,I',T,h0,hf,O1,ρ,q,st1,Q',hJ,W1,E1,R1,thaw⟩:=h₂;refine Zg5 (RR:=fun acc C=>compPost (model X.prog X.w) X.A X.xe none (EP X pins σ Q) acc C) hc B I' T h0 hf hJ W1 E1 R1 ?_;intro p C H2 vs s' m hC hn hns hpC I2 hq;obtain⟨H3,q3,n3,i3⟩:=thaw p vs H2 hq;refine⟨m,hns,fun h' hsb=>⟨.ref p,_,gone I' hC (i3 _ _ I2) (n3 C (YX hpC) hn) hsb,rfl,q3⟩⟩
theorem Zb0(hc:X.calm=true)(B:BlkOk X scope N caps nT tg elt ifs t cond fe)(hi:PID X EX tg iter f)(hs:∀x,foldedSetIterable iter X.env x=pure x:=by intro _; rfl):PDF X EX (.ListComp elt [⟨tg,iter,ifs,0⟩] scope pos) (ZaB caps nT f t cond fe):=Zjs hc B (ZiS hi) hs
theorem Zpy{F:DA}(i:Nat)(hc:X.calm=true)(B:BlkOk X scope N caps nT tg elt ifs t cond fe)(hi:PLc X EX tg iter caps nT t cond fe F)(hN:X.N.Nodup)(hy:X.N[i]?=some y)(hx:Loc X.env.scope y)
  (hsw:swapsWith (.ListComp elt [⟨tg,iter,ifs,0⟩] scope pos) (some (.Name y py)) spos.line X.env=pure true)
  (hs:∀x,foldedSetIterable iter X.env x=pure x:=by intro _; rfl) (hfn:X.fn y=true\/X.env.scope.names.lookup y=some .local:=by first | exact .inl rfl | exact .inr rfl | assumption) :
  PS X (.Assign [.Name y py] (.ListComp elt [⟨tg,iter,ifs,0⟩] scope pos) spos) (fun Dn σ H=>tDF X.K EX F σ H fun v H'=>Dn.nx (σ.set i (some v)) H'):=by
 intro pins s σ H Dn I h;rw[exec_Assign_Name_used _ _ _ _ hsw];refine Ya (wpAny_standAt (Ya ?_));show wpAny _ X.A (do let _ <-comprehension (.ListComp elt [⟨tg,iter,ifs,0⟩] scope pos) scope X.env _ (newList []) false (eval iter X.env) (some (assign (.Name y py) X.env))) _ _ s;refine Ya (YK (wpAny_comprehension_free (use:=some (assign (.Name y py) X.env)) (Q:=fun _ s'=>SP X pins Dn .next s') rfl hs (Zh1 B.blk I) B.blk.kind B.blk.names
  (YK (hi pins s σ H _ I h) (fun xv s₁ h₁=>YK h₁ (fun itv s₂ h₂ => ?_) fun _ _ e=>e) fun _ _ e=>e)) (fun _ s' hq=>Yb (Yb hq)) fun _ _ e=>e)
 obtain⟨it,fp,tn,J,H',rfl,I',T,h0,hf,O1,ρ,q,st1,Q',hJ,W1,E1,R1,thaw⟩:=h₂;refine Zg5 (RR:=fun acc C=>compPost (model X.prog X.w) X.A X.xe (some (assign (.Name y py) X.env)) (fun _ s'=>SP X pins Dn .next s') acc C) hc B I' T h0 hf hJ W1 E1 R1 ?_;intro p C H2 vs s' m hC hn hns hpC I2 hq;obtain⟨H3,q3,n3,i3⟩:=thaw p vs H2 hq;show wpAny _ X.A (assign (.Name y py) X.env (.ref p)) _ _ _;refine wpAny_assign_Name (Zhd (v:=.ref p) (i3 _ _ I2) hN hy hx rfl (fun s'' I3 hsb => ?_) hfn);obtain⟨a,sb,ha⟩:=hsb;have hne:C≠a:=by
  intro z;rcases ha with ha | ha
  ·exact absurd (Yy I'.lt (ha ▸ z ▸ hC)) (YT _)
  ·obtain⟨v,o,ho,_⟩:=I'.cell _ _ ha;exact absurd (Yy (Yg ho) (z ▸ hC)) (YT _)
 exact⟨m,hns.at' fun o e=>(sb.2 C hne).trans e,fun h' hsb=>⟨_,_,gone I' hC I3 (n3 C (YX hpC) hn) hsb,q3⟩⟩
theorem ZrK{F:DA}(i:Nat)(hc:X.calm=true)(B:BlkOk X scope N caps nT tg elt ifs t cond fe)(hi:PLc X EX tg iter caps nT t cond fe F)(hN:X.N.Nodup)(hy:X.N[i]?=some y)(hx:Loc X.env.scope y)
  (hsw:swapsWith (.ListComp elt [⟨tg,iter,ifs,0⟩] scope pos) (some (.Name y py)) spos.line X.env=pure true:=by rfl)
  (hs:∀x,foldedSetIterable iter X.env x=pure x:=by intro _; rfl) (hfn:X.fn y=true\/X.env.scope.names.lookup y=some .local:=by first | exact .inl rfl | exact .inr rfl | assumption) :
  PDs X EX (.Assign [.Name y py] (.ListComp elt [⟨tg,iter,ifs,0⟩] scope pos) spos) (ZE i (dF F)):=by
 refine PS.mono (Zpy i hc B hi hN hy hx hsw hs hfn) ?_;rintro Dn σ H ⟨O,ρ,st,W,E,R⟩;refine⟨O,ρ,st,W,E,?_⟩;refine (R.to.bind).mono fun ds st1 O1 H1 k1 W1 R1 p vs r hp => ?_;have R2:=R1 O1 (upd H1 p (.lst vs)) (Keep.laid hp) (W1.laid hp);refine R2 O1 (upd H1 p (.lst vs)) _ Keep.refl (W1.laid hp) ((E.mono (k1.trans (Keep.laid hp))).set (Rep.lst_i.mpr ⟨p,vs,rfl,fun hm => ?_,ZH,Reps.mono (Keep.laid hp) _ _ r⟩));obtain⟨j,hj⟩:=WW.mp hm;exact W1.ne hj hp rfl
theorem Zkc(i:Nat)(hc:X.calm=true)(B:BlkOk X scope N caps nT tg elt ifs t cond fe)(hi:PID X EX tg iter f)(hN:X.N.Nodup)(hy:X.N[i]?=some y)(hx:Loc X.env.scope y)
  (hsw:swapsWith (.ListComp elt [⟨tg,iter,ifs,0⟩] scope pos) (some (.Name y py)) spos.line X.env=pure true:=by rfl)
  (hs:∀x,foldedSetIterable iter X.env x=pure x:=by intro _; rfl) (hfn:X.fn y=true\/X.env.scope.names.lookup y=some .local:=by first | exact .inl rfl | exact .inr rfl | assumption) :
  PDs X EX (.Assign [.Name y py] (.ListComp elt [⟨tg,iter,ifs,0⟩] scope pos) spos) (ZE i (dF (ZaB caps nT f t cond fe))):=ZrK i hc B (ZiS hi) hN hy hx hsw hs hfn
end
end DL
end
section
namespace DL
open PySem PySem.Spec PyProof.Rows L2
section
variable{X:Cx}{EX:EXT}{a b e o tg:Expr}{fa fb fo:DE}{g:DA}{pos p px apos cpos:Pos}{x:Str}
def Zet(fo fa:DE):DE:=fun ρ st=>(fo ρ st).bind fun d st1=>match d with
 | .res i=>match st1[i]? with
  | some (.lst _)=>(fa ρ st1).bind fun v st2=>match st2[i]? with
   | some (.lst xs)=>if xs.length<small then .ok .non (st2.set i (.lst (xs++[v]))) else .bad
   | _ => .bad
  | _ => .bad
 | _ => .bad
theorem ZjE{K:P5}{O:List Addr}{H:Hp}{st:Sto}(W:WR K O H st){i:Nat}{v:V}{xs:List D}(r:Rep K O H (.res i) v)(e:st[i]?=some (.lst xs)):∃a vs,v = .ref a/\O[i]?=some a/\H a=some (.lst vs)/\Reps K O H xs vs:=by
 rw[Rep.res_i] at r;obtain⟨a,rfl,q⟩:=r;obtain⟨vs,h1,h2⟩:=W.at_ _ _ _ q e;exact⟨a,vs,rfl,q,h1,h2⟩
theorem Zni(ho:PD X EX o fo)(ha:PD X EX a fa)(hbase:attributeBase o "append" X.env (eval o X.env)=eval o X.env:=by rfl)
  (hfew:((backTo cpos (starEach [a] X.env)).all (fun x => !x.1) && (backToKw cpos (keywordEach [] X.env)).all (fun x=>x.1.isSome)
   && decide ([a].length+([]:List Keyword).length+(if ([]:List Keyword).isEmpty then 0 else 1)<30))=true:=by rfl)
  (hline:(apos.endLine == cpos.line)=true:=by rfl) (hs:starEach [a] X.env=(false,eval a X.env) :: starEach [] X.env:=by rfl) (hplain:(backTo cpos (starEach [] X.env)).any (·.1)=false:=by rfl):PD X EX (.Call (.Attribute o "append" apos) [a] [] cpos) (Zet fo fa):=by
 refine PE.mono (Zjr PySem.F.plainAttrs_list PySem.F.slot_list_append PySem.F.type_list_append ZoG ho (Zf ha Zn hs) hbase hfew hline hs hplain) ?_;rintro σ H Q ⟨O,ρ,st,W,E,R⟩;refine⟨O,ρ,st,W,E,R.bind.mono fun d st1 O1 H1 k1 W1 R1 v r => ?_⟩;cases d with
 | res i =>
  dsimp only at R1;cases e1:st1[i]? with
  | none=>rw[e1] at R1; exact R1.elim
  | some s1 =>
   rw[e1] at R1;cases s1 with
   | ins C fs=>exact R1.elim
   | dct kvs=>exact R1.elim
   | dtt kvs=>exact R1.elim
   | fdc kvs=>exact R1.elim
   | fdt o kvs=>exact R1.elim
   | tab P b=>exact R1.elim
   | lst xs0 =>
    dsimp only at R1;obtain⟨pa,vs0,rfl,q0,h0,_⟩:=ZjE W1 r e1;refine⟨.inl ⟨rfl,_,SqL.of h0⟩,O1,ρ,st1,W1,E.mono k1,?_⟩;cases hfa:fa ρ st1 with
    | bad=>rw[hfa] at R1; exact R1.elim
    | exc c st2 =>
     rw[hfa] at R1;show Run X.K EX O1 H1 (Zc fa Zi ρ st1) _;unfold Zc;rw[hfa];exact R1
    | ok w st2 =>
     rw[hfa] at R1;show Run X.K EX O1 H1 (Zc fa Zi ρ st1) _;unfold Zc;rw[hfa];intro O2 H2 k2 W2 ws rs;obtain⟨u,rfl,ru⟩:=Reps.one_of rs;have R2:=Run.later R1 k2;dsimp only[Out.bind] at R2;cases e2:st2[i]? with
     | none=>rw[e2] at R2; exact R2.elim
     | some s2 =>
      rw[e2] at R2;cases s2 with
      | ins C fs=>exact R2.elim
      | dct kvs=>exact R2.elim
      | dtt kvs=>exact R2.elim
      | fdc kvs=>exact R2.elim
      | fdt o kvs=>exact R2.elim
      | tab P b=>exact R2.elim
      | lst xs =>
       dsimp only at R2;by_cases hl:xs.length<small
       ·rw[Yf hl] at R2;obtain⟨pa',vs,e3,q,h1,h2⟩:=ZjE W2 (Rep.mono k2 _ _ r) e2;cases e3;refine⟨pa,vs,u,rfl,rfl,h1,by rw[<-h2.length]; exact Yy hl ZaL,?_⟩;exact R2 O2 _ (Keep.write W2 q) (W2.writeL q (h2.append (Reps.one ru))) _ (Rep.non_i.mpr rfl)
       ·rw[Yh hl] at R2; exact R2.elim
 | _=>exact R1.elim
end
end DL
end
section
namespace DL
open PySem PySem.Spec PyProof.Rows L2
section
variable{X:Cx}{EX:EXT}{a b c e o:Expr}{fa fb fc fo:DE}{pos p pT apos:Pos}
def Zcu(f:DE):DE:=fun ρ st=>(f ρ st).bind fun d st1=>match d with
 | .int i => .ok (.int (-i)) st1
 | _ => .bad
theorem Zei(ha:PD X EX a fa):PD X EX (.UnaryOp .USub a pos) (Zcu fa):=by
 refine PE.mono (Zna Zp9 ha) ?_;rintro σ H Q ⟨O,ρ,st,W,E,R⟩;refine⟨O,ρ,st,W,E,R.bind.mono fun d st1 O1 H1 k1 W1 R1 v r => ?_⟩;cases d with
 | int i=>exact⟨i,Rep.int_i.mp r,Run.now (k:=Val X.K Q) R1 W1 _ (Rep.int_i.mpr rfl)⟩
 | _=>exact R1.elim
end
structure FnAt(P:P7)(w:World)(K:P5)(mg:Str->Option P9)(base:Heap)(x:Str)(k:Nat)(F:FD):Prop where
 ex:∃(f:Addr) (fd:P8) (ps:List Str),FnOk P w K mg base CX0 k f fd ps (spD K F)/\mg x=some (.ref f)/\PySem.W.keepIn K (.ref f)=true/\Binds K fd ps []
section
variable{X:Cx}{EX:EXT}{e:Expr}{es:List Expr}{pos p:Pos}{x:Str}{k j:Nat}{F:FD}{g:DA}
theorem ZF(h:FnAt X.prog X.w X.K X.mg X.base x j F)(hr:Room k X.A)(hj:j<=k)(hg:Gl X x)(ha:PDA X EX (e :: es) g)
  (hdb:(x == ("__debug__" : Str))=false:=by decide) (he:starEach (e :: es) X.env=(false,eval e X.env) :: starEach es X.env:=by rfl) (hpl:(backTo pos (starEach es X.env)).any (·.1)=false:=by rfl) :
  PD X EX (.Call (.Name x p) (e :: es) [] pos) (Zl F g):=by
 obtain⟨f,fd,ps,G,hm,hk,hb⟩:=h.ex;exact ZpL G (hr.mono hj) hg hm hk hb xe0 ha hdb he hpl
end
theorem fnAt{P:P7}{w:World}{K:P5}{mg:Str->Option P9}{base:Heap}{x qual:Str}{st:Stmt}{f:Addr}{fd:P8}{N ps:List Str}{k:Nat}{g:DS}(F:Fun K x qual st f fd)(S:FnScope N ps (Ze st))(hm:mg x=some (.ref f))(hb:Binds K fd ps [])
  (hbody:∀(cdv:P9) (A:P6) (outer:List Env) (s:P1) (H:Hp) (E:XK),Room k (A.deeper (envOfC qual (Ze st) s.heap.objs.size f cdv)) ->
   PDS (ZJ CX0 P w K mg base N qual (Ze st) f cdv A outer s H E).nox EX0 (Zt st) g):FnAt P w K mg base x (k+1) (ZL N.length ps.length g) :=
 ⟨f,fd,ps,fnD F S hbody,hm,F.kp,hb⟩
end DL
end
section
namespace DL
open PySem PySem.Spec PyProof.Rows L2
theorem Z8{X:Cx}{pins:List (Addr×Obj)}{σ:L2.St}{H:Hp}{s:P1}(I:Inv X pins σ H s){a b:Addr}{xs:List V}(h:SqL X.K H a xs)(hf:ZaC X pins H b):a≠b:=by
 rintro rfl;rcases h with (h | ⟨ob,h⟩) | ⟨o,_,_,h,_⟩
 ·rw[hf.1] at h; cases h
 ·rw[hf.1] at h; cases h
 ·have hb:=I.ok.mod.kin a o h;rcases hf.2.2.2.1 with h1 | h1
  ·exact I.ok.noex a o hb h1
  ·exact absurd (Yy (Yg (I.ok.bs a o hb).1) h1) (YT _)
end DL
end
section
namespace DL
open PySem PySem.Spec PyProof.Rows L2
noncomputable abbrev Cx.at(X:Cx)(A:P6)(pn:List (Addr×Obj))(E:P9->P1->Prop):Cx:={ X with A:=A,calm:=false,pn:=pn,xe:=E }
noncomputable abbrev Cx.pinned(X:Cx)(pn:List (Addr×Obj))(E:P9->P1->Prop):Cx:={ X with pn:=pn,xe:=E }
structure RoomH(k:Nat)(A:P6):Prop where
 dp:A.depth+3 * k+5<recursionLimit
 un:A.units+16 * k+200<cLine
theorem RoomH.mono{j k:Nat}{A:P6}(r:RoomH k A)(h:j<=k):RoomH j A:=⟨by have:=r.dp; omega,by have:=r.un; omega⟩
theorem RoomH.deeper{k:Nat}{A:P6}(r:RoomH (k+1) A)(env:Env):RoomH k (A.deeper env):=⟨by have:=r.dp; show A.depth+1+3 * k+5<_; omega,by have:=r.un; show A.units+3+16 * k+200<_; omega⟩
theorem RoomH.of{k:Nat}{A:P6}(r:Room k A)(e:Option P9):RoomH k (A.mark e):=⟨r.dp,r.un⟩
theorem RoomH.units{k:Nat}{A:P6}(r:RoomH k A):A.units+64<cLine:=by have:=r.un; omega
end DL
end
section
namespace DL
open PySem PySem.Spec PyProof.Rows L2
def Za6(st:Sto)(x:D):List D->Option (List Bool)
 | []=>some []
 | y :: ys=>match eqN st depth y x,Za6 st x ys with
  | some a,some b=>some (a :: b)
  | _,_=>none
section
variable{X:Cx}{EX:EXT}{a b c e o:Expr}{fa fb fc fo:DE}{pos p apos cpos:Pos}{es:List Expr}{g:DA}
open Classical in
theorem Zhk{pins:List (Addr×Obj)}{σ:L2.St}{s:P1}{O:List Addr}{H:Hp}{st:Sto}(I:Inv X pins σ H s)(W:WR X.K O H st){x:D}{vx:V}{ux:P9}(rx:Rep X.K O H x vx)(qx:L2.RelV vx ux){A:P6}(hA:A.units+depth<cLine) :
  ∀{ys:List D} {vs:List V} {its:List P9} {bs:List Bool},Za6 st x ys=some bs->Reps X.K O H ys vs->Vals vs its ->
   ∃e:P9->Bool,(∀z,e z=decide (∃d v,Rep X.K O H d v/\L2.RelV v z/\eqN st depth d x=some true))/\(∀z∈its,SeqAt.EqAt A s z ux (e z))/\its.map e=bs
 | [],vs,its,k,h,r,q=>by
  rw[Reps.nil_i] at r;subst r;cases q;simp only[Za6,Yx] at h;subst h;exact⟨fun z=>decide (∃d v,Rep X.K O H d v/\L2.RelV v z/\eqN st depth d x=some true),fun _=>rfl,(fun z hz=>(by cases hz)),rfl⟩
 | y :: ys,vs,its,k,h,r,q=>by
  obtain⟨v,vs',rfl,ry,rs⟩:=Reps.cons_i.mp r;cases q with
  | cons q1 q2 =>
   rename_i u us;unfold Za6 at h;cases e1:eqN st depth y x with
   | none=>rw[e1] at h; cases h
   | some a =>
    cases e2:Za6 st x ys with
    | none=>rw[e1,e2] at h; cases h
    | some b =>
     rw[e1,e2] at h;simp only[Yx] at h;obtain⟨e,he,h1,h2⟩:=Zhk I W rx qx hA e2 rs q2;have hu:e u=a:=by
      rw[he u];cases a with
      | true=>exact YN ⟨y,v,ry,q1,e1⟩
      | false =>
       refine YS ?_;rintro⟨d,v',r',q',e'⟩;have ev:v'=v:=q'.inj q1;subst ev;have ed:=Rep.inj I W d y v' r' ry;subst ed;rw[e1] at e';cases e'
     refine⟨e,he,fun z hz => ?_,?_⟩
     ·rcases Yl.mp hz with rfl | hz
      ·rw[hu];exact (Zdk I W depth y x a e1 A v vx z ux ry rx q1 qx hA).1
      ·exact h1 z hz
     ·rw[Yn,hu,h2];exact h
def Zdv(d:D):List D->Sto->Out D
 | [x],st=>match Zp st d with
  | some ys=>match Za6 st x ys with
   | some bs=>if bs.idxOf true<bs.length then .ok (.int (bs.idxOf true:Nat)) st else .bad
   | none => .bad
  | none => .bad
 | _,_ => .bad
noncomputable abbrev rLM(X:Cx)(EX:EXT)(γ:D->List D->Sto->Out D):V->List V->Hp->VK->Prop:=fun x xs H Q => ∃O d ds st,WR X.K O H st/\Rep X.K O H d x/\Reps X.K O H ds xs/\Run X.K EX O H (γ d ds st) (Val X.K Q)
theorem ZrF(hu:X.A.units+64<cLine):MtR X "list.index" (rLM X EX Zdv):=by
 intro pins s σ H x xs v us Q I rx rxs h;obtain⟨O,d,ds,st,W,r,rs,R⟩:=h
 match ds,rs,R with
 | [],_,R=>exact R.elim
 | _ :: _ :: _,_,R=>exact R.elim
 | [y],rs,R =>
  dsimp only[Zdv] at R;cases e1:Zp st d with
  | none=>rw[e1] at R; exact R.elim
  | some ys =>
   rw[e1] at R;dsimp only at R;cases e2:Za6 st y ys with
   | none=>rw[e2] at R; exact R.elim
   | some bs =>
    rw[e2] at R;dsimp only at R;by_cases hj:bs.idxOf true<bs.length
    ·rw[Yf hj] at R;obtain⟨p,vs,rfl,q,rz⟩:=rdL W r e1;obtain⟨v',rfl,rv⟩:=rs.one_of;obtain⟨u,rfl,ru⟩:=vals1 rxs;cases rx;obtain⟨its,hv,⟨⟨cls,dd,data,sl⟩,n,ho,hc,hd,hdd⟩,hz⟩:=I.list q;simp only at hc hd hdd;subst hc hd hdd;obtain⟨e,_,h1,h2⟩:=Zhk I W rv ru (Zdd hu) e2 rz hv;have hl:its.length=bs.length:=by rw[<-h2,Ym]
     have at_:∀m (hm:m<its.toArray.size),e its.toArray[m]=bs[m]'(by simpa[<-hl] using hm):=by
      intro m hm;have:bs[m]?=some (e its.toArray[m]):=by
       rw[<-h2,Yz,Yd (by simpa using hm)];simp
      rw[Yd (by simpa[<-hl] using hm)] at this;exact (Option.some.inj this).symm
     have hlt:bs.idxOf true<its.toArray.size:=by simpa[hl] using hj
     have hb63:((bs.idxOf true:Nat):Int)<2 ^ 63 - 1:=by
      have h3:its.length<=sizeLine:=by rw[<-hv.length]; exact hz
      have h4:=Zc3;have h5:bs.idxOf true<its.length:=by simpa using hlt
      omega
     refine call_meets PySem.F.slot_list_index ⟨_,ho,rfl⟩ PySem.F.entry_list_index (PySem.F.args_list_index_2 _ _) (SeqAt.list_indexAt p its.toArray n _ sl u e (bs.idxOf true) hlt hb63 ?_ fun m hm hlt' => ?_) ⟨ho,fun z hz=>h1 z (by simpa using hz),?_⟩
     ·rw[at_ _ hlt];exact List.getElem_idxOf hj
     ·rw[at_ m hm];have:=List.not_of_lt_findIdx (p:=(· == true)) (xs:=bs) (i:=m) hlt';simpa using this
     ·exact⟨.int _,H,I.tok _,⟨_,rfl⟩,Run.now (k:=Val X.K Q) R W _ (Rep.int_i.mpr rfl)⟩
    ·rw[Yh hj] at R; exact R.elim
def dLM(γ:D->List D->Sto->Out D)(fo:DE)(f:DA):DE:=fun ρ st=>(fo ρ st).bind fun d st1=>match Zp st1 d with
 | some _=>(f ρ st1).bind fun ds st2=>γ d ds st2
 | none => .bad
theorem ZrX{name:Str}{id:String}{γ:D->List D->Sto->Out D}(slot:Slot "list" name id)(hty:typeOf (.builtin id)=pure (.type "method_descriptor"))(hm:MtR X id (rLM X EX γ))(ho:PD X EX o fo)(ha:PDA X EX (e :: es) g)
  (hbase:attributeBase o name X.env (eval o X.env)=eval o X.env:=by rfl)
  (hfew:((backTo cpos (starEach (e :: es) X.env)).all (fun x => !x.1) && (backToKw cpos (keywordEach [] X.env)).all (fun x=>x.1.isSome)
   && decide ((e :: es).length+([]:List Keyword).length+(if ([]:List Keyword).isEmpty then 0 else 1)<30))=true:=by rfl)
  (hline:(apos.endLine == cpos.line)=true:=by rfl) (hs:starEach (e :: es) X.env=(false,eval e X.env) :: starEach es X.env:=by rfl) (hplain:(backTo cpos (starEach es X.env)).any (·.1)=false:=by rfl) :
  PD X EX (.Call (.Attribute o name apos) (e :: es) [] cpos) (dLM γ fo g):=by
 refine PE.mono (Zjr PySem.F.plainAttrs_list slot hty hm ho ha hbase hfew hline hs hplain) ?_;rintro σ H Q ⟨O,ρ,st,W,E,R⟩;refine⟨O,ρ,st,W,E,R.bind.mono fun d st1 O1 H1 k1 W1 R1 v r => ?_⟩;cases e1:Zp st1 d with
 | none=>rw[e1] at R1; exact R1.elim
 | some ys =>
  rw[e1] at R1;obtain⟨pp,vs,rfl,q,rz⟩:=rdL W1 r e1;exact⟨.inl ⟨rfl,_,q⟩,O1,ρ,st1,W1,E.mono k1,R1.bind.mono fun ds st2 O2 H2 k2 W2 R2 vs rs=>⟨O2,d,ds,st2,W2,Rep.mono k2 _ _ r,rs,R2⟩⟩
end
section
variable{ρ:Ev}{st:Sto}{f fo:DE}{da:DA}{g:DS}{C:Addr}
@[simp] theorem ZsS{α β:Type}(c:Addr)(st:Sto)(k:α->Sto->Out β):(Out.exc c st:Out α).bind k = .exc c st:=rfl
@[simp] theorem ZsL{α:Type}(c:Addr)(st:Sto)(k:α->Sto->OutS):(Out.exc c st:Out α).to k = .exc c st:=rfl
@[simp] theorem Zsx{γ:D->List D->Sto->Out D}:dLM γ fo da ρ st=(fo ρ st).bind fun d st1=>match Zp st1 d with
 | some _=>(da ρ st1).bind fun ds st2=>γ d ds st2
 | none => .bad:=rfl
end
def spB(K:P5)(G:(Nat->Addr)->Prop)(F:(Nat->Addr)->FD):Sp:=fun vs H Q E => ∀cv,G cv->spD K (F cv) vs H Q E
theorem ZnP{P:P7}{w:World}{K:P5}{mg:Str->Option P9}{base:Heap}{k:Nat}{f:Addr}{fd:P8}{ps:List Str}{G:(Nat->Addr)->Prop}{F:(Nat->Addr)->FD}{cv:Nat->Addr}(hc:G cv)(O:FnOk P w K mg base CX0 k f fd ps (spD K (F cv))):FnOk P w K mg base CX0 k f fd ps (spB K G F):=by
 refine⟨fun vs H Q E h=>O.len vs H Q E (h cv hc),fun A outer s H args us vs Q E hr he hb hv hs=>O.run A outer s H args us vs Q E hr he hb hv (hs cv hc)⟩
end DL
end
section
namespace DL
open PySem PySem.Spec PyProof.Rows L2
theorem us1{P:List P9->Prop}(h:∀a,P [a]):∀us:List P9,us.length=1->P us
 | [a],_=>h a
theorem us2{P:List P9->Prop}(h:∀a b,P [a,b]):∀us:List P9,us.length=2->P us
 | [a,b],_=>h a b
theorem us3{P:List P9->Prop}(h:∀a b c,P [a,b,c]):∀us:List P9,us.length=3->P us
 | [a,b,c],_=>h a b c
end DL
end
section
namespace SO
open PySem PySem.W PyProof.Rows
def ok{α:Type}(n:Nat)(lt:Nat->Nat->Bool):KasT α->(α->Prop)->Prop
 | .ret a,Q=>Q a
 | .ask i j k,Q=>i<n/\j<n/\ok n lt (k (lt i j)) Q
section
variable{α β:Type}{n:Nat}{lt:Nat->Nat->Bool}
theorem Zcz{f:α->KasT β}{Q:β->Prop}:∀{t:KasT α},ok n lt t (fun a=>ok n lt (f a) Q)->ok n lt (t.bind f) Q
 | .ret _,h=>h
 | .ask _ _ k,⟨h1,h2,h3⟩=>⟨h1,h2,Zcz (t:=k _) h3⟩
theorem Zbr{Q Q':α->Prop}(f:∀a,Q a->Q' a):∀{t:KasT α},ok n lt t Q->ok n lt t Q'
 | .ret _,h=>f _ h
 | .ask _ _ k,⟨h1,h2,h3⟩=>⟨h1,h2,Zbr f (t:=k _) h3⟩
theorem ZgH{cmp:Nat->Nat->(Bool->P1->Prop)->P1->Prop}{s:P1}{G:α->P1->Prop}{Q:α->Prop}(hc:∀i j C,i<n->j<n->C (lt i j) s->cmp i j C s)(hG:∀a,Q a->G a s):∀{t:KasT α},ok n lt t Q->t.kasWp cmp G s
 | .ret _,h=>hG _ h
 | .ask i j k,⟨h1,h2,h3⟩=>hc i j _ h1 h2 (ZgH hc hG (t:=k _) h3)
end
structure Ord(n:Nat)(lt:Nat->Nat->Bool):Prop where
 tot:∀i j,i<n->j<n->i≠j->lt i j=false->lt j i=true
 asy:∀i j,i<n->j<n->lt i j=true->lt j i=false
 trn:∀i j k,i<n->j<n->k<n->lt i j=true->lt j k=true->lt i k=true
def Al(n:Nat)(p:Array Nat):Prop:=p.toList.Perm (List.range n)
noncomputable abbrev G(p:Array Nat)(i:Nat):Nat:=p.getD i 0
section
variable{n:Nat}{lt:Nat->Nat->Bool}{p:Array Nat}
theorem Al.size(h:Al n p):p.size=n:=by have:=h.length_eq; simpa using this
theorem ZdF(i:Nat)(h:i<p.size):G p i=p[i]:=by simp[G,Array.getD,h]
theorem Al.bel(h:Al n p)(i:Nat)(hn:0<n):G p i<n:=by
 by_cases hi:i<p.size
 ·rw[ZdF i hi];have:p[i]∈p.toList:=by simp
  have:=h.mem_iff.mp this;simpa using this
 ·simp[G,Array.getD,hi,hn]
theorem Al.inj(h:Al n p){i j:Nat}(hi:i<n)(hj:j<n)(ne:i≠j):G p i≠G p j:=by
 have nd:p.toList.Nodup:=h.nodup_iff.mpr List.nodup_range;have hs:=h.size;rw[ZdF i (by omega),ZdF j (by omega)];intro e;have:=(Qe (i:=i) (j:=j) (h₀:=by simpa using (by omega:i<p.size)) (h₁:=by simpa using (by omega:j<p.size)) nd).mp (by simpa using e);exact ne this
theorem Zdt{q:Array Nat}{i j:Nat}(h:p[i]?=q[j]?):G p i=G q j:=by
 simp only[G,Array.getD_eq_getD_getElem?,h]
def SP(lt:Nat->Nat->Bool)(p:Array Nat)(k:Nat):Prop:=∀i j,i<j->j<k->lt (G p i) (G p j)=true
def DP(lt:Nat->Nat->Bool)(p:Array Nat)(k:Nat):Prop:=∀i j,i<j->j<k->lt (G p j) (G p i)=true
theorem SP.one:SP lt p 1:=fun i j h1 h2=>by omega
theorem SP.next(O:Ord n lt)(h:Al n p){m:Nat}(h1:1<=m)(hm:m<n)(s:SP lt p m)(e:lt (G p (m - 1)) (G p m)=true):SP lt p (m+1):=by
 intro i j hij hj;by_cases hjm:j<m
 ·exact s i j hij hjm
 ·have:j=m:=by omega
  subst this;by_cases hi:i=j - 1
  ·subst hi; exact e
  ·exact O.trn _ _ _ (h.bel _ (by omega)) (h.bel _ (by omega)) (h.bel _ (by omega)) (s i (j - 1) (by omega) (by omega)) e
theorem DP.next(O:Ord n lt)(h:Al n p){m:Nat}(h1:1<=m)(hm:m<n)(s:DP lt p m)(e:lt (G p m) (G p (m - 1))=true):DP lt p (m+1):=by
 intro i j hij hj;by_cases hjm:j<m
 ·exact s i j hij hjm
 ·have:j=m:=by omega
  subst this;by_cases hi:i=j - 1
  ·subst hi; exact e
  ·exact O.trn _ _ _ (h.bel _ (by omega)) (h.bel _ (by omega)) (h.bel _ (by omega)) e (s i (j - 1) (by omega) (by omega))
theorem Zfa(O:Ord n lt)(h:Al n p):∀(f m:Nat),1<=m->m+f=n->SP lt p m->ok n lt (kas_asc p f m) (fun r=>m<=r/\r<=n/\SP lt p r/\(r<n->lt (G p r) (G p (r - 1))=true))
 | 0,m,h1,hf,s=>⟨Yj _,by omega,s,fun z=>by omega⟩
 | f+1,m,h1,hf,s=>by
  unfold kas_asc;refine⟨h.bel _ (by omega),h.bel _ (by omega),?_⟩;cases e:lt (p.getD m 0) (p.getD (m - 1) 0) with
  | true =>
   dsimp only;rw[Yf rfl];exact⟨Yj _,by omega,s,fun _=>e⟩
  | false =>
   dsimp only;rw[Yh (by simp)];have e':=O.tot _ _ (h.bel _ (by omega)) (h.bel _ (by omega)) (h.inj (i:=m) (j:=m - 1) (by omega) (by omega) (by omega)) e;exact Zbr (fun r z=>⟨UA z.1,z.2⟩) (Zfa O h f (m+1) (by omega) (by omega) (s.next O h h1 (by omega) e'))
theorem ZjA(O:Ord n lt)(h:Al n p):∀(f m:Nat),1<=m->m+f=n->DP lt p m->ok n lt (kas_desc f p m 0) (fun r=>r.1=p/\r.2.2=0/\m<=r.2.1/\r.2.1<=n/\DP lt p r.2.1)
 | 0,m,h1,hf,s=>⟨rfl,rfl,Yj _,(by omega:m<=n),s⟩
 | f+1,m,h1,hf,s=>by
  unfold kas_desc;refine⟨h.bel _ (by omega),h.bel _ (by omega),?_⟩;cases e:lt (p.getD m 0) (p.getD (m - 1) 0) with
  | true =>
   dsimp only;rw[Yf rfl,Yh (YT 0)];exact Zbr (fun r z=>⟨z.1,z.2.1,UA z.2.2.1,z.2.2.2⟩) (ZjA O h f (m+1) (by omega) (by omega) (s.next O h h1 (by omega) e))
  | false =>
   dsimp only;rw[Yh (by simp)];have e':=O.tot _ _ (h.bel _ (by omega)) (h.bel _ (by omega)) (h.inj (i:=m) (j:=m - 1) (by omega) (by omega) (by omega)) e;refine⟨h.bel _ (by omega),h.bel _ (by omega),?_⟩;rw[e'];dsimp only;rw[Yf rfl];exact⟨rfl,rfl,Yj _,(by omega:m<=n),s⟩
theorem Al.rev(h:Al n p)(m:Nat):Al n (kas_rev p 0 m):=((mirror_perm p 0 m _).toList).trans h
theorem Zig{m:Nat}(hm:m<=p.size)(k:Nat):G (kas_rev p 0 m) k=if k<m then G p (m - 1 - k) else G p k:=by
 have e:=getElem?_mirror_all (xs:=p) (i:=0) hm k;by_cases hk:k<m
 ·rw[Yf hk];rw[Yf ⟨YU _,hk⟩] at e;rw[show 0+m - 1 - k=m - 1 - k by omega] at e;exact Zdt e
 ·rw[Yh hk];rw[Yh (fun z=>hk z.2)] at e;exact Zdt e
theorem Zsc(h:Al n p){m:Nat}(hm:m<=n)(d:DP lt p m):SP lt (kas_rev p 0 m) m:=by
 intro i j hij hj;have hs:=h.size;rw[Zig (by omega),Zig (by omega),Yf (by omega),Yf hj];exact d _ _ (by omega) (by omega)
theorem Zqr(O:Ord n lt)(h:Al n p){m:Nat}(h1:1<=m)(hm:m<=n)(d:DP lt p m):ok n lt (kas_tail3 m n p) (fun r=>Al n r.2/\1<=r.1/\r.1<=n/\SP lt r.2 r.1):=by
 unfold kas_tail3;refine Zcz (Zbr (fun r z => ?_) (Zfa O (h.rev m) (n - m) m h1 (by omega) (Zsc h hm d)));exact⟨h.rev m,by omega,z.2.1,z.2.2.1⟩
theorem Zru(O:Ord n lt)(h:Al n p)(hn:1<=n):ok n lt (kas_count n p) (fun r=>Al n r.2/\1<=r.1/\r.1<=n/\SP lt r.2 r.1):=by
 unfold kas_count;refine Zcz (Zbr (fun r z => ?_) (Zfa O h (n - 1) 1 (Yj _) (by omega) SP.one));obtain⟨z1,z2,z3,z4⟩:=z;by_cases hr:r=n
 ·subst hr;simp only[V0,Y9];exact⟨h,z1,z2,z3⟩
 ·have hb:(r == n)=false:=by simp[hr]
  rw[hb,Yh (by simp)];by_cases h1:r > 1
  ·rw[Yf h1];refine⟨h.bel _ (by omega),h.bel _ (by omega),?_⟩;have e:lt (p.getD 0 0) (p.getD (r - 1) 0)=true:=z3 0 (r - 1) (by omega) (by omega);rw[e];dsimp only;rw[Yf rfl];exact⟨h,z1,z2,z3⟩
  ·rw[Yh h1];have:r=1:=by omega
   subst this;unfold kas_descPart;have d2:DP lt p 2:=by
    intro i j hij hj;have hi:i=0:=by omega
    have hj':j=1:=by omega
    subst hi hj';exact z4 (by omega)
   refine Zcz (Zbr (fun r w => ?_) (ZjA O h (n - (1+1)) (1+1) (by omega) (by omega) d2));obtain⟨w1,w2,w3,w4,w5⟩:=w;obtain⟨r1,r2,r3⟩:=r;dsimp only at w1 w2 w3 w4 w5 ⊢;subst w1 w2;rw[Yh (YT 0)];exact Zqr O h (by omega) w4 w5
theorem Zft(O:Ord n lt)(h:Al n p){k:Nat}(hk:k<n):∀(f l r:Nat),r - l<=f->l<=r->r<=k->(∀i,i<l->lt (G p i) (G p k)=true)->(∀i,r<=i->i<k->lt (G p k) (G p i)=true)->SP lt p k ->
  ok n lt (kas_place p k f l r) (fun m=>m<=k/\(∀i,i<m->lt (G p i) (G p k)=true)/\∀i,m<=i->i<k->lt (G p k) (G p i)=true)
 | 0,l,r,hf,hl,hr,a,b,s=>by
  have:l=r:=by omega
  subst this;exact⟨hr,a,b⟩
 | f+1,l,r,hf,hl,hr,a,b,s=>by
  unfold kas_place;by_cases hlr:l ≥ r
  ·rw[Yf hlr];have:l=r:=by omega
   subst this;exact⟨hr,a,b⟩
  ·rw[Yh hlr];refine⟨h.bel _ (by omega),h.bel _ (by omega),?_⟩;have hm1:l<=(l+r) / 2:=by omega
   have hm2:(l+r) / 2<r:=by omega
   cases e:lt (p.getD k 0) (p.getD ((l+r) / 2) 0) with
   | true =>
    dsimp only;rw[Yf rfl];refine Zft O h hk f l ((l+r) / 2) (by omega) hm1 (by omega) a (fun i hi1 hi2 => ?_) s;by_cases hi:i=(l+r) / 2
    ·subst hi; exact e
    ·exact O.trn _ _ _ (h.bel _ (by omega)) (h.bel _ (by omega)) (h.bel _ (by omega)) e (s _ _ (by omega) hi2)
   | false =>
    dsimp only;rw[Yh (by simp)];have e':=O.tot _ _ (h.bel _ (by omega)) (h.bel _ (by omega)) (h.inj (i:=k) (j:=(l+r) / 2) hk (by omega) (by omega)) e;refine Zft O h hk f ((l+r) / 2+1) r (by omega) (by omega) hr (fun i hi => ?_) b s;by_cases hi2:i=(l+r) / 2
    ·subst hi2; exact e'
    ·exact O.trn _ _ _ (h.bel _ (by omega)) (h.bel _ (by omega)) (h.bel _ (by omega)) (s i ((l+r) / 2) (by omega) (by omega)) e'
theorem Al.bub(h:Al n p)(k d:Nat):Al n (bubble p k d):=((bubble_perm p k d).toList).trans h
theorem Zjp{k d:Nat}(hk:k<p.size)(hd:d<=k)(i:Nat):G (bubble p k d) i=if i=k - d then G p k else if k - d<i/\i<=k then G p (i - 1) else G p i:=by
 have e:=getElem?_bubble hk d hd i;by_cases h1:i=k - d
 ·rw[Yf h1] at e ⊢; exact Zdt e
 ·rw[Yh h1] at e ⊢;by_cases h2:k - d<i/\i<=k
  ·rw[Yf h2] at e ⊢; exact Zdt e
  ·rw[Yh h2] at e ⊢; exact Zdt e
theorem ZiF(O:Ord n lt):∀(f k:Nat) (p:Array Nat),Al n p->k+f=n->SP lt p k->ok n lt (kas_bin f p k) (fun q=>Al n q/\SP lt q n)
 | 0,k,p,h,hf,s=>by
  have:k=n:=by omega
  subst this;exact⟨h,s⟩
 | f+1,k,p,h,hf,s=>by
  unfold kas_bin;refine Zcz (Zbr (fun m z => ?_) (Zft O h (by omega) k 0 k (by omega) (YU _) (Yj _) (fun i hi=>by omega) (fun i h1 h2=>by omega) s));obtain⟨z1,z2,z3⟩:=z;refine ZiF O f (k+1) _ (h.bub k (k - m)) (by omega) ?_;have hs:=h.size;intro i j hij hj;rw[Zjp (by omega) (by omega),Zjp (by omega) (by omega)];have hkm:k - (k - m)=m:=by omega
  rw[hkm];by_cases hi:i=m
  ·rw[Yf hi,Yh (by omega),Yf (by omega)];exact z3 _ (by omega) (by omega)
  ·rw[Yh hi];by_cases hj':j=m
   ·rw[Yf hj',Yh (by omega)];exact z2 _ (by omega)
   ·rw[Yh hj'];by_cases hi3:m<i/\i<=k
    ·rw[Yf hi3,Yf (by omega)];exact s _ _ (by omega) (by omega)
    ·rw[Yh hi3];by_cases hj3:m<j/\j<=k
     ·rw[Yf hj3];by_cases hij2:i=j - 1
      ·omega
      ·exact s _ _ (by omega) (by omega)
     ·rw[Yh hj3];exact s _ _ hij (by omega)
theorem Zsn(O:Ord n lt)(hn:1<=n):ok n lt (kas_sort n) (fun q=>Al n q/\SP lt q n):=by
 unfold kas_sort;refine Zcz (Zbr (fun r z => ?_) (Zru O (show Al n (List.toArray (List.range n)) from List.Perm.refl _) hn));obtain⟨z1,z2,z3,z4⟩:=z;by_cases hr:r.1<n
 ·rw[Yf hr,show max r.1 1=r.1 by omega];exact ZiF O _ _ _ z1 (by omega) z4
 ·rw[Yh hr];have:r.1=n:=by omega
  rw[this] at z4;exact⟨z1,z4⟩
end
end SO
end
section
namespace SO
open PySem PySem.W PyProof.Rows
theorem SP.pw{n:Nat}{lt:Nat->Nat->Bool}{p:Array Nat}(h:Al n p)(s:SP lt p n):p.toList.Pairwise (fun i j=>lt i j=true):=by
 rw[WT];intro i j hi hj hij;have hs:=h.size;simp only[Yq] at hi hj;have:=s i j hij (by omega);rw[ZdF i hi,ZdF j hj] at this;simpa using this
section
variable{prog:P7}{w:World}{A:P6}{E:P9->P1->Prop}{s:P1}
noncomputable abbrev KB(s:P1)(a:Addr)(h':Heap):Prop:=∀b o,b≠a->s.heap.get? b=some o->h'.get? b=some o
end
end SO
end
section
end
section
namespace TS
open PySem PyProof.Rows
structure JL(L:Keyed->Keyed->Prop)(S out A B:List Keyed):Prop where
 pm:(out++(A++B)).Perm S
 sr:out.Pairwise L
 lo:∀o∈out,∀z∈A++B,L o z
section
variable{L:Keyed->Keyed->Prop}{S out A B T:List Keyed}
theorem JL.fin(h:JL L S out A B){X:List Keyed}(hX:X.Perm (A++B))(hp:X.Pairwise L):(out++X).Perm S/\(out++X).Pairwise L :=
 ⟨(List.Perm.append_left _ hX).trans h.pm,Vb.mpr ⟨h.sr,hp,fun o ho z hz=>h.lo o ho z (hX.mem_iff.mp hz)⟩⟩
end
structure AB(less:Keyed->Keyed->Bool)(a b:Array Keyed):Prop where
 tr:∀x∈a.toList++b.toList,∀y∈a.toList++b.toList,∀z∈a.toList++b.toList,less x y=true->less y z=true->less x z=true
 sa:a.toList.Pairwise (fun x y=>less x y=true)
 sb:b.toList.Pairwise (fun x y=>less x y=true)
 ne:∀x∈a.toList,∀y∈b.toList,less y x = !(less x y)
 za:0<a.size
 zb:0<b.size
 fi:∀x∈a.toList,less (b[0]'zb) x=true
 la:∀y∈b.toList,less y (a[a.size - 1]'(by omega))=true
def J(less:Keyed->Keyed->Bool)(a b out:Array Keyed)(ia ib:Nat):Prop:=JL (fun x y=>less x y=true) (a.toList++b.toList) out.toList (a.toList.drop ia) (b.toList.drop ib)
def Rz(less:Keyed->Keyed->Bool)(a b r:Array Keyed):Prop:=r.toList.Perm (a.toList++b.toList)/\r.toList.Pairwise (fun x y=>less x y=true)
section
variable{less:Keyed->Keyed->Bool}{a b out:Array Keyed}{ia ib:Nat}
theorem Zcs{x:Array Keyed}{i:Nat}(h:i<x.size):x[i]∈x.toList:=by simp
end
end TS
end
section
namespace TS
open PySem PyProof.Rows
def JH(less:Keyed->Keyed->Bool)(a b out:Array Keyed)(na nb:Nat):Prop:=JL (fun x y=>less y x=true) (a.toList++b.toList) out.toList (a.toList.take na).reverse (b.toList.take nb).reverse
section
variable{less:Keyed->Keyed->Bool}{a b out:Array Keyed}{na nb:Nat}
theorem Zkn{x:Array Keyed}{n:Nat}:(x.extract 0 n).toList=x.toList.take n:=by
 rw[Ub,List.extract_eq_drop_take];simp
theorem ZrJ{x:Array Keyed}{n:Nat}{z:Keyed}(h:z∈(x.toList.take n).reverse):∃j,j<n/\∃hj:j<x.size,z=x[j]:=by
 rw[List.mem_reverse] at h;obtain⟨j,hj,rfl⟩:=List.mem_iff_getElem.mp h;rw[Y8] at hj;refine⟨j,by omega,by simp at hj; omega,?_⟩;rw[List.getElem_take];simp
theorem JH.close(h:JH less a b out na nb){X:List Keyed}(hX:X.Perm (a.toList.take na++b.toList.take nb))(hp:X.Pairwise (fun x y=>less x y=true)):(X++out.toList.reverse).Perm (a.toList++b.toList)/\(X++out.toList.reverse).Pairwise (fun x y=>less x y=true):=by
 have:=JL.fin h (X:=X.reverse) ((QZ X).trans (hX.trans ((List.Perm.append (QZ _) (QZ _)).symm))) (V5.mpr hp);rw[show X++out.toList.reverse=(out.toList++X.reverse).reverse by simp];exact⟨(QZ _).trans this.1,V5.mpr this.2⟩
theorem JH.first(C:AB less a b)(h:JH less a b out na nb)(hb:nb=1):Rz less a b (b.extract 0 nb++a.extract 0 na++out.reverse):=by
 subst hb;unfold Rz;rw[Array.toList_append,Array.toList_append,Zkn,Zkn,Array.toList_reverse];refine h.close List.perm_append_comm (Vb.mpr ⟨C.sb.sublist (VO _ _),C.sa.sublist (VO _ _),fun y hy x hx => ?_⟩);obtain⟨j,h1,h2,rfl⟩:=ZrJ (List.mem_reverse.mpr hy);obtain rfl:j=0:=by omega
 exact C.fi x (Uc hx)
end
end TS
end
section
namespace TS
open PySem PyProof.Rows
structure Tot(less:Keyed->Keyed->Bool)(xs:List Keyed):Prop where
 tr:∀x∈xs,∀y∈xs,∀z∈xs,less x y=true->less y z=true->less x z=true
 ne:xs.Pairwise (fun x y=>less y x = !(less x y))
theorem Tot.perm{less:Keyed->Keyed->Bool}{xs ys:List Keyed}(T:Tot less xs)(h:ys.Perm xs):Tot less ys :=
 ⟨fun x hx y hy z hz=>T.tr x (h.mem_iff.mp hx) y (h.mem_iff.mp hy) z (h.mem_iff.mp hz),(h.pairwise_iff (fun {x y} e=>by rw[e,Bool.not_not])).mpr T.ne⟩
theorem Tot.at_{less:Keyed->Keyed->Bool}{x:Array Keyed}(T:Tot less x.toList){i j:Nat}(hi:i<x.size)(hj:j<x.size)(h:i≠j):less x[j] x[i] = !(less x[i] x[j]):=by
 rcases Nat.lt_or_gt_of_ne h with h | h
 ·have:=WT.mp T.ne i j (by simpa using hi) (by simpa using hj) h;simp only[Array.getElem_toList] at this;exact this
 ·have:=WT.mp T.ne j i (by simpa using hj) (by simpa using hi) h;simp only[Array.getElem_toList] at this;rw[this,Bool.not_not]
def Srt(less:Keyed->Keyed->Bool)(x:Array Keyed)(lo hi:Nat):Prop:=∀i j (hij:i<j) (hj:j<x.size),lo<=i->j<hi->less (x[i]'(by omega)) x[j]=true
end TS
end
section
namespace TS
open PySem PyProof.Rows
section
variable{less:Keyed->Keyed->Bool}{x:Array Keyed}
def Dsc(less:Keyed->Keyed->Bool)(x:Array Keyed)(lo hi:Nat):Prop:=∀i j (hij:i<j) (hj:j<x.size),lo<=i->j<hi->less x[j] (x[i]'(by omega))=true
theorem Srt.next(T:Tot less x.toList){lo m:Nat}(h:Srt less x lo (lo+m))(h1:1<=m)(hm:lo+m<x.size)(e:less (x[lo+m - 1]'(by omega)) x[lo+m]=true):Srt less x lo (lo+(m+1)):=by
 intro i j hij hj hi hj2;by_cases c:j<lo+m
 ·exact h i j hij hj hi c
 ·obtain rfl:j=lo+m:=by omega
  by_cases c2:i=lo+m - 1
  ·subst c2; exact e
  ·exact T.tr _ (Zcs (by omega)) _ (Zcs (by omega)) _ (Zcs (by omega)) (h i (lo+m - 1) (by omega) (by omega) hi (by omega)) e
theorem Dsc.next(T:Tot less x.toList){lo m:Nat}(h:Dsc less x lo (lo+m))(h1:1<=m)(hm:lo+m<x.size)(e:less x[lo+m] (x[lo+m - 1]'(by omega))=true):Dsc less x lo (lo+(m+1)):=by
 intro i j hij hj hi hj2;by_cases c:j<lo+m
 ·exact h i j hij hj hi c
 ·obtain rfl:j=lo+m:=by omega
  by_cases c2:i=lo+m - 1
  ·subst c2; exact e
  ·exact T.tr _ (Zcs (by omega)) _ (Zcs (by omega)) _ (Zcs (by omega)) e (h i (lo+m - 1) (by omega) (by omega) hi (by omega))
theorem Srt.one{lo:Nat}:Srt less x lo (lo+1):=fun i j hij hj hi hj2=>by omega
def Out_(x y:Array Keyed)(lo hi:Nat):Prop:=y.size=x.size/\∀k (h1:k<x.size) (h2:k<y.size),k<lo\/hi<=k->y[k]=x[k]
theorem Out_.refl{lo hi:Nat}:Out_ x x lo hi:=⟨rfl,fun _ _ _ _=>rfl⟩
end
end TS
end
section
end
section
namespace SO
open PySem PySem.W PyProof.Rows
section
variable{prog:P7}{w:World}{A:P6}{E:P9->P1->Prop}{s:P1}
theorem ZoL{vs:List P9}{κ:SortKind}{lt:Nat->Nat->Bool}{Q:SortSt->P1->Prop}(h2:2<=vs.length)(h64:vs.length<64)
  (_:∀i j,i<vs.length->j<vs.length->vs.getD i .none=vs.getD j .none->i=j)
  (hl:∀(E:P9->P1->Prop) (Q:Bool->P1->Prop) (i j:Nat),i<vs.length->j<vs.length->Q (lt i j) s->wpAny (model prog w) A (keyLt' κ (vs.getD i .none) (vs.getD j .none)) Q E s) (O:Ord vs.length lt)
  (h:∀(st':SortSt) (p:Array Nat),p.toList.Perm (List.range vs.length)->p.toList.Pairwise (fun i j=>lt i j=true)->arrOf st'=p.map (kas_item (vs.toArray.zip vs.toArray))->failedOf st'=none->Q st' s) :
  wpAny (model prog w) A ((sortRuns').run (SortSt.mk' κ (vs.toArray.zip vs.toArray) #[] 7 none)) (fun r s'=>Q r.2 s') E s:=by
 refine YK (kat_run (κ:=κ) (ks:=vs) (vs:=vs) (G:=fun p s'=>Al vs.length p/\SP lt p vs.length/\s'=s) (Q:=fun st' s' => ∃p:Array Nat,arrOf st'=p.map (kas_item (vs.toArray.zip vs.toArray))/\failedOf st'=none/\Al vs.length p/\SP lt p vs.length/\s'=s)
  rfl h2 h64 (fun p st' s' _ h1 h2 h3=>⟨p,h1,h2,h3⟩) ?_) ?_ fun _ _ e=>e
 ·exact ZgH (Q:=fun p=>Al vs.length p/\SP lt p vs.length) (fun i j D hi hj hD=>hl _ _ i j hi hj hD) (fun p z=>⟨z.1,z.2,rfl⟩) (Zsn O (by omega))
 ·rintro⟨⟨⟩,st'⟩ s' ⟨p,har,hf,hA,hS,rfl⟩;exact h st' p hA (hS.pw hA) har hf
end
end SO
end
section
namespace DL
open PySem PySem.Spec PyProof.Rows L2 PySem.W
def Zgb(a b:Int×Int):Bool:=decide (a.1<b.1\/a.1=b.1/\a.2<b.2)
def ZbH(a b:Int×Int):Bool:=decide (a.1<b.1\/a.1=b.1/\a.2<=b.2)
def ZbO(ps:List (Int×Int)):List (Int×Int):=ps.mergeSort ZbH
theorem ZdR(ps:List (Int×Int)):(ZbO ps).Perm ps:=Vi _ _
theorem Zhf(ps:List (Int×Int)):(ZbO ps).Pairwise (fun a b=>ZbH a b=true):=by
 refine QP (fun a b c h1 h2 => ?_) (fun a b => ?_) ps
 ·simp only[ZbH,YR] at *; omega
 ·simp only[ZbH,QT,YR]; omega
theorem Zqs{ps qs:List (Int×Int)}(hp:qs.Perm ps)(hw:qs.Pairwise (fun a b=>Zgb a b=true)):qs=ZbO ps:=by
 refine QK (le:=fun a b=>ZbH a b=true) (fun a b _ _ h1 h2 => ?_) (hw.imp fun {a b} h => ?_) (Zhf ps) (hp.trans (ZdR ps).symm)
 ·simp only[ZbH,YR] at h1 h2;exact Prod.ext (by omega) (by omega)
 ·simp only[ZbH,Zgb,YR] at *; omega
section
variable{X:Cx}{EX:EXT}
theorem Zen{α:Type}{f:α->V}{g:α->P9}:∀(l:List α),(∀i∈l,RelV (f i) (g i))->Vals (l.map f) (l.map g)
 | [],_ => .nil
 | i :: l,h => .cons (h i (.head _)) (Zen l fun j hj=>h j (.tail _ hj))
theorem ZdD{α:Type}{K:P5}{O:List Addr}{H:Hp}{f:α->D}{g:α->V}:∀(l:List α),(∀i∈l,Rep K O H (f i) (g i))->Reps K O H (l.map f) (l.map g)
 | [],_=>Reps.nil_i.mpr rfl
 | i :: l,h=>Reps.cons_i.mpr ⟨_,_,rfl,h i (.head _),ZdD l fun j hj=>h j (.tail _ hj)⟩
end
open PySem PySem.Spec PyProof.Rows L2
section
variable{X:Cx}{EX:EXT}{e:Expr}{pos:Pos}
theorem ZdE{x:Str}{p:Pos}{es:List Expr}{id:String}{g:List D->Sto->Out (List D)}{f:DA}(hc:ZcE X EX (.builtin id) g)(hg:Gl X x)(hm:X.mg x=none)(hv:bootBuiltins x=some (.builtin id))(ha:PDA X EX (e :: es) f)(hn:x≠"__name__":=by decide)(hdb:(x == ("__debug__" : Str))=false:=by decide)
  (he:starEach (e :: es) X.env=(false,eval e X.env) :: starEach es X.env:=by rfl) (hpl:(backTo pos (starEach es X.env)).any (·.1)=false:=by rfl):PDF X EX (.Call (.Name x p) (e :: es) [] pos) (Zl g f):=PE.mono (ZjM hc hg hm hv ha hn hdb he hpl) ZfS
end
end DL
end
section
end
section
namespace L2
open PySem PySem.Spec PyProof.Rows
section
variable{κ:Type}[DecidableEq κ]
def Zap(kvs:List (κ×V))(k:κ):Option V:=(kvs.find? fun kv=>decide (kv.1=k)).map (·.2)
def putK(kvs:List (κ×V))(k:κ)(v:V):List (κ×V) :=
 if (kvs.any fun kv=>decide (kv.1=k))=true then kvs.map (fun kv=>if kv.1=k then (kv.1,v) else kv) else kvs++[(k,v)]
def Zjx(kvs:List (κ×V))(k:κ):List (κ×V):=kvs.filter fun kv=>decide (kv.1≠k)
theorem Zev{p:κ×V}{r:List (κ×V)}{k:κ}(e:p.1=k):Zap (p :: r) k=some p.2:=by simp[Zap,QU,e]
theorem Zec{p:κ×V}{r:List (κ×V)}{k:κ}(e:¬ p.1=k):Zap (p :: r) k=Zap r k:=by simp[Zap,QU,e]
theorem ZgC(k:κ):∀kvs:List (κ×V),(kvs.any fun kv=>decide (kv.1=k))=(Zap kvs k).isSome
 | []=>rfl
 | p :: r=>by
  rw[QS];by_cases e:p.1=k
  ·simp only[Zev e,YN e,Bool.true_or,Option.isSome_some]
  ·rw[Zec e,YS e,Bool.false_or]; exact ZgC k r
theorem ZgG(kvs:List (κ×V))(k:κ)(v:V):(putK kvs k v).length<=kvs.length+1:=by
 unfold putK;split
 ·rw[Ym]; omega
 ·rw[YW,Yw,Wq]; omega
theorem RelO.isSome_eq{o:Option V}{u:Option P9}(r:RelO o u):o.isSome=u.isSome:=by
 cases o with
 | none=>cases u with
  | none=>rfl
  | some _=>exact (show False from r).elim
 | some _=>cases u with
  | none=>exact (show False from r).elim
  | some _=>rfl
theorem RelO.getD{o:Option V}{u:Option P9}{d:V}{d':P9}(r:RelO o u)(rd:RelV d d'):RelV (o.getD d) (u.getD d'):=by
 cases o with
 | none=>cases u with
  | none=>exact rd
  | some _=>exact (show False from r).elim
 | some _=>cases u with
  | none=>exact (show False from r).elim
  | some _=>exact r
theorem KV.val{kvs:List (κ×V)}{vs:List (κ×P9)}(r:KV kvs vs)(k:κ):RelO (Zap kvs k) (valueAt vs k):=by
 unfold KV at r
 induction r with
 | nil=>exact True.intro
 | @cons p q ps qs h t ih =>
  obtain⟨h1,h2⟩:=h;by_cases e:p.1=k
  ·have e':q.1=k:=h1.symm.trans e;have b:valueAt (q :: qs) k=some q.2:=by simp[valueAt,QU,e']
   rw[Zev e,b]; exact h2
  ·have e':¬ q.1=k:=fun z=>e (h1.trans z);have b:valueAt (q :: qs) k=valueAt qs k:=by simp[valueAt,QU,e']
   rw[Zec e,b]; exact ih
theorem KV.any{kvs:List (κ×V)}{vs:List (κ×P9)}(r:KV kvs vs)(k:κ):(kvs.any fun kv=>decide (kv.1=k))=vs.any fun kv=>decide (kv.1=k):=by
 unfold KV at r
 induction r with
 | nil=>rfl
 | cons h t ih=>rw[QS,QS,ih,h.1]
theorem KV.repl{kvs:List (κ×V)}{vs:List (κ×P9)}(r:KV kvs vs)(k:κ){y:V}{u:P9}(ry:RelV y u) :
  KV (kvs.map fun kv=>if kv.1=k then (kv.1,y) else kv) (vs.map fun kv=>if kv.1=k then (kv.1,u) else kv):=by
 unfold KV at r ⊢
 induction r with
 | nil=>exact .nil
 | @cons p q ps qs h t ih =>
  rw[Yn,Yn];refine .cons ?_ ih;obtain⟨h1,h2⟩:=h;by_cases e:p.1=k
  ·rw[Yf e,Yf (h1.symm.trans e)]; exact⟨h1,ry⟩
  ·rw[Yh e,Yh (fun z=>e (h1.trans z))]; exact⟨h1,h2⟩
theorem KV.put{kvs:List (κ×V)}{vs:List (κ×P9)}(r:KV kvs vs)(k:κ){y:V}{u:P9}(ry:RelV y u):KV (putK kvs k y) (stored vs k u):=by
 unfold putK stored;rw[r.any k];by_cases e:(vs.any fun kv=>decide (kv.1=k))=true
 ·rw[Yf e,Yf e]; exact r.repl k ry
 ·rw[Yh e,Yh e]; exact Paired.snoc r ⟨rfl,ry⟩
theorem KV.drop{kvs:List (κ×V)}{vs:List (κ×P9)}(r:KV kvs vs)(k:κ):KV (Zjx kvs k) (without vs k):=by
 unfold KV at r ⊢;unfold Zjx without
 induction r with
 | nil=>exact .nil
 | @cons p q ps qs h t ih =>
  obtain⟨h1,h2⟩:=h;rw[Y1,Y1];by_cases e:p.1=k
  ·have a:¬ decide (p.1≠k)=true:=by simp[e]
   have b:¬ decide (q.1≠k)=true:=by simp[h1.symm.trans e]
   rw[Yh a,Yh b]; exact ih
  ·have e':¬ q.1=k:=fun z=>e (h1.trans z);have a:decide (p.1≠k)=true:=by simp[e]
   have b:decide (q.1≠k)=true:=by simp[e']
   rw[Yf a,Yf b]; exact .cons ⟨h1,h2⟩ ih
theorem KV.keys{kvs:List (κ×V)}{vs:List (κ×P9)}(r:KV kvs vs):kvs.map (·.1)=vs.map (·.1):=by
 unfold KV at r
 induction r with
 | nil=>rfl
 | cons h t ih=>rw[Yn,Yn,ih,h.1]
theorem KV.length{kvs:List (κ×V)}{vs:List (κ×P9)}(r:KV kvs vs):kvs.length=vs.length:=Paired.length r
end
theorem Zeh{P:P7}{w:World}{k:Key}{u:P9}(r:RelV (kV k) u):(mixKind P w).is k u=true:=by
 cases k with
 | inl i=>obtain⟨t,e⟩:=(show ∃t,u=Value.int i t from r); subst e; exact ZnG P w i t
 | inr x=>obtain⟨t,e⟩:=(show ∃t,u=Value.str x t from r); subst e; exact Zpc P w x t
theorem Zkh{P:P7}{w:World}:∀{ks:List Key} {us:List P9},Vals (ks.map kV) us->ItemsAre (mixKind P w) ks us
 | [],_,r=>by rw[Q5] at r; cases r; exact .nil
 | k :: ks,_,r=>by
  rw[Yn] at r;cases r with
  | cons h t=>exact .cons (Zeh h) (Zkh t)
noncomputable abbrev KT(H:Hp):List (List Key×V)->List (List Key×Addr×P9)->Prop:=Paired fun p q=>p.1=q.1/\H q.2.1=some (.tup (p.1.map kV))/\RelV p.2 q.2.2
theorem KT.val{H:Hp}{kvs:List (List Key×V)}{xs:List (List Key×Addr×P9)}(r:KT H kvs xs)(k:List Key):RelO (Zap kvs k) ((atKey xs k).map (·.2)):=by
 induction r with
 | nil=>exact True.intro
 | @cons p q ps qs h t ih =>
  obtain⟨h1,_,h2⟩:=h;by_cases e:p.1=k
  ·have e':q.1=k:=h1.symm.trans e;have b:atKey (q :: qs) k=some q.2:=by simp[atKey,QU,e']
   rw[Zev e,b]; exact h2
  ·have e':¬ q.1=k:=fun z=>e (h1.trans z);have b:atKey (q :: qs) k=atKey qs k:=by simp[atKey,QU,e']
   rw[Zec e,b]; exact ih
theorem KT.repl{H:Hp}{kvs:List (List Key×V)}{xs:List (List Key×Addr×P9)}(r:KT H kvs xs)(k:List Key){y:V}{u:P9}(ry:RelV y u) :
  KT H (kvs.map fun kv=>if kv.1=k then (kv.1,y) else kv) (xs.map (putAt k u)):=by
 induction r with
 | nil=>exact .nil
 | @cons p q ps qs h t ih =>
  rw[Yn,Yn];refine .cons ?_ ih;obtain⟨h1,h2,h3⟩:=h;unfold putAt;by_cases e:p.1=k
  ·rw[Yf e,Yf (h1.symm.trans e)]; exact⟨h1,h2,ry⟩
  ·rw[Yh e,Yh (fun z=>e (h1.trans z))]; exact⟨h1,h2,h3⟩
theorem KT.put{H:Hp}{kvs:List (List Key×V)}{xs:List (List Key×Addr×P9)}(r:KT H kvs xs)(k:List Key){b:Addr}{y:V}{u:P9}(hb:H b=some (.tup (k.map kV)))(ry:RelV y u) :
  KT H (putK kvs k y) (storedH xs k b u):=by
 have e:(kvs.any fun kv=>decide (kv.1=k))=(atKey xs k).isSome:=by
  rw[ZgC,(r.val k).isSome_eq,Option.isSome_map]
 unfold putK storedH;rw[e];by_cases q:(atKey xs k).isSome=true
 ·rw[Yf q,Yf q]; exact r.repl k ry
 ·rw[Yh q,Yh q]; exact Paired.snoc r ⟨rfl,hb,ry⟩
theorem KT.keeps{H H':Hp}{kvs:List (List Key×V)}{xs:List (List Key×Addr×P9)}(r:KT H kvs xs)(ht:∀b ys,H b=some (.tup ys)->H' b=some (.tup ys)):KT H' kvs xs :=
 Paired.mapP r fun _ _ z=>⟨z.1,ht _ _ z.2.1,z.2.2⟩
section
variable{P:P7}{w:World}{H:Hp}{h:Heap}{a:Addr}
theorem ZkO{u:HO}(ok:HOk P w H h)(e:Rd H a u):ObjOk P w H h a u:=e.ok ok
theorem Zb2{kvs:List (Key×V)}(ok:HOk P w H h)(e:Rd H a (.dK kvs)):kvs.length<=sizeLine/\(a == sysModules)=false/\∃vs,KV kvs vs/\h.DictOf (mixKind P w) a vs :=
 show ObjOk P w H h a (.dK kvs) from ZkO ok e
theorem ZpU{kvs:List (Key×V)}(ok:HOk P w H h)(e:H a=some (.dK kvs)):kvs.length<=sizeLine/\(a == sysModules)=false/\∃vs,KV kvs vs/\h.DictOf (mixKind P w) a vs:=Zb2 ok (.inl e)
theorem ZcS{ks:List Key}(ok:HOk P w H h)(e:H a=some (.tup (ks.map kV))):(tupleKind (mixKind P w)).is h ks a:=by
 obtain⟨_,its,r,⟨o,h1,h2,n,h3⟩,_⟩:=(show ObjOk P w H h a (.tup (ks.map kV)) from ok a _ e);exact⟨o,its.toArray,n,h1,h2,h3,by simpa using Zkh r⟩
theorem ZaN{kvs:List (List Key×V)}(ok:HOk P w H h)(e:Rd H a (.dT kvs)):kvs.length<=sizeLine/\(a == sysModules)=false /\
  ∃xs,KT H kvs xs/\h.DictOfH (tupleKind (mixKind P w)) a xs:=by
 obtain⟨z,y,xs,r,o,es,ep,h1,h2,h3,h4,h5⟩:=(show ObjOk P w H h a (.dT kvs) from ZkO ok e);refine⟨z,y,xs,r,o,es,ep,h1,h2,h3,h4,fun x hx => ?_,h5⟩;have all:∀{l:List (List Key×V)} {m:List (List Key×Addr×P9)},KT H l m->∀x∈m,(tupleKind (mixKind P w)).is h x.1 x.2.1:=by
  intro l m q
  induction q with
  | nil=>intro x hx; exact nomatch hx
  | @cons p q ps qs hq t ih =>
   intro x hx;rcases Yl.mp hx with e | hx
   ·subst e;exact ZcS ok (by rw[<-hq.1]; exact hq.2.1)
   ·exact ih x hx
 exact all r x hx
theorem ZqP{kvs:List (List Key×V)}(ok:HOk P w H h)(e:H a=some (.dT kvs)):kvs.length<=sizeLine/\(a == sysModules)=false /\
  ∃xs,KT H kvs xs/\h.DictOfH (tupleKind (mixKind P w)) a xs:=ZaN ok (.inl e)
end
def DGet(H:Hp)(a:Addr)(y:V)(r:Option V):Prop :=
 (∃kvs k,Rd H a (.dK kvs)/\y=kV k/\r=Zap kvs k)\/∃kvs k b,Rd H a (.dT kvs)/\y = .ref b/\H b=some (.tup (k.map kV))/\r=Zap kvs k
def DPut(H:Hp)(a:Addr)(y v:V)(H':Hp):Prop :=
 (∃kvs k,H a=some (.dK kvs)/\y=kV k/\kvs.length<sizeLine/\H'=upd H a (.dK (putK kvs k v))) \/
 ∃kvs k b,H a=some (.dT kvs)/\y = .ref b/\H b=some (.tup (k.map kV))/\kvs.length<sizeLine/\H'=upd H a (.dT (putK kvs k v))
theorem DGet.k{H:Hp}{a:Addr}{kvs:List (Key×V)}{k:Key}(e:H a=some (.dK kvs)):DGet H a (kV k) (Zap kvs k):=.inl ⟨kvs,k,.inl e,rfl,rfl⟩
theorem DGet.t{H:Hp}{a b:Addr}{kvs:List (List Key×V)}{k:List Key}(e:H a=some (.dT kvs))(eb:H b=some (.tup (k.map kV))):DGet H a (.ref b) (Zap kvs k):=.inr ⟨kvs,k,b,.inl e,rfl,eb,rfl⟩
theorem DPut.k{H:Hp}{a:Addr}{kvs:List (Key×V)}{k:Key}{v:V}(e:H a=some (.dK kvs))(hl:kvs.length<sizeLine):DPut H a (kV k) v (upd H a (.dK (putK kvs k v))):=.inl ⟨kvs,k,e,rfl,hl,rfl⟩
theorem DPut.t{H:Hp}{a b:Addr}{kvs:List (List Key×V)}{k:List Key}{v:V}(e:H a=some (.dT kvs))(eb:H b=some (.tup (k.map kV)))(hl:kvs.length<sizeLine) :
  DPut H a (.ref b) v (upd H a (.dT (putK kvs k v))):=.inr ⟨kvs,k,b,e,rfl,eb,hl,rfl⟩
section
variable{X:Cx}{pins:List (Addr×Obj)}{σ:St}{H:Hp}{s:P1}{a:Addr}{y v:V}{u r:P9}{o:Option V}{A:P6}{E:P9->P1->Prop}
theorem Inv.big(I:Inv X pins σ H s):sysModules<s.heap.objs.size:=by
 have h:mainGlobals<s.heap.objs.size:=(I.mod.glob.keeps I.bk).lt;exact Q7 (by decide) h
theorem ZpR{Q:P9->P1->Prop}(hu:A.units+1<cLine)(I:Inv X pins σ H s)(g:DGet H a y (some v))(ry:RelV y u)(h:∀w' s',Inv X pins σ H s'->RelV v w'->Q w' s') :
  wpAny (model X.prog X.w) A (getItem (.ref a) u) Q E s:=by
 rcases g with⟨kvs,k,e,ey,l⟩ | ⟨kvs,k,b,e,ey,eb,l⟩
 ·subst ey;obtain⟨z,hd,vs,rel,dd⟩:=Zb2 I.hok e;obtain⟨w',hw,rw'⟩:=RelO.some_of (v:=v) (o:=valueAt vs k) (by rw[l]; exact rel.val k);exact wpAny_getItem_of (Zeh ry) dd.mapOf hw (h w' _ (I.tok _) rw')
 ·subst ey;cases (show u=Value.ref b from ry);obtain⟨z,hd,xs,rel,dd⟩:=ZaN I.hok e;obtain⟨w',hw,rw'⟩:=RelO.some_of (v:=v) (o:=(atKey xs k).map (·.2)) (by rw[l]; exact rel.val k);obtain⟨p,hp,hp2⟩:=Y7.mp hw;refine wpAny_getItem_heap (QV hu) (ZcS I.hok eb) dd hp ?_;rw[hp2];exact h w' _ (I.tok _) rw'
theorem Zjk{h':Heap}{t':Nat}{ob:HO}(I:Inv X pins σ H s)(mu:Mut (H a))(hs:Heap.SameBut a s.heap h')(he:∃q,h'.get? a=some q)(new:ObjOk X.prog X.w (upd H a ob) h' a ob) :
  Inv X pins σ (upd H a ob) { s with heap:=h',toks:=t' } :=
 I.write (x:=a) (e:=a) mu (.inl rfl) (fun b q hb z=>(hs.2 b hb).trans z) he new
theorem Zr0{P:P7}{w:World}{H':Hp}{h':Heap}{kvs:List (Key×V)}{vs:List (Key×P9)}(z:kvs.length<=sizeLine)(hd:(a == sysModules)=false)(rel:KV kvs vs)(dd:h'.DictOf (mixKind P w) a vs) :
  ObjOk P w H' h' a (.dK kvs):=⟨z,hd,vs,rel,dd⟩
theorem Zof{H':Hp}{Q:Unit->P1->Prop}(hu:A.units+1<cLine)(I:Inv X pins σ H s)(g:DPut H a y v H')(ry:RelV y u)(rv:RelV v r)(h:∀s',Inv X pins σ H' s'->Q () s') :
  wpAny (model X.prog X.w) A (setItem (.ref a) u r) Q E s:=by
 rcases g with⟨kvs,k,e,ey,l,eH⟩ | ⟨kvs,k,b,e,ey,eb,l,eH⟩
 ·subst ey eH;obtain⟨z,hd,vs,rel,dd⟩:=ZpU I.hok e;have hz:vs.length<=sizeLine:=by rw[<-rel.length]; exact z
  have hl:(putK kvs k v).length<=sizeLine:=by have:=ZgG kvs k v; omega
  refine wpAny_setItem_pairs (hsz:=hz) (Zeh ry) dd fun h' dd' hs=>h _ ?_;have he:∃q,h'.get? a=some q:=let ⟨q,_,_,hq,_⟩:=dd'; ⟨q,hq⟩
  exact Zjk I (by rw[e]; exact True.intro) hs he (Zr0 hl hd (rel.put k rv) dd')
 ·subst ey eH;cases (show u=Value.ref b from ry);obtain⟨z,hd,xs,rel,dd⟩:=ZqP I.hok e;have hz:xs.length<=sizeLine:=by rw[<-Paired.length rel]; exact z
  have hl:(putK kvs k v).length<=sizeLine:=by have:=ZgG kvs k v; omega
  refine wpAny_setItem_heap (hsz:=hz) (QV hu) (ZcS I.hok eb) dd fun h' dd' hs=>h _ ?_;obtain⟨q,es,ep,hq,h2,h3,h4,_,h5⟩:=dd';refine Zjk I (by rw[e]; exact True.intro) hs ⟨q,hq⟩ ⟨hl,hd,_,(rel.put k eb rv).keeps fun c ys ec => ?_,q,es,ep,hq,h2,h3,h4,h5⟩;rw[Zh (ne_of ec e (fun z=>nomatch z))];exact ec
end
section
variable{X:Cx}{pins:List (Addr×Obj)}{σ:St}{H:Hp}{s:P1}{a:Addr}{kvs:List (Key×V)}{k:Key}{u:P9}{A:P6}{E:P9->P1->Prop}
theorem ZrY{Q:P9->P1->Prop}(I:Inv X pins σ H s)(e:Rd H a (.dK kvs))(h:∀t s',Inv X pins σ H s'->Q (.int kvs.length t) s'):wpAny (model X.prog X.w) A (call (.builtin "len") [.ref a]) Q E s:=by
 obtain⟨z,hd,vs,rel,dd⟩:=Zb2 I.hok e;refine call_len_dict hd dd (by rw[<-rel.length]; rw[YG] at z; omega) ?_;rw[<-rel.length];exact h _ _ (I.tok _)
end
def Zf3(i:Expr):Prop:=∀ov iv,subscripted i false ov iv=operate [ov,iv] (getItem ov iv)
theorem Zka{prog:P7}{w:World}{A:P6}{E:P9->P1->Prop}{s:P1}{env:Env}{value slice:Expr}{pos:Pos}{T id:String}{Q:P9->P1->Prop}
  (hl:typeLookup (.type T) "__getitem__" = pure (some (.builtin id))) (hs:Zf3 slice)
  (h:wpAny (model prog w) A (eval value env) (fun o s₁=>wpAny (model prog w) A (eval slice env) (fun i s₂=>s₂.TypeIs o T/\wpAny (model prog w) A (getItem o i) Q E s₂) E s₁) E s) :
  wpAny (model prog w) A (eval (.Subscript value slice pos) env) Q E s:=by
 refine Subscript_ (YK h (fun o s₁ h₁=>YK h₁ (fun i s₂ h₂ => ?_) fun _ _ x=>x) fun _ _ x=>x);obtain⟨hT,h₂⟩:=h₂;unfold subscriptTail;refine Ya ?_;rw[getitemInPython_of_ne hT.not_modules];refine Ya (Ud hT hl ?_);have fin:wpAny (model prog w) A (subscripted slice false o i) (fun r s₃=>wpAny (model prog w) A (letTemporaryGo value o r >>= fun _=>pure r) Q E s₃) E s₂:=by
  rw[hs o i];exact wpAny_operating (YK h₂ (fun r s₃ h₃=>Ya (wpAny_letTemporaryGo (Yb h₃))) fun _ _ x=>x)
 first
  | exact Yb (Ya fin)
  | exact Ya (Yb (Ya fin))
  | exact Ya fin
theorem ZrM{X:Cx}{pins:List (Addr×Obj)}{σ:St}{H:Hp}{s:P1}{a:Addr}{y:V}{o:Option V}(I:Inv X pins σ H s)(g:DGet H a y o):s.TypeIs (.ref a) "dict":=by
 rcases g with⟨kvs,k,e,_,_⟩ | ⟨kvs,k,b,e,_,_,_⟩
 ·obtain⟨_,_,vs,_,dd⟩:=Zb2 I.hok e;exact dd.typeIs
 ·obtain⟨_,_,xs,_,dd⟩:=ZaN I.hok e;exact dd.typeIs
def Zo1(td ty:TE):TE:=fun σ H Q=>td σ H fun x H1=>ty σ H1 fun y H2 => ∃a v,x = .ref a/\DGet H2 a y (some v)/\Q v H2
def ZmW(td ty tv:TE):TS:=fun D σ H=>tv σ H fun v H1=>td σ H1 fun x H2=>ty σ H2 fun y H3 => ∃a H4,x = .ref a/\DPut H3 a y v H4/\D.nx σ H4
section
variable{X:Cx}{o i e value:Expr}{pos pos' tpos:Pos}{td ty tv:TE}
theorem Znv(hu:X.A.units+1<cLine)(ho:PE X o td)(hi:PE X i ty)(hs:Zf3 i):PE X (.Subscript o i pos) (Zo1 td ty):=by
 intro pins s σ H Q I h;refine Zka UJ.lookup hs (thn (ho pins s σ H _ I h) fun u s1 ⟨x,H1,I1,rx,q1⟩=>thn (hi pins s1 σ H1 _ I1 q1) fun iv s2 ⟨y,H2,I2,ry,a,v,ex,g,q2⟩ => ?_);subst ex;obtain rfl:u=Value.ref a:=rx;exact⟨ZrM I2 g,ZpR hu I2 g ry fun w' s3 I3 rw'=>⟨v,H2,I3,rw',q2⟩⟩
theorem Zsk(hu:X.A.units+1<cLine)(ho:PE X o td)(hi:PE X i ty)(hv:PE X value tv)(hs:swapsWith value (some (.Subscript o i pos')) pos.line X.env=pure false) :
  PS X (.Assign [.Subscript o i pos'] value pos) (ZmW td ty tv):=by
 intro pins s σ H D I h;refine wpAny_Assign_Subscript (thn (hv pins s σ H _ I h) fun r s1 ⟨v,H1,I1,rv,q1⟩=>thn (ho pins s1 σ H1 _ I1 q1) fun u s2 ⟨x,H2,I2,rx,q2⟩=>thn (hi pins s2 σ H2 _ I2 q2) fun iv s3 ⟨y,H3,I3,ry,a,H4,ex,g,q3⟩ => ?_) hs;subst ex;obtain rfl:u=Value.ref a:=rx;exact Zof hu I3 g ry rv fun s4 I4=>⟨σ,H4,I4,q3⟩
end
theorem Zql{P:P7}{w:World}{H:Hp}(h:Heap)(hb:sysModules<h.objs.size):ObjOk P w H (h.push { cls:=.type "dict",data:=.dict #[] }) h.objs.size (.dK []) :=
 ⟨YU _,QM.mpr (YX (Yp hb)),[],.nil,Heap.DictOf.new h⟩
theorem Zmc{P:P7}{w:World}{H:Hp}(h:Heap)(hb:sysModules<h.objs.size):ObjOk P w H (h.push { cls:=.type "dict",data:=.dict #[] }) h.objs.size (.dT []) :=
 ⟨YU _,QM.mpr (YX (Yp hb)),[],.nil,_,#[],0,Yi _ rfl,⟨rfl,rfl,rfl⟩,rfl,rfl,WO⟩
def Znu:TE:=fun _ H Q => ∀p,H p=none->Q (.ref p) (upd H p (.dK []))
def ZmK:TE:=fun _ H Q => ∀p,H p=none->Q (.ref p) (upd H p (.dT []))
section
variable{X:Cx}{pos:Pos}
theorem Zmv:PE X (.Dict [] [] pos) Znu:=fun pins s σ H Q I h =>
 wpAny_Dict_empty ⟨.ref s.heap.objs.size,_,I.laid (a:=s.heap.objs.size) (o:=.dK []) (t':=s.toks) (fun _ _ q=>Yc _ q) (Yj _) (Zql s.heap I.big),rfl,h _ (I.hok.fresh (Yj _))⟩
theorem ZqH:PE X (.Dict [] [] pos) ZmK:=fun pins s σ H Q I h =>
 wpAny_Dict_empty ⟨.ref s.heap.objs.size,_,I.laid (a:=s.heap.objs.size) (o:=.dT []) (t':=s.toks) (fun _ _ q=>Yc _ q) (Yj _) (Zmc s.heap I.big),rfl,h _ (I.hok.fresh (Yj _))⟩
end
structure M2(X:Cx)(o:Expr)(m:Str)(apos:Pos)(e f:Expr)(cpos:Pos):Prop where
 base:attributeBase o m X.env (eval o X.env)=eval o X.env
 few:((backTo cpos (starEach [e,f] X.env)).all (fun x => !x.1) && (backToKw cpos (keywordEach [] X.env)).all (fun x=>x.1.isSome)
  && decide (([e,f]:List Expr).length+([]:List Keyword).length+(if ([]:List Keyword).isEmpty then 0 else 1)<30))=true
 line:(apos.endLine == cpos.line)=true
 trees:backTo cpos (starEach [e,f] X.env)=[(false,eval e X.env),(false,eval f X.env)]
def IsD(H:Hp)(a:Addr):Prop:=(∃kvs,Rd H a (.dK kvs))\/∃kvs,Rd H a (.dT kvs)
theorem Zpx{X:Cx}{pins:List (Addr×Obj)}{σ:St}{H:Hp}{s:P1}{a:Addr}(I:Inv X pins σ H s)(d:IsD H a) :
  s.TypeIs (.ref a) "dict"/\(∀b,Value.ref a = .ref b->∃ob,s.heap.get? b=some ob/\ob.dict=none)/\(a == sysModules)=false:=by
 rcases d with⟨kvs,e⟩ | ⟨kvs,e⟩
 ·obtain⟨_,hd,vs,_,dd⟩:=Zb2 I.hok e;refine⟨dd.typeIs,fun b q => ?_,hd⟩;cases q;obtain⟨ob,_,_,h1,h2,_⟩:=dd;exact⟨ob,h1,h2.2.1⟩
 ·obtain⟨_,hd,xs,_,dd⟩:=ZaN I.hok e;refine⟨dd.typeIs,fun b q => ?_,hd⟩;cases q;obtain⟨ob,_,_,h1,h2,_⟩:=dd;exact⟨ob,h1,h2.2.1⟩
section
variable{X:Cx}{pins:List (Addr×Obj)}{σ:St}{H:Hp}{s:P1}{a:Addr}{y d:V}{u r:P9}{o:Option V}{A:P6}{E:P9->P1->Prop}
theorem ZrB{Q:P9->P1->Prop}(hu:A.units+1<cLine)(I:Inv X pins σ H s)(g:DGet H a y o)(ry:RelV y u)(rd:RelV d r)(h:∀w' s',Inv X pins σ H s'->RelV (o.getD d) w'->Q w' s') :
  wpAny (model X.prog X.w) A (call (.builtin "dict.get") [.ref a,u,r]) Q E s:=by
 rcases g with⟨kvs,k,e,ey,l⟩ | ⟨kvs,k,b,e,ey,eb,l⟩
 ·subst ey;obtain⟨z,hd,vs,rel,dd⟩:=Zb2 I.hok e;refine call_meetsIn V6 dd.typeIs PySem.F.entry_dict_get (PySem.F.args_dict_get_3 _ _ _) (meets_dict_get_default (mixKind X.prog X.w) a (Zeh ry) hd r) ⟨_,dd.mapOf,h _ _ (I.tok _) ?_⟩;rw[l];exact (rel.val k).getD rd
 ·subst ey;cases (show u=Value.ref b from ry);obtain⟨z,hd,xs,rel,dd⟩:=ZaN I.hok e;refine call_meetsIn V6 dd.typeIs PySem.F.entry_dict_get (PySem.F.args_dict_get_3 _ _ _) (meetsH_dict_get_default (tupleKind (mixKind X.prog X.w)) a b hd r) ⟨QV hu,k,xs,ZcS I.hok eb,dd,h _ _ (I.tok _) ?_⟩;rw[l];exact (rel.val k).getD rd
end
def Zqf(td ty tx:TE):TE:=fun σ H Q=>td σ H fun x H1 => ∃a,x = .ref a/\IsD H1 a/\ty σ H1 fun y H2=>tx σ H2 fun z H3 => ∃o,DGet H3 a y o/\Q (o.getD z) H3
section
variable{X:Cx}{o e f:Expr}{apos cpos:Pos}{td ty tx:TE}
theorem Zk2(hu:X.A.units+1<cLine)(ho:PE X o td)(he:PE X e ty)(hf:PE X f tx)(m:M2 X o "get" apos e f cpos):PE X (.Call (.Attribute o "get" apos) [e,f] [] cpos) (Zqf td ty tx):=by
 intro pins s σ H Q I h;refine wpAny_Call_method m.base m.few m.line VL V6 PySem.F.type_dict_get (thn (ho pins s σ H _ I h) fun u s1 ⟨x,H1,I1,rx,a,ex,d,q1⟩ => ?_);subst ex;obtain rfl:u=Value.ref a:=rx;obtain⟨t1,t2,_⟩:=Zpx I1 d;refine⟨t1,t2,?_⟩;rw[m.trees];refine QX rfl (Calls.evalArgs_plain (WH (thn (he pins s1 σ H1 _ I1 q1) fun iv s2 ⟨y,H2,I2,ry,q2⟩ =>
  WH (thn (hf pins s2 σ H2 _ I2 q2) fun fv s3 ⟨z,H3,I3,rz,ov,g,q3⟩=>W8 ?_))))
 exact ZrB hu I3 g ry rz fun w' s4 I4 rw'=>⟨_,H3,I4,rw',q3⟩
end
section
variable{X:Cx}
theorem ZaM:Zbe X (.builtin "len") (fun xs H Q => ∃a kvs,xs=[V.ref a]/\H a=some (.dK kvs)/\Q (.int kvs.length) H):=by
 intro pins s σ H xs us Q I r h;obtain⟨a,kvs,rfl,ha,q⟩:=h;obtain⟨u,rfl,ru⟩:=vals1 r;cases ru;exact ZrY I (.inl ha) fun t s' I'=>⟨.int kvs.length,H,I',⟨t,rfl⟩,q⟩
end
end L2
end
section
namespace DL
open PySem PySem.Spec PyProof.Rows L2
section
variable{κ:Type}[DecidableEq κ](f:D->Option κ)
def ZI:List (D×D)->D->Option D
 | [],_=>none
 | p :: r,k=>if f p.1=f k then some p.2 else ZI r k
def hasD(ds:List (D×D))(k:D):Bool:=ds.any fun p=>decide (f p.1=f k)
def putD(ds:List (D×D))(k v:D):List (D×D) :=
 if hasD f ds k=true then ds.map (fun p=>if f p.1=f k then (p.1,v) else p) else ds++[(k,v)]
end
def RelO'(K:P5)(O:List Addr)(H:Hp):Option D->Option V->Prop
 | none,none=>True
 | some d,some v=>Rep K O H d v
 | _,_=>False
section
variable{κ:Type}[DecidableEq κ]{f:D->Option κ}{K:P5}{O:List Addr}{H:Hp}
theorem ZjY(k:D):∀ds:List (D×D),hasD f ds k=(ZI f ds k).isSome
 | []=>rfl
 | p :: r=>by
  unfold hasD;rw[QS];by_cases e:f p.1=f k
  ·simp[ZI,e]
  ·rw[YS e,Bool.false_or];have:=ZjY k r;unfold hasD at this;rw[this,ZI,Yh e]
theorem ZbV{k:D}{q:κ}(hk:f k=some q):∀{ds:List (D×D)} {vs:List (κ×V)},Kvs K f O H ds vs->RelO' K O H (ZI f ds k) (Zap vs q)
 | [],vs,h=>by
  cases (show vs=[] from h);exact trivial
 | (a,d) :: ds,vs,h=>by
  obtain⟨qa,v,r,rfl,ha,hr,ht⟩:=(show ∃q v r,vs=(q,v) :: r/\f a=some q/\Rep K O H d v/\Kvs K f O H ds r from h);by_cases e:qa=q
  ·have e':f (a,d).1=f k:=by rw[hk]; show f a=_; rw[ha,e]
   rw[ZI,Yf e',Zev (p:=(qa,v)) e];exact hr
  ·have e':¬ f (a,d).1=f k:=by
    rw[hk]; show ¬ f a=_; rw[ha]; intro z; exact e (Option.some.inj z)
   rw[ZI,Yh e',Zec (p:=(qa,v)) e];exact ZbV hk ht
theorem RelO'.isSome{a:Option D}{b:Option V}(h:RelO' K O H a b):b.isSome=a.isSome:=by
 cases a <;> cases b <;> first | rfl | exact h.elim
theorem Ze0:∀{ds:List (D×D)} {vs:List (κ×V)},Kvs K f O H ds vs->vs.length=ds.length
 | [],vs,h=>by
  cases (show vs=[] from h);rfl
 | (a,d) :: ds,vs,h=>by
  obtain⟨qa,v,r,rfl,ha,hr,ht⟩:=(show ∃q v r,vs=(q,v) :: r/\f a=some q/\Rep K O H d v/\Kvs K f O H ds r from h);simp[Ze0 ht]
theorem Zjo{k d:D}{q:κ}{v:V}(hk:f k=some q)(hr:Rep K O H d v):∀{ds:List (D×D)} {vs:List (κ×V)},Kvs K f O H ds vs->Kvs K f O H (ds++[(k,d)]) (vs++[(q,v)])
 | [],vs,h=>by
  cases (show vs=[] from h);exact⟨q,v,[],rfl,hk,hr,rfl⟩
 | (a,d) :: ds,vs,h=>by
  obtain⟨qa,w,r,rfl,ha,hw,ht⟩:=(show ∃q v r,vs=(q,v) :: r/\f a=some q/\Rep K O H d v/\Kvs K f O H ds r from h);exact⟨qa,w,r++[(q,v)],rfl,ha,hw,Zjo hk hr ht⟩
theorem ZiP{k d:D}{q:κ}{v:V}(hk:f k=some q)(hr:Rep K O H d v):∀{ds:List (D×D)} {vs:List (κ×V)},Kvs K f O H ds vs ->
  Kvs K f O H (ds.map fun p=>if f p.1=f k then (p.1,d) else p) (vs.map fun kv=>if kv.1=q then (kv.1,v) else kv)
 | [],vs,h=>by
  cases (show vs=[] from h);exact rfl
 | (a,e) :: ds,vs,h=>by
  obtain⟨qa,w,r,rfl,ha,hw,ht⟩:=(show ∃q v r,vs=(q,v) :: r/\f a=some q/\Rep K O H e v/\Kvs K f O H ds r from h);have ih:=ZiP hk hr ht;rw[Yn,Yn];by_cases z:qa=q
  ·have z':f (a,e).1=f k:=by rw[hk]; show f a=_; rw[ha,z]
   rw[Yf z',Yf (show (qa,w).1=q from z)];exact⟨qa,v,_,rfl,ha,hr,ih⟩
  ·have z':¬ f (a,e).1=f k:=by
    rw[hk]; show ¬ f a=_; rw[ha]; intro y; exact z (Option.some.inj y)
   rw[Yh z',Yh (show ¬ (qa,w).1=q from z)];exact⟨qa,w,_,rfl,ha,hw,ih⟩
theorem ZgT{k d:D}{q:κ}{v:V}(hk:f k=some q)(hr:Rep K O H d v){ds:List (D×D)}{vs:List (κ×V)}(h:Kvs K f O H ds vs):Kvs K f O H (putD f ds k d) (putK vs q v):=by
 unfold putD putK;rw[ZjY,ZgC,(ZbV hk h).isSome];split
 ·exact ZiP hk hr h
 ·exact Zjo hk hr h
end
theorem ZdS{K:P5}{O:List Addr}{H:Hp}{d:D}{q:Key}{v:V}(h:Zx d=some q)(r:Rep K O H d v):v=kV q:=by
 cases d with
 | int i =>
  cases (show some (Sum.inl i)=some q from h);exact Rep.int_i.mp r
 | str x =>
  cases (show some (Sum.inr x)=some q from h);exact Rep.str_i.mp r
 | _=>cases h
theorem ZiV{K:P5}{O:List Addr}{H:Hp}:∀{ds:List D} {qs:List Key} {vs:List V},Za5 ds=some qs->Reps K O H ds vs->vs=qs.map kV
 | [],qs,vs,h,r=>by
  cases (show some []=some qs from h);exact (by unfold Reps at r; exact r)
 | d :: ds,qs,vs,h,r=>by
  unfold Za5 at h;unfold Reps at r;obtain⟨v,w,rfl,hv,hw⟩:=r;split at h
  ·rename_i k ks h1 h2;cases h;rw[ZdS h1 hv,ZiV h2 hw];rfl
  ·cases h
theorem Zdi{K:P5}{O:List Addr}{H:Hp}{d:D}{q:List Key}{v:V}(h:Zo d=some q)(r:Rep K O H d v):∃b,v = .ref b/\H b=some (.tup (q.map kV)):=by
 cases d with
 | tup ds =>
  rw[Rep.tup_i] at r;obtain⟨a,vs,rfl,e,rs⟩:=r;have h':Za5 ds=some q:=h;rw[ZiV h' rs] at e;exact⟨a,rfl,e⟩
 | _=>cases h
def dAt(st:Sto)(d k:D):Option (Option D):=match d with
 | .res i=>match st[i]? with
  | some (.dct ds)=>if (Zx k).isSome=true then some (ZI Zx ds k) else none
  | some (.fdc ds)=>if (Zx k).isSome=true then some (ZI Zx ds k) else none
  | some (.dtt ds)=>if (Zo k).isSome=true then some (ZI Zo ds k) else none
  | some (.fdt _ ds)=>if (Zo k).isSome=true then some (ZI Zo ds k) else none
  | _=>none
 | _=>none
theorem ZiT{K:P5}{O:List Addr}{H:Hp}{st:Sto}{d k:D}{o:Option D}{x y:V}(W:WR K O H st)(h:dAt st d k=some o)(rx:Rep K O H d x)(ry:Rep K O H k y) :
  ∃a ov,x = .ref a/\DGet H a y ov/\RelO' K O H o ov:=by
 cases d with
 | res i =>
  rw[Rep.res_i] at rx;obtain⟨a,rfl,q⟩:=rx;unfold dAt at h;dsimp only at h;cases e:st[i]? with
  | none=>rw[e] at h; cases h
  | some s =>
   rw[e] at h;cases s with
   | lst xs=>cases h
   | ins C fs=>cases h
   | tab P b=>cases h
   | dct ds =>
    obtain⟨vs,e2,kv⟩:=W.at_ _ _ _ q e;dsimp only at h;cases hk:Zx k with
    | none=>rw[hk] at h; cases h
    | some c =>
     rw[hk] at h;cases h;cases ZdS hk ry;exact⟨a,_,rfl,DGet.k e2,ZbV hk kv⟩
   | fdc ds =>
    obtain⟨ob,vs,e2,kv⟩:=W.at_ _ _ _ q e;dsimp only at h;cases hk:Zx k with
    | none=>rw[hk] at h; cases h
    | some c =>
     rw[hk] at h;cases h;cases ZdS hk ry;exact⟨a,_,rfl,(.inl ⟨_,_,.inr ⟨_,e2⟩,rfl,rfl⟩),ZbV hk kv⟩
   | dtt ds =>
    obtain⟨vs,e2,kv⟩:=W.at_ _ _ _ q e;dsimp only at h;cases hk:Zo k with
    | none=>rw[hk] at h; cases h
    | some c =>
     rw[hk] at h;cases h;obtain⟨b,rfl,hb⟩:=Zdi hk ry;exact⟨a,_,rfl,DGet.t e2 hb,ZbV hk kv⟩
   | fdt ob ds =>
    obtain⟨vs,e2,kv⟩:=W.at_ _ _ _ q e;dsimp only at h;cases hk:Zo k with
    | none=>rw[hk] at h; cases h
    | some c =>
     rw[hk] at h;cases h;obtain⟨b,rfl,hb⟩:=Zdi hk ry;exact⟨a,_,rfl,(.inr ⟨_,_,_,.inr ⟨_,e2⟩,rfl,hb,rfl⟩),ZbV hk kv⟩
 | _=>cases h
def Zbc(st:Sto)(d k v:D):Option Sto:=match d with
 | .res i=>match st[i]? with
  | some (.dct ds)=>if (Zx k).isSome=true/\ds.length<small then some (st.set i (.dct (putD Zx ds k v))) else none
  | some (.dtt ds)=>if (Zo k).isSome=true/\ds.length<small then some (st.set i (.dtt (putD Zo ds k v))) else none
  | _=>none
 | _=>none
theorem Zl8{K:P5}{O:List Addr}{H:Hp}{st st':Sto}{d k z:D}{x y w:V}(W:WR K O H st)(h:Zbc st d k z=some st')(rx:Rep K O H d x)(ry:Rep K O H k y)(rw':Rep K O H z w) :
  ∃a H',x = .ref a/\DPut H a y w H'/\Keep K O H O H'/\WR K O H' st':=by
 cases d with
 | res i =>
  rw[Rep.res_i] at rx;obtain⟨a,rfl,q⟩:=rx;unfold Zbc at h;dsimp only at h;cases e:st[i]? with
  | none=>rw[e] at h; cases h
  | some s =>
   rw[e] at h;cases s with
   | lst xs=>cases h
   | ins C fs=>cases h
   | fdc ds=>cases h
   | fdt o ds=>cases h
   | tab P b=>cases h
   | dct ds =>
    obtain⟨vs,e2,kv⟩:=W.at_ _ _ _ q e;dsimp only at h;split at h
    ·rename_i hc;cases hk:Zx k with
     | none=>rw[hk] at hc; cases hc.1
     | some c =>
      cases h;cases ZdS hk ry;refine⟨a,_,rfl,DPut.k e2 (by rw[Ze0 kv]; exact Yy hc.2 ZaL),Keep.write W q,W.write q ?_⟩;exact⟨_,ZH,Kvs.mono (Keep.write W q) _ _ (ZgT hk rw' kv)⟩
    ·cases h
   | dtt ds =>
    obtain⟨vs,e2,kv⟩:=W.at_ _ _ _ q e;dsimp only at h;split at h
    ·rename_i hc;cases hk:Zo k with
     | none=>rw[hk] at hc; cases hc.1
     | some c =>
      cases h;obtain⟨b,rfl,hb⟩:=Zdi hk ry;refine⟨a,_,rfl,DPut.t e2 hb (by rw[Ze0 kv]; exact Yy hc.2 ZaL),Keep.write W q,W.write q ?_⟩;exact⟨_,ZH,Kvs.mono (Keep.write W q) _ _ (ZgT hk rw' kv)⟩
    ·cases h
 | _=>cases h
def Zci(fo fi:DE):DE:=fun ρ st=>(fo ρ st).bind fun d st1=>(fi ρ st1).bind fun k st2=>match dAt st2 d k with
 | some (some v) => .ok v st2
 | _ => .bad
def ZdU:DE:=fun _ st => .ok (.res st.length) (st++[.dct []])
def Zbo:DE:=fun _ st => .ok (.res st.length) (st++[.dtt []])
def ZcN(fo fi fv:DE):DS:=fun ρ st=>(fv ρ st).to fun v st1=>(fo ρ st1).to fun d st2=>(fi ρ st2).to fun k st3=>match Zbc st3 d k v with
 | some st4 => .nx ρ st4
 | _ => .bad
section
variable{X:Cx}{EX:EXT}{a b c e o i:Expr}{fa fb fc fo fi fv:DE}{pos p p2 apos cpos:Pos}
theorem Zf7(hu:X.A.units+64<cLine)(ho:PD X EX o fo)(hi:PD X EX i fi)(hs:Zf3 i:=by intro _ _; rfl):PD X EX (.Subscript o i pos) (Zci fo fi):=by
 refine PE.mono (Znv (by omega) ho hi hs) ?_;rintro σ H Q ⟨O,ρ,st,W,E,R⟩;refine⟨O,ρ,st,W,E,R.bind.mono fun d st1 O1 H1 k1 W1 R1 x rx => ?_⟩;refine⟨O1,ρ,st1,W1,E.mono k1,R1.bind.mono fun k st2 O2 H2 k2 W2 R2 y ry => ?_⟩;split at R2
 ·rename_i v hv;obtain⟨a,ov,rfl,g,rel⟩:=ZiT W2 hv (Rep.mono k2 _ _ rx) ry;cases ov with
  | none=>exact rel.elim
  | some w=>exact⟨a,w,rfl,g,Run.now (k:=Val X.K Q) R2 W2 _ rel⟩
 ·exact R2.elim
theorem ZpO:PD X EX (.Dict [] [] pos) ZdU:=by
 refine PE.mono Zmv ?_;rintro σ H Q ⟨O,ρ,st,W,E,R⟩ p hp;exact R (O++[p]) _ (Keep.push hp) (W.push' hp ⟨[],ZH,rfl⟩) _ (Rep.res_i.mpr ⟨p,rfl,by rw[<-W.len]; simp⟩)
theorem ZgS:PD X EX (.Dict [] [] pos) Zbo:=by
 refine PE.mono ZqH ?_;rintro σ H Q ⟨O,ρ,st,W,E,R⟩ p hp;exact R (O++[p]) _ (Keep.push hp) (W.push' hp ⟨[],ZH,rfl⟩) _ (Rep.res_i.mpr ⟨p,rfl,by rw[<-W.len]; simp⟩)
theorem ZeP(hu:X.A.units+64<cLine)(ho:PD X EX o fo)(hi:PD X EX i fi)(hv:PD X EX e fv)(hs:swapsWith e (some (.Subscript o i p)) pos.line X.env=pure false:=by rfl) :
  PDs X EX (.Assign [.Subscript o i p] e pos) (ZcN fo fi fv):=by
 refine PS.mono (Zsk (by omega) ho hi hv hs) ?_;rintro Dn σ H ⟨O,ρ,st,W,E,R⟩;refine⟨O,ρ,st,W,E,R.to.mono fun w st1 O1 H1 k1 W1 R1 v r => ?_⟩;refine⟨O1,ρ,st1,W1,E.mono k1,R1.to.mono fun d st2 O2 H2 k2 W2 R2 u r2 => ?_⟩;refine⟨O2,ρ,st2,W2,E.mono (k1.trans k2),R2.to.mono fun j st3 O3 H3 k3 W3 R3 z r3 => ?_⟩;split at R3
 ·rename_i st4 h4;obtain⟨a,H4,rfl,g,kp,W4⟩:=Zl8 W3 h4 (Rep.mono k3 _ _ r2) r3 (Rep.mono (k2.trans k3) _ _ r);exact⟨a,H4,rfl,g,R3 O3 H4 σ kp W4 (E.mono (k1.trans (k2.trans (k3.trans kp))))⟩
 ·exact R3.elim
end
section
variable{fo fi fv:DE}{ρ:Ev}{st:Sto}{C:Addr}{x:Str}
theorem Ze3:Zci fo fi ρ st=(fo ρ st).bind fun d st1=>(fi ρ st1).bind fun k st2=>match dAt st2 d k with
 | some (some v) => .ok v st2
 | _ => .bad:=rfl
theorem Zdo:ZcN fo fi fv ρ st=(fv ρ st).to fun v st1=>(fo ρ st1).to fun d st2=>(fi ρ st2).to fun k st3=>match Zbc st3 d k v with
 | some st4 => .nx ρ st4
 | _ => .bad:=rfl
@[simp] theorem ZsT:ZdU ρ st = .ok (.res st.length) (st++[.dct []]):=rfl
@[simp] theorem Zsy:Zbo ρ st = .ok (.res st.length) (st++[.dtt []]):=rfl
end
end DL
end
section
namespace SO
open PySem PySem.W PyProof.Rows
section
variable{prog:P7}{w:World}{A:P6}{E:P9->P1->Prop}{s:P1}
def ZX(a b:Str):Bool:=decide (a.cps.toList<b.cps.toList)
def Zb6(a b:Str):Bool:=decide (a.cps.toList<=b.cps.toList)
theorem ZgP{a b:Str}(h:a.cps.toList=b.cps.toList):a=b:=by
 cases a; cases b;simp only at h;congr 1;exact Array.toList_inj.mp h
theorem ZqT{ss:List Str}(hn:ss.Nodup):Ord ss.length (fun i j=>ZX (ss.getD i default) (ss.getD j default)):=by
 have apart:∀i j,i<ss.length->j<ss.length->i≠j->(ss.getD i default).cps.toList≠(ss.getD j default).cps.toList:=fun i j hi hj ne e=>by
  have e':=ZgP e;rw[Ye,Ye,Yd hi,Yd hj] at e';exact ne ((Qe hn).mp e')
 refine⟨fun i j hi hj ne h => ?_,fun i j hi hj h => ?_,fun i j k hi hj hk h1 h2 => ?_⟩
 ·have ha:=apart i j hi hj ne;simp only[ZX,YR,VM] at *;have h1:=Up.mp h;by_cases h2:(ss.getD j default).cps.toList<(ss.getD i default).cps.toList
  ·exact h2
  ·exact absurd (UN (Up.mp h2) h1) ha
 ·simp only[ZX,YR,VM] at *;exact fun h2=>List.lt_irrefl _ (Uv h h2)
 ·simp only[ZX,YR] at *;exact Uv h1 h2
def srtS(ss:List Str):List Str:=ss.mergeSort Zb6
theorem srtS_perm(ss:List Str):(srtS ss).Perm ss:=Vi _ _
theorem Zq4(ss:List Str):(srtS ss).Pairwise (fun a b=>Zb6 a b=true):=by
 refine QP (fun a b c h1 h2 => ?_) (fun a b => ?_) ss
 ·simp only[Zb6,YR] at *;exact List.le_trans h1 h2
 ·simp only[Zb6,QT,YR];exact List.le_total _ _
theorem Zr7{ss qs:List Str}(hp:qs.Perm ss)(hw:qs.Pairwise (fun a b=>ZX a b=true)):qs=srtS ss:=by
 refine QK (le:=fun a b=>Zb6 a b=true) (fun a b _ _ h1 h2 => ?_) (hw.imp fun {a b} h => ?_) (Zq4 ss) (hp.trans (srtS_perm ss).symm)
 ·simp only[Zb6,YR] at h1 h2;exact ZgP (UN h1 h2)
 ·simp only[Zb6,ZX,YR] at *;exact Up.mp fun h2=>List.lt_irrefl _ (Uv h h2)
end
end SO
namespace DL
open PySem PySem.Spec PyProof.Rows L2 PySem.W SO
def Zbf:List D->Option (List Str)
 | []=>some []
 | .str x :: ds=>(Zbf ds).map (x :: ·)
 | _ :: _=>none
theorem Ze9:∀{ds:List D} {ss:List Str},Zbf ds=some ss->ds=ss.map D.str
 | [],ss,e=>by cases e; rfl
 | d :: ds,ss,e=>by
  unfold Zbf at e;split at e
  ·rename_i h; cases h
  ·rename_i x r h;cases h;obtain⟨qs,h1,rfl⟩:=Y7.mp e;rw[Ze9 h1]; rfl
  ·cases e
theorem ZgW:∀(ss:List Str),Zbf (ss.map D.str)=some ss
 | []=>rfl
 | x :: ss=>by
  show (Zbf (ss.map D.str)).map (x :: ·)=_;rw[ZgW ss]; rfl
theorem Zib{x:Str}{v:P9}(h:Value.isStrOf x v=true):∃t,v = .str x t:=by
 unfold Value.isStrOf at h;split at h
 ·rename_i y t;exact⟨t,by rw[eq_of_beq h]⟩
 ·cases h
theorem Zj1{K:P5}{O:List Addr}{H:Hp}:∀{ds:List (D×D)} {vs:List (Key×V)} {ss:List Str},Kvs K Zx O H ds vs->ds.map (·.1)=ss.map D.str->vs.map (·.1)=ss.map Sum.inr
 | [],vs,ss,h,e=>by
  cases (show vs=[] from h);cases ss with
  | nil=>rfl
  | cons a b=>cases e
 | (k,d) :: ds,vs,ss,h,e=>by
  obtain⟨q,v,r,rfl,hk,hr,ht⟩:=(show ∃q v r,vs=(q,v) :: r/\Zx k=some q/\Rep K O H d v/\Kvs K Zx O H ds r from h);cases ss with
  | nil=>cases e
  | cons a b =>
   rw[Yn,Yn] at e;obtain⟨e1,e2⟩:=List.cons.inj e;have e1':k=D.str a:=e1;subst e1';cases (show some (Sum.inr a)=some q from hk);rw[Yn,Yn,Zj1 ht e2]
theorem Zi0:∀{vs:List P9} {ss:List Str},vs.length=ss.length->(∀(i:Nat) (v:P9) (x:Str),vs[i]?=some v->ss[i]?=some x->∃t,v = .str x t)->StrsAre vs ss
 | [],[],_,_ => .nil
 | [],_ :: _,h,_=>by cases h
 | _ :: _,[],h,_=>by cases h
 | v :: vs,x :: ss,h,k=>by
  obtain⟨t,rfl⟩:=k 0 v x rfl rfl;exact .cons x t (Zi0 (by simpa using h) fun i v' x' h1 h2=>k (i+1) v' x' (by simpa using h1) (by simpa using h2))
end DL
end
section
namespace DL
open PySem PySem.Spec PyProof.Rows L2
section
variable{K:P5}{O:List Addr}{H:Hp}
def RPs(K:P5)(O:List Addr)(H:Hp):List (D×D)->List (V×V)->Prop
 | [],vs=>vs=[]
 | p :: ps,vs => ∃x y r,vs=(x,y) :: r/\Rep K O H p.1 x/\Rep K O H p.2 y/\RPs K O H ps r
theorem RPs.mono{O':List Addr}{H':Hp}(k:Keep K O H O' H'):∀{ps:List (D×D)} {vs:List (V×V)},RPs K O H ps vs->RPs K O' H' ps vs
 | [],vs,h=>h
 | p :: ps,vs,h=>by
  obtain⟨x,y,r,e,hx,hy,ht⟩:=(show ∃x y r,vs=(x,y) :: r/\Rep K O H p.1 x/\Rep K O H p.2 y/\RPs K O H ps r from h);exact⟨x,y,r,e,Rep.mono k _ _ hx,Rep.mono k _ _ hy,RPs.mono k ht⟩
end
section
variable{X:Cx}{EX:EXT}{e o i:Expr}{fo fi fe:DE}{pos apos cpos:Pos}
def Zbj(st:Sto)(d:D):Bool:=match d with
 | .res i=>match st[i]? with
  | some (.dct _)=>true
  | some (.dtt _)=>true
  | _=>false
 | _=>false
theorem Zme{K:P5}{O:List Addr}{H:Hp}{st:Sto}{d:D}{x:V}(W:WR K O H st)(h:Zbj st d=true)(r:Rep K O H d x):∃a,x = .ref a/\IsD H a:=by
 unfold Zbj at h;split at h
 ·rename_i j;rw[Rep.res_i] at r;obtain⟨a,rfl,q⟩:=r;split at h
  ·rename_i ds e;obtain⟨vs,e2,_⟩:=W.at_ _ _ _ q e;exact⟨a,rfl,.inl ⟨vs,.inl e2⟩⟩
  ·rename_i ds e;obtain⟨vs,e2,_⟩:=W.at_ _ _ _ q e;exact⟨a,rfl,.inr ⟨vs,.inl e2⟩⟩
  ·cases h
 ·cases h
def Zar(fo fi fe:DE):DE:=fun ρ st=>(fo ρ st).bind fun d st1=>if Zbj st1 d=true then (fi ρ st1).bind fun k st2=>(fe ρ st2).bind fun z st3=>(match dAt st3 d k with
 | some o => .ok (o.getD z) st3
 | none => .bad) else .bad
theorem ZcU(hu:X.A.units+64<cLine)(ho:PD X EX o fo)(hi:PD X EX i fi)(he:PD X EX e fe)(m:M2 X o "get" apos i e cpos:=by exact⟨rfl,rfl,rfl,rfl⟩):PD X EX (.Call (.Attribute o "get" apos) [i,e] [] cpos) (Zar fo fi fe):=by
 refine PE.mono (Zk2 (by omega) ho hi he m) ?_;rintro σ H Q ⟨O,ρ,st,W,E,R⟩;refine⟨O,ρ,st,W,E,R.bind.mono fun d st1 O1 H1 k1 W1 R1 x rx => ?_⟩;by_cases hd:Zbj st1 d=true
 ·rw[Yf hd] at R1;obtain⟨a,rfl,ia⟩:=Zme W1 hd rx;refine⟨a,rfl,ia,O1,ρ,st1,W1,E.mono k1,R1.bind.mono fun k st2 O2 H2 k2 W2 R2 y ry => ?_⟩;refine⟨O2,ρ,st2,W2,E.mono (k1.trans k2),R2.bind.mono fun z st3 O3 H3 k3 W3 R3 zv rz => ?_⟩;split at R3
  ·rename_i ov hv;obtain⟨a',w,e,g,rel⟩:=ZiT W3 hv (Rep.mono (k2.trans k3) _ _ rx) (Rep.mono k3 _ _ ry);cases e;refine⟨w,g,?_⟩;cases ov with
   | none =>
    cases w with
    | none=>exact Run.now (k:=Val X.K Q) R3 W3 _ rz
    | some _=>exact rel.elim
   | some z =>
    cases w with
    | none=>exact rel.elim
    | some w=>exact Run.now (k:=Val X.K Q) R3 W3 _ rel
  ·exact R3.elim
 ·rw[Yh hd] at R1; exact R1.elim
end
section
variable{fo fi fe:DE}{ρ:Ev}{st:Sto}
theorem Zb3:Zar fo fi fe ρ st=(fo ρ st).bind fun d st1=>if Zbj st1 d=true then (fi ρ st1).bind fun k st2=>(fe ρ st2).bind fun z st3=>(match dAt st3 d k with
 | some o => .ok (o.getD z) st3
 | none => .bad) else .bad:=rfl
end
end DL
end
section
namespace DL
open PySem PySem.Spec PyProof.Rows L2
def Zay:List D->Option (List Int)
 | []=>some []
 | .int x :: ds=>(Zay ds).map (x :: ·)
 | _ :: _=>none
theorem Zio:∀{ds:List D} {ns:List Int},Zay ds=some ns->ds=ns.map D.int
 | [],ss,e=>by cases e; rfl
 | d :: ds,ss,e=>by
  unfold Zay at e;split at e
  ·rename_i h; cases h
  ·rename_i x r h;cases h;obtain⟨qs,h1,rfl⟩:=Y7.mp e;rw[Zio h1]; rfl
  ·cases e
theorem ZfH:∀(ns:List Int),Zay (ns.map D.int)=some ns
 | []=>rfl
 | x :: ns=>by
  show (Zay (ns.map D.int)).map (x :: ·)=_;rw[ZfH ns]; rfl
end DL
end
section
end
section
namespace DL
open PySem PySem.Spec PyProof.Rows L2
section
variable{X:Cx}{pins:List (Addr×Obj)}{σ:L2.St}{H:Hp}{s:P1}{d:Addr}{o:Obj}{vs:List (Key×V)}
theorem Inv.thaw(I:Inv X pins σ H s)(e:H d=some (.frz o (.dK vs)))(hn:∀ob u,X.H₀ d≠some (.frz ob u)):Inv X pins σ (upd H d (.dK vs)) s:=by
 have ne:∀b,H b=none->b≠d:=fun b q z=>by subst z; rw[e] at q; cases q
 refine⟨I.ok,I.os,I.bare,⟨I.base.keep,I.base.slot,fun b ob q n hx => ?_,I.base.there,fun b xs q => ?_,fun b ob u q => ?_,fun b ps q => ?_⟩,I.loc,I.cell,?_,fun x c hx => ?_,fun p hp => ?_,fun b u q => ?_,I.len⟩
 ·have:=I.base.free b ob q n hx;rw[Zh (ne b this)]; exact this
 ·have h:=I.base.tups b xs q;rw[Zh]; exact h;rintro rfl; rw[e] at h; cases h
 ·have h:=I.base.frzs b ob u q;rw[Zh]; exact h;rintro rfl; exact hn _ _ q
 ·obtain⟨m,h⟩:=I.base.tbls b ps q;refine⟨m,?_⟩;rw[Zh]; exact h;rintro rfl; rw[e] at h; cases h
 ·have:=I.free;rw[Zh (ne _ this)]; exact this
 ·have:=I.freeC x c hx;rw[Zh (ne _ this)]; exact this
 ·obtain⟨p1,p2,p3⟩:=I.pin p hp;exact⟨p1,by rw[Zh (ne _ p2)]; exact p2,p3⟩
 ·have st:∀{b u},ObjOk X.prog X.w H s.heap b u->ObjOk X.prog X.w (upd H d (.dK vs)) s.heap b u:=fun x=>x.stay (fun b u _ q=>q) (fun c r=>by rw[Zh (fun z=>by rw[z,e] at r; cases r)]; exact r) fun c xs r=>by rw[Zh (fun z=>by rw[z,e] at r; cases r)]; exact r
  by_cases hb:b=d
  ·subst hb;rw[ZH] at q;cases q;exact st (I.hok b _ e).2
  ·rw[Zh hb] at q;exact st (I.hok b u q)
end
end DL
end
section
namespace DL
open PySem PySem.Spec PyProof.Rows L2
theorem ZkQ:∀{xs:List V} {us:List P9},Vals xs us->Vals xs.reverse us.reverse
 | _,_,.nil => .nil
 | _,_,.cons r t=>by
  rw[VP,VP];exact (ZkQ t).append (.cons r .nil)
theorem Zgp{K:P5}{O:List Addr}{H:Hp}:∀{ds:List D} {vs:List V},Reps K O H ds vs->Reps K O H ds.reverse vs.reverse
 | [],vs,h=>by
  have e:vs=[]:=by unfold Reps at h; exact h
  subst e;exact h
 | d :: ds,vs,h=>by
  unfold Reps at h;obtain⟨v,r,rfl,h1,h2⟩:=h;rw[VP,VP];exact (Zgp h2).append (Reps.one h1)
def Ze7(fa fk:DE):DA:=fun ρ st=>(fa ρ st).bind fun x st1=>(fk ρ st1).bind fun z st2=>match z with
 | .int k=>if k = -1 then (match Zp st2 x with
  | some xs => .ok xs.reverse st2
  | none => .bad) else .bad
 | _ => .bad
section
variable{X:Cx}{EX:EXT}{e k:Expr}{pos p2:Pos}{fa fk:DE}
theorem Zol(he:PD X EX e fa)(hk:PD X EX k fk):PDF X EX (.Subscript e (.Slice none none (some k) p2) pos) (Ze7 fa fk):=by
 rintro pins s σ H Q I ⟨O,ρ,st,W,E,R⟩;refine Subscript_ (thn (he pins s σ H (fun v H1 => ∃O1 x st1,WR X.K O1 H1 st1/\REnv X.K O1 H1 ρ σ/\Rep X.K O1 H1 x v/\Run X.K EX O1 H1 ((fk ρ st1).bind fun z st2=>match z with
  | .int k=>if k = -1 then (match Zp st2 x with
   | some xs => .ok xs.reverse st2
   | none => .bad) else .bad
  | _ => .bad) (New X.K Q)) I ⟨O,ρ,st,W,E,R.bind.mono fun x st1 O1 H1 k1 W1 R1 v r=>⟨O1,x,st1,W1,E.mono k1,r,R1⟩⟩) fun v s1 h1 => ?_)
 obtain⟨xv,H1,I1,r1,O1,x,st1,W1,E1,rx,R1⟩:=h1;refine wpAny_Slice ?_;rw[evalPart_none];refine Yb (Yb ?_);rw[evalPart_some];refine thn (hk pins s1 σ H1 (fun z H2 => ∃O2 st2 xs,z = .int (-1)/\WR X.K O2 H2 st2/\Rep X.K O2 H2 x xv/\Zp st2 x=some xs/\Run X.K EX O2 H2 (.ok xs.reverse st2) (New X.K Q)) I1 ⟨O1,ρ,st1,W1,E1,R1.bind.mono fun z st2 O2 H2 k2 W2 R2 zv rz => ?_⟩) fun vk s2 h2 => ?_
 ·cases z with
  | int k =>
   dsimp only at R2;split at R2
   ·rename_i hk1;subst hk1;rw[Rep.int_i] at rz;cases hs:Zp st2 x with
    | none=>rw[hs] at R2; exact R2.elim
    | some xs =>
     rw[hs] at R2;exact⟨O2,st2,xs,rz,W2,Rep.mono k2 _ _ rx,hs,R2⟩
   ·exact R2.elim
  | _=>exact R2.elim
 ·obtain⟨zv,H2,I2,rz,O2,st2,xs,rfl,W2,rx2,hs,R2⟩:=h2;obtain⟨t,rfl⟩:=(show ∃t,vk=Value.int (-1) t from rz);obtain⟨a,vs,rfl,q,rs⟩:=rdL W2 rx2 hs;cases r1;have I4:Inv X pins σ H2 { s2 with heap:=s2.heap.push { cls:=.type "slice",data:=.fields #[.none,.none,.int (-1) t] } }:=I2.kept (t':=s2.toks) fun b ob q=>Yc _ q;obtain⟨its,r,ht,hz⟩:=I4.list q;have hlen:=r.length;show wpAny (model X.prog X.w) X.A (subscriptTail e (.Slice none none (some k) p2) (.ref a) (.ref s2.heap.objs.size)) (EP X pins σ Q) X.xe { s2 with heap:=s2.heap.push { cls:=.type "slice",data:=.fields #[.none,.none,.int (-1) t] } };refine tail_any (ops:=[.ref a,.ref s2.heap.objs.size]) ht.isList.typeIs slot_list_getitem.lookup ?_ (by with_unfolding_all rfl);refine wpAny_getItem_list_slice ht.isList (Heap.IsSliceOf.new ..) .none .none (.int (-1) t) (by decide) ?_ (by rw[Yt] <;> omega);rw[PySem.W.krv_pick];refine⟨.ref _,upd H2 _ (.lst vs.reverse),I4.laid (t':=s2.toks) (o:=.lst vs.reverse) (fun b ob q=>Yc _ q) (Yj _) ?_,rfl,Run.now (k:=New X.K Q) R2 W2 _ _ (Zgp rs) (I4.hok.fresh (Yj _))⟩;exact⟨by rw[Uk]; omega,its.reverse,0,ZkQ r,Yi _ rfl⟩
end
theorem ZnF{fa fk:DE}{ρ:Ev}{st:Sto}:Ze7 fa fk ρ st=(fa ρ st).bind fun x st1=>(fk ρ st1).bind fun z st2=>match z with
 | .int k=>if k = -1 then (match Zp st2 x with
  | some xs => .ok xs.reverse st2
  | none => .bad) else .bad
 | _ => .bad:=rfl
end DL
end
section
namespace DL
open PySem PySem.Spec PyProof.Rows L2
theorem Zjt(t:SetTable)(es:Array (Int×P9))(h:Int)(x:P9):(layNew t es h x).2.1.led=t.led/\((layNew t es h x).2.1.plain=true->t.plain=true):=by
 unfold layNew;cases t.freeSlot h with
 | none=>exact⟨rfl,fun z=>by cases z⟩
 | some p =>
  obtain⟨j,d⟩:=p;dsimp only;unfold SetTable.orStandIn;split
  ·exact⟨rfl,fun z=>z⟩
  ·exact⟨rfl,fun z=>by cases z⟩
theorem Znh{mask finger moves:Nat}{led plain:Bool}{hs:Array Int}{t:SetTable}{o:Array Nat}(h:SetTable.laid mask finger moves led plain hs=some (t,o)):t.led=led/\t.plain=plain:=by
 unfold SetTable.laid at h;cases hc:SetTable.layClean mask hs with
 | none=>rw[hc] at h; cases h
 | some ow =>
  rw[hc] at h;have h':=Option.some.inj h;cases h';exact⟨rfl,rfl⟩
theorem ZpW(t:SetTable)(es:Array (Int×P9))(k:Nat):(relayAll t es k).2.1.led=t.led/\((relayAll t es k).2.1.plain=true->t.plain=true):=by
 unfold relayAll;cases hr:t.relaid (es.map (·.1)) k with
 | none=>exact⟨rfl,fun z=>by cases z⟩
 | some p =>
  obtain⟨t',o⟩:=p;obtain⟨h1,h2⟩:=Znh hr;dsimp only;split
  ·exact⟨h1,fun z=>by rw[<-h2]; exact z⟩
  ·exact⟨rfl,fun z=>by cases z⟩
def byT(w:World):Bool:=w.params.followText "set-order"
structure TabT(w:World)(t:SetTable)(n:Nat):Prop where
 fits:t.fits n=true
 led:t.led = !byT w
 plain:t.plain=true->n=0
section
variable(prog:P7)(w:World)
def SetT(h:Heap)(a:Addr)(xs:List Str):Prop :=
 ∃o es ep t,h.get? a=some o/\o.ExactSet/\o.data = .set es ep t/\TabT w t es.size/\ElemsOf (strKind prog w) es.toList/\StrsAre (es.toList.map (·.2)) xs/\xs.Nodup/\es.size<scanBound
end
section
variable{prog:P7}{w:World}{A:P6}{E:P9->P1->Prop}{s:P1}{a:Addr}
theorem ZoN(v:P9){Q₁:P9->P1->Prop}(h:Q₁ (.ref s.heap.objs.size) { s with heap:=s.heap.push { cls:=.type "set",dict:=none,data:=.set #[] 0 (.fresh 0 0 (!byT w)) } }) :
  codeAny (model prog w) A (.call (.builtin "set.__new__") ⟨[.type "set",v],[]⟩) (wants Q₁ E) s:=by
 refine codeAny_of_tree ?_;show wpAny _ A.in1 (do checkBuiltinCall "set.__new__" ⟨[.type "set",v],[]⟩; again (.builtin "set.__new__" ⟨[.type "set",v],[]⟩)) _ _ s;refine Ya (VV (PySem.F.newCall_set_1 v) (Yb ⟨Qd PySem.F.plain_set_new _,?_⟩));refine Ww PySem.F.entry_set_new ?_;rw[Wi PySem.F.plain_set_new _];unfold Builtin.«set.__new__» Builtin.Frozenset.newClass;have hsub:=sub_set_self;obtain⟨hp,g,d,tk,os⟩:=s;dsimp only
 wp_walk
 refine UO (Yb ?_);dsimp only;simp only[newObj];exact Ya (wpAny_alloc (Yb (Yb h)))
end
end DL
end
section
namespace DL
open PySem PySem.Spec PyProof.Rows L2
namespace SF
theorem slotN:Slot "set_iterator" "__next__" "set_iterator.__next__" :=
 .of (owner:="set_iterator") (n:="__next__") (by rw[typeLookup_type,V7]; kernel_rfl) (by decide +kernel) (by decide +kernel)
  (by decide +kernel) (by first | exact .inl (by decide +kernel) | exact .inr (by decide +kernel)) (by rw[VE]; kernel_rfl)
theorem entryN:entryFor table "set_iterator.__next__" = some Builtin.«set_iterator.__next__»:=entryFor_of_tree (by kernel_rfl)
theorem Zj0:Manifest.owners.lookup (String.ofList ['r','o','t','a','r','e','t','i','_','t','e','s'].reverse)=some Manifest.sig_set_iterator:=by kernel_rfl
theorem argsN(v:P9):argsOk "set_iterator.__next__" ⟨[v],[]⟩:=by
 unfold argsOk;rw[signature?_of (id:="set_iterator.__next__") (n:=['_','_','t','x','e','n','_','_']) (o:=['r','o','t','a','r','e','t','i','_','t','e','s']) (by kernel_rfl) Zj0]
 kernel_rfl
theorem entryI:entryFor table "set.__iter__" = some Builtin.«frozenset.__iter__»:=entryFor_alias (id':="frozenset.__iter__") (by kernel_rfl) rfl (by decide +kernel) (by kernel_rfl)
end SF
theorem ZmN{M:Model}{A:P6}{E:P9->P1->Prop}{s:P1}{src:Source}{n:Nat}{Q:Nat->P1->Prop}(hn:n≠0)(h:∀i d,i<n->Q i { s with drawn:=d }):wpAny M A (choose src n) Q E s :=
 fun _ _ _=>⟨hn,h _ _ (Ue _ (Nat.pos_of_ne_zero hn))⟩
theorem ZgY{α:Type}:∀(xs:List α) (i:Nat) (h:i<xs.length),(xs[i] :: xs.eraseIdx i).Perm xs
 | x :: xs,0,_ => .refl _
 | x :: xs,i+1,h=>by
  have hi:i<xs.length:=by simpa using h
  have ih:=ZgY xs i hi;show (xs[i]'hi :: x :: xs.eraseIdx i).Perm (x :: xs);exact (List.Perm.swap _ _ _).trans (ih.cons x)
theorem Zin{α:Type}{M:Model}{A:P6}{E:P9->P1->Prop}:∀(n:Nat) (xs:List α) (s:P1) {Q:List α->P1->Prop},xs.length=n->(∀ys d,ys.Perm xs->Q ys { s with drawn:=d })->wpAny M A (drawOrder n xs) Q E s
 | 0,xs,s,Q,hl,h=>by
  have e:xs=[]:=W7.mp hl;subst e;have e2:s = { s with drawn:=s.drawn }:=by cases s; rfl
  unfold drawOrder;refine Yb ?_;rw[e2];exact h [] _ (.refl _)
 | n+1,[],s,Q,hl,h=>by cases hl
 | n+1,x :: xs,s,Q,hl,h=>by
  unfold drawOrder;refine Ya (ZmN (by simp) fun i d hi => ?_);rw[Yd hi];dsimp only;refine Ya (Zin n ((x :: xs).eraseIdx i) _ (by rw[Uw hi,hl]; rfl) fun ys d' p=>Yb ?_);refine h _ d' ((p.cons _).trans ?_);exact ZgY _ i hi
theorem Zj9{α:Type}(next:Nat->Nat):∀(f k:Nat) (left:List α) (out:Array α),left.length=f->(pickOrder.go next f k left out).toList.Perm (out.toList++left)
 | 0,k,left,out,hl=>by
  have e:left=[]:=W7.mp hl;subst e;unfold pickOrder.go;rw[Qm]
 | f+1,k,left,out,hl=>by
  have hi:next k % left.length<left.length:=Ue _ (by omega);unfold pickOrder.go;rw[Yd hi];dsimp only;refine (Zj9 next f (k+1) _ _ (by rw[Uw hi,hl]; rfl)).trans ?_;rw[UB,UC];exact (ZgY left _ hi).append_left _
theorem ZoB{α:Type}(next:Nat->Nat)(xs:Array α):(pickOrder next xs).toList.Perm xs.toList:=by
 unfold pickOrder;have:=Zj9 next xs.size 0 xs.toList #[] (by simp);simpa using this
section
variable{prog:P7}{w:World}{A:P6}{E:P9->P1->Prop}{s:P1}{a:Addr}
theorem ZeG{Q:Bool->P1->Prop}(h:Q (byT w) s):wpAny (model prog w) A setsByText Q E s:=by
 unfold setsByText;exact Ya (UO (Yb h))
structure ItS(h:Heap)(I a:Addr)(o:Obj)(n ep:Nat)(first:P9)(i:Nat):Prop where
 it:∃oI,h.get? I=some oI/\oI.cls = .type "set_iterator"/\oI.data = .fields #[first,.int i 0,.ref a,.int n 0,.int ep 0]
 st:h.get? a=some o
theorem ItS.typeIs{o:Obj}{n ep i:Nat}{first:P9}{I:Addr}(x:ItS s.heap I a o n ep first i):s.TypeIs (.ref I) "set_iterator":=by
 obtain⟨⟨oI,h1,h2,_⟩,_⟩:=x;exact⟨oI,h1,h2⟩
theorem Zd0{α:Type}{Q':α->P1->Prop}{E':P9->P1->Prop}(hh:A.handled=none)(h:∀o1 o2:Obj,o2.cls = .type "StopIteration"->((s.heap.push o1).push o2).get? (s.heap.push o1).objs.size=some o2->E' (.ref (s.heap.push o1).objs.size) { s with heap:=(s.heap.push o1).push o2 }) :
  wpAny (model prog w) A.in1 (newExc (.type "StopIteration") [] >>= fun e=>(raiseNew e:Sem α)) Q' E' s:=by
 refine Ya ?_;simp only[newExc,newTuple];refine Ya (YV ?_ (by size_fits));refine Ya (m:=firstArgMember _ _) (VV (a:=Value.none) (by first | rfl | (simp only[firstArgMember]; rfl)) ?_);refine YV ?_ (by size_fits);simp only[raiseNew];refine Ya (wpAny_handled ?_);rw[show A.in1.handled=none from hh];refine Ya (Yb (wpAny_throw ?_));exact h _ _ rfl (Yi _ rfl)
theorem next_item{I:Addr}{o:Obj}{es:Array (Int×P9)}{ep i:Nat}{t:SetTable}{first first' x:P9}{Q:Option P9->P1->Prop}(X:ItS s.heap I a o es.size ep first i)(hd:o.data = .set es ep t)(hf:t.fits es.size=true)(hIa:I≠a)
  (hstep:(∃(slot j:Nat),first = .int slot 0/\first' = .int j 0/\∀(A:P6) (E:P9->P1->Prop) (Q:Option (P9×Nat)->P1->Prop),Q (some (x,j)) s->wpAny (model prog w) A (setNext a slot i ep) Q E s) \/
   (∃(T:Addr) (oT:Obj) (ps:Array P9) (m place:Nat) (hx:Int),first = .ref T/\first' = .ref T/\s.heap.get? T=some oT/\oT.data = .seq ps m/\ps[i]?=some (.int place 0)/\es[place]?=some (hx,x)))
  (h:∀h',Heap.SameBut I s.heap h'->ItS h' I a o es.size ep first' (i+1)->Q (some x) { s with heap:=h' }) :
  wpAny (model prog w) A (pyNext (.ref I)) Q E s:=by
 obtain⟨⟨oI,hI,hc,hdI⟩,ha⟩:=id X;have fin:∀{h':Heap},Heap.SameBut I s.heap h'->h'.get? I=some { oI with data:=.fields #[first',.int ((i:Int)+1) 0,.ref a,.int es.size 0,.int ep 0] }->ItS h' I a o es.size ep first' (i+1):=by
  intro h' sb e;exact⟨⟨_,e,hc,rfl⟩,(sb.2 a (YX hIa)).trans ha⟩
 unfold pyNext;refine Ya (W0 (YY (name:=Str.ofString "__next__") X.typeIs SF.slotN (YE SF.slotN X.typeIs SF.entryN ?_ (SF.argsN _))));unfold Builtin.«set_iterator.__next__»;refine Ya (Yb (Ya (Qu hI hdI ?_)));dsimp only;refine Ya (Ul ha hd hf ?_);rw[Yh (by simp)];rcases hstep with⟨slot,j,rfl,rfl,hn⟩ | ⟨T,oT,ps,m,place,hx,rfl,rfl,hT,hdT,hp,he⟩
 ·dsimp only;simp only[Y4];refine Ya (hn _ _ _ ?_);dsimp only;refine Ya (WQ hI hdI (by simp) ?_);have h1:=YI (Obj.mapFields (·.setIfInBounds 0 (rawInt (j:Int)))) hI (Qg (Wj hdI _));have d1:=Wj hdI (·.setIfInBounds 0 (rawInt (j:Int)));refine Ya (WQ (s:={ s with heap:=s.heap.update I (Obj.mapFields (·.setIfInBounds 0 (rawInt (j:Int)))) }) h1 d1 (by simp) ?_);have h2:=YI (Obj.mapFields (·.setIfInBounds 1 (rawInt ((i:Int)+1)))) h1 (Qg (Wj d1 _));have d2:=Wj d1 (·.setIfInBounds 1 (rawInt ((i:Int)+1)));have sb:=(YB s.heap I (Obj.mapFields (·.setIfInBounds 0 (rawInt (j:Int))))).trans (YB _ I (Obj.mapFields (·.setIfInBounds 1 (rawInt ((i:Int)+1)))));refine Yb ⟨_,rfl,Yb (h _ sb ⟨⟨_,h2,?_,?_⟩,(sb.2 a (YX hIa)).trans ha⟩)⟩
  ·rw[Q0,Q0]; exact hc
  ·rw[d2]; simp[rawInt]
 ·dsimp only;simp only[Y4];unfold seqItems?;dsimp only;refine Ya (Ya (UI hT ?_));rw[hdT];refine Yb ?_;dsimp only;rw[hp];dsimp only;simp only[Y4];unfold setNextDrawn;refine Ya (Ya (Wh ha hd hf ?_));dsimp only;rw[Yh (by simp)];rw[he];refine Yb ?_;refine Ya (WQ hI hdI (by simp) ?_);have h2:=YI (Obj.mapFields (·.setIfInBounds 1 (rawInt ((i:Int)+1)))) hI (Qg (Wj hdI _));have d2:=Wj hdI (·.setIfInBounds 1 (rawInt ((i:Int)+1)));have sb:=YB s.heap I (Obj.mapFields (·.setIfInBounds 1 (rawInt ((i:Int)+1))));refine Yb ⟨_,rfl,Yb (h _ sb ⟨⟨_,h2,?_,?_⟩,(sb.2 a (YX hIa)).trans ha⟩)⟩
  ·rw[Q0]; exact hc
  ·rw[d2]; simp[rawInt]
theorem next_end{I:Addr}{o:Obj}{es:Array (Int×P9)}{ep i:Nat}{t:SetTable}{first:P9}{Q:Option P9->P1->Prop}(hh:A.handled=none)(X:ItS s.heap I a o es.size ep first i)(hd:o.data = .set es ep t)(hf:t.fits es.size=true)
  (hstep:(∃(slot:Nat),first = .int slot 0/\∀(A:P6) (E:P9->P1->Prop) (Q:Option (P9×Nat)->P1->Prop),Q none s->wpAny (model prog w) A (setNext a slot i ep) Q E s) \/
   (∃(T:Addr) (oT:Obj) (ps:Array P9) (m:Nat),first = .ref T/\s.heap.get? T=some oT/\oT.data = .seq ps m/\ps[i]?=none))
  (h:∀h',Heap.ExtBut I s.heap h'->Q none { s with heap:=h' }) :
  wpAny (model prog w) A (pyNext (.ref I)) Q E s:=by
 obtain⟨⟨oI,hI,hc,hdI⟩,ha⟩:=id X;unfold pyNext;refine Ya (W0 (YY (name:=Str.ofString "__next__") X.typeIs SF.slotN (YE SF.slotN X.typeIs SF.entryN ?_ (SF.argsN _))));unfold Builtin.«set_iterator.__next__»;refine Ya (Yb (Ya (Qu hI hdI ?_)));dsimp only;refine Ya (Ul ha hd hf ?_);rw[Yh (by simp)];rcases hstep with⟨slot,rfl,hn⟩ | ⟨T,oT,ps,m,rfl,hT,hdT,hp⟩
 ·dsimp only;simp only[Y4];refine Ya (hn _ _ _ ?_);dsimp only;refine Ya (WQ hI hdI (by simp) ?_);refine Zd0 (s:={ s with heap:=s.heap.update I (Obj.mapFields (·.setIfInBounds 2 Value.none)) }) hh fun o1 o2 c2 g2 => ?_;refine Ya (WK (T:="StopIteration") (b:=true) ⟨_,g2,c2⟩ Q8 ?_);exact Yb (h _ (((YB ..).extBut.push _).push _))
 ·dsimp only;simp only[Y4];unfold seqItems?;dsimp only;refine Ya (Ya (UI hT ?_));rw[hdT];refine Yb ?_;dsimp only;rw[hp];dsimp only;refine Ya (WQ hI hdI (by simp) ?_);have h1:=YI (Obj.mapFields (·.setIfInBounds 0 (rawInt 0))) hI (Qg (Wj hdI _));have d1:=Wj hdI (·.setIfInBounds 0 (rawInt 0));refine Ya (WQ (s:={ s with heap:=s.heap.update I (Obj.mapFields (·.setIfInBounds 0 (rawInt 0))) }) h1 d1 (by simp) ?_);refine Zd0 (s:={ s with heap:=(s.heap.update I (Obj.mapFields (·.setIfInBounds 0 (rawInt 0)))).update I (Obj.mapFields (·.setIfInBounds 2 Value.none)) }) hh fun o1 o2 c2 g2 => ?_;refine Ya (WK (T:="StopIteration") (b:=true) ⟨_,g2,c2⟩ Q8 ?_);exact Yb (h _ ((((YB ..).trans (YB ..)).extBut.push _).push _))
end
end DL
end
section
namespace DL
open PySem PySem.Spec PyProof.Rows L2
namespace SF
theorem slotJ:Slot "set_iterator" "__iter__" "set_iterator.__iter__" :=
 .of (owner:="set_iterator") (n:="__iter__") (by rw[typeLookup_type,V7]; kernel_rfl) (by decide +kernel) (by decide +kernel)
  (by decide +kernel) (by first | exact .inl (by decide +kernel) | exact .inr (by decide +kernel)) (by rw[VE]; kernel_rfl)
theorem entryJ:entryFor table "set_iterator.__iter__" = some Builtin.«dict_keyiterator.__iter__»:=entryFor_alias (id':="dict_keyiterator.__iter__") (by kernel_rfl) rfl (by decide +kernel) (by kernel_rfl)
theorem argsJ(v:P9):argsOk "set_iterator.__iter__" ⟨[v],[]⟩:=by
 unfold argsOk;rw[signature?_of (id:="set_iterator.__iter__") (n:=['_','_','r','e','t','i','_','_']) (o:=['r','o','t','a','r','e','t','i','_','t','e','s']) (by kernel_rfl) Zj0]
 kernel_rfl
end SF
section
variable{prog:P7}{w:World}{A:P6}{E:P9->P1->Prop}{s:P1}{a:Addr}
def ZqW(prog:P7)(w:World)(s:P1)(a:Addr)(es:Array (Int×P9))(ep i:Nat)(first first' x:P9):Prop :=
 (∃(slot j:Nat),first = .int slot 0/\first' = .int j 0/\∀(A:P6) (E:P9->P1->Prop) (Q:Option (P9×Nat)->P1->Prop),Q (some (x,j)) s->wpAny (model prog w) A (setNext a slot i ep) Q E s) \/
   (∃(T:Addr) (oT:Obj) (ps:Array P9) (m place:Nat) (hx:Int),first = .ref T/\first' = .ref T/\s.heap.get? T=some oT/\oT.data = .seq ps m/\ps[i]?=some (.int place 0)/\es[place]?=some (hx,x))
def Zlx(prog:P7)(w:World)(s:P1)(a:Addr)(ep i:Nat)(first:P9):Prop :=
 (∃(slot:Nat),first = .int slot 0/\∀(A:P6) (E:P9->P1->Prop) (Q:Option (P9×Nat)->P1->Prop),Q none s->wpAny (model prog w) A (setNext a slot i ep) Q E s) \/
   (∃(T:Addr) (oT:Obj) (ps:Array P9) (m:Nat),first = .ref T/\s.heap.get? T=some oT/\oT.data = .seq ps m/\ps[i]?=none)
theorem ZgN{I:Addr}{o:Obj}{es:Array (Int×P9)}{ep:Nat}{t:SetTable}{fp:List Addr}{P:Nat->P9->Prop}{F:Nat->P9->Heap->Prop}(hh:A.handled=none)(hd:o.data = .set es ep t)(hf:t.fits es.size=true)(hIa:I≠a)(hI:I∈fp)(ha:a∈fp)
  (hF:∀i f h h',F i f h->(∀b∈fp,b≠I->∀o,h.get? b=some o->h'.get? b=some o)->F i f h')
  (hs:∀i (s:P1) f,i<es.size->s.heap.get? a=some o->F i f s.heap->∃x f',P i x/\ZqW prog w s a es ep i f f' x/\F (i+1) f' s.heap)
  (he:∀(s:P1) f,s.heap.get? a=some o->F es.size f s.heap->Zlx prog w s a ep es.size f) :
  WalksS prog w A I fp [I] (fun x y=>y=x) es.size P (fun i s => ∃f,ItS s.heap I a o es.size ep f i/\F i f s.heap) where
 sub:=fun b hb=>by rw[YC.mp hb]; exact hI
 grefl:=fun _=>rfl
 gtrans:=fun _ _ _ h1 h2=>h2.trans h1
 frame:=fun i s h' tk st _ hk=>by
  obtain⟨f,X,hf'⟩:=st;obtain⟨⟨oI,h1,h2,h3⟩,h4⟩:=X;exact⟨f,⟨⟨oI,hk I hI _ h1,h2,h3⟩,hk a ha _ h4⟩,hF _ _ _ _ hf' fun b hb _ o e=>hk b hb o e⟩
 item:=fun i s Q E hi st hQ=>by
  obtain⟨f,X,hf'⟩:=st;obtain⟨x,f',hP,hst,hn⟩:=hs i s f hi X.st hf';refine next_item X hd hf hIa hst fun h' sb X'=>hQ x _ hP ⟨f',X',hF _ _ _ _ hn fun b _ hb o e=>(sb.2 b hb).trans e⟩ ⟨fun b o hb e => ?_,rfl,rfl,rfl,Yj _⟩;exact (sb.2 b fun z=>hb (YC.mpr z)).trans e
 done:=fun s Q E st hQ=>by
  obtain⟨f,X,hf'⟩:=st;refine next_end hh X hd hf (he s f X.st hf') fun h' xb=>hQ _ ⟨fun b o hb e=>xb b o (fun z=>hb (YC.mpr z)) e,rfl,rfl,rfl,Yj _⟩
 self:=fun i s Q E st hQ=>by
  obtain⟨f,X,_⟩:=st;refine Q1 X.typeIs SF.slotJ (YE SF.slotJ X.typeIs SF.entryJ ?_ (SF.argsJ _));show wpAny _ _ (ret (.ref I)) _ _ s;exact Yb ⟨_,rfl, "set_iterator",_,X.typeIs,SF.slotN.lookup,hQ⟩
theorem Zg6{o:Obj}{es:Array (Int×P9)}{ep:Nat}{t:SetTable}{slot i:Nat}{Q:Option (P9×Nat)->P1->Prop}(hb:byT w=true)(ho:s.heap.get? a=some o)(hd:o.data = .set es ep t)(hf:t.fits es.size=true)
  (h:Q (((pickOrder (w.params.setOrder a ep) es)[i]?).map fun e=>(e.2,slot)) s):wpAny (model prog w) A (setNext a slot i ep) Q E s:=by
 unfold setNext;refine Ya (Wh ho hd hf ?_);dsimp only;refine Ya (ZeG ?_);rw[hb];rw[Yf rfl,Yh (by simp)];refine Ya ?_;unfold setWalk;refine Ya (Wh ho hd hf ?_);dsimp only;refine Ya (ZeG ?_);rw[hb,Yf rfl];exact Ya (UO (Yb (Yb h)))
end
end DL
end
section
namespace DL
open PySem PySem.Spec PyProof.Rows L2
theorem map_getD{α β:Type}(f:α->β)(b:β)(es:List α):(List.range es.length).map (fun i=>((es[i]?).map f).getD b)=es.map f:=by
 refine Vc (by simp) fun i h1 h2 => ?_;have:i<es.length:=by simpa using h1
 simp[Yd this]
theorem Zp8{L:List P9}{acc:Array P9}(h:ItemsOf (fun i v=>L[i]?=some v) acc L.length):acc.toList=L:=by
 obtain⟨h1,h2⟩:=h;refine VQ fun i => ?_;rw[YD];by_cases hi:i<acc.size
 ·rw[Ys hi];exact (h2 i _ (Ys hi)).symm
 ·rw[Wo (by omega),Qz (by omega)]
end DL
end
section
namespace DL
open PySem PySem.Spec PyProof.Rows L2 PySem.W SO
section
variable{prog:P7}{w:World}{A:P6}{E:P9->P1->Prop}{s:P1}{a:Addr}
theorem SetT.kept{h h':Heap}{xs:List Str}(x:SetT prog w h a xs)(hk:∀b o,h.get? b=some o->h'.get? b=some o):SetT prog w h' a xs:=by
 obtain⟨o,es,ep,t,ho,r⟩:=x;exact⟨o,es,ep,t,hk _ _ ho,r⟩
theorem SetT.typeIs{xs:List Str}(x:SetT prog w s.heap a xs):s.TypeIs (.ref a) "set":=by
 obtain⟨o,es,ep,t,ho,hx,_⟩:=x;exact⟨o,ho,hx.1⟩
theorem SetT.len{h:Heap}{xs:List Str}(x:SetT prog w h a xs):xs.length<scanBound/\xs.Nodup/\a<h.objs.size:=by
 obtain⟨o,es,ep,t,ho,hx,hd,hT,hel,hs,hn,hb⟩:=x;have:=hs.length;rw[Ym,Yq] at this;exact⟨by omega,hn,Yg ho⟩
theorem Zow{Q:Bool->P1->Prop}(hT:s.TypeIs (.ref a) "set")(h:Q false s):wpAny (model prog w) A (Builtin.List.listLengthHint (.ref a)) Q E s:=by
 unfold Builtin.List.listLengthHint;refine Ya (Ud hT PySem.F.slot_set_len.lookup ?_);generalize hid:("set.__len__" : String)=id0
 wp_delta
 rw[show splitId id0=some ("set", "__len__") from by subst hid; decide +kernel];subst hid;refine Ya (WK (T:="set") (b:=true) hT (by rw[VE]; kernel_rfl) ?_);refine Yr (fun z=>absurd z (by decide)) (fun _ => ?_);exact Yr (fun _=>Ya (WM hT (Yb h))) (fun z=>absurd (by decide +kernel) z)
end
end DL
end
section
namespace DL
open PySem PySem.Spec PyProof.Rows L2 PySem.W SO
def ddS:List Str->List Str
 | []=>[]
 | x :: xs=>if x∈ddS xs then ddS xs else x :: ddS xs
theorem ZeR:∀(xs:List Str) (y:Str),y∈ddS xs ↔ y∈xs
 | [],y=>Q6
 | x :: xs,y=>by
  unfold ddS;split
  ·rename_i h;rw[ZeR xs y,Yl];exact⟨.inr,fun z=>z.elim (fun e=>e ▸ (ZeR xs x).mp h) id⟩
  ·rw[Yl,Yl,ZeR xs y]
theorem ZgD:∀(xs:List Str),(ddS xs).Nodup
 | []=>WO
 | x :: xs=>by
  unfold ddS;split
  ·exact ZgD xs
  ·rename_i h;exact Wd.mpr ⟨h,ZgD xs⟩
theorem Zku:∀(xs:List Str),(ddS xs).length<=xs.length
 | []=>Yj _
 | x :: xs=>by
  unfold ddS;have:=Zku xs;split
  ·exact UD this
  ·exact Nat.succ_le_succ this
section
variable{X:Cx}{EX:EXT}{pins:List (Addr×Obj)}{σ:L2.St}{H:Hp}{s:P1}
theorem Inv.drew{d:Drawn}(I:Inv X pins σ H s):Inv X pins σ H { s with drawn:=d }:=⟨I.ok,I.os,I.bare,I.base,I.loc,I.cell,I.free,I.freeC,I.pin,I.hok,I.len⟩
end
end DL
end
section
namespace DL
open PySem PySem.Spec PyProof.Rows L2
namespace SF
theorem noKeys:typeLookup (.type "list") "keys" = pure none:=by rw[typeLookup_type,V7]; kernel_rfl
theorem entryU:entryFor table "dict.update.loop" = some Builtin.«dict.update.loop»:=entryFor_of_tree (by kernel_rfl)
theorem plainU:plainId "dict.update.loop" = true:=by decide +kernel
end SF
section
variable{prog:P7}{w:World}{A:P6}{E:P9->P1->Prop}{s:P1}
theorem ZmJ{a:Addr}{its:Array P9}{Q:Option P9->P1->Prop}(hA:A.handled=none)(hx:PlainL s.heap a its)(h:∀h' tk,(∀b o,s.heap.get? b=some o->h'.get? b=some o)->Q none { s with heap:=h',toks:=tk }) :
  wpAny (model prog w) A (getAttr? (.ref a) "keys") Q E s:=by
 obtain⟨o,n,hx,hc,hd,hdat⟩:=hx;obtain⟨c,dct,dat,sl⟩:=o;simp only at hc hdat hd;subst hc hdat hd;obtain⟨hp,g,d,tk,os⟩:=s;have hT:∀tk',(⟨hp,g,d,tk',os⟩:P1).TypeIs (.ref a) "list":=fun _=>⟨_,hx,rfl⟩;have f1:=sub_AttributeError;have f3:=Vt.lookup;have f4:=Vt.bind (.ref a);have f5:=am_list_getattr_none;unfold getAttr? getAttrBy? getAttrBy
 repeat (any_goals (first | assumption | exact hT _ | ((with_reducible show wpAny _ _ (call (Value.builtin "list.__getattribute__") _ _) _ _ _); refine call_meets Vt (hT _) am_entry_list_getattribute (F.args_list_getattribute_2 _ _) (meets_getattribute_miss_list a its n sl "keys" _ SF.noKeys (by decide +kernel) (by size_fits)) ⟨hx,hA,fun h' tk' e hx' => ?_⟩) | wp_step))
 obtain⟨t',u',he⟩:=hx'.there;show wpAny _ _ (getattributeRaised _ _ _ _ _ _ _) _ _ _;unfold getattributeRaised
 repeat (any_goals (first | assumption | wp_step))
 exact h h' tk' fun b o e=>hx'.1 b o e
end
def Zcn:List D->Option (List (D×D))
 | []=>some []
 | .tup [k,v] :: r=>(Zcn r).map ((k,v) :: ·)
 | _ :: _=>none
end DL
end
section
end
section
namespace DL
open PySem PySem.Spec PyProof.Rows L2
def Itl(K:P5)(a b:Addr):It :=
  ⟨fun i H => ∃xs ys x y,SqL K H a xs/\SqL K H b ys/\xs[i]?=some x/\ys[i]?=some y,
   fun i H v H' => ∃p x y,H p=none/\v = .ref p/\H'=upd H p (.tup [x,y])/\(∀xs,SqL K H a xs->xs[i]?=some x)/\∀ys,SqL K H b ys->ys[i]?=some y,
   fun i H => ∃xs ys,SqL K H a xs/\SqL K H b ys/\(xs.length<=i\/ys.length<=i)⟩
end DL
end
section
namespace DL
open PySem PySem.Spec PyProof.Rows L2
def Itv(K:P5)(a:Addr)(n:Nat):It :=
 ⟨fun i H => ∃xs x,SqL K H a xs/\xs.length=n/\xs.reverse[i]?=some x,fun i H x H'=>H'=H/\∀xs,SqL K H a xs->xs.reverse[i]?=some x,fun i H => ∃xs,SqL K H a xs/\xs.length=n/\n<=i⟩
theorem Zpo{P:P7}{w:World}{K:P5}{tg:Expr}(a it:Addr)(n:Nat):Turn P w K tg (Itv K a n) [it] it (fun i h=>i<=n/\h.IsRevIter it a ((n:Int) - 1 - (i:Nat))) where
 mem:=by simp
 obj:=fun i h st b hb=>by
  have e:b=it:=by simpa using hb
  subst e;obtain⟨_,o,e,c,d⟩:=st;exact⟨o,e,fun v z=>by rw[d] at z; cases z⟩
 keep:=fun i h h' st k=>⟨st.1,st.2.at fun o e=>k it (by simp) o e⟩
 item:=by
  intro X hP hw hK hc i pins s σ H E I hf st hg;subst hP hw hK;obtain⟨xs,x,hq,hn,hx⟩:=hg;obtain⟨its,rv,p,hz⟩:=I.list hq;have hi:i<n:=by
   have:=(Yk.mp hx).1;rw[Uk] at this;omega
  have hx2:xs[n - 1 - i]?=some x:=by
   rw[List.getElem?_reverse (by omega)] at hx;rw[<-hn];exact hx
  obtain⟨u,hu,ru⟩:=rv.get hx2;obtain⟨f0,f1,f2,f3,f4,f5⟩:=hf it (by simp);have hidx:((n:Int) - 1 - (i:Nat))=((n - 1 - i:Nat):Int):=by omega
  refine wpAny_pyNext_rev_item (i:=n - 1 - i) (hidx ▸ st.2) p.isList (x:=u) (by simpa using hu) fun h' st' sb => ?_;have hnext:((n - 1 - i:Nat):Int) - 1=(n:Int) - 1 - ((i+1:Nat):Int):=by omega
  rw[hnext] at st';have I1:Inv X pins σ H { s with heap:=h' }:=I.turned (t':=s.toks) (fun b o hb e=>(sb.2 b hb).trans e) f0 f1 f3 f4 f5;obtain⟨o,e,c,d⟩:=id st';exact⟨u,rfl,ZdG (s:={ s with heap:=h' }) e c d (by decide) ⟨x,H,I1,ru,⟨rfl,fun ys hy=>by rw[I.list_inj hy hq]; exact hx⟩,⟨hi,st'⟩,fun b hb=>(hf b hb).1⟩⟩
 done:=by
  intro X hP hw hK hc i pins s σ H E I hf st hg;subst hP hw hK;obtain⟨xs,hq,hn,hx⟩:=hg;obtain⟨f0,f1,f2,f3,f4,f5⟩:=hf it (by simp);have hidx:((n:Int) - 1 - (i:Nat)) = -1:=by
   have:=st.1;omega
  exact wpAny_pyNext_rev_end (I.ok.hd hc) (hidx ▸ st.2) fun h' eb=>⟨rfl,I.turned (t':=s.toks) (fun b o hb e=>eb b o hb e) f0 f1 f3 f4 f5⟩
 self:=fun _ _ _ _ _ st h=>by
  have hT:=st.2.typeIs;refine Q1 hT PySem.F.slot_lri_iter (YE PySem.F.slot_lri_iter hT PySem.F.entry_lri_iter ?_ (PySem.F.args_lri_iter_1 _));show wpAny _ _ (ret (.ref it)) _ _ _;exact Yb ⟨_,rfl, "list_reverseiterator",_,hT,PySem.F.slot_lri_next.lookup,h⟩
section
variable{X:Cx}{EX:EXT}{tg a:Expr}{p pos:Pos}{f:DE}
def ZlW(K:P5)(tl:TA):TI:=fun σ H R=>tl σ H fun vs H1 => ∃a xs,vs=[.ref a]/\SqL K H1 a xs/\R (Itv K a xs.length) H1
theorem Zoz{ta:TA}(hg:Gl X "reversed")(hm:X.mg "reversed" = none)(ha:PA X [a] ta)(hs:starEach [a] X.env=[(false,eval a X.env)]:=by rfl):PI X tg (.Call (.Name "reversed" p) [a] [] pos) (ZlW X.K ta):=by
 intro pins s σ H R I h;refine Call_ (ZaE I hg hm PyProof.Rows.boot_reversed (WG (thn (ha pos pins s σ H _ I h) fun us s1 ⟨vs,H1,I1,r1,q1⟩ => ?_) (by rw[hs]; rfl) rfl));obtain⟨pa,xs,e,h1,q⟩:=q1;subst e;cases r1 with
 | cons r rr =>
  cases rr;cases r;obtain⟨its1,v1,p1,_⟩:=I1.list h1;have hl:=v1.length;refine call_reversed_list p1.isList ?_;have I2:Inv X pins σ H1 { s1 with heap:=s1.heap.push (revObj pa ((its1.toArray.size:Int) - 1)) }:=I1.kept (t':=s1.toks) fun b o e=>Yc _ e;have T:=Zpo (P:=X.prog) (w:=X.w) (K:=X.K) (tg:=tg) pa s1.heap.objs.size xs.length;have st:(0:Nat)<=xs.length/\(s1.heap.push (revObj pa ((its1.toArray.size:Int) - 1))).IsRevIter s1.heap.objs.size pa ((xs.length:Int) - 1 - ((0:Nat):Int)):=by
   refine⟨YU _,_,Yi _ rfl,rfl,?_⟩;show Data.fields #[.ref pa,rawInt ((its1.toArray.size:Int) - 1)]=_;rw[Yt,<-hl];simp
  refine T.self _ 0 _ _ _ st ?_;refine⟨_,_,_,_,H1,rfl,I2,T,st,fun c hc => ?_,q⟩;have hle:s1.heap.objs.size<=c:=by
   simp only[Yl,YO,WL] at hc;rw[hc];exact Yj _
  exact I1.fpOk hle (I1.hok.fresh hle)
def Zfj(f:DE):DI:=fun ρ st=>(f ρ st).bind fun d st1=>match Zp st1 d with
 | some xs => .ok (xs.reverse,fun st=>Zp st d=some xs) st1
 | none => .bad
theorem Zra(hg:Gl X "reversed")(hm:X.mg "reversed" = none)(ha:PD X EX a f)(hs:starEach [a] X.env=[(false,eval a X.env)]:=by rfl):PID X EX tg (.Call (.Name "reversed" p) [a] [] pos) (Zfj f):=by
 refine PI.mono (Zoz hg hm (Zf ha Zn (by rw[hs]; rfl)) hs) ?_;rintro σ H R ⟨O,ρ,st,W,E,R0⟩;have R1:=R0.bind;refine⟨O,ρ,st,W,E,?_⟩;unfold Zc Zi;cases hf:f ρ st with
 | bad=>rw[hf] at R1; exact R1.elim
 | exc c st'=>rw[hf] at R1; exact R1
 | ok d st' =>
  rw[hf] at R1;refine fun O1 H1 k1 W1 vs r => ?_;have R2:=R1 O1 H1 k1 W1;dsimp only at R2;obtain⟨v,rfl,rv⟩:=r.one_of;cases e:Zp st' d with
  | none=>rw[e] at R2; exact R2.elim
  | some xs =>
   rw[e] at R2;obtain⟨pa,va,rfl,q,rs⟩:=rdL W1 rv e;refine⟨pa,va,rfl,q,Run.now (k:=fun q _ O' H' => ∀J,ItD X.K J O' H' q->R J H') R2 W1 _ ?_⟩;intro i O' H' st2 kp W' hp;obtain⟨pa',ws,e1,q',r'⟩:=rdL W' (Rep.mono kp _ _ rv) hp;cases e1;have hl1:=rs.length;have hl2:=r'.length;refine⟨fun x hx => ?_,fun hl=>⟨ws,q',by omega,by rw[Uk] at hl; omega⟩⟩;dsimp only at hx;obtain⟨v,h1,h2⟩:=(Zgp r').get hx;refine⟨⟨ws,v,q',by omega,h1⟩,?_⟩;rintro y H2 ⟨rfl,h3⟩;have h4:=h3 ws q';rw[h1] at h4;cases h4;exact⟨Keep.refl,W',h2⟩
end
end DL
end
section
namespace DL
open PySem PySem.Spec PyProof.Rows L2 PySem.W
def RawD(h:Heap)(d:Addr)(es:Array DictEntry)(ep:Nat):Prop:=∃o,h.get? d=some o/\o.ExactDict/\o.data = .dict es ep
section
variable{prog:P7}{w:World}{A:P6}{E:P9->P1->Prop}{s:P1}
theorem RawD.typeIs{d:Addr}{es:Array DictEntry}{ep:Nat}(x:RawD s.heap d es ep):s.TypeIs (.ref d) "dict":=let ⟨o,e,c,_⟩:=x; ⟨o,e,c.1⟩
theorem RawD.kept{h h':Heap}{d:Addr}{es:Array DictEntry}{ep:Nat}(x:RawD h d es ep)(k:∀o,h.get? d=some o->h'.get? d=some o):RawD h' d es ep:=let ⟨o,e,r⟩:=x; ⟨o,k o e,r⟩
theorem ZjF{d:Addr}{es:Array DictEntry}{ep:Nat}{Q:P9->P1->Prop}(hd:(d == sysModules)=false)(hm:RawD s.heap d es ep)
  (hQ:Q (.ref s.heap.objs.size) { s with heap:=s.heap.push { cls:=.type "dict_keyiterator",data:=.fields #[.ref d,.int 0 0,.int es.size 0,.int ep 0] } }):wpAny (model prog w) A (pyIter (.ref d)) Q E s:=by
 obtain⟨o,ho,hc,hdat⟩:=id hm;have hT:=hm.typeIs;refine Q1 hT PySem.F.slot_dict_iter (YE PySem.F.slot_dict_iter hT PySem.F.entry_dict_iter ?_ (PySem.F.args_dict_iter_1 _));unfold Builtin.«dict.__iter__» Builtin.Dict.dictSlotNone;refine Ya (Ya (QA hT (Yb ?_)));dsimp only;refine Ya (m:=Builtin.Dict.showsAll d) ?_;unfold Builtin.Dict.showsAll;refine Yr (fun z=>by rw[hd] at z; cases z) (fun _=>Yb ?_);refine Ya (Wm ho hdat (Ya (WU ho hdat ?_)));refine Ya (YV (Yb ⟨_,rfl, "dict_keyiterator",_,⟨_,Yi _ rfl,rfl⟩,WB.lookup,?_⟩));simpa[rawInt] using hQ
theorem Zh0{it d:Addr}{i ep:Nat}{es:Array DictEntry}{e:DictEntry}{Q:Option P9->P1->Prop}(hit:s.heap.IsKeyIter it d i es.size ep)(hm:RawD s.heap d es ep)(hx:es[i]?=some e)
  (hQ:∀h',h'.IsKeyIter it d (i+1) es.size ep->Heap.SameBut it s.heap h'->Q (some e.key) { s with heap:=h' }):wpAny (model prog w) A (pyNext (.ref it)) Q E s:=by
 obtain⟨o,ho,hc,hd⟩:=id hit;obtain⟨od,hod,hcd,hdd⟩:=id hm;unfold pyNext;refine Ya (W0 (YY (name:=Str.ofString "__next__") hit.typeIs WB
  (YE WB hit.typeIs VF ?_ (Vu _))))
 have hown:Builtin.Dict_items.ownsTuple "dict_keyiterator" = false:=by decide
 have hT:=hit.typeIs
 repeat (any_goals (first | assumption | with_reducible refine Qr hT ?_ | with_reducible refine Qu ho hd ?_ | with_reducible refine Wm hod hdd ?_ | with_reducible refine WU hod hdd ?_ | with_reducible refine QB hT ?_ | wp_step))
 simp only[show ¬ ((i:Int)<0) by omega,Y3,Y4,hx]
 repeat (any_goals (first | assumption | with_reducible refine Qr hT ?_ | with_reducible refine QB hT ?_ | ((fail_if_success (with_reducible show wpAny _ _ (setField _ _ _) _ _ _)); wp_step)))
 simp only[hown,YF,Y3,Wx];refine WQ ho hd (by simp) ?_;rw[Yh]
 rotate_left
 ·decide +kernel
 have hit':(s.heap.update it (Obj.mapFields (·.setIfInBounds 1 (rawInt ((i:Int)+1))))).IsKeyIter it d (i+1) es.size ep :=
  ⟨_,YI _ ho (Qg (Wj hd _)),(Q0 ..).trans hc,by rw[Wj hd]; simp[rawInt]⟩
 have sb:=YB s.heap it (Obj.mapFields (·.setIfInBounds 1 (rawInt ((i:Int)+1))));generalize s.heap.update it (Obj.mapFields (·.setIfInBounds 1 (rawInt ((i:Int)+1))))=h2 at hit' sb;have hT2:Shared.TypeIs { s with heap:=h2 } (.ref it) "dict_keyiterator":=hit'.typeIs;refine Ya (YM (Ya (QB hT2 ?_)));refine Yr (fun _ => ?_) (fun z=>absurd (by decide +kernel) z);exact Yb (Yb ⟨_,rfl,Yb (hQ _ hit' sb)⟩)
theorem Zic{it d:Addr}{i ep:Nat}{es:Array DictEntry}{Q:Option P9->P1->Prop}(hh:A.handled=none)(hit:s.heap.IsKeyIter it d i es.size ep)(hm:RawD s.heap d es ep)(hx:es[i]?=none)
  (hQ:∀h',Heap.ExtBut it s.heap h'->Q none { s with heap:=h' }):wpAny (model prog w) A (pyNext (.ref it)) Q E s:=by
 obtain⟨o,ho,hc,hd⟩:=id hit;obtain⟨od,hod,hcd,hdd⟩:=id hm;unfold pyNext;refine Ya (W0 (YY (name:=Str.ofString "__next__") hit.typeIs WB
  (YE WB hit.typeIs VF ?_ (Vu _))))
 have hown:Builtin.Dict_items.ownsTuple "dict_keyiterator" = false:=by decide
 have hT:=hit.typeIs
 repeat (any_goals (first | assumption | with_reducible refine Qr hT ?_ | with_reducible refine Qu ho hd ?_ | with_reducible refine Wm hod hdd ?_ | with_reducible refine WU hod hdd ?_ | with_reducible refine QB hT ?_ | wp_step))
 simp only[show ¬ ((i:Int)<0) by omega,Y3,Y4,hx]
 repeat (any_goals (first | assumption | with_reducible refine Qr hT ?_ | with_reducible refine QB hT ?_ | ((fail_if_success (with_reducible show wpAny _ _ (setField _ _ _) _ _ _)); wp_step)))
 simp only[hown,YF,Y3];refine WQ ho hd (by simp) ?_;refine Zd0 (s:={ s with heap:=s.heap.update it (Obj.mapFields (·.setIfInBounds 0 Value.none)) }) hh fun o1 o2 c2 g2 => ?_;refine Ya (WK (T:="StopIteration") (b:=true) ⟨_,g2,c2⟩ Q8 ?_);exact Yb (hQ _ (((YB ..).extBut.push _).push _))
theorem Zqa(hh:A.handled=none)(I d:Addr)(hne:d≠I)(es:Array DictEntry)(ep:Nat) :
  Walks prog w A I [I,d] [I] es.size (fun i v => ∃e,es[i]?=some e/\v=e.key) (fun i h=>h.IsKeyIter I d i es.size ep/\RawD h d es ep) where
 sub:=fun b hb=>by simp at hb; simp[hb]
 frame:=fun _ _ _ st hk=>⟨let ⟨o,e,r⟩:=st.1; ⟨o,hk I (by simp) o e,r⟩,st.2.kept fun o e=>hk d (by simp) o e⟩
 item:=fun i s Q E hi st hQ=>by
  refine Zh0 st.1 st.2 (e:=es[i]) (by simp[hi]) fun h' hit' hs' => ?_;exact hQ _ h' s.toks ⟨es[i],by simp[hi],rfl⟩ ⟨hit',st.2.kept fun o e=>hs'.extBut d o hne e⟩ fun b o hb e=>hs'.extBut b o (fun h=>hb (by simp[h])) e
 done:=fun s Q E st hQ=>Zic hh st.1 st.2 (by simp) fun h' he'=>hQ h' s.toks fun b o hb e=>he' b o (fun h=>hb (by simp[h])) e
 self:=fun _ _ _ _ st hQ=>wpAny_pyIter_keyiter st.1 hQ
theorem Zhz{d:Addr}{es:Array DictEntry}{ep:Nat}(lo:(d == sysModules)=false):KdlSrc prog w "dict" d d es.size (fun i v => ∃e,es[i]?=some e/\v=e.key) (fun h=>RawD h d es ep) where
 type:=fun _ hm=>hm.typeIs
 there:=fun _ hm=>let ⟨_,e,_⟩:=hm; ⟨Yg e,Yg e⟩
 keep:=fun _ _ hm hk=>hm.kept fun o e=>hk d (.inl rfl) o e
 notList:=by decide
 notTuple:=by decide
 hint:=fun _ _ _ _ hm hq=>kdl_hint_dict hm.typeIs hq
 iter:=fun _ _ hh hm=>⟨_,_,(fun _ _ hq=>ZjF lo hm hq),Zqa hh _ d (Yp (let ⟨_,e,_⟩:=hm; Yg e)) es ep,⟨⟨_,Yi _ rfl,rfl,rfl⟩,hm.kept fun o e=>Yc _ e⟩⟩
end
end DL
end
section
namespace DL
open PySem PySem.Spec PyProof.Rows L2 PySem.W
theorem Zmb{K:P5}{O:List Addr}{H:Hp}{d:D}{q:Key}(h:Zx d=some q):Rep K O H d (kV q):=by
 cases d with
 | int i =>
  cases (show some (Sum.inl i)=some q from h);exact Rep.int_i.mpr rfl
 | str x =>
  cases (show some (Sum.inr x)=some q from h);exact Rep.str_i.mpr rfl
 | _=>cases h
theorem ZhV{K:P5}{O:List Addr}{H:Hp}:∀{ds:List D} {qs:List Key},Za5 ds=some qs->Reps K O H ds (qs.map kV)
 | [],qs,h=>by
  cases (show some []=some qs from h);exact Reps.nil_i.mpr rfl
 | d :: ds,qs,h=>by
  unfold Za5 at h;cases h1:Zx d with
  | none=>rw[h1] at h; cases h
  | some k =>
   cases h2:Za5 ds with
   | none=>rw[h1,h2] at h; cases h
   | some ks =>
    rw[h1,h2] at h;cases h;exact Reps.cons_i.mpr ⟨_,_,rfl,Zmb h1,ZhV h2⟩
theorem Zr5{K:P5}{O:List Addr}{H:Hp}{d:D}{q:List Key}{a:Addr}(h:Zo d=some q)(ha:H a=some (.tup (q.map kV))):Rep K O H d (.ref a):=by
 cases d with
 | tup ds=>exact Rep.tup_i.mpr ⟨a,_,rfl,ha,ZhV h⟩
 | _=>cases h
theorem ZeT{K:P5}{O:List Addr}{H:Hp}:∀{ds:List (D×D)} {vs:List (List Key×V)} {xs:List (List Key×Addr×P9)},Kvs K Zo O H ds vs->KT H vs xs->Reps K O H (ds.map (·.1)) (xs.map fun x=>V.ref x.2.1)
 | [],vs,xs,h,t=>by
  cases (show vs=[] from h);cases t;exact Reps.nil_i.mpr rfl
 | (k,d) :: ds,vs,xs,h,t=>by
  obtain⟨q,v,r,rfl,hk,hr,ht⟩:=(show ∃q v r,vs=(q,v) :: r/\Zo k=some q/\Rep K O H d v/\Kvs K Zo O H ds r from h);cases t with
  | cons hq t =>
   rw[Yn,Yn];refine Reps.cons_i.mpr ⟨_,_,rfl,Zr5 hk ?_,ZeT ht t⟩;exact hq.2.1
def ZdM:List D->Sto->Out (List D)
 | [.res i],st=>match st[i]? with
  | some (.dtt ds) => .ok (ds.map (·.1)) st
  | _ => .bad
 | _,_ => .bad
section
variable{X:Cx}{EX:EXT}
theorem Zre(hc:X.calm=true):ZcE X EX (.type "list") ZdM:=by
 intro pins s σ H xs us Q I rx h;obtain⟨O,ds,st,W,r,R⟩:=h;unfold ZdM at R;split at R
 ·rename_i i;obtain⟨v,rfl,rv⟩:=r.one_of;rw[Rep.res_i] at rv;obtain⟨a,rfl,q⟩:=rv;split at R
  ·rename_i kvs hk;obtain⟨vs,e2,kv⟩:=W.at_ _ _ _ q hk;cases rx with
   | cons r0 rt =>
    cases rt;cases r0;obtain⟨z,hd,xs,kt,o,es,ep,g1,g2,g3,g4,g5,g6⟩:=ZaN I.hok (.inl e2);have hl:es.size=xs.length:=by
     have:=congrArg List.length g4;simpa using this
    have hlv:xs.length=vs.length:=(Paired.length kt).symm;refine kdl_call (Zhz (d:=a) (es:=es) (ep:=ep) hd) (I.ok.hd hc) ⟨o,g1,g2,g3⟩ (by omega) fun h' tk acc c kp hg hit => ?_;have hacc:acc.toList=xs.map fun x=>Value.ref x.2.1:=by
     refine VQ fun j => ?_;rw[YD,Yz];by_cases hj:j<acc.size
     ·obtain⟨e,h1,h2⟩:=hit.2 j acc[j] (Ys hj);rw[Ys hj,h2];have h3:es.toList[j]?=some e:=by rw[YD]; exact h1
      rw[g4,Yz] at h3;obtain⟨x,h4,h5⟩:=Y7.mp h3;rw[h4,<-h5];rfl
     ·have:=hit.1;rw[Wo (by omega),Qz (by omega)];rfl
    refine⟨.ref s.heap.objs.size,upd H s.heap.objs.size (.lst (xs.map fun x=>V.ref x.2.1)),I.laid (t':=tk) kp (Yj _) ⟨by rw[Ym]; omega,acc.toList,c,?_,by simpa using hg⟩,rfl,Run.now (k:=New X.K Q) R W _ _ (ZeT kv kt) (I.hok.fresh (Yj _))⟩;rw[hacc];have:∀(l:List (List Key×Addr×P9)),Vals (l.map fun x=>V.ref x.2.1) (l.map fun x=>Value.ref x.2.1):=by
     intro l
     induction l with
     | nil=>exact .nil
     | cons x l ih=>exact .cons rfl ih
    exact this xs
  ·exact R.elim
 ·exact R.elim
end
end DL
end
section
namespace DL
open PySem PySem.Spec PyProof.Rows L2 PySem.W SO
def plB:List Str->List Str->Bool
 | [],[]=>false
 | [],_ :: _=>true
 | _ :: _,[]=>false
 | x :: xs,y :: ys=>if x=y then plB xs ys else ZX x y
theorem ZbJ{x y:Str}(h:x=y)(xs ys:List Str):plB (x :: xs) (y :: ys)=plB xs ys:=by
 show (if x=y then _ else _)=_;rw[Yf h]
section
variable{prog:P7}{w:World}{A:P6}{E:P9->P1->Prop}{s:P1}
theorem Zoy{x y:Addr}{xs ys:List P9}{ps qs:List Str}{Q:P9->P1->Prop}(hx:IsTup s.heap x xs.toArray)(hy:IsTup s.heap y ys.toArray)(sx:StrsAre xs ps)(sy:StrsAre ys qs)(h:Q (.bool (plB ps qs)) s) :
  wpAny (model prog w) A (Builtin.«tuple.__lt__» ⟨[.ref x,.ref y],[]⟩) (fun fin s' => ∃v,fin = .done (.ret v)/\Q v s') E s:=by
 have hTy:=hy.typeIs;unfold Builtin.«tuple.__lt__»;refine Ya (m:=slotArgs _ _ _) (Yb ?_);dsimp only;refine Ya (WK (T:="tuple") (b:=true) hTy (by rw[VE]; kernel_rfl) ?_);refine Yr (fun z=>absurd z (by decide)) (fun _ => ?_);refine Ya (tupleItemsOf_ hx (Ya (tupleItemsOf_ hy ?_)));refine Ya ?_;have loop:∀(xs ys:List P9) (ps qs:List Str),StrsAre xs ps->StrsAre ys qs->∀(R:Option Fin×Unit->P1->Prop),(∀b,b=plB ps qs->R (some (.done (.ret (.bool b))),()) s)->(plB ps qs=decide (xs.length<ys.length)->R (none,()) s) ->
   wpAny (model prog w) A (forIn (xs.zip ys) ((none,()):Option Fin×Unit) fun x __s=>do
      let __do_lift <-eqBool x.fst x.snd
      if (!__do_lift)=true then do
        rule "tuple.compare.by-the-first-pair-that-differs"
        let __do_lift <-richCompare CmpOp.Lt x.fst x.snd
        let __do_lift <-ret __do_lift
        pure (ForInStep.done (some __do_lift,()))
       else pure (ForInStep.yield (none,()))) R E s:=by
  intro xs
  induction xs with
  | nil =>
   intro ys ps qs sx sy R h1 h2;cases sx;rw[List.zip_nil_left,VG];refine Yb (h2 ?_);cases sy <;> simp[plB]
  | cons v xs ih =>
   intro ys ps qs sx sy R h1 h2;cases sx with
   | cons a t sx =>
    cases sy with
    | nil =>
     rw[List.zip_nil_right,VG];exact Yb (h2 (by simp[plB]))
    | cons b u sy =>
     rw[Ut,Vn];refine Ya ?_;dsimp only;refine Ya (VZ ?_);by_cases hab:a=b
     ·rw[YN hab];refine Yr (fun z=>absurd z (by decide)) (fun _=>Yb ?_);dsimp only;refine ih _ _ _ sx sy R (fun c hc=>h1 c (hc.trans (ZbJ hab _ _).symm)) fun hc=>h2 ?_;rw[ZbJ hab,hc];simp
     ·rw[YS hab];refine Yr (fun _ => ?_) (fun z=>absurd (by decide) z);refine Ya (W5 (Ya (show wpAny _ _ (compareOp .Lt (.str a t) (.str b u)) _ _ _ from lt_str ?_)));refine Ya (Yb (Yb (Yb (h1 _ ?_))));show _=(if a=b then _ else _);rw[Yh hab];rfl
 refine loop xs ys ps qs sx sy _ (fun b hb => ?_) fun hb => ?_
 ·subst hb;exact Yb ⟨_,rfl,h⟩
 ·refine Yb ⟨_,rfl,?_⟩;rw[hb] at h;simpa[Builtin.Tuple.tupleCompareSizes] using h
theorem Zkv{x y:Addr}{xs ys:List P9}{ps qs:List Str}{Q:P9->P1->Prop}(hx:IsTup s.heap x xs.toArray)(hy:IsTup s.heap y ys.toArray)(sx:StrsAre xs ps)(sy:StrsAre ys qs)(h:Q (.bool (plB ps qs)) s) :
  wpAny (model prog w) A (call (.builtin "tuple.__lt__") [.ref x,.ref y]) Q E s :=
 YE QC hx.typeIs PySem.F.entry_tuple_lt (Zoy hx hy sx sy h) (PySem.F.args_tuple_lt_2 _ _)
theorem Zmg{x y:Addr}{xs ys:List P9}{ps qs:List Str}{Q:Bool->P1->Prop}(hu:A.units<cLine)(hx:IsTup s.heap x xs.toArray)(hy:IsTup s.heap y ys.toArray)(sx:StrsAre xs ps)(sy:StrsAre ys qs)(h:Q (plB ps qs) s) :
  wpAny (model prog w) A (keyLt' oneType' (.ref x) (.ref y)) Q E s:=by
 rw[keyLt'_oneType,oneLt'_eq];simp only[Y9];refine Ya (wpAny_cRoomFor hu ?_);refine Ya (Ug hx.typeIs QC (Zkv hx hy sx sy ?_));exact Uz h
theorem Zrq{x y:Addr}{xs ys:List P9}{ps qs:List Str}{Q:Bool->P1->Prop}(hu:A.units<cLine)(hx:IsTup s.heap x xs.toArray)(hy:IsTup s.heap y ys.toArray)(sx:StrsAre xs ps)(sy:StrsAre ys qs)(h:Q (plB ps qs) s) :
  wpAny (model prog w) A (keyLt' general' (.ref x) (.ref y)) Q E s:=by
 show wpAny _ _ (oneLt' false (.ref x) (.ref y)) _ _ _;have hTx:=hx.typeIs;have hTy:=hy.typeIs;have f1:typeLookup (.type "tuple") "__lt__" = pure (some (.builtin "tuple.__lt__")):=QC.lookup;have f2:=QC.bind (.ref x);refine kat_one _ _ ?_;show wpAny _ _ (richCompare .Lt (.ref x) (.ref y)) _ _ _;unfold richCompare;refine YM (Ya (wpAny_cRoomFor hu ?_));obtain⟨hp,g,d,tk,os⟩:=s;have sl:Slot "tuple" "__lt__" "tuple.__lt__":=QC
 repeat (any_goals (first | assumption | refine Ug (name:=Str.ofString "__lt__") hTx sl (Zkv hx hy sx sy ?_) | wp_step))
 done
end
end DL
end
section
namespace DL
open PySem PySem.Spec PyProof.Rows L2 PySem.W SO
def PlsAre(h:Heap):List P9->List (List Str)->Prop
 | [],[]=>True
 | v :: vs,p :: ps=>(∃b its,v = .ref b/\IsTup h b its.toArray/\StrsAre its p)/\PlsAre h vs ps
 | _,_=>False
theorem PlsAre.mono{h h':Heap}:∀{vs:List P9} {ps:List (List Str)},PlsAre h vs ps->(∀b,(.ref b)∈vs->∀o,h.get? b=some o->h'.get? b=some o)->PlsAre h' vs ps
 | [],[],_,_=>trivial
 | v :: vs,p :: ps,x,k=>by
  obtain⟨⟨b,its,rfl,⟨o,e,r⟩,s⟩,t⟩:=x;exact⟨⟨b,its,rfl,⟨o,k b Yv o e,r⟩,s⟩,t.mono fun c hc=>k c (Yo _ hc)⟩
 | [],_ :: _,x,_=>x.elim
 | _ :: _,[],x,_=>x.elim
theorem PlsAre.length{h:Heap}:∀{vs:List P9} {ps:List (List Str)},PlsAre h vs ps->vs.length=ps.length
 | [],[],_=>rfl
 | v :: vs,p :: ps,x=>by simp[PlsAre.length x.2]
 | [],_ :: _,x=>x.elim
 | _ :: _,[],x=>x.elim
theorem PlsAre.get{h:Heap}:∀{vs:List P9} {ps:List (List Str)},PlsAre h vs ps->∀(i:Nat),i<vs.length->∃b its,vs.getD i .none = .ref b/\IsTup h b its.toArray/\StrsAre its (ps.getD i [])
 | [],[],_,i,hi=>by simp at hi
 | v :: vs,p :: ps,x,i,hi=>by
  obtain⟨⟨b,its,rfl,t,s⟩,r⟩:=x;cases i with
  | zero=>exact⟨b,its,rfl,t,s⟩
  | succ i=>exact PlsAre.get r i (by simpa using hi)
 | [],_ :: _,x,_,_=>x.elim
 | _ :: _,[],x,_,_=>x.elim
def ZbU:List (Option P9)->List (List Str)->Prop
 | [],[]=>True
 | none :: fs,[] :: ps=>ZbU fs ps
 | some v :: fs,(x :: _) :: ps=>(∃t,v = .str x t)/\ZbU fs ps
 | _,_=>False
section
variable{prog:P7}{w:World}{A:P6}{E:P9->P1->Prop}{s:P1}
theorem ZhD:∀{vs:List P9} {ps:List (List Str)} {Q:List (Option P9)->P1->Prop},PlsAre s.heap vs ps->(∀fs,ZbU fs ps->Q fs s)->wpAny (model prog w) A (vs.mapM firstOfTuple') Q E s
 | [],[],Q,_,h=>by rw[List.mapM_nil]; exact Yb (h [] trivial)
 | [],_ :: _,_,x,_=>x.elim
 | _ :: _,[],_,x,_=>x.elim
 | v :: vs,p :: ps,Q,x,h=>by
  obtain⟨⟨b,its,rfl,ht,hs⟩,r⟩:=x;obtain⟨o,ho,hc,n,hd⟩:=id ht;rw[List.mapM_cons];refine Ya ?_;rw[kas_first_eq];refine Ya (WM (T:="tuple") ⟨o,ho,hc⟩ ?_);refine Yr (fun z=>absurd z (by decide)) (fun _ => ?_);refine Ya (listItems_at ho hd (Yb ?_));refine Ya (ZhD (Q:=fun bs s'=>wpAny (model prog w) A (pure (its.toArray[0]? :: bs)) Q E s') r fun fs hf=>Yb (h _ ?_));cases hs with
  | nil=>exact hf
  | cons x t hs=>exact⟨⟨t,rfl⟩,hf⟩
theorem Zkz:∀{fs:List (Option P9)} {ps:List (List Str)},ZbU fs ps->(fs.all (·.isSome))=ps.all (fun p => !p.isEmpty)
 | [],[],_=>rfl
 | none :: fs,[] :: ps,h=>by simp
 | some v :: fs,(x :: _) :: ps,h=>by simp[Zkz h.2]
 | [],_ :: _,h=>by cases h
 | none :: fs,(_ :: _) :: ps,h=>by cases h
 | some v :: fs,[] :: ps,h=>by cases h
 | _ :: _,[],h=>by rename_i o fs; cases o <;> cases h
theorem Zfp:∀{fs:List (Option P9)} {ps:List (List Str)},ZbU fs ps->∀v∈fs.filterMap id,∃x t,v = .str x t
 | [],[],_,v,hv=>by simp at hv
 | none :: fs,[] :: ps,h,v,hv=>Zfp (show ZbU fs ps from h) v (by simpa using hv)
 | some u :: fs,(x :: _) :: ps,h,v,hv=>by
  obtain⟨⟨t,rfl⟩,h2⟩:=(show (∃t,u = .str x t)/\ZbU fs ps from h);simp only[WS,id] at hv;rcases Yl.mp hv with rfl | hv
  ·exact⟨x,t,rfl⟩
  ·exact Zfp h2 v hv
 | [],_ :: _,h,_,_=>by cases h
 | none :: fs,(_ :: _) :: ps,h,_,_=>by cases h
 | some v :: fs,[] :: ps,h,_,_=>by cases h
 | o :: _,[],h,_,_=>by cases o <;> cases h
theorem ZmZ{fs:List (Option P9)}{p:List Str}{ps:List (List Str)}(h:ZbU fs (p :: ps)):((fs.toArray[0]?).bind id).isSome = !p.isEmpty:=by
 match fs,p,h with
 | none :: fs,[],h=>rfl
 | some v :: fs,x :: _,h=>rfl
 | [],_,h=>cases h
 | none :: fs,_ :: _,h=>cases h
 | some v :: fs,[],h=>cases h
def Zcl(ps:List (List Str)):SortKind:=if ps.all (fun p => !p.isEmpty)=true then tuples' true else if (ps.headD []).isEmpty=true then oneType' else general'
theorem ZmG{vs:List P9}{ps:List (List Str)}{Q:SortKind->P1->Prop}(x:PlsAre s.heap vs ps)(h2:2<=vs.length)(h:Q (Zcl ps) s):wpAny (model prog w) A (keyKind' vs.toArray) Q E s:=by
 rw[kat_kind_eq,UE,UP];have hl:=x.length;refine Ya (Ya (ZhD x fun fs hf=>Yb ?_));have ha:=Zkz hf;unfold Zcl at h;refine Yr (fun c => ?_) (fun c => ?_)
 ·have c':fs.all (·.isSome)=true:=by simpa using c
  rw[ha] at c';rw[Yf c'] at h;refine Ya (W5 ?_);have hfm:(fs.toArray.filterMap id)=(fs.filterMap id).toArray:=by simp
  rw[hfm,oneTypeOnly'_eq,UE,UP];refine Ya (Ya (Ya (kas_mapM (r:=Value.type "str") _ (fun v hv Q' hq => ?_) (Yb ?_))))
  ·obtain⟨y,t,rfl⟩:=Zfp hf v hv;exact WM (typeIs_str s y t) hq
  ·have hne:fs.filterMap id≠[]:=by
    match ps,fs,hf,hl,h2,c' with
    | [],_,_,hl,h2,_=>simp at hl; rw[hl] at h2; simp at h2
    | (y :: _) :: ps,some v :: fs,hf,_,_,_=>simp
    | [] :: ps,_,_,_,_,c'=>simp at c'
    | (_ :: _) :: ps,[],hf,_,_,_=>cases hf
    | (_ :: _) :: ps,none :: _,hf,_,_,_=>cases hf
   obtain⟨f1,fr,e⟩:=List.exists_cons_of_ne_nil hne;rw[e];have h0:(List.map (fun _=>Value.type "str") (f1 :: fr)).toArray[0]?=some (Value.type "str"):=by simp
   rw[h0];have hall2:((List.map (fun _=>Value.type "str") (f1 :: fr)).toArray.all fun x=>x == Value.type "str")=true:=by simp
   simp only[hall2,Y9];exact Yb (Yb h)
 ·have c':¬ ps.all (fun p => !p.isEmpty)=true:=by
   rw[<-ha];simpa using c
  rw[Yh c'] at h
  match ps,hl,h2,hf,h with
  | [],hl,h2,_,_=>simp at hl; rw[hl] at h2; simp at h2
  | p :: ps,hl,h2,hf,h =>
   have hh:=ZmZ hf;refine Yr (fun d => ?_) (fun d => ?_)
   ·rw[hh] at d;have:p.isEmpty=false:=by simpa using d
    rw[show ((p :: ps).headD []).isEmpty=false from this] at h;exact Yb (by simpa using h)
   ·rw[hh] at d;have hp:p.isEmpty=true:=by simpa using d
    rw[show ((p :: ps).headD []).isEmpty=true from hp,Yf rfl] at h;rw[oneTypeOnly'_eq,UE,UP];refine Ya (Ya (Ya (kas_mapM (r:=Value.type "tuple") _ (fun v hv Q' hq => ?_) (Yb ?_))))
    ·obtain⟨i,hi,rfl⟩:=Vj hv;obtain⟨b,its,e1,⟨o,e2,e3,_⟩,_⟩:=x.get i hi;rw[Ye,Yd hi] at e1;rw[show vs[i] = .ref b from e1];exact WM (T:="tuple") ⟨o,e2,e3⟩ hq
    ·match vs,h2 with
     | v :: vr,_ =>
      have h0:(List.map (fun _=>Value.type "tuple") (v :: vr)).toArray[0]?=some (Value.type "tuple"):=by simp
      rw[h0];have hall2:((List.map (fun _=>Value.type "tuple") (v :: vr)).toArray.all fun x=>x == Value.type "tuple")=true:=by simp
      simp only[hall2,Y9];exact Yb (Yb (by simpa using h))
theorem ZbF{x y:Str}(h:¬ x=y)(xs ys:List Str):plB (x :: xs) (y :: ys)=ZX x y:=Yh h
theorem ZkK{fin:Bool}{Q:Bool->P1->Prop}:∀(xs ys:List P9) (ps qs:List Str) (i:Nat),StrsAre xs ps->StrsAre ys qs->(plB ps qs=decide (xs.length<ys.length)->Q fin s)->Q (plB ps qs) s->KatLex prog w A true fin Q (xs.zip ys) i s
 | [],ys,ps,qs,i,sx,sy,h1,h2=>by
  cases sx;rw[List.zip_nil_left];refine kat_nil (h1 ?_);cases sy <;> simp[plB]
 | v :: xs,[],ps,qs,i,sx,sy,h1,h2=>by
  cases sx;cases sy;rw[List.zip_nil_right];exact kat_nil (h1 (by simp[plB]))
 | v :: xs,u :: ys,ps,qs,i,sx,sy,h1,h2=>by
  cases sx with
  | cons a t sx =>
   cases sy with
   | cons b u sy =>
    rw[Ut];refine kat_cons (VZ ?_);by_cases hab:a=b
    ·rw[YN hab];rw[ZbJ hab] at h2;refine kat_yes (ZkK xs ys _ _ (i+1) sx sy (fun hc=>h1 ?_) h2);rw[ZbJ hab,hc];simp
    ·rw[YS hab];rw[ZbF hab] at h2;refine kat_no ?_;cases hi:(true && i == 0) with
     | true=>exact oneLt_str h2
     | false=>exact kat_one _ _ (lt_str h2)
theorem ZoA{vs:List P9}{ps:List (List Str)}{i j:Nat}{Q:Bool->P1->Prop}(x:PlsAre s.heap vs ps)(hu:A.units<cLine)(hi:i<vs.length)(hj:j<vs.length)(h:Q (plB (ps.getD i []) (ps.getD j [])) s) :
  wpAny (model prog w) A (keyLt' (Zcl ps) (vs.getD i .none) (vs.getD j .none)) Q E s:=by
 obtain⟨b,its,e1,t1,s1⟩:=x.get i hi;obtain⟨b',its',e2,t2,s2⟩:=x.get j hj;rw[e1,e2];unfold Zcl;split
 ·obtain⟨o,ho,_,n,hd⟩:=t1;obtain⟨o',ho',_,n',hd'⟩:=t2;refine kat_lt ho hd ho' hd' (ZkK its its' _ _ 0 s1 s2 (fun hc => ?_) h);rw[hc] at h;simpa using h
 ·split
  ·exact Zmg hu t1 t2 s1 s2 h
  ·exact Zrq hu t1 t2 s1 s2 h
end
end DL
end
section
namespace SO
open PySem PySem.W PyProof.Rows
section
variable{prog:P7}{w:World}{A:P6}{E:P9->P1->Prop}{s:P1}
structure CmpR(prog:P7)(w:World)(s:P1)(a:Addr)(vs:List P9)(κ:SortKind)(lt:Nat->Nat->Bool):Prop where
 kind:2<=vs.length->∀(h':Heap) (A:P6) (E:P9->P1->Prop) (Q:SortKind->P1->Prop),KB s a h'->Q κ { s with heap:=h' }->wpAny (model prog w) A (keyKind' vs.toArray) Q E { s with heap:=h' }
 less:2<=vs.length->∀(h':Heap) (A:P6) (E:P9->P1->Prop) (Q:Bool->P1->Prop) (i j:Nat),A.units<cLine->KB s a h'->i<vs.length->j<vs.length->Q (lt i j) { s with heap:=h' }->wpAny (model prog w) A (keyLt' κ (vs.getD i .none) (vs.getD j .none)) Q E { s with heap:=h' }
 inj:∀i j,i<vs.length->j<vs.length->vs.getD i .none=vs.getD j .none->i=j
theorem Zkj{g:Heap}{a:Addr}{e1:Nat}{vs:List P9}{p:List Nat}{f:Bool->Sem PySem.Fin}{P:PySem.Fin->P1->Prop}(hoa:g.get? a=some (seqObj "list" #[] e1))(h64:vs.length<64)(hp:p.Perm (List.range vs.length))
  (k:∀h' c,(∀b o,b≠a->g.get? b=some o->h'.get? b=some o)->h'.get? a=some (seqObj "list" (p.map fun i=>vs.getD i .none).toArray c)->wpAny (model prog w) A (f false) P E { s with heap:=h' }) :
  wpAny (model prog w) A (seqEpoch a >>= fun e=>Builtin.List.listUpdate (.ref a) (fun _=>(p.map fun i=>vs.getD i Value.none).toArray) >>= fun _=>f (e != e1)) P E { s with heap:=g }:=by
 have z:((p.map fun i=>vs.getD i Value.none).toArray).size<=sizeLine+1:=by
  rw[Yt,Ym,hp.length_eq,Wa,YG];omega
 have s2:=YB g a (Obj.mapSeq fun _=>(p.map fun i=>vs.getD i Value.none).toArray);refine Ya (seqEpoch_at hoa rfl (Ya (Ve hoa rfl ?_ (YU _) z)));rw[UF];exact k _ _ (fun b o ne e=>s2.extBut b o ne e) (Vo hoa fun _=>(p.map fun i=>vs.getD i Value.none).toArray)
theorem Zer{a:Addr}{vs:List P9}{n0:Nat}{κ:SortKind}{lt:Nat->Nat->Bool}{P:PySem.Fin->P1->Prop}(hu:A.units<cLine)(ho:s.heap.get? a=some (seqObj "list" vs.toArray n0))(h64:vs.length<64)
  (C:CmpR prog w s a vs κ lt) (O:Ord vs.length lt)
  (k:∀p:List Nat,p.Perm (List.range vs.length)->p.Pairwise (fun i j=>lt i j=true)->∀h' c,KB s a h'->h'.get? a=some (seqObj "list" (p.map fun i=>vs.getD i .none).toArray c)->P (.done (.ret .none)) { s with heap:=h' }) :
  wpAny (model prog w) A (Builtin.«list.sort» ⟨[.ref a],[]⟩) P E s:=by
 have ha:a<s.heap.objs.size:=Yg ho;have s1:=YB s.heap a (Obj.mapSeq fun _=>(#[]:Array P9));obtain⟨e1,ho1⟩:∃e1,(s.heap.update a (Obj.mapSeq fun _=>(#[]:Array P9))).get? a=some (seqObj "list" #[] e1):=⟨_,Vo ho fun _ => #[]⟩;have hk:KB s a (((s.heap.update a (Obj.mapSeq fun _=>(#[]:Array P9))).push (seqObj "tuple" vs.toArray 0)).push (seqObj "list" #[] 0)):=fun b o hb e =>
  Yc _ (Yc _ (s1.extBut b o hb e))
 have hoa:(((s.heap.update a (Obj.mapSeq fun _=>(#[]:Array P9))).push (seqObj "tuple" vs.toArray 0)).push (seqObj "list" #[] 0)).get? a=some (seqObj "list" #[] e1):=Yc _ (Yc _ ho1);rw[list_sort_plain];refine Ya (listItems_at ho rfl ?_);refine Ya (Ve ho rfl ?_ (by rw[Yt,YG]; omega) (YU _));refine Ya (seqEpoch_at ho1 rfl ?_);refine Ya (VH ?_ (by show vs.length<=_; rw[YG]; omega));refine Ya (QE ?_ (YU _));refine YM ?_;show wpAny (model prog w) A _ P E { s with heap:=((s.heap.update a (Obj.mapSeq fun _=>(#[]:Array P9))).push (seqObj "tuple" vs.toArray 0)).push (seqObj "list" #[] 0) };generalize hg:((s.heap.update a (Obj.mapSeq fun _=>(#[]:Array P9))).push (seqObj "tuple" vs.toArray 0)).push (seqObj "list" #[] 0)=g at hk hoa;dsimp only;by_cases h2:vs.length<2
 ·have hn2:vs.toArray.size<2:=by rw[Yt]; omega
  rw[Yf hn2,Yf hn2];refine Ya (Yb (Ya (Yb ?_)));have hm:(arrOf (SortSt.mk' general' (vs.toArray.zip vs.toArray) #[] 7 none)).map (·.2)=((List.range vs.length).map fun i=>vs.getD i Value.none).toArray:=by
   show (vs.toArray.zip vs.toArray).map (·.2)=_
   match vs,h2 with
   | [],_=>simp
   | [v],_=>simp[Uh]
  have hpw:(List.range vs.length).Pairwise (fun i j=>lt i j=true):=by
   match vs,h2 with
   | [],_=>exact .nil
   | [v],_=>exact VN _ _
  have hf:failedOf (SortSt.mk' general' (vs.toArray.zip vs.toArray) #[] 7 none)=none:=rfl;dsimp only;rw[hm];refine Zkj (f:=fun b=>if b=true then _ else _) hoa h64 (List.Perm.refl _) fun h' c hb hc => ?_;simp only[YF,Y3];exact Yb (k _ (List.Perm.refl _) hpw h' c (fun b o ne e=>hb b o ne (hk b o ne e)) hc)
 ·have hn2:¬ vs.toArray.size<2:=by rw[Yt]; omega
  rw[Yh hn2,Yh hn2];refine Ya (C.kind (by omega) g A E _ hk ?_);refine Ya (YK (ZoL (κ:=κ) (vs:=vs) (lt:=lt) (Q:=fun st' s' => ∃p:Array Nat,arrOf st'=p.map (kas_item (vs.toArray.zip vs.toArray))/\failedOf st'=none/\p.toList.Perm (List.range vs.length)/\p.toList.Pairwise (fun i j=>lt i j=true)/\s' = { s with heap:=g })
   (by omega) h64 C.inj (fun E Q i j hi hj hQ=>C.less (by omega) g A E Q i j hu hk hi hj hQ) O fun st' p h1 h2 h3 h4=>⟨p,h3,h4,h1,h2,rfl⟩) ?_ fun _ _ e=>e)
  rintro⟨⟨⟩,st'⟩ s' ⟨p,har,hf,hA,hS,rfl⟩;dsimp only;rw[kat_snds rfl har,hf];refine Zkj (f:=fun b=>if b=true then _ else _) hoa h64 hA fun h' c hb hc => ?_;simp only[YF,Y3];exact Yb (k _ hA hS h' c (fun b o ne e=>hb b o ne (hk b o ne e)) hc)
theorem Zp5{T:String}{r d:Addr}{n:Nat}{P:Nat->P9->Prop}{OK:Heap->Prop}{κ:SortKind}{lt:Nat->Nat->Bool}{Q:P9->P1->Prop}(hu:A.units+2<cLine)(src:KdlSrc prog w T r d n P OK)(hh:A.handled=none)(ok:OK s.heap)(h64:n<64)
  (C:∀vs a h' tk,ItemsOf P vs n->(∀b o,s.heap.get? b=some o->b≠a)->(∀b o,s.heap.get? b=some o->h'.get? b=some o)->CmpR prog w { s with heap:=h',toks:=tk } a vs.toList κ lt) (O:Ord n lt)
  (k:∀vs,ItemsOf P vs n->∀p:List Nat,p.Perm (List.range n)->p.Pairwise (fun i j=>lt i j=true)->∀(h1:Heap) a (h':Heap) tk c,(∀b o,s.heap.get? b=some o->h1.get? b=some o)->h1.objs.size<=a->(∀b o,h1.get? b=some o->h'.get? b=some o) ->
   h'.get? a=some (seqObj "list" (p.map fun i=>vs.toList.getD i .none).toArray c)->Q (.ref a) { s with heap:=h',toks:=tk }) :
  wpAny (model prog w) A (call (.builtin "sorted") [.ref r]) Q E s:=by
 refine Qk VW Vv Vw (Ui _) ?_;unfold Builtin.«sorted»;refine Ya (m:=checkCount "sorted" 1 1 _) (Yb ?_);refine Ya (kdu_collect src hh ok (by rw[YG]; omega) fun h1 tk acc k1 hI => ?_);have hlen:acc.toList.length=n:=by rw[Yq]; exact hI.1
 refine Ya (QE ?_ (by rw[YG,hlen]; omega));have hoL:(h1.push (seqObj "list" acc.toList.toArray 0)).get? h1.objs.size=some (seqObj "list" acc.toList.toArray 0):=Yi _ rfl;have keep:∀b o,h1.get? b=some o->(h1.push (seqObj "list" acc.toList.toArray 0)).get? b=some o:=fun b o q=>Yc _ q;show wpAny _ _ _ _ _ { s with heap:=h1.push (seqObj "list" acc.toList.toArray 0),toks:=tk };generalize h1.push (seqObj "list" acc.toList.toArray 0)=g at hoL keep;refine Ya (YM (YE slot_list_sort ⟨_,hoL,rfl⟩ entry_list_sort ?body (VI _)))
 case body =>
  refine Zer (s:={ s with heap:=g,toks:=tk }) (by show _<_; omega) hoL (by omega) (C acc _ g tk hI (fun b o e=>Yp (Yg (k1 b o e))) fun b o e=>keep b o (k1 b o e)) (by rw[hlen]; exact O) fun p hp hpw h' c hb hc => ?_;refine⟨_,rfl,Yb ⟨_,rfl,?_⟩⟩;rw[hlen] at hp;exact k acc hI p hp hpw h1 _ h' tk c k1 (Yj _) (fun b o e=>hb b o (Yp (Yg e)) (keep b o e)) hc
end
end SO
namespace DL
open PySem PySem.Spec PyProof.Rows L2 PySem.W SO
theorem Zop(a:Str):ZX a a=false:=by simp[ZX]
theorem Zpw{a b c:Str}(h1:ZX a b=true)(h2:ZX b c=true):ZX a c=true:=by
 simp only[ZX,YR] at *;exact Uv h1 h2
theorem Zsm{a b:Str}(h:a≠b)(h1:ZX a b=false):ZX b a=true:=by
 simp only[ZX,YR,VM] at *;have h2:=Up.mp h1;by_cases h3:b.cps.toList<a.cps.toList
 ·exact h3
 ·exact absurd (ZgP (UN (Up.mp h3) h2)) h
theorem ZeK:∀a:List Str,plB a a=false
 | []=>rfl
 | x :: xs=>by rw[ZbJ rfl]; exact ZeK xs
theorem ZcV:∀{a b c:List Str},plB a b=true->plB b c=true->plB a c=true
 | [],[],c,h,_=>by cases h
 | [],_ :: _,[],_,h=>by cases h
 | [],_ :: _,_ :: _,_,_=>rfl
 | _ :: _,[],_,h,_=>by cases h
 | _ :: _,_ :: _,[],_,h=>by cases h
 | x :: xs,y :: ys,z :: zs,h1,h2=>by
  by_cases e1:x=y
  ·subst e1;rw[ZbJ rfl] at h1;by_cases e2:x=z
   ·subst e2;rw[ZbJ rfl] at h2 ⊢;exact ZcV h1 h2
   ·rw[ZbF e2] at h2 ⊢;exact h2
  ·rw[ZbF e1] at h1;by_cases e2:y=z
   ·subst e2;rw[ZbF e1];exact h1
   ·rw[ZbF e2] at h2;have h3:=Zpw h1 h2;by_cases e3:x=z
    ·subst e3;rw[Zop] at h3;cases h3
    ·rw[ZbF e3];exact h3
theorem ZcQ:∀{a b:List Str},a≠b->plB a b=false->plB b a=true
 | [],[],h,_=>absurd rfl h
 | [],_ :: _,_,h=>by cases h
 | _ :: _,[],_,_=>rfl
 | x :: xs,y :: ys,h,h1=>by
  by_cases e:x=y
  ·subst e;rw[ZbJ rfl] at h1 ⊢;exact ZcQ (fun z=>h (by rw[z])) h1
  ·rw[ZbF e] at h1;rw[ZbF fun z=>e z.symm];exact Zsm e h1
def Za3(a b:List Str):Bool:=!plB b a
def ZU(ps:List (List Str)):List (List Str):=ps.mergeSort Za3
theorem Zdl(ps:List (List Str)):(ZU ps).Perm ps:=Vi _ _
theorem ZeY(ps:List (List Str)):(ZU ps).Pairwise (fun a b=>Za3 a b=true):=by
 refine QP (fun a b c h1 h2 => ?_) (fun a b => ?_) ps
 ·simp only[Za3,Bool.not_eq_true'] at *;cases hca:plB c a with
  | false=>rfl
  | true =>
   by_cases e:a=b
   ·subst e;rw[hca] at h2;cases h2
   ·have h3:=ZcQ (fun z=>e z.symm) h1;rw[ZcV hca h3] at h2;cases h2
 ·cases h:plB b a with
  | false=>simp[Za3,h]
  | true =>
   have:plB a b=false:=by
    cases h2:plB a b with
    | false=>rfl
    | true =>
     have:=ZcV h h2;rw[ZeK] at this;cases this
   simp[Za3,this]
theorem Zfm{ps qs:List (List Str)}(hp:qs.Perm ps)(hw:qs.Pairwise (fun a b=>plB a b=true)):qs=ZU ps:=by
 refine QK (le:=fun a b=>Za3 a b=true) (fun a b _ _ h1 h2 => ?_) (hw.imp fun {a b} h => ?_) (ZeY ps) (hp.trans (Zdl ps).symm)
 ·simp only[Za3,Bool.not_eq_true'] at h1 h2;by_cases e:a=b
  ·exact e
  ·have:=ZcQ e h2;rw[h1] at this;cases this
 ·cases h2:plB b a with
  | false=>simp[Za3,h2]
  | true =>
   have:=ZcV h h2;rw[ZeK] at this;cases this
theorem Zfq{ps:List (List Str)}(hn:ps.Nodup):Ord ps.length (fun i j=>plB (ps.getD i []) (ps.getD j [])):=by
 have apart:∀i j,i<ps.length->j<ps.length->i≠j->ps.getD i []≠ps.getD j []:=fun i j hi hj ne e=>by
  rw[Ye,Ye,Yd hi,Yd hj] at e;exact ne ((Qe hn).mp e)
 refine⟨fun i j hi hj ne h=>ZcQ (apart i j hi hj ne) h,fun i j hi hj h => ?_,fun i j k hi hj hk h1 h2=>ZcV h1 h2⟩;cases h2:plB (ps.getD j []) (ps.getD i []) with
 | false=>rfl
 | true =>
  have:=ZcV h h2;rw[ZeK] at this;cases this
section
variable{prog:P7}{w:World}{A:P6}{E:P9->P1->Prop}{s:P1}
theorem ZhK:∀{its:List P9} {p q:List Str},StrsAre its p->StrsAre its q->p=q
 | _,_,_,.nil,.nil=>rfl
 | _,_,_,.cons x t r,.cons _ _ r2=>by rw[ZhK r r2]
theorem Zfy{h:Heap}:∀{vs:List P9} {ps:List (List Str)},PlsAre h vs ps->∀i,i<vs.length->∃b its,vs.getD i .none = .ref b/\IsTup h b its.toArray/\StrsAre its (ps.getD i [])
 | [],[],_,i,hi=>absurd hi (by simp)
 | v :: vs,p :: ps,x,0,_=>by
  obtain⟨b,its,h1,h2,h3⟩:=x.1;exact⟨b,its,h1,h2,h3⟩
 | v :: vs,p :: ps,x,i+1,hi=>Zfy x.2 i (by simpa using hi)
theorem Zlm{h:Heap}{vs:List P9}{ps:List (List Str)}(x:PlsAre h vs ps)(hn:ps.Nodup)(hl:vs.length=ps.length)(i j:Nat)(hi:i<vs.length)(hj:j<vs.length)(e:vs.getD i .none=vs.getD j .none):i=j:=by
 obtain⟨b,its,h1,⟨o,g1,g2,n1,g3⟩,h3⟩:=Zfy x i hi;obtain⟨b',its',h1',⟨o',g1',g2',n1',g3'⟩,h3'⟩:=Zfy x j hj;rw[h1,h1'] at e;cases e;rw[g1] at g1';cases g1';rw[g3] at g3';have e2:its.toArray=its'.toArray:=by injection g3'
 have e3:its=its':=by simpa using e2
 subst e3;have e4:=ZhK h3 h3';rw[Ye,Ye,Yd (by omega),Yd (by omega)] at e4;exact (Qe hn).mp e4
theorem ZfX{vs:List P9}{ps:List (List Str)}{a:Addr}{h':Heap}{tk:Nat}(hn:ps.Nodup)(x:PlsAre s.heap vs ps)(ha:∀b o,s.heap.get? b=some o->b≠a)(hk:∀b o,s.heap.get? b=some o->h'.get? b=some o) :
  CmpR prog w { s with heap:=h',toks:=tk } a vs (Zcl ps) (fun i j=>plB (ps.getD i []) (ps.getD j [])):=by
 have y:∀g,KB { s with heap:=h',toks:=tk } a g->PlsAre g vs ps:=fun g hg=>x.mono fun b _ o e=>hg b o (ha b o e) (hk b o e);exact⟨fun h2 g A E Q hg hQ=>ZmG (s:={ s with heap:=g,toks:=tk }) (y g hg) h2 hQ,fun h2 g A E Q i j hu hg hi hj hQ=>ZoA (s:={ s with heap:=g,toks:=tk }) (y g hg) hu hi hj hQ,Zlm x hn x.length⟩
end
end DL
end
section
namespace DL
open PySem PySem.Spec PyProof.Rows L2 PySem.W SO
def ZaZ:List D->Option (List (List Str))
 | []=>some []
 | .tup ds :: r=>match Zbf ds,ZaZ r with
  | some p,some ps=>some (p :: ps)
  | _,_=>none
 | _ :: _=>none
theorem Zdy:∀{ds:List D} {ps:List (List Str)},ZaZ ds=some ps->ds=ps.map fun p=>D.tup (p.map D.str)
 | [],ps,e=>by cases e; rfl
 | d :: ds,ps,e=>by
  unfold ZaZ at e;split at e
  ·rename_i h; cases h
  ·rename_i es r h;cases h;split at e
   ·rename_i p qs h1 h2;cases e;rw[Yn,<-Zdy h2,Ze9 h1]
   ·cases e
  ·cases e
theorem ZkP:∀(ps:List (List Str)),ZaZ (ps.map fun p=>D.tup (p.map D.str))=some ps
 | []=>rfl
 | p :: ps=>by
  show (match Zbf (p.map D.str),ZaZ (ps.map fun p=>D.tup (p.map D.str)) with | some p,some ps=>some (p :: ps) | _,_=>none)=_;rw[ZgW,ZkP ps]
section
variable{X:Cx}{EX:EXT}{pins:List (Addr×Obj)}{σ:L2.St}{H:Hp}{s:P1}{O:List Addr}
theorem ZcG(I:Inv X pins σ H s):∀{ps:List (List Str)} {vs:List V} {us:List P9},Reps X.K O H (ps.map fun p=>D.tup (p.map D.str)) vs->Vals vs us->PlsAre s.heap us ps
 | [],vs,us,r,u=>by
  rw[Q5,Reps.nil_i] at r;subst r;cases u;trivial
 | p :: ps,vs,us,r,u=>by
  obtain⟨v,rs,rfl,r1,r2⟩:=Reps.cons_i.mp r;rw[Rep.tup_i] at r1;obtain⟨a,ys,rfl,q,r3⟩:=r1;cases u with
  | cons u1 u2 =>
   cases u1;obtain⟨its,t1,t2,_⟩:=I.tuple (SqT.of q);refine⟨⟨a,its,rfl,t2,?_⟩,ZcG I r2 u2⟩;have hl1:=t1.length;have hl2:=r3.length;rw[Ym] at hl2;refine Zi0 (by omega) fun i v x h1 h2 => ?_;obtain⟨y,h3,h4⟩:=r3.get (i:=i) (d:=D.str x) (by rw[Yz,h2]; rfl);rw[Rep.str_i] at h4;subst h4;obtain⟨u,h5,t,h6⟩:=t1.get h3;rw[h1] at h5;cases h5;exact⟨t,h6⟩
theorem ZfE{st:Sto}{Q:VK}{its:List P9}{vs:List V}{ps:List (List Str)}{ix:List Nat}{a:Addr}{h1 h':Heap}{tk c:Nat}(I:Inv X pins σ H s)(W:WR X.K O H st)(rs:Reps X.K O H (ps.map fun p=>D.tup (p.map D.str)) vs)(rv:Vals vs its)
  (R:Run X.K EX O H (.ok ((ZU ps).map fun p=>D.tup (p.map D.str)) st) (New X.K Q)) (hp:ix.Perm (List.range ps.length)) (hw:ix.Pairwise (fun i j=>plB (ps.getD i []) (ps.getD j [])=true)) (h64:ps.length<64)
  (k1:∀b o,s.heap.get? b=some o->h1.get? b=some o) (ha:h1.objs.size<=a) (hk:∀b o,h1.get? b=some o->h'.get? b=some o) (hg:h'.get? a=some (seqObj "list" (ix.map fun i=>its.getD i .none).toArray c)) :
  ∃v H',Inv X pins σ H' { s with heap:=h',toks:=tk }/\RelV v (.ref a)/\Q v H':=by
 have hl:=rv.length;have hl2:=rs.length;rw[Ym] at hl2;have hix:ix.map (fun i=>ps.getD i [])=ZU ps:=by
  refine Zfm ?_ (Q2.mpr hw);refine (hp.map (fun i=>ps.getD i [])).trans (Vp ?_);refine Vc (by simp) fun i h1 h2 => ?_;simp[Ye,Yd h2]
 have hb:∀i∈ix,i<ps.length:=fun i hi=>by
  have:=hp.mem_iff.mp hi;simpa using this
 have I1:Inv X pins σ H { s with heap:=h1,toks:=tk }:=I.kept k1;refine⟨.ref a,upd H a (.lst (ix.map fun i=>vs.getD i .non)),I1.laid hk ha ⟨?_,ix.map (fun i=>its.getD i .none),c,?_,hg⟩,rfl,?_⟩
 ·have h0:=hp.length_eq;simp only[Ym,Wa] at h0 ⊢;rw[YG];omega
 ·refine Zen ix fun i hi => ?_;have:=hb i hi;obtain⟨u,h1,h2⟩:=rv.get (i:=i) (x:=vs.getD i .non) (by rw[Ye,Yd (by omega)]; rfl);rw[Ye (l:=its),h1];exact h2
 ·refine Run.now (k:=New X.K Q) R W a _ ?_ (I1.hok.fresh ha);rw[<-hix,YQ];refine ZdD ix fun i hi => ?_;have:=hb i hi;obtain⟨v,h1,h2⟩:=rs.get (i:=i) (d:=D.tup ((ps.getD i []).map D.str)) (by rw[Yz,Ye,Yd this]; rfl);rw[Ye (l:=vs),h1];exact h2
end
def ZbE:List D->Sto->Out (List D)
 | [.res i],st=>match st[i]? with
  | some (.dtt ds)=>match ZaZ (ds.map (·.1)) with
   | some ps=>if ps.Nodup/\ps.length<64 then .ok ((ZU ps).map fun p=>D.tup (p.map D.str)) st else .bad
   | none => .bad
  | _ => .bad
 | _,_ => .bad
section
variable{X:Cx}{EX:EXT}
theorem ZhW(hc:X.calm=true)(hu:X.A.units+2<cLine):ZcE X EX (.builtin "sorted") ZbE:=by
 intro pins s σ H xs us Q I rx h;obtain⟨O,ds,st,W,r,R⟩:=h;unfold ZbE at R;split at R
 ·rename_i i;obtain⟨v,rfl,rv⟩:=r.one_of;rw[Rep.res_i] at rv;obtain⟨a,rfl,q⟩:=rv;split at R
  ·rename_i kvs hk;obtain⟨vs,e2,kv⟩:=W.at_ _ _ _ q hk;split at R
   ·rename_i ps hps;by_cases hok:ps.Nodup/\ps.length<64
    ·rw[Yf hok] at R;cases rx with
     | cons r0 rt =>
      cases rt;cases r0;obtain⟨z,hd,xs,kt,o,es,ep,g1,g2,g3,g4,g5,g6⟩:=ZaN I.hok (.inl e2);have hl:es.size=xs.length:=by
       have:=congrArg List.length g4;simpa using this
      have rs:=ZeT kv kt;rw[Zdy hps] at rs;have hlp:ps.length=xs.length:=by
       have:=rs.length;simpa using this
      have refs:∀(l:List (List Key×Addr×P9)),Vals (l.map fun x=>V.ref x.2.1) (l.map fun x=>Value.ref x.2.1):=by
       intro l
       induction l with
       | nil=>exact .nil
       | cons x l ih=>exact .cons rfl ih
      have hacc:∀acc:Array P9,ItemsOf (fun i v => ∃e,es[i]?=some e/\v=e.key) acc es.size->acc.toList=xs.map fun x=>Value.ref x.2.1:=by
       intro acc hit;refine VQ fun j => ?_;rw[YD,Yz];by_cases hj:j<acc.size
       ·obtain⟨e,h1,h2⟩:=hit.2 j acc[j] (Ys hj);rw[Ys hj,h2];have h3:es.toList[j]?=some e:=by rw[YD]; exact h1
        rw[g4,Yz] at h3;obtain⟨x,h4,h5⟩:=Y7.mp h3;rw[h4,<-h5];rfl
       ·have:=hit.1;rw[Wo (by omega),Qz (by omega)];rfl
      have P0:PlsAre s.heap (xs.map fun x=>Value.ref x.2.1) ps:=ZcG I rs (refs xs);refine Zp5 (κ:=Zcl ps) (lt:=fun i j=>plB (ps.getD i []) (ps.getD j [])) hu (Zhz (d:=a) (es:=es) (ep:=ep) hd) (I.ok.hd hc) ⟨o,g1,g2,g3⟩ (by omega) (fun acc b h' tk hI ha hk' => ?_) (by rw[hl,<-hlp]; exact Zfq hok.1) fun acc hI ix hp hw h1 b h' tk c k1 hb hk' hg => ?_
      ·rw[hacc acc hI];exact ZfX hok.1 P0 ha hk'
      ·rw[hl,<-hlp] at hp;rw[hacc acc hI] at hg;exact ZfE I W rs (refs xs) R hp hw hok.2 k1 hb hk' hg
    ·rw[Yh hok] at R; exact R.elim
   ·exact R.elim
  ·exact R.elim
 ·exact R.elim
end
open PySem
theorem ZdI{A:P6}(h:A.units+64<cLine):A.units+2<cLine:=by omega
end DL
end
section
namespace DL
open PySem PySem.Spec PyProof.Rows L2
def Rs(xs:Array Nat):Prop:=xs.toList.Pairwise (· < ·)
theorem Rs.lt{xs:Array Nat}(h:Rs xs){i j:Nat}(hij:i<j)(hj:j<xs.size):xs.getD i 0<xs.getD j 0:=by
 have hi:i<xs.size:=by omega
 have:=WT.mp h i j (by simpa using hi) (by simpa using hj) hij;simpa[Array.getD,hi,hj] using this
theorem Zfs{xs:Array Nat}(h:Rs xs)(j:Nat):∀(f lo hi:Nat),hi - lo<=f->lo<=hi->hi<=xs.size->(∀k,k<lo->xs.getD k 0<j)->(∀k,hi<=k->k<xs.size->j<=xs.getD k 0) ->
  SetTable.below.go xs j f lo hi<=xs.size/\(∀k,k<SetTable.below.go xs j f lo hi->xs.getD k 0<j)/\∀k,SetTable.below.go xs j f lo hi<=k->k<xs.size->j<=xs.getD k 0
 | 0,lo,hi,hf,hlh,hs,h1,h2=>by
  have:lo=hi:=by omega
  subst this;unfold SetTable.below.go;exact⟨hs,h1,h2⟩
 | f+1,lo,hi,hf,hlh,hs,h1,h2=>by
  unfold SetTable.below.go;by_cases hc:lo<hi
  ·rw[Yf hc];have hm1:lo<=(lo+hi) / 2:=by omega
   have hm2:(lo+hi) / 2<hi:=by omega
   have hms:(lo+hi) / 2<xs.size:=by omega
   have eD:xs.getD ((lo+hi) / 2) j=xs.getD ((lo+hi) / 2) 0:=by simp[Array.getD,hms]
   dsimp only;rw[eD];by_cases hd:xs.getD ((lo+hi) / 2) 0<j
   ·rw[Yf hd];refine Zfs h j f _ hi (by omega) (by omega) hs (fun k hk => ?_) h2;by_cases e:k=(lo+hi) / 2
    ·rw[e]; exact hd
    ·exact Q7 (h.lt (by omega) hms) hd
   ·rw[Yh hd];refine Zfs h j f lo _ (by omega) hm1 (by omega) h1 fun k hk hks => ?_;by_cases e:k=(lo+hi) / 2
    ·rw[e]; omega
    ·have:=h.lt (show (lo+hi) / 2<k by omega) hks;omega
  ·rw[Yh hc];have:lo=hi:=by omega
   subst this;exact⟨hs,h1,h2⟩
theorem ZeU{xs:Array Nat}(h:Rs xs)(j:Nat):SetTable.below xs j<=xs.size/\(∀k,k<SetTable.below xs j->xs.getD k 0<j)/\∀k,SetTable.below xs j<=k->k<xs.size->j<=xs.getD k 0 :=
 Zfs h j xs.size 0 xs.size (by omega) (YU _) (Yj _) (fun k hk=>by omega) fun k hk hks=>by omega
theorem ZrI{xs:Array Nat}(h:Rs xs){i:Nat}(hi:i<xs.size):SetTable.below xs (xs.getD i 0+1)=i+1:=by
 obtain⟨a,b,c⟩:=ZeU h (xs.getD i 0+1);have h1:¬ SetTable.below xs (xs.getD i 0+1)<=i:=fun z=>by
  have:=c i z hi;omega
 have h2:¬ i+1<SetTable.below xs (xs.getD i 0+1):=fun z=>by
  have h3:=b (i+1) z;have h4:=h.lt (show i<i+1 by omega) (show i+1<xs.size by omega);omega
 omega
theorem ZrH{xs:Array Nat}(h:Rs xs):SetTable.below xs 0=0:=by
 obtain⟨a,b,c⟩:=ZeU h 0;by_cases h0:SetTable.below xs 0=0
 ·exact h0
 ·have:=b 0 (by omega);omega
def live(t:SetTable)(j:Nat):Prop:=t.place[SetTable.below t.place j]?=some j
theorem Zgz{t:SetTable}{j:Nat}(h:t.slot j = .empty\/t.slot j = .dummy):¬ live t j:=by
 intro hl;unfold live at hl;have:t.slot j = .live (SetTable.below t.place j):=by
  unfold SetTable.slot;simp[hl]
 rw[this] at h;rcases h with h | h <;> cases h
theorem ZfF{t:SetTable}{f:Nat->Int}{h:Int}:∀(n:Nat) (p:SetTable.Probe) {j:Nat} {d:Option Nat},(∀k,p.dummy=some k->¬ live t k)->SetTable.probe.go t f h n p=some (.empty j d)->¬ live t (d.getD j)
 | 0,p,j,d,_,e=>by unfold SetTable.probe.go at e; cases e
 | n+1,p,j,d,hp,e=>by
  unfold SetTable.probe.go at e;have hadv:∀(q:SetTable.Probe),(t.advance q).dummy=q.dummy:=fun q=>by
   unfold SetTable.advance;split <;> rfl
  cases hs:t.slot p.j with
  | empty =>
   rw[hs] at e;cases e;cases hd:p.dummy with
   | none=>exact Zgz (.inl hs)
   | some k=>exact hp k hd
  | dummy =>
   rw[hs] at e;refine ZfF n _ (fun k hk => ?_) e;rw[hadv] at hk;cases hk;exact Zgz (.inr hs)
  | live i =>
   rw[hs] at e;dsimp only at e;split at e
   ·cases e
   ·refine ZfF n _ (fun k hk => ?_) e;rw[hadv] at hk;exact hp k hk
theorem ZnI{t:SetTable}{h:Int}{j:Nat}{b:Bool}(e:t.freeSlot h=some (j,b)):¬ live t j:=by
 unfold SetTable.freeSlot at e;split at e
 ·rename_i j' d he;cases e;exact ZfF _ _ (fun k hk=>by cases hk) he
 ·cases e
theorem ZjN{t:SetTable}{j:Nat}(h:Rs t.place)(hl:¬ live t j):Rs (t.put j).1.place:=by
 obtain⟨a,b,c⟩:=ZeU h j;show Rs (SetTable.insertAt t.place (SetTable.below t.place j) j);unfold live at hl;generalize SetTable.below t.place j=p at *;unfold Rs at *;have e:(SetTable.insertAt t.place p j).toList=t.place.toList.take p++j :: t.place.toList.drop p:=by
  unfold SetTable.insertAt;simp[Ub,List.extract];rw[WA (by simp)]
 have hsp:t.place.toList=t.place.toList.take p++t.place.toList.drop p:=(WX _ _).symm;rw[hsp,Vb] at h;rw[e,Vb];refine⟨h.1,List.pairwise_cons.mpr ⟨fun x hx => ?_,h.2.1⟩,fun x hx y hy => ?_⟩
 ·obtain⟨k,hk,rfl⟩:=Vj hx;have hk':p+k<t.place.size:=by simp at hk; omega
  have h1:=c (p+k) (by omega) hk';have h2:(t.place.toList.drop p)[k]=t.place.getD (p+k) 0:=by simp[Array.getD,hk']
  rw[h2];by_cases hz:k=0
  ·subst hz;refine Nat.lt_of_le_of_ne h1 fun z=>hl ?_;rw[Ys (by omega)];simp only[Nat.add_zero] at z hk';rw[z];simp[Array.getD,hk']
  ·have hp0:p<t.place.size:=by omega
   have h3:=c p (Yj _) hp0;have h4:t.place.getD p 0<t.place.getD (p+k) 0:=by
    have h5:=WT.mp h.2.1 0 k (by simp; omega) hk (by omega);simpa[Array.getD,hk',hp0] using h5
   omega
 ·rcases Yl.mp hy with rfl | hy
  ·obtain⟨k,hk,rfl⟩:=Vj hx;have hk1:k<p:=by simp at hk; omega
   have hk2:k<t.place.size:=by omega
   have:=b k hk1;simpa[Array.getD,hk2] using this
  ·exact h.2.2 x hx y hy
theorem ZdO{α:Type}(f:Nat->Option α):∀l:List Nat,((l.filterMap fun j=>(f j).map (j,·)).map (·.1)).Sublist l
 | [] => .slnil
 | x :: l=>by
  rw[WS];cases f x with
  | none=>exact (ZdO f l).cons x
  | some y=>exact (ZdO f l).cons₂ x
theorem ZpS{mask finger moves:Nat}{led plain:Bool}{hs:Array Int}{t:SetTable}{o:Array Nat}(h:SetTable.laid mask finger moves led plain hs=some (t,o)):Rs t.place:=by
 unfold SetTable.laid at h;cases hc:SetTable.layClean mask hs with
 | none=>rw[hc] at h; cases h
 | some ow =>
  rw[hc] at h;have h':=Option.some.inj h;cases h';unfold Rs;dsimp only;exact List.Pairwise.sublist (ZdO _ _) List.pairwise_lt_range
end DL
end
section
namespace DL
open PySem PySem.Spec PyProof.Rows L2
theorem ZrO{t:SetTable}{es:Array (Int×P9)}{h:Int}{x:P9}(hr:t.plain=true->Rs t.place)(hp:(layNew t es h x).2.1.plain=true):Rs (layNew t es h x).2.1.place:=by
 have ht:=(Zjt t es h x).2 hp;unfold layNew at hp ⊢;cases hf:t.freeSlot h with
 | none=>rw[hf] at hp; cases hp
 | some q =>
  obtain⟨j,b⟩:=q;rw[hf] at hp;dsimp only at hp ⊢;unfold SetTable.orStandIn at hp ⊢;split
  ·exact ZjN (hr ht) (ZnI hf)
  ·rename_i hc;rw[Yh hc] at hp;cases hp
theorem Zpz{t:SetTable}{es:Array (Int×P9)}{k:Nat}(hp:(relayAll t es k).2.1.plain=true):Rs (relayAll t es k).2.1.place:=by
 unfold relayAll at hp ⊢;cases hr:t.relaid (es.map (·.1)) k with
 | none=>rw[hr] at hp; cases hp
 | some q =>
  obtain⟨t',o⟩:=q;rw[hr] at hp;dsimp only at hp ⊢;split
  ·exact ZpS hr
  ·rename_i hc;rw[Yh hc] at hp;cases hp
structure TabI(w:World)(t:SetTable)(n:Nat):Prop where
 fits:t.fits n=true
 led:t.led = !byT w
 plain:t.plain=true->Rs t.place
section
variable(prog:P7)(w:World)
def SetI(h:Heap)(a:Addr)(xs:List Int):Prop :=
 ∃o es ep t,h.get? a=some o/\o.ExactSet/\o.data = .set es ep t/\TabI w t es.size/\ElemsOf (intKind prog w) es.toList/\IntsAre (es.toList.map (·.2)) xs/\xs.Nodup/\es.size<scanBound
end
section
variable{prog:P7}{w:World}{A:P6}{E:P9->P1->Prop}{s:P1}{a:Addr}
theorem Zf5:∀{vs:List P9} {xs:List Int},IntsAre vs xs->∀x,x∈xs ↔ ∃v∈vs,(intKind prog w).is x v=true
 | _,_,.nil,x=>⟨(fun h=>by cases h),fun⟨v,h,_⟩=>by cases h⟩
 | _,_,.cons y t r,x=>by
  have ih:=Zf5 r x;constructor
  ·intro h;rcases Yl.mp h with rfl | h
   ·exact⟨_,Yv,intKind_is _ _ _ _⟩
   ·obtain⟨v,h1,h2⟩:=ih.mp h;exact⟨v,Yo _ h1,h2⟩
  ·rintro⟨v,h1,h2⟩;rcases Yl.mp h1 with rfl | h1
   ·have e:x=y:=(intKind prog w).inj _ x y h2 (intKind_is _ _ _ _);rw[e];exact Yv
   ·exact Yo _ (ih.mpr ⟨v,h1,h2⟩)
theorem Ziw:∀{vs vs':List P9},vs.Perm vs'->∀{xs:List Int},IntsAre vs xs->∃xs',IntsAre vs' xs'/\xs.Perm xs':=by
 intro vs vs' p
 induction p with
 | nil=>intro xs h; exact⟨xs,h,.refl _⟩
 | cons v _ ih =>
  intro xs h;cases h with
  | cons x t r =>
   obtain⟨xs',h1,h2⟩:=ih r;exact⟨x :: xs',.cons x t h1,h2.cons x⟩
 | swap u v l =>
  intro xs h;cases h with
  | cons x t r =>
   cases r with
   | cons y t' r'=>exact⟨y :: x :: _,.cons y t' (.cons x t r'),.swap y x _⟩
 | trans _ _ ih1 ih2 =>
  intro xs h;obtain⟨ys,h1,h2⟩:=ih1 h;obtain⟨zs,h3,h4⟩:=ih2 h1;exact⟨zs,h3,h2.trans h4⟩
theorem ints_snoc:∀{vs:List P9} {xs:List Int},IntsAre vs xs->∀(x:Int) (t:Tok),IntsAre (vs++[.int x t]) (xs++[x])
 | _,_,.nil,x,t => .cons x t .nil
 | _,_,.cons y u r,x,t => .cons y u (ints_snoc r x t)
theorem Zkd{es es1:Array (Int×P9)}{ep:Nat}{t t2:SetTable}{o:Obj}{xs1:List Int}{wd:Bool}{g:Bool->Sem Unit}{R:Option Bool->P1->Prop}(hg:∀(b:Bool) (s₁:P1) (Q':Unit->P1->Prop),Q' () s₁->wpAny (model prog w) A (g b) Q' E s₁)
  (ho:s.heap.get? a=some o) (hx:o.ExactSet) (hd:o.data = .set es ep t) (hb:es1.size<scanBound) (hT:TabI w t2 es1.size) (hel:ElemsOf (intKind prog w) es1.toList) (hs:IntsAre (es1.toList.map (·.2)) xs1) (hn:xs1.Nodup)
  (h:∀h' xs',Heap.SameBut a s.heap h'->SetI prog w h' a xs'->xs1.Perm xs'->R (some true) { s with heap:=h' }) :
  wpAny (model prog w) A (do
    storeSet a es1 t2
    if (!wd && t2.tooFull)=true then do
      g (relayAll t2 es1 (SetTable.grown es1.size)).2.2
      storeSet a (relayAll t2 es1 (SetTable.grown es1.size)).1 (relayAll t2 es1 (SetTable.grown es1.size)).2.1
      pure (some true)
     else pure (some true)) R E s:=by
 refine Ya (VR ho hd ?_ (UG hb));have o1:(s.heap.update a (Obj.putSet es1 t2)).get? a=some { o with data:=.set es1 (ep+1) t2 }:=by
  have q:=YI (Obj.putSet es1 t2) ho (by rw[Vx es1 t2 hd]; rfl);rwa[Vx es1 t2 hd] at q
 have b1:=YB s.heap a (Obj.putSet es1 t2);by_cases hc:(!wd && t2.tooFull)=true
 ·rw[Yf hc];have hp:=relayAll_perm t2 es1 (SetTable.grown es1.size);have hf:=relayAll_fits t2 es1 (SetTable.grown es1.size);have hl:=ZpW t2 es1 (SetTable.grown es1.size);have hrs:=Zpz (t:=t2) (es:=es1) (k:=SetTable.grown es1.size);generalize relayAll t2 es1 (SetTable.grown es1.size)=Rl at hp hf hl hrs ⊢;obtain⟨es2,t3,gv⟩:=Rl;dsimp only at hp hf hl hrs ⊢;have hz:es2.size=es1.size:=by simpa using hp.length_eq
  obtain⟨xs2,hs2,hpx⟩:=Ziw (hp.map (·.2)).symm hs;refine Ya (hg _ _ _ (Ya (VR (s:={ s with heap:=s.heap.update a (Obj.putSet es1 t2) }) o1 rfl ?_ (UG (by rw[hz]; exact hb)))));have o2:((s.heap.update a (Obj.putSet es1 t2)).update a (Obj.putSet es2 t3)).get? a=some { o with data:=.set es2 (ep+1+1) t3 }:=by
   have q:=YI (Obj.putSet es2 t3) o1 (by rw[Vx es2 t3 rfl]; rfl);rwa[Vx es2 t3 rfl] at q
  exact Yb (h _ xs2 (b1.trans (YB _ a _)) ⟨_,es2,_,t3,o2,hx,rfl,⟨hf,by rw[hl.1]; exact hT.led,hrs⟩,hel.perm hp,hs2,hpx.nodup_iff.mp hn,by rw[hz]; exact hb⟩ hpx)
 ·rw[Yh hc];exact Yb (h _ xs1 b1 ⟨_,es1,_,t2,o1,hx,rfl,hT,hel,hs,hn,hb⟩ (.refl _))
theorem add_int{x:Int}{tk:Tok}{xs:List Int}{Q:Bool->P1->Prop}(hS:SetI prog w s.heap a xs)(hr:xs.length+1<scanBound)
  (h:∀h' xs' b,Heap.SameBut a s.heap h'->SetI prog w h' a xs'->(∀y,y∈xs' ↔ y∈xs\/y=x)->xs'.length<=xs.length+1->Q b { s with heap:=h' }) :
  wpAny (model prog w) A (setAddHashed a (.int x tk) ((intKind prog w).hash x)) Q E s:=by
 obtain⟨o,es,ep,t,ho,hx,hd,hT,hel,hs,hn,hb⟩:=id hS;have hsz:es.size=xs.length:=by
  have:=hs.length;simpa using this
 have hkey:(intKind prog w).is x (.int x tk)=true:=intKind_is _ _ _ _;have hsc:(Value.int x tk).scannable=true:=rfl;unfold setAddHashed setAddHashedIn;refine YM (Ya (Wh ho hd hT.fits ?_));dsimp only;rw[byScan_of (knd:=intKind prog w) hsc hb hel,Yf rfl];unfold setAddByScan;refine Ya (Ya (W5 (Ya (wpAny_setScan_of (knd:=intKind prog w) hkey ho hd hT.fits hel ?_))));cases hf:es.toList.findIdx? (fun e=>(intKind prog w).is x e.2) with
 | some j =>
  dsimp only;obtain⟨hj,hp,_⟩:=List.findIdx?_eq_some_iff_getElem.mp hf;have hm:x∈xs:=(Zf5 hs x).mpr ⟨_,YZ.mpr ⟨_,Vd hj,rfl⟩,hp⟩;refine Yb (Yb ?_);have e:s = { s with heap:=s.heap }:=by cases s; rfl
  rw[e];exact h s.heap xs false (Heap.SameBut.refl a s.heap) hS (fun y=>⟨.inl,fun z=>z.elim id fun z=>z ▸ hm⟩) (Vg _)
 | none =>
  dsimp only;have hm:x ∉ xs:=fun hm=>by
   obtain⟨v,hv,q⟩:=(Zf5 (prog:=prog) (w:=w) hs x).mp hm;obtain⟨e,he,rfl⟩:=YZ.mp hv;have:=List.findIdx?_eq_none_iff.mp hf e he;rw[q] at this;cases this
  have hg:∀(b:Bool) {s₁:P1} {Q':Unit->P1->Prop},Q' () s₁->wpAny (model prog w) A (match b with | true=>rule "set.scan.the-table-gave-way" | false=>pure ()) Q' E s₁:=by
   intro b s₁ Q' hq;cases b
   ·exact Yb hq
   ·exact W5 hq
  have hp:=layNew_perm t es ((intKind prog w).hash x) (.int x tk);have hfit:=layNew_fits t es ((intKind prog w).hash x) (.int x tk);have hl:=Zjt t es ((intKind prog w).hash x) (.int x tk);have hrs:=ZrO (t:=t) (es:=es) (h:=(intKind prog w).hash x) (x:=.int x tk) hT.plain;generalize layNew t es ((intKind prog w).hash x) (.int x tk)=Ln at hp hfit hl hrs ⊢;obtain⟨es1,t1,wd,gv⟩:=Ln;dsimp only at hp hfit hl hrs ⊢;rw[UB] at hp;have hz:es1.size=es.size+1:=by simpa using hp.length_eq
  have hel1:ElemsOf (intKind prog w) es1.toList:=(hel.push hkey hsc).perm hp;have hs0:IntsAre ((es.toList++[((intKind prog w).hash x,Value.int x tk)]).map (·.2)) (xs++[x]):=by
   rw[WE];exact ints_snoc hs x tk
  obtain⟨xs1,hs1,hpx⟩:=Ziw (hp.map (·.2)).symm hs0;have hn1:xs1.Nodup:=hpx.nodup_iff.mp (Qq.mpr ⟨hn,by simp,fun u hu v hv=>by
   rw[YC.mp hv];rintro rfl;exact hm hu⟩)
  have fin:∀h' xs',Heap.SameBut a s.heap h'->SetI prog w h' a xs'->xs1.Perm xs'->Q true { s with heap:=h' }:=fun h' xs' b1 b2 b3=>h h' xs' true b1 b2 (fun y=>by
   rw[<-(hpx.trans b3).mem_iff];simp) (by rw[<-(hpx.trans b3).length_eq]; simp)
  refine Ya (hg _ ?_);by_cases hpl:t1.plain=true
  ·rw[Yf hpl,hashByValue_scannable 8 hsc];refine Ya (Yb ?_);refine Zkd (t2:=if plainKind (Value.int x tk)=true then t1 else { t1 with plain:=false }) (fun b s₁ Q' hq=>by cases b <;> first | exact Yb hq | exact W5 hq) ho hx hd (by omega) ?_ hel1 hs1 hn1 fun h' xs' b1 b2 b3=>Yb (fin h' xs' b1 b2 b3);rw[Yf (show plainKind (Value.int x tk)=true from rfl)];exact⟨hfit,by rw[<-hT.led]; exact hl.1,hrs⟩
  ·rw[Yh hpl];refine Ya (Yb ?_);simp only[Y9];exact Zkd (fun b s₁ Q' hq=>by cases b <;> first | exact Yb hq | exact W5 hq) ho hx hd (by omega) ⟨hfit,by rw[<-hT.led]; exact hl.1,fun z=>absurd z hpl⟩ hel1 hs1 hn1 fun h' xs' b1 b2 b3=>Yb (fin h' xs' b1 b2 b3)
end
end DL
end
section
namespace DL
open PySem PySem.Spec PyProof.Rows L2 PySem.W SO
section
variable{prog:P7}{w:World}{A:P6}{E:P9->P1->Prop}{s:P1}{a:Addr}
theorem Zhr{o:Obj}{es:Array (Int×P9)}{ep:Nat}{t:SetTable}{slot i:Nat}{Q:Option (P9×Nat)->P1->Prop}(hb:byT w=false)(ho:s.heap.get? a=some o)(hd:o.data = .set es ep t)(hT:TabI w t es.size)(h1:¬ (!t.plain && decide (es.size > 1))=true)
  (h:Q (match es[SetTable.below t.place slot]?,t.place[SetTable.below t.place slot]? with | some (_,x),some j=>some (x,j+1) | _,_=>none) s):wpAny (model prog w) A (setNext a slot i ep) Q E s:=by
 unfold setNext;refine Ya (Wh ho hd hT.fits ?_);dsimp only;refine Ya (ZeG ?_);rw[hb];refine Yr (fun z=>absurd z (by decide)) (fun _ => ?_);refine Yr (fun z => ?_) (fun _ => ?_)
 ·exact absurd z h1
 ·have hl:t.led=true:=by rw[hT.led,hb]; rfl
  refine Ya ?_;refine VV (a:=()) ?_ (Yb h);show (if (!t.led && !es.isEmpty)=true then unsupported "set:maker-not-led" else pure ())=_;rw[hl];rfl
theorem SetI.kept{h h':Heap}{xs:List Int}(x:SetI prog w h a xs)(hk:∀b o,h.get? b=some o->h'.get? b=some o):SetI prog w h' a xs:=by
 obtain⟨o,es,ep,t,ho,r⟩:=x;exact⟨o,es,ep,t,hk _ _ ho,r⟩
theorem SetI.typeIs{xs:List Int}(x:SetI prog w s.heap a xs):s.TypeIs (.ref a) "set":=by
 obtain⟨o,es,ep,t,ho,hx,_⟩:=x;exact⟨o,ho,hx.1⟩
theorem SetI.len{h:Heap}{xs:List Int}(x:SetI prog w h a xs):xs.length<scanBound/\xs.Nodup/\a<h.objs.size:=by
 obtain⟨o,es,ep,t,ho,hx,hd,hT,hel,hs,hn,hb⟩:=x;have:=hs.length;rw[Ym,Yq] at this;exact⟨by omega,hn,Yg ho⟩
end
end DL
end
section
end
section
namespace DL
open PySem PySem.SetTable
def lq(m:Nat):Nat->Nat×Nat->Nat×Nat
 | 0,q=>q
 | n+1,q=>lq m n (leap m q.1 q.2)
theorem ZjG(m:Nat):∀(a b:Nat) (q:Nat×Nat),lq m (a+b) q=lq m b (lq m a q)
 | 0,b,q=>by rw[Wx]; rfl
 | a+1,b,q=>by rw[Nat.succ_add]; exact ZjG m a b _
theorem ZkW(m:Nat):∀(n:Nat) (q:Nat×Nat),(lq m n q).2=q.2 / 32 ^ n
 | 0,q=>by simp[lq]
 | n+1,q=>by
  rw[lq,ZkW];show q.2 / 32 / 32 ^ n=_;rw[Nat.div_div_eq_div_mul,Nat.pow_succ,Nat.mul_comm]
theorem Zja(m:Nat):∀(n:Nat) (q:Nat×Nat),q.1<=m->(lq m n q).1<=m
 | 0,q,h=>h
 | n+1,q,h=>Zja m n _ (by
  show (q.1 * 5+1+q.2 / 32) % (m+1)<=m;have:=Ue (q.1 * 5+1+q.2 / 32) (show 0<m+1 by omega);omega)
def lc(m:Nat):Nat->Nat->Nat
 | 0,i=>i
 | n+1,i=>lc m n ((i * 5+1) % (m+1))
theorem ZeI(m:Nat):∀(a b i:Nat),lc m (a+b) i=lc m b (lc m a i)
 | 0,b,i=>by rw[Wx]; rfl
 | a+1,b,i=>by rw[Nat.succ_add]; exact ZeI m a b _
theorem Zid(m:Nat):∀(n i:Nat),lq m n (i,0)=(lc m n i,0)
 | 0,i=>rfl
 | n+1,i=>by
  rw[lq];have:leap m (i,0).1 (i,0).2=((i * 5+1) % (m+1),0):=by simp[leap]
  rw[this,Zid];rfl
def orb(m:Nat):Nat->Nat->List Nat
 | 0,_=>[]
 | n+1,i=>i :: orb m n ((i * 5+1) % (m+1))
theorem Zi4(m:Nat):∀(n i x:Nat),x∈orb m n i->∃k,k<n/\lc m k i=x
 | 0,i,x,h=>by cases h
 | n+1,i,x,h=>by
  rcases Yl.mp h with rfl | h
  ·exact⟨0,by omega,rfl⟩
  ·obtain⟨k,h1,h2⟩:=Zi4 m n _ x h;exact⟨k+1,by omega,h2⟩
def full(m:Nat):Bool:=(List.range (m+1)).all (fun e=>(orb m (m+1) 0).contains e) && lc m (m+1) 0 == 0
theorem Zg4{m e:Nat}(h:full m=true)(he:e<=m):∃a,a<=m/\lc m a 0=e:=by
 unfold full at h;rw[YJ] at h;have h1:=YH.mp h.1 e (by simp; omega);obtain⟨k,h2,h3⟩:=Zi4 m (m+1) 0 e (by simpa using h1);exact⟨k,by omega,h3⟩
theorem Zqc{m i e:Nat}(h:full m=true)(hi:i<=m)(he:e<=m):∃n,n<=m/\lc m n i=e:=by
 have h0:lc m (m+1) 0=0:=by
  unfold full at h;rw[YJ] at h;exact eq_of_beq h.2
 obtain⟨a,ha,rfl⟩:=Zg4 h hi;obtain⟨b,hb,rfl⟩:=Zg4 h he;by_cases hab:a<=b
 ·exact⟨b - a,by omega,by rw[<-ZeI,show a+(b - a)=b by omega]⟩
 ·exact⟨m+1+b - a,by omega,by rw[<-ZeI,show a+(m+1+b - a)=(m+1)+b by omega,ZeI,h0]⟩
def Msk(m:Nat):Prop:=m=7\/m=31\/m=127\/m=511
theorem Zqj:full 7=true:=by decide +kernel
theorem Zqe:full 31=true:=by decide +kernel
theorem ZpP:full 127=true:=by decide +kernel
theorem ZnR:full 511=true:=by decide +kernel
theorem Msk.full{m:Nat}(h:Msk m):full m=true:=by
 rcases h with rfl | rfl | rfl | rfl
 ·exact Zqj
 ·exact Zqe
 ·exact ZpP
 ·exact ZnR
theorem ZkU{m e:Nat}(hm:Msk m)(q:Nat×Nat)(hi:q.1<=m)(hp:q.2<2 ^ 64)(he:e<=m):∃n,1<=n/\n<=13+m/\(lq m n q).1=e:=by
 have h2:(lq m 13 q).2=0:=by
  rw[ZkW];exact Nat.div_eq_of_lt (Yy hp (by decide))
 obtain⟨n,h3,h4⟩:=Zqc hm.full (Zja m 13 q hi) he;refine⟨13+n,by omega,by omega,?_⟩;rw[ZjG];have:lq m 13 q=((lq m 13 q).1,0):=by rw[<-h2]
 rw[this,Zid,h4]
section
variable{t:SetTable}
def Zq(t:SetTable):Nat->Probe->Probe
 | 0,p=>p
 | n+1,p=>Zq t n (t.advance p)
theorem Zck:∀(a b:Nat) (p:Probe),Zq t (a+b) p=Zq t b (Zq t a p)
 | 0,b,p=>by rw[Wx]; rfl
 | a+1,b,p=>by rw[Nat.succ_add]; exact Zck a b _
theorem Zk8(n:Nat)(p:Probe):Zq t (n+1) p=t.advance (Zq t n p):=Zck n 1 p
theorem Zgc:∀(n:Nat) (p:Probe),(Zq t n p).dummy=p.dummy
 | 0,p=>rfl
 | n+1,p=>by
  rw[Zq,Zgc n];unfold advance;split <;> rfl
theorem ZfI:∀(k:Nat) (p:Probe),k<=p.more->Zq t k p = { p with j:=p.j+k,more:=p.more - k }
 | 0,p,_=>rfl
 | k+1,p,h=>by
  rw[Zq];have:t.advance p = { p with j:=p.j+1,more:=p.more - 1 }:=by
   unfold advance;rw[Yf (by omega)]
  rw[this,ZfI k _ (by show k<=p.more - 1; omega)];dsimp only;congr 1 <;> omega
def ZfR(t:SetTable)(p:Probe)(L:Nat×Nat):Probe:={ p with j:=L.1,more:=runEnd t.mask L.1 - L.1,i:=L.1,perturb:=L.2 }
theorem Zgl(p:Probe):Zq t (p.more+1) p=ZfR t p (leap t.mask p.i p.perturb):=by
 rw[Zk8,ZfI _ _ (Yj _)];unfold advance;rw[Yh (by show ¬ p.more - p.more > 0; omega)];rfl
theorem ZiC(m i:Nat):runEnd m i - i<=9:=by
 unfold runEnd;split <;> omega
theorem Zhq:∀(n:Nat) (p:Probe),p.more<=9->∃k,k<=10 * (n+1)/\Zq t k p=ZfR t p (lq t.mask (n+1) (p.i,p.perturb))
 | 0,p,h=>⟨p.more+1,by omega,Zgl p⟩
 | n+1,p,h=>by
  obtain⟨k,h1,h2⟩:=Zhq n (ZfR t p (leap t.mask p.i p.perturb)) (ZiC _ _);refine⟨p.more+1+k,by omega,?_⟩;rw[Zck,Zgl,h2];rfl
theorem Zr3{e:Nat}(hm:Msk t.mask){p:Probe}(h1:p.more<=9)(h2:p.i<=t.mask)(h3:p.perturb<2 ^ 64)(he:e<=t.mask):∃k,k<=10 * (13+t.mask)/\(Zq t k p).j=e:=by
 obtain⟨n,a,b,c⟩:=ZkU hm (p.i,p.perturb) h2 h3 he;obtain⟨k,d,e'⟩:=Zhq (t:=t) (n - 1) p h1;rw[show n - 1+1=n by omega] at d e';exact⟨k,by omega,by rw[e']; exact c⟩
theorem Zht(h:Int):bits h<2 ^ 64:=by
 unfold bits;have:=Qw h (show (0:Int)<2 ^ 64 by decide);have:=QW h (show (2 ^ 64:Int)≠0 by decide);omega
theorem Zj4:∀(n:Nat) (l:List Nat),(∀e,e<n->e∈l)->n<=l.length
 | 0,l,_=>YU _
 | n+1,l,h=>by
  have hn:=h n (by omega);have:=Zj4 n (l.erase n) fun e he=>(List.mem_erase_of_ne (by omega)).mpr (h e (by omega));rw[UQ hn] at this;have:0<l.length:=List.length_pos_of_mem hn;omega
theorem Zl0{l:List Nat}{m:Nat}(h:l.length<=m):∃e,e<=m/\e ∉ l:=by
 refine Ql fun z => ?_;have:=Zj4 (m+1) l fun e he=>Ql fun y=>z ⟨e,by omega,y⟩;omega
theorem Zfi(j:Nat):has #[] j=false:=by simp[has]
theorem slot_of(hd:t.dummies = #[])(j:Nat):t.slot j = .empty\/∃i,t.slot j = .live i/\t.place[i]?=some j:=by
 unfold slot;by_cases h:(t.place[below t.place j]? == some j)=true
 ·right;exact⟨below t.place j,by simp only[h,Y9],eq_of_beq h⟩
 ·left;simp only[h,Y3,hd,Zfi,YF]
theorem below_at{xs:Array Nat}(h:Rs xs){i j:Nat}(e:xs[i]?=some j):below xs j=i:=by
 obtain⟨hi,e⟩:=Wt.mp e;obtain⟨a,b,c⟩:=ZeU h j;have hg:xs.getD i 0=j:=by simp[Array.getD,hi,e]
 have h1:¬ i<below xs j:=fun z=>by have:=b i z; omega
 have h2:¬ below xs j<i:=fun z=>by
  have h3:=h.lt z hi;have h4:=c _ (Yj _) (by omega);omega
 omega
theorem ZdT(h:Rs t.place){i j:Nat}(e:t.place[i]?=some j):t.slot j = .live i:=by
 unfold slot;simp only[below_at h e,e,V0,Y9]
theorem ZhN(hd:t.dummies = #[]){j:Nat}(h:j ∉ t.place.toList):t.slot j = .empty:=by
 rcases slot_of hd j with e | ⟨i,_,e⟩
 ·exact e
 ·exact absurd (by rw[<-YD] at e; exact Y2 e) h
theorem Zn2{j:Nat}(hr:Rs t.place)(h:t.slot j = .empty):j ∉ t.place.toList:=fun z=>by
 obtain⟨i,hi⟩:=WW.mp z;rw[YD] at hi;rw[ZdT hr hi] at h;cases h
theorem Zkq{f:Nat->Int}{h:Int}(hd:t.dummies = #[]):∀(F:Nat) (p:Probe) (n:Nat),n<F->p.dummy=none->t.slot (Zq t n p).j = .empty ->
  ∃k,k<=n/\(∀m,m<k->∃i,t.slot (Zq t m p).j = .live i/\(f i == h)=false) /\
   ((t.slot (Zq t k p).j = .empty/\probe.go t f h F p=some (.empty (Zq t k p).j none)) \/
    (∃i,t.slot (Zq t k p).j = .live i/\(f i == h)=true/\k<n/\probe.go t f h F p=some (.candidate (Zq t k p).j i (Zq t (k+1) p))))
 | 0,p,n,hn,_,_=>by omega
 | F+1,p,n,hn,hp,he=>by
  unfold probe.go;rcases slot_of hd p.j with e | ⟨i,e,_⟩
  ·refine⟨0,YU _,fun m hm=>by omega,.inl ⟨e,?_⟩⟩;rw[e,hp];rfl
  ·have hn0:n≠0:=by
    rintro rfl;rw[show Zq t 0 p=p from rfl,e] at he;cases he
   rw[e];cases hh:f i == h with
   | true =>
    refine⟨0,YU _,fun m hm=>by omega,.inr ⟨i,e,hh,by omega,?_⟩⟩;simp only[hh,Y9];rfl
   | false =>
    simp only[hh,Y3,YF];obtain⟨k,a,b,c⟩:=Zkq (f:=f) (h:=h) hd F (t.advance p) (n - 1) (by omega) (by rw[<-hp]; exact Zgc 1 p) (by
     have:Zq t n p=Zq t (n - 1) (t.advance p):=by
      obtain⟨n',rfl⟩:∃n',n=n' + 1:=⟨n - 1,by omega⟩;rfl
     rw[<-this]; exact he)
    refine⟨k+1,by omega,fun m hm => ?_,?_⟩
    ·cases m with
     | zero=>exact⟨i,e,hh⟩
     | succ m=>exact b m (by omega)
    ·rcases c with⟨c1,c2⟩ | ⟨i',c1,c2,c3,c4⟩
     ·exact .inl ⟨c1,c2⟩
     ·exact .inr ⟨i',c1,c2,by omega,c4⟩
end
end DL
end
section
namespace DL
open PySem PySem.SetTable
def Pth(t:SetTable)(p:Probe)(j:Nat):Prop:=∃n,(Zq t n p).j=j/\∀m,m<n->t.slot (Zq t m p).j≠.empty
structure TabP(t:SetTable)(es:List (Int×P9)):Prop where
 msk:Msk t.mask
 dum:t.dummies = #[]
 rs:Rs t.place
 len:t.place.size=es.length
 few:es.length * 5<t.mask * 3
 pth:∀q∈t.place.toList.zip es,Pth t (t.probeStart q.2.1) q.1
section
variable{t t':SetTable}{es:List (Int×P9)}
theorem Msk.le{m:Nat}(h:Msk m):7<=m/\m<=511/\m % 2=1:=by
 rcases h with rfl | rfl | rfl | rfl <;> decide
theorem TabP.room(T:TabP t es):es.length<=t.mask:=by
 have:=T.few;omega
theorem TabP.fits(T:TabP t es):t.fits es.length=true:=by
 have h:=T.room;have l:=T.len;have d:=T.dum;unfold SetTable.fits SetTable.fill;simp[l,d,h]
theorem TabP.gave(T:TabP t es):t.gaveWay=false:=by
 have:=T.msk.le;unfold SetTable.gaveWay;simp[this.2.2]
theorem Zhy(t:SetTable)(h:Int):(t.probeStart h).more<=9/\(t.probeStart h).i<=t.mask/\(t.probeStart h).perturb<2 ^ 64/\(t.probeStart h).dummy=none:=by
 refine⟨ZiC _ _,?_,Zht h,rfl⟩;have:=Ue (bits h) (show 0<t.mask+1 by omega);show bits h % (t.mask+1)<=t.mask;omega
theorem TabP.ends(T:TabP t es)(h:Int):∃N,N<=10 * (13+t.mask)/\t.slot (Zq t N (t.probeStart h)).j = .empty:=by
 obtain⟨e,h1,h2⟩:=Zl0 (l:=t.place.toList) (m:=t.mask) (by rw[Yq,T.len]; exact T.room);obtain⟨a,b,c,_⟩:=Zhy t h;obtain⟨k,h3,h4⟩:=Zr3 T.msk a b c h1;exact⟨k,h3,by rw[h4]; exact ZhN T.dum h2⟩
theorem ZnB(h:t.mask=t'.mask)(p:Probe):t.advance p=t'.advance p:=by
 unfold advance;rw[h]
theorem ZeM(h:t.mask=t'.mask):∀(n:Nat) (p:Probe),Zq t n p=Zq t' n p
 | 0,p=>rfl
 | n+1,p=>by rw[Zq,Zq,ZnB h,ZeM h]
theorem Pth.mono{p:Probe}{j:Nat}(h:t.mask=t'.mask)(hs:∀x,t.slot x≠.empty->t'.slot x≠.empty)(q:Pth t p j):Pth t' p j:=by
 obtain⟨n,a,b⟩:=q;exact⟨n,by rw[<-ZeM h]; exact a,fun m hm=>by rw[<-ZeM h]; exact hs _ (b m hm)⟩
theorem Zf6(hd:t.dummies = #[])(hr:Rs t.place)(x:Nat):t.slot x≠.empty ↔ x∈t.place.toList:=by
 constructor
 ·intro h;exact Ql fun z=>h (ZhN hd z)
 ·intro h z;exact Zn2 hr z h
theorem Zeb{α:Type}(xs:Array α)(p:Nat)(x:α):(insertAt xs p x).toList=xs.toList.take p++x :: xs.toList.drop p:=by
 unfold insertAt;simp[Ub,List.extract];rw[WA (by simp)]
theorem ZlP{α β:Type}{xs:List α}{ys:List β}(h:xs.length=ys.length)(p:Nat)(x:α)(y:β)(q:α×β)(hq:q∈(xs.take p++x :: xs.drop p).zip (ys.take p++y :: ys.drop p)):q=(x,y)\/q∈xs.zip ys:=by
 rw[UV (by simp[h]),Ut] at hq;rcases Wu.mp hq with z | z
 ·right;rw[<-WX p xs,<-WX p ys,UV (by simp[h])];exact WI _ z
 ·rcases Yl.mp z with z | z
  ·exact .inl z
  ·right;rw[<-WX p xs,<-WX p ys,UV (by simp[h])];exact Y0 _ z
theorem TabP.put(T:TabP t es){j:Nat}{h:Int}{v:P9}(hj:t.slot j = .empty)(hp:Pth t (t.probeStart h) j)(pl:Bool)(hf:(es.length+1) * 5<t.mask * 3) :
  TabP { (t.put j).1 with plain:=pl } (es.take (t.put j).2++(h,v) :: es.drop (t.put j).2):=by
 have hd:(t.put j).1.dummies = #[]:=by
  show (if has t.dummies j then _ else t.dummies)=_;rw[T.dum,Zfi];rfl
 have hpl:(t.put j).1.place.toList=t.place.toList.take (below t.place j)++j :: t.place.toList.drop (below t.place j):=Zeb _ _ _;have hrs:Rs (t.put j).1.place:=ZjN T.rs (Zgz (.inl hj));have hl:(es.take (t.put j).2++(h,v) :: es.drop (t.put j).2).length=es.length+1:=by
  simp only[YW,Yw,Y8,Qf];omega
 have hsl:∀x,t.slot x≠.empty->({ (t.put j).1 with plain:=pl }:SetTable).slot x≠.empty:=fun x hx=>by
  rw[Zf6 (show ({ (t.put j).1 with plain:=pl }:SetTable).dummies = #[] from hd) (show Rs ({ (t.put j).1 with plain:=pl }:SetTable).place from hrs)];have:=(Zf6 T.dum T.rs x).mp hx;show x∈(t.put j).1.place.toList;rw[hpl,Wu,Yl];rw[<-WX (below t.place j) t.place.toList,Wu] at this;rcases this with z | z
  ·exact .inl z
  ·exact .inr (.inr z)
 refine⟨T.msk,hd,hrs,?_,?_,fun q hq => ?_⟩
 ·have h1:=congrArg List.length hpl;rw[Yq] at h1;rw[hl];show (t.put j).1.place.size=_;rw[h1];have:=T.len;simp only[YW,Yw,Y8,Qf,Yq];omega
 ·rw[hl];exact hf
 ·have hq':q∈(t.place.toList.take (below t.place j)++j :: t.place.toList.drop (below t.place j)).zip (es.take (below t.place j)++(h,v) :: es.drop (below t.place j)):=by
   rw[<-hpl];exact hq
  rcases ZlP (by rw[Yq]; exact T.len) _ _ _ q hq' with rfl | z
  ·exact Pth.mono (t:=t) rfl hsl hp
  ·exact Pth.mono (t:=t) rfl hsl (T.pth q z)
end
section
variable{t:SetTable}{owner:Array (Option Nat)}
def ZeB(t:SetTable)(owner:Array (Option Nat))(p:Probe)(j:Nat):Prop:=∃n,(Zq t n p).j=j/\∀m,m<n->∃k,owner[(Zq t m p).j]?=some (some k)
def stP(t:SetTable)(i pert:Nat):Probe:={ j:=i,more:=runEnd t.mask i - i,i,perturb:=pert,dummy:=none }
theorem ZpM{m i:Nat}(h:i<=m):runEnd m i<=m/\i<=runEnd m i:=by
 unfold runEnd;split <;> omega
theorem getD_some{j:Nat}(h:j<owner.size)(hn:(owner.getD j (some 0)).isNone=false):∃k,owner[j]?=some (some k):=by
 rw[Ys h];simp only[Array.getD,h,dite_true] at hn;have hn':owner[j].isNone=false:=hn;cases e:owner[j] with
 | none=>rw[e] at hn'; cases hn'
 | some k=>exact⟨k,rfl⟩
theorem getD_none{j:Nat}(hn:(owner.getD j (some 0)).isNone=true):owner[j]?=some none:=by
 by_cases h:j<owner.size
 ·rw[Ys h];simp only[Array.getD,h,dite_true] at hn;have hn':owner[j].isNone=true:=hn;cases e:owner[j] with
  | none=>rfl
  | some k=>rw[e] at hn'; cases hn'
 ·simp[Array.getD,h] at hn
theorem ZkG(ho:owner.size=t.mask+1):∀(F i pert:Nat),i<=t.mask->(∃n,n<F/\owner[(lq t.mask n (i,pert)).1]?=some none) ->
  ∃j,layClean.free t.mask owner F i pert=some j/\owner[j]?=some none/\ZeB t owner (stP t i pert) j
 | 0,i,pert,_,⟨n,h,_⟩=>by omega
 | F+1,i,pert,hi,⟨n,h1,h2⟩=>by
  have hr:=ZpM hi;have lin:∀m,m<=runEnd t.mask i - i->(Zq t m (stP t i pert)).j=i+m:=fun m hm=>by
   rw[ZfI m _ hm];rfl
  unfold layClean.free;cases hf:(List.range (runEnd t.mask i+1 - i)).find? fun k=>(owner.getD (i+k) (some 0)).isNone with
  | some k =>
   rw[List.find?_range_eq_some] at hf;obtain⟨f1,f2,f3⟩:=hf;have hk:k<runEnd t.mask i+1 - i:=Q3.mp f2;refine⟨i+k,rfl,getD_none f1,k,lin k (by omega),fun m hm => ?_⟩;rw[lin m (by omega)];have:=f3 m hm;exact getD_some (by omega) (by simpa using this)
  | none =>
   have hall:∀m,m<=runEnd t.mask i - i->∃k,owner[i+m]?=some (some k):=fun m hm=>by
    have:=List.find?_eq_none.mp hf m (Q3.mpr (by omega));exact getD_some (by omega) (Bool.eq_false_iff.mpr this)
   have hn0:n≠0:=by
    rintro rfl;obtain⟨k,e⟩:=hall 0 (YU _);rw[Nat.add_zero] at e;have h2':owner[i]?=some none:=h2;rw[e] at h2';cases h2'
   obtain⟨n',rfl⟩:∃n',n=n' + 1:=⟨n - 1,by omega⟩;have hle:(leap t.mask i pert).1<=t.mask:=by
    have:=Ue (i * 5+1+pert / 32) (show 0<t.mask+1 by omega);show (i * 5+1+pert / 32) % (t.mask+1)<=t.mask;omega
   obtain⟨j,a,b,n2,c,d⟩:=ZkG ho F (leap t.mask i pert).1 (leap t.mask i pert).2 hle ⟨n',by omega,h2⟩;have hlp:Zq t (runEnd t.mask i - i+1) (stP t i pert)=stP t (leap t.mask i pert).1 (leap t.mask i pert).2:=Zgl (stP t i pert);refine⟨j,a,b,runEnd t.mask i - i+1+n2,by rw[Zck,hlp]; exact c,fun m hm => ?_⟩;by_cases hmm:m<runEnd t.mask i - i+1
   ·rw[lin m (by omega)];exact hall m (by omega)
   ·have e:m=runEnd t.mask i - i+1+(m - (runEnd t.mask i - i+1)):=by omega
    rw[e,Zck,hlp];exact d _ (by omega)
structure OwnOk(t:SetTable)(hs:List Int)(owner:Array (Option Nat))(k:Nat):Prop where
 size:owner.size=t.mask+1
 perm:(owner.toList.filterMap id).Perm (List.range k)
 way:∀j i,owner[j]?=some (some i)->∃h,hs[i]?=some h/\ZeB t owner (t.probeStart h) j
theorem ZjT{k:Nat}:∀(l:List (Option Nat)) (j:Nat),l[j]?=some none->((l.set j (some k)).filterMap id).Perm (k :: l.filterMap id)
 | [],j,h=>by simp at h
 | x :: l,0,h=>by
  simp at h;subst h;simp
 | x :: l,j+1,h=>by
  have ih:=ZjT (k:=k) l j (by simpa using h);cases x with
  | none=>simpa using ih
  | some y =>
   simp only[List.set_cons_succ,WS,id];exact (ih.cons y).trans (.swap k y _)
theorem Zjg:∀(l:List (Option Nat)),(∀j,j<l.length->l[j]?≠some none)->l.length<=(l.filterMap id).length
 | [],_=>Yj _
 | none :: l,h=>absurd rfl (h 0 (by simp))
 | some x :: l,h=>by
  have:=Zjg l fun j hj=>by
   have:=h (j+1) (by simpa using hj);simpa using this
  simpa using this
theorem OwnOk.step{hs:List Int}{k:Nat}{h:Int}(O:OwnOk t hs owner k)(hm:Msk t.mask)(hk:k<=t.mask)(hh:hs[k]?=some h) :
  ∃j,layClean.free t.mask owner (turns t.mask) (bits h % (t.mask+1)) (bits h)=some j/\OwnOk t hs (owner.setIfInBounds j (some k)) (k+1):=by
 obtain⟨e,he⟩:∃e:Nat,owner[e]?=some none:=by
  refine Ql fun z => ?_;have h1:=Zjg owner.toList fun j _ hj=>z ⟨j,by rw[<-YD]; exact hj⟩;rw[O.perm.length_eq,Wa,Yq,O.size] at h1;omega
 have hel:e<=t.mask:=by
  have:=(Wt.mp he).1;rw[O.size] at this;omega
 have hi:bits h % (t.mask+1)<=t.mask:=by
  have:=Ue (bits h) (show 0<t.mask+1 by omega);omega
 obtain⟨n,h1,h2,h3⟩:=ZkU hm (bits h % (t.mask+1),bits h) hi (Zht h) hel;obtain⟨j,a,b,c⟩:=ZkG O.size (turns t.mask) _ _ hi ⟨n,by unfold turns; omega,by rw[h3]; exact he⟩;have hj:j<owner.size:=(Wt.mp b).1;have keep:∀x i,owner[x]?=some (some i)->(owner.setIfInBounds j (some k))[x]?=some (some i):=fun x i hx=>by
  rw[Uo];rw[Yh]
  ·exact hx
  ·rintro rfl;rw[b] at hx;cases hx
 have keepP:∀{p:Probe} {x:Nat},ZeB t owner p x->ZeB t (owner.setIfInBounds j (some k)) p x:=fun⟨n,u,v⟩=>⟨n,u,fun m hm=>let ⟨i,hi⟩:=v m hm; ⟨i,keep _ _ hi⟩⟩;refine⟨j,a,by simp[O.size],?_,fun x i hx => ?_⟩
 ·rw[Array.toList_setIfInBounds];refine (ZjT (k:=k) owner.toList j (by rw[YD]; exact b)).trans ?_;refine (O.perm.cons k).trans ?_;rw[Uh];exact (List.perm_append_singleton k _).symm
 ·rw[Uo] at hx;by_cases hjx:j=x
  ·subst hjx;rw[Yf rfl,Yf hj] at hx;cases hx;exact⟨h,hh,keepP c⟩
  ·rw[Yh hjx] at hx;obtain⟨h',u,v⟩:=O.way x i hx;exact⟨h',u,keepP v⟩
theorem ZlM{hs:List Int}(hm:Msk t.mask)(hl:hs.length<=t.mask):∃owner,layClean t.mask hs.toArray=some owner/\OwnOk t hs owner hs.length:=by
 have main:∀(rest done:List Int) (owner:Array (Option Nat)),hs=done++rest->OwnOk t hs owner done.length ->
   ∃owner',rest.foldl (fun (acc:Option (Array (Option Nat)×Nat)) h=>do
    let (owner,k) <-acc
    let j <-layClean.free t.mask owner (turns t.mask) (bits h % (t.mask+1)) (bits h)
    pure (owner.setIfInBounds j (some k),k+1)) (some (owner,done.length))=some (owner',hs.length)/\OwnOk t hs owner' hs.length:=by
  intro rest
  induction rest with
  | nil =>
   intro done owner e O;rw[Qm] at e;subst e;exact⟨owner,rfl,O⟩
  | cons h rest ih =>
   intro done owner e O;have hl':done.length<=t.mask:=by
    have:=congrArg List.length e;simp at this;omega
   obtain⟨j,a,O'⟩:=O.step hm hl' (h:=h) (by rw[e]; simp);rw[List.foldl_cons];have:(do
    let (owner,k) <-(some (owner,done.length):Option (Array (Option Nat)×Nat))
    let j <-layClean.free t.mask owner (turns t.mask) (bits h % (t.mask+1)) (bits h)
    pure (owner.setIfInBounds j (some k),k+1))=some (owner.setIfInBounds j (some done.length),done.length+1):=by
    show (layClean.free t.mask owner (turns t.mask) (bits h % (t.mask+1)) (bits h)).bind _=_;rw[a];rfl
   rw[this];have:=ih (done++[h]) (owner.setIfInBounds j (some done.length)) (by simp[e]) (by rw[YW]; exact O');rw[YW] at this;exact this
 obtain⟨owner,a,O⟩:=main hs [] (Array.replicate (t.mask+1) none) rfl ⟨by simp,by
  rw[Array.toList_replicate];have:∀n,(List.replicate n (none:Option Nat)).filterMap id=[]:=fun n=>by
   induction n with
   | zero=>rfl
   | succ n ih=>rw[List.replicate_succ,WS]; exact ih
  rw[this];exact .refl _,fun j i hx=>by
   rw[Array.getElem?_replicate] at hx;split at hx <;> cases hx⟩
 refine⟨owner,?_,O⟩;unfold layClean;rw[<-Array.foldl_toList];have a':=congrArg (Option.map (·.1)) a;exact a'
end
theorem ZrE(owner:Array (Option Nat)):((List.range owner.size).filterMap fun j=>(owner.getD j none).map (j,·)).map (·.2)=owner.toList.filterMap id:=by
 rw[List.map_filterMap];have e:owner.toList=(List.range owner.size).map fun j=>owner.getD j none:=by
  refine Vc (by simp) fun i h1 h2 => ?_;simp at h1;simp[Array.getD,h1]
 rw[e,Uq];congr 1;funext j;simp only[Option.map_map,Function.comp,id];cases owner.getD j none <;> rfl
theorem Zma{t:SetTable}{es:Array (Int×P9)}{M:Nat}{w:Nat}(hw:sizeAbove w - 1=M)(hm:Msk M)(hl:es.size * 5<M * 3) :
  ∃t1 order,t.relaid (es.map (·.1)) w=some (t1,order)/\TabP t1 (order.filterMap (es[·]?)).toList/\(order.filterMap (es[·]?)).toList.Perm es.toList/\t1.led=t.led:=by
 obtain⟨owner,a,O⟩:=ZlM (t:={ t with mask:=M }) (hs:=(es.map (·.1)).toList) hm (by simp; omega);rw[Array.toArray_toList] at a;have a':layClean M (es.map (·.1))=some owner:=a;have hsz:owner.size=M+1:=O.size;have hn:(es.map (·.1)).toList.length=es.size:=by simp
 have hp:=O.perm;rw[hn] at hp;rw[<-ZrE owner,hsz] at hp;generalize hL:(List.range (M+1)).filterMap (fun j=>(owner.getD j none).map (j,·))=live at hp;have hlive:∀x∈live,owner[x.1]?=some (some x.2):=fun x hx=>by
  rw[<-hL] at hx;obtain⟨j,hj,h2⟩:=Vr.mp hx;obtain⟨i,h3,rfl⟩:=Y7.mp h2;by_cases hjs:j<owner.size
  ·simp only[Array.getD,hjs,dite_true] at h3;rw[Ys hjs];exact congrArg some h3
  ·simp[Array.getD,hjs] at h3
 have hin:∀x∈live,x.2<es.size:=fun x hx=>by
  have:=hp.mem_iff.mp (YZ.mpr ⟨x,hx,rfl⟩);simpa using this
 refine⟨{ mask:=M,place:=(live.map (·.1)).toArray,dummies:=#[],finger:=t.finger,led:=t.led,moves:=t.movedTo M,plain:=t.plain },(live.map (·.2)).toArray,?_,?_,?_,rfl⟩
 ·unfold relaid laid;rw[hw,a'];show some _=some _;rw[hL]
 ·have hfm:((live.map (·.2)).toArray.filterMap (es[·]?)).toList=live.map fun x=>es.getD x.2 (0,.none):=by
   rw[Array.toList_filterMap];show (live.map (·.2)).filterMap (es[·]?)=_;rw[Uq];clear hL hp
   induction live with
   | nil=>rfl
   | cons x l ih =>
    have h1:=hin x Yv;rw[WS,Yn];simp only[Function.comp,Ys h1];rw[ih (fun y hy=>hlive y (Yo _ hy)) fun y hy=>hin y (Yo _ hy)];simp[Array.getD,h1]
  have hlen:live.length=es.size:=by
   have:=hp.length_eq;simpa using this
  have hrs:Rs (live.map (·.1)).toArray:=by
   unfold Rs;rw[<-hL];exact List.Pairwise.sublist (ZdO _ _) List.pairwise_lt_range
  refine⟨hm,rfl,hrs,?_,?_,?_⟩
  ·rw[hfm];simp
  ·rw[hfm,Ym,hlen];exact hl
  ·rw[hfm];intro q hq;have hz:(live.map (·.1)).zip (live.map fun x=>es.getD x.2 (0,.none))=live.map fun x=>(x.1,es.getD x.2 (0,.none)):=List.zip_map' ..;have hq':q∈(live.map (·.1)).zip (live.map fun x=>es.getD x.2 (0,.none)):=hq;rw[hz] at hq';obtain⟨x,hx,rfl⟩:=YZ.mp hq';have h1:=hlive x hx;obtain⟨h,h2,n,h3,h4⟩:=O.way _ _ h1;have h5:(es.getD x.2 (0,.none)).1=h:=by
    have:=hin x hx;rw[YD,Array.getElem?_map,Ys this] at h2;simp only[Vm,Yx] at h2;simp[Array.getD,this,h2]
   dsimp only;rw[h5];have hmask:∀n p,Zq ({ mask:=M,place:=(live.map (·.1)).toArray,dummies:=#[],finger:=t.finger,led:=t.led,moves:=t.movedTo M,plain:=t.plain }:SetTable) n p=Zq { t with mask:=M } n p:=fun n p=>ZeM (t:={ mask:=M,place:=(live.map (·.1)).toArray,dummies:=#[],finger:=t.finger,led:=t.led,moves:=t.movedTo M,plain:=t.plain }) (t':={ t with mask:=M }) rfl n p;refine⟨n,by rw[hmask]; exact h3,fun m hm => ?_⟩;obtain⟨k,h6⟩:=h4 m hm;rw[Zf6 rfl hrs];rw[hmask];show _∈live.map (·.1);refine YZ.mpr ⟨((Zq { t with mask:=M } m (({ t with mask:=M }:SetTable).probeStart h)).j,k),?_,rfl⟩;rw[<-hL];refine Vr.mpr ⟨(Zq { t with mask:=M } m (({ t with mask:=M }:SetTable).probeStart h)).j,?_,?_⟩
   ·have:=(Wt.mp h6).1;rw[hsz] at this;exact Q3.mpr this
   ·obtain⟨u,v⟩:=Wt.mp h6;simp[Array.getD,u,v]
 ·rw[Array.toList_filterMap];show ((live.map (·.2)).filterMap (es[·]?)).Perm _;refine (hp.filterMap _).trans (Vp ?_);exact filterMap_getElem?_range es
end DL
end
section
namespace DL
open PySem PySem.Spec PyProof.Rows L2 PySem.W SO
section
variable(prog:P7)(w:World)(B:Addr->Prop)
inductive ElP(h:Heap):List (Int×P9)->List (List Str)->Prop
 | nil:ElP h [] []
 | cons {es:List (Int×P9)} {ps:List (List Str)} (b:Addr) (its:List P9) (p:List Str):B b->IsTup h b its.toArray->StrsAre its p->ElP h es ps->ElP h ((tupleKeyHash (strKind prog w) p,.ref b) :: es) (p :: ps)
def SetP(h:Heap)(a:Addr)(ps:List (List Str)):Prop :=
 ∃o es ep t,h.get? a=some o/\o.ExactSet/\o.data = .set es ep t/\t.led = !byT w/\TabP t es.toList/\ElP prog w B h es.toList ps/\ps.Nodup/\es.size<128
end
section
variable{prog:P7}{w:World}{B:Addr->Prop}{A:P6}{E:P9->P1->Prop}{s:P1}{a:Addr}
theorem Zix:∀{vs:List P9} {p:List Str},StrsAre vs p->ItemsAre (strKind prog w) p vs
 | _,_,.nil => .nil
 | _,_,.cons x t r => .cons (strKind_is _ _ _ _) (Zix r)
theorem Zda{h:Heap}{b:Addr}{its:List P9}{p:List Str}(hx:IsTup h b its.toArray)(sx:StrsAre its p):IsTupleKey (strKind prog w) h p b:=by
 obtain⟨o,h1,h2,n,h3⟩:=hx;exact⟨o,_,n,h1,h2,h3,Zix sx⟩
theorem ElP.mono{h h':Heap}:∀{es:List (Int×P9)} {ps:List (List Str)},ElP prog w B h es ps->(∀b its,IsTup h b its->IsTup h' b its)->ElP prog w B h' es ps
 | _,_,.nil,_ => .nil
 | _,_,.cons b its p y t r e,k => .cons b its p y (k b _ t) r (e.mono k)
theorem ElP.length{h:Heap}{es:List (Int×P9)}{ps:List (List Str)}(e:ElP prog w B h es ps):es.length=ps.length:=by
 induction e with
 | nil=>rfl
 | cons b its p _ _ _ _ ih=>simp[ih]
theorem ElP.at{h:Heap}{es:List (Int×P9)}{ps:List (List Str)}(e:ElP prog w B h es ps):∀(i:Nat),i<es.length->∃b its p,es[i]?=some (tupleKeyHash (strKind prog w) p,.ref b)/\ps[i]?=some p/\IsTup h b its.toArray/\StrsAre its p/\B b:=by
 induction e with
 | nil=>intro i hi; simp at hi
 | cons b its p y t r _ ih =>
  intro i hi;cases i with
  | zero=>exact⟨b,its,p,rfl,rfl,t,r,y⟩
  | succ i=>exact ih i (by simpa using hi)
theorem ElP.perm{h:Heap}{es es':List (Int×P9)}(pm:es.Perm es'):∀{ps:List (List Str)},ElP prog w B h es ps->∃ps',ElP prog w B h es' ps'/\ps.Perm ps':=by
 induction pm with
 | nil=>intro ps e; exact⟨ps,e,.refl _⟩
 | cons x _ ih =>
  intro ps e;cases e with
  | cons b its p y t r e =>
   obtain⟨ps',h1,h2⟩:=ih e;exact⟨p :: ps',.cons b its p y t r h1,h2.cons p⟩
 | swap x y l =>
  intro ps e;cases e with
  | cons b its p y t r e =>
   cases e with
   | cons b' its' p' y' t' r' e=>exact⟨p' :: p :: _,.cons b' its' p' y' t' r' (.cons b its p y t r e),.swap p' p _⟩
 | trans _ _ ih1 ih2 =>
  intro ps e;obtain⟨qs,h1,h2⟩:=ih1 e;obtain⟨rs,h3,h4⟩:=ih2 h1;exact⟨rs,h3,h2.trans h4⟩
theorem ElP.pls{h:Heap}{es:List (Int×P9)}{ps:List (List Str)}(e:ElP prog w B h es ps):PlsAre h (es.map (·.2)) ps:=by
 induction e with
 | nil=>trivial
 | cons b its p _ t r _ ih=>exact⟨⟨b,its,rfl,t,r⟩,ih⟩
theorem ElP.bs{h:Heap}{es:List (Int×P9)}{ps:List (List Str)}(e:ElP prog w B h es ps):∀v∈es.map (·.2),∃b,v = .ref b/\B b:=by
 induction e with
 | nil=>intro v hv; cases hv
 | cons b its p y t r _ ih =>
  intro v hv;rcases Yl.mp hv with rfl | hv
  ·exact⟨b,rfl,y⟩
  ·exact ih v hv
theorem seqItems?_tup{x:Addr}{its:Array P9}{Q:Option (Array P9)->P1->Prop}(hx:IsTup s.heap x its)(h:Q (some its) s):wpAny (model prog w) A (seqItems? (.ref x)) Q E s:=by
 obtain⟨o,h1,h2,n,h3⟩:=hx;exact Qv h1 h3 h
theorem Ziv{x:Addr}{its:List P9}{p:List Str}{Q:Bool->P1->Prop}(hx:IsTup s.heap x its.toArray)(sx:StrsAre its p)(h:Q false s):wpAny (model prog w) A (ofAClassStatement 8 (.ref x)) Q E s:=by
 unfold ofAClassStatement;refine Ya (WM (T:="tuple") hx.typeIs ?_);dsimp only;refine Ya (Yb ?_);refine Yr (fun z=>absurd z (by decide)) (fun _ => ?_);refine Ya (seqItems?_tup hx ?_);dsimp only;refine Ya ?_;rw[<-Vy];refine V2 _ (fun rest r s'=>r.1=none/\s'=s/\∃p,StrsAre rest p) _ ?_ ?_ _ _ ⟨rfl,rfl,p,sx⟩
 ·rintro v rest r s' ⟨hr,rfl,p',hp⟩;cases hp with
  | cons y t hp =>
   refine Ya (m:=ofAClassStatement 7 (.str y t)) (Yb ?_);refine Yr (fun z=>absurd z (by decide)) (fun _=>Yb ⟨rfl,rfl,_,hp⟩)
 ·rintro⟨r1,r2⟩ s' ⟨hr,rfl,_⟩;simp only at hr;subst hr;exact Yb h
theorem ZoZ{x:Addr}{its:List P9}{p:List Str}{es:List (Int×P9)}{Q:Bool->P1->Prop}(hx:IsTup s.heap x its.toArray)(sx:StrsAre its p)(el:∀v∈es.map (·.2),∃b its p,v = .ref b/\IsTup s.heap b its.toArray/\StrsAre its p)(h:Q false s) :
  wpAny (model prog w) A (searchCouldBeSeen (.ref x) (es.map (·.2))) Q E s:=by
 unfold searchCouldBeSeen;refine Ya ?_;refine V2 _ (fun rest r s'=>r.1=none/\s'=s/\∀v∈rest,∃b its p,v = .ref b/\IsTup s.heap b its.toArray/\StrsAre its p) _ ?_ ?_ _ _ ⟨rfl,rfl,el⟩
 ·rintro v rest r s' ⟨hr,rfl,hall⟩;obtain⟨b,jts,q,rfl,h1,h2⟩:=hall v Yv;have hn:∀v∈rest,∃b its p,v = .ref b/\IsTup s'.heap b its.toArray/\StrsAre its p:=fun v hv=>hall v (Yo _ hv);dsimp only;refine Yr (fun _=>Yb ⟨rfl,rfl,hn⟩) (fun _ => ?_);refine Ya (wpAny_eqIsQuiet_tuple (Zda (w:=w) hx sx) ?_);refine Yr (fun z=>absurd z (by decide)) (fun _ => ?_);refine Ya (wpAny_eqIsQuiet_tuple (Zda (w:=w) h1 h2) ?_);refine Yr (fun z=>absurd z (by decide)) (fun _ => ?_);refine Ya (Ziv hx sx ?_);refine Yr (fun z=>absurd z (by decide)) (fun _ => ?_);refine Ya (Ziv h1 h2 ?_);exact Yr (fun z=>absurd z (by decide)) (fun _=>Yb ⟨rfl,rfl,hn⟩)
 ·rintro⟨r1,r2⟩ s' ⟨hr,rfl,_⟩;simp only at hr;subst hr;exact Yb h
theorem ZpD{α β:Type}{xs:List α}{ys:List β}{i:Nat}{x:α}{y:β}(h1:xs[i]?=some x)(h2:ys[i]?=some y):(x,y)∈xs.zip ys:=by
 refine WW.mpr ⟨i,?_⟩;rw[List.getElem?_zip_eq_some];exact⟨h1,h2⟩
theorem Zqt{x:Addr}{its:List P9}{p:List Str}{o:Obj}{es:Array (Int×P9)}{ep:Nat}{t:SetTable}{ps:List (List Str)}{Q:SetFound->P1->Prop}(hu:A.units<cLine)(hx:IsTup s.heap x its.toArray)(sx:StrsAre its p)
  (ho:s.heap.get? a=some o) (hd:o.data = .set es ep t) (T:TabP t es.toList) (el:ElP prog w B s.heap es.toList ps)
  (h1:p∈ps->Q (.there none) s) (h2:∀j,p ∉ ps->t.slot j = .empty->Pth t (t.probeStart (tupleKeyHash (strKind prog w) p)) j->Q (.free j false) s) {N:Nat} (hN:N<=10 * (13+t.mask)) (hNe:t.slot (Zq t N (t.probeStart (tupleKeyHash (strKind prog w) p))).j = .empty) :
  ∀(d m F:Nat) (stand:Option SetTable.Probe),N - m=d->m<=N->d<F->stand.getD (t.probeStart (tupleKeyHash (strKind prog w) p))=Zq t m (t.probeStart (tupleKeyHash (strKind prog w) p)) ->
   (∀m',m' < m->t.slot (Zq t m' (t.probeStart (tupleKeyHash (strKind prog w) p))).j≠.empty) ->
   (∀(i j n:Nat),t.place[i]?=some j->ps[i]?=some p->(Zq t n (t.probeStart (tupleKeyHash (strKind prog w) p))).j=j->(∀m',m' < n->t.slot (Zq t m' (t.probeStart (tupleKeyHash (strKind prog w) p))).j≠.empty)->m<=n) ->
   wpAny (model prog w) A (setSearchFrom a (.ref x) (tupleKeyHash (strKind prog w) p) true F stand) Q E s:=by
 have fits:t.fits es.size=true:=by rw[<-Yq]; exact T.fits
 have hsz:t.place.size=es.size:=by rw[T.len,Yq]
 generalize hh:tupleKeyHash (strKind prog w) p=h at *;generalize hp0:t.probeStart h=p0 at *;have hdum:p0.dummy=none:=by rw[<-hp0]; exact (Zhy t h).2.2.2
 have way:∀(i:Nat),ps[i]?=some p->∃j n,t.place[i]?=some j/\es[i]?.map (fun e=>e.1)=some h/\(Zq t n p0).j=j/\∀m',m' < n->t.slot (Zq t m' p0).j≠.empty:=by
  intro i hi;have hil:i<es.toList.length:=by rw[el.length]; exact (Yk.mp hi).1
  obtain⟨b,jts,q,e1,e2,_⟩:=el.at i hil;rw[hi] at e2;cases e2;rw[hh] at e1;have hip:i<t.place.size:=by rw[hsz,<-Yq]; exact hil
  have e3:t.place.toList[i]?=some t.place[i]:=by rw[YD,Ys hip]
  obtain⟨n,c1,c2⟩:=T.pth _ (ZpD e3 e1);rw[hp0] at c1 c2;refine⟨t.place[i],n,Ys hip,?_,c1,c2⟩;rw[<-YD,e1];rfl
 intro d
 induction d using Nat.strongRecOn with
 | ind d ih =>
  intro m F stand hd' hm hF hst hne hlater;obtain⟨F',rfl⟩:∃F',F=F' + 1:=⟨F - 1,by omega⟩;unfold setSearchFrom;refine Ya (Wh ho hd fits ?_);dsimp only;rw[T.gave];refine Yr (fun z=>absurd z (by decide)) (fun _ => ?_);rw[hp0,hst];have hgo:=Zkq (t:=t) (f:=fun i=>((es[i]?.map (·.1)).getD 0)) (h:=h) T.dum (10 * SetTable.turns t.mask) (Zq t m p0) (N - m) (by unfold SetTable.turns; omega) (by rw[Zgc]; exact hdum) (by rw[<-Zck,show m+(N - m)=N by omega]; exact hNe);obtain⟨k,g1,g2,g3⟩:=hgo;simp only[<-Zck] at g2 g3;have live:∀m',m' < m+k->t.slot (Zq t m' p0).j≠.empty:=fun m' hm'=>by
   by_cases z:m' < m
   ·exact hne m' z
   ·obtain⟨i,y,_⟩:=g2 (m' - m) (by omega);rw[show m+(m' - m)=m' by omega] at y;rw[y];exact fun c=>by cases c
  have notAhead:∀(i j n:Nat),t.place[i]?=some j->ps[i]?=some p->(Zq t n p0).j=j->(∀m',m' < n->t.slot (Zq t m' p0).j≠.empty)->m+k<=n:=by
   intro i j n e1 e2 e3 e4;have hmn:=hlater i j n e1 e2 e3 e4;refine Ql fun z => ?_;obtain⟨i',y1,y2⟩:=g2 (n - m) (by omega);rw[show m+(n - m)=n by omega,e3,ZdT T.rs e1] at y1;cases y1;obtain⟨_,_,_,e5,_⟩:=way i e2;rw[e5] at y2;simp at y2
  split
  rotate_left
  ·rename_i hmet;have hmet':SetTable.probe t (fun i=>((es[i]?.map (fun e=>e.1)).getD 0)) h (Zq t m p0)=none:=by
    rename_i hx';cases hp:SetTable.probe t (fun i=>((es[i]?.map (fun e=>e.1)).getD 0)) h (Zq t m p0) with
    | none=>rfl
    | some met=>exact absurd hp (hmet met)
   rcases g3 with⟨y1,y2⟩ | ⟨i,y1,y2,y3,y4⟩
   ·exact absurd (hmet'.symm.trans y2) (fun z=>by cases z)
   ·exact absurd (hmet'.symm.trans y4) (fun z=>by cases z)
  rename_i met hmet;rcases g3 with⟨y1,y2⟩ | ⟨i,y1,y2,y3,y4⟩
  ·have e:=hmet.symm.trans y2;cases e;dsimp only;refine Yb (h2 _ (fun hm' => ?_) y1 ⟨m+k,rfl,live⟩);obtain⟨i,hi⟩:=WW.mp hm';obtain⟨j,n,e1,_,e3,e4⟩:=way i hi;have h5:=notAhead i j n e1 hi e3 e4;rcases Nat.lt_or_eq_of_le h5 with z | z
   ·exact e4 _ z y1
   ·rw[z,e3,ZdT T.rs e1] at y1;cases y1
  ·have e:=hmet.symm.trans y4;cases e;dsimp only;have hi:t.place[i]?=some (Zq t (m+k) p0).j:=by
    rcases slot_of T.dum (Zq t (m+k) p0).j with e | ⟨i',e,e'⟩
    ·rw[e] at y1; cases y1
    ·rw[e] at y1;cases y1;exact e'
   have hil:i<es.size:=by rw[<-hsz]; exact (Wt.mp hi).1
   obtain⟨b,jts,q,e1,e2,e3,e4,_⟩:=el.at i (by rw[Yq]; exact hil);have e1':es[i]?=some (tupleKeyHash (strKind prog w) q,.ref b):=by rw[<-YD]; exact e1
   refine Yr (fun _=>Ya (ZoZ hx sx ?c (Yr (fun z=>absurd z (by decide)) (fun _ => ?r1)))) (fun _ => ?r2)
   case c =>
    intro v hv;obtain⟨e,he,rfl⟩:=YZ.mp hv;rw[Array.toList_filter] at he;obtain⟨i2,hi2⟩:=WW.mp (UT.mp he).1;obtain⟨b2,jts2,q2,f1,f2,f3,f4,_⟩:=el.at i2 (Yk.mp hi2).1;rw[hi2] at f1;cases f1;exact⟨b2,jts2,q2,rfl,f3,f4⟩
   all_goals
    rw[e1'];dsimp only;refine Ya (YM (wpAny_eqBool_tuple (knd:=strKind prog w) hu (Zda e3 e4) (Zda hx sx) ?_));refine Ya (Wh ho hd fits ?_);dsimp only;by_cases hq:q=p
    ·rw[YN hq];refine Yr (fun _=>Yb (h1 ?_)) (fun z=>absurd (by decide) z);rw[<-hq];exact Y2 e2
    ·rw[YS hq];refine Yr (fun z=>absurd z (by decide)) (fun _ => ?_);have hsm:t.sameMemory t.moves t.mask=some true:=by simp[SetTable.sameMemory]
     rw[hsm];dsimp only;rw[Yf rfl,y1];dsimp only;rw[e1'];dsimp only;refine Ya (wpAny_isSame_ref_self (Ya (Yb ?_)));rw[Yf rfl];dsimp only;refine Yr (fun z=>absurd z (by decide)) (fun _ => ?_);refine ih (N - (m+(k+1))) (by omega) (m+(k+1)) F' (some _) rfl (by omega) (by omega) rfl (fun m' hm' => ?_) ?_
     ·by_cases z:m' < m+k
      ·exact live m' z
      ·rw[show m'=m+k by omega,y1];exact fun c=>by cases c
     ·intro i' j n f1 f2 f3 f4;have h5:=notAhead i' j n f1 f2 f3 f4;rcases Nat.lt_or_eq_of_le h5 with z | z
      ·omega
      ·rw[z,f3,ZdT T.rs f1] at y1;cases y1;rw[e2] at f2;exact absurd (Option.some.inj f2) hq
theorem Zr4{x:Addr}{its:List P9}{p:List Str}{Q:Bool->P1->Prop}(hx:IsTup s.heap x its.toArray)(sx:StrsAre its p)(h:∀b,Q b s):wpAny (model prog w) A (hashByValue 8 (.ref x)) Q E s:=by
 unfold hashByValue;refine Ya (Ud hx.typeIs PySem.F.slot_tuple_hash.lookup ?_);dsimp only;refine Ya (seqItems?_tup hx ?_);refine Ya ?_;show wpAny _ _ (forIn its.toArray _ _) _ _ s;rw[<-Vy];refine V2 _ (fun rest r s'=>s'=s/\(∃p,StrsAre rest p)) _ ?_ ?_ _ _ ⟨rfl,p,sx⟩
 ·rintro v rest r s' ⟨rfl,p',hp⟩;cases hp with
  | cons y t hp =>
   refine Ya (m:=hashByValue 7 (.str y t)) (Yb ?_);exact Yr (fun _=>Yb (Yb (h _))) (fun _=>Yb ⟨rfl,_,hp⟩)
 ·rintro⟨r1,r2⟩ s' ⟨rfl,_⟩;cases r1 with
  | none=>exact Yb (h _)
  | some b=>exact Yb (h _)
theorem Zf2{h h':Heap}{b:Addr}{its:Array P9}{o:Obj}{es:Array (Int×P9)}{ep:Nat}{t:SetTable}(x:IsTup h b its)(ho:h.get? a=some o)(hd:o.data = .set es ep t)(hs:Heap.SameBut a h h'):IsTup h' b its:=by
 obtain⟨o',h1,h2,n,h3⟩:=x;refine⟨o',(hs.2 b ?_).trans h1,h2,n,h3⟩;rintro rfl;rw[ho] at h1;cases h1;rw[hd] at h3;cases h3
theorem Zo2{m n:Nat}(hm:Msk m)(h1:n * 5<m * 3)(h2:¬ (n+1) * 5<m * 3)(h3:n+1<128):∃M,Msk M/\SetTable.sizeAbove (SetTable.grown (n+1)) - 1=M/\(n+1) * 5<M * 3/\SetTable.sizeAbove (SetTable.grown (n+1))<=sizeLine:=by
 rw[YG];rcases hm with rfl | rfl | rfl | rfl
 ·obtain rfl:n=4:=by omega
  exact⟨31,.inr (.inl rfl),by decide,by decide,by decide⟩
 ·obtain rfl:n=18:=by omega
  exact⟨127,.inr (.inr (.inl rfl)),by decide,by decide,by decide⟩
 ·obtain rfl:n=76:=by omega
  exact⟨511,.inr (.inr (.inr rfl)),by decide,by decide,by decide⟩
 ·omega
theorem Zlw{x:Addr}{its:List P9}{p:List Str}{ps:List (List Str)}{Q:Bool->P1->Prop}(hu:A.units<cLine)(hS:SetP prog w B s.heap a ps)(hB:B x)(hx:IsTup s.heap x its.toArray)(sx:StrsAre its p)(hr:ps.length+1<128)
  (h:∀h' ps' b,Heap.SameBut a s.heap h'->SetP prog w B h' a ps'->(∀y,y∈ps' ↔ y∈ps\/y=p)->ps'.length<=ps.length+1->Q b { s with heap:=h' }) :
  wpAny (model prog w) A (setAddHashed a (.ref x) (tupleKeyHash (strKind prog w) p)) Q E s:=by
 obtain⟨o,es,ep,t,ho,hxs,hd,hled,T,el,hn,hb⟩:=id hS;have fits:t.fits es.size=true:=by rw[<-Yq]; exact T.fits
 have hsz:es.size=ps.length:=by rw[<-Yq]; exact el.length
 unfold setAddHashed setAddHashedIn;refine YM (Ya (Wh ho hd fits ?_));dsimp only;refine Yr (fun z=>absurd z (by show ¬ (false && _ && _)=true; simp)) (fun _ => ?_);unfold setSearch;obtain⟨N,hN,hNe⟩:=T.ends (tupleKeyHash (strKind prog w) p);have hmk:=T.msk.le;refine Ya (Zqt hu hx sx ho hd T el (fun hm => ?_) (fun j hm hj hp => ?_) hN hNe N 0 100000 none (by omega) (YU _) (by omega) rfl (fun m' hm'=>by omega) (fun _ _ _ _ _ _ _=>YU _))
 ·dsimp only;refine Yb ?_;have e:s = { s with heap:=s.heap }:=by cases s; rfl
  rw[e];exact h s.heap ps false (Heap.SameBut.refl a s.heap) hS (fun y=>⟨.inl,fun z=>z.elim id fun z=>z ▸ hm⟩) (Vg _)
 ·dsimp only;refine Ya (Wh ho hd fits ?_);dsimp only;have hzi:∀(q:Nat),(SetTable.insertAt es q (tupleKeyHash (strKind prog w) p,Value.ref x)).toList=es.toList.take q++(tupleKeyHash (strKind prog w) p,Value.ref x) :: es.toList.drop q:=fun q=>Zeb _ _ _;have hzs:∀q,(SetTable.insertAt es q (tupleKeyHash (strKind prog w) p,Value.ref x)).size=es.size+1:=fun q=>by
   rw[<-Yq,hzi];simp only[YW,Yw,Y8,Qf,Yq];omega
  have hpm:∀q,((tupleKeyHash (strKind prog w) p,Value.ref x) :: es.toList).Perm (SetTable.insertAt es q (tupleKeyHash (strKind prog w) p,Value.ref x)).toList:=fun q=>by
   rw[hzi];refine List.Perm.trans ?_ List.perm_middle.symm;rw[WX]
  have b1:∀es1 t1,Heap.SameBut a s.heap (s.heap.update a (Obj.putSet es1 t1)):=fun es1 t1=>YB s.heap a (Obj.putSet es1 t1);have fin:∀(h':Heap) (es1:Array (Int×P9)) (t1:SetTable) (ep1:Nat),Heap.SameBut a s.heap h'->h'.get? a=some { o with data:=.set es1 ep1 t1 }->t1.led=t.led->TabP t1 es1.toList->((tupleKeyHash (strKind prog w) p,Value.ref x) :: es.toList).Perm es1.toList->Q true { s with heap:=h' }:=by
   intro h' es1 t1 ep1 sb hg hl T1 pm;have el0:ElP prog w B h' ((tupleKeyHash (strKind prog w) p,Value.ref x) :: es.toList) (p :: ps):=.cons x its p hB (Zf2 hx ho hd sb) sx (el.mono fun b jts z=>Zf2 z ho hd sb);obtain⟨ps1,el1,pp⟩:=ElP.perm pm el0;have hz1:es1.size=es.size+1:=by
    have:=pm.length_eq;simp at this;omega
   refine h h' ps1 true sb ⟨_,es1,ep1,t1,hg,hxs,rfl,by rw[hl]; exact hled,T1,el1,pp.nodup_iff.mp (Wd.mpr ⟨hm,hn⟩),by omega⟩ (fun y => ?_) ?_
   ·rw[<-pp.mem_iff,Yl];exact⟨Or.symm,Or.symm⟩
   ·rw[<-pp.length_eq];simp
  have go:∀(pl:Bool),wpAny (model prog w) A (do
    storeSet a (SetTable.insertAt es (t.put j).2 (tupleKeyHash (strKind prog w) p,Value.ref x)) { (t.put j).1 with plain:=pl }
    if (!false && SetTable.tooFull { (t.put j).1 with plain:=pl })=true then do
      setRelay a (SetTable.grown (es.size+1))
      pure true
     else pure true) Q E s:=by
   intro pl;refine Ya (VR ho hd ?_ (by rw[hzs,YG]; omega));have o1:(s.heap.update a (Obj.putSet (SetTable.insertAt es (t.put j).2 (tupleKeyHash (strKind prog w) p,Value.ref x)) { (t.put j).1 with plain:=pl })).get? a=some { o with data:=.set (SetTable.insertAt es (t.put j).2 (tupleKeyHash (strKind prog w) p,Value.ref x)) (ep+1) { (t.put j).1 with plain:=pl } }:=by
    have q:=YI (Obj.putSet (SetTable.insertAt es (t.put j).2 (tupleKeyHash (strKind prog w) p,Value.ref x)) { (t.put j).1 with plain:=pl }) ho (by rw[Vx _ _ hd]; rfl);rwa[Vx _ _ hd] at q
   have hfill:SetTable.fill { (t.put j).1 with plain:=pl }=es.size+1:=by
    show (SetTable.insertAt t.place _ j).size+(if SetTable.has t.dummies j then _ else t.dummies).size=_;rw[T.dum,Zfi];have h1:=congrArg List.length (Zeb t.place (SetTable.below t.place j) j);have h2:=T.len;simp only[YW,Yw,Y8,Qf,Yq] at h1 h2;simp only[YF,Y3];rw[h1];have:(#[]:Array Nat).size=0:=rfl;omega
   by_cases hfl:(es.size+1) * 5<t.mask * 3
   ·refine Yr (fun z => ?_) (fun _ => ?_)
    ·exfalso;unfold SetTable.tooFull at z;rw[hfill] at z;have z':¬ (es.size+1) * 5<t.mask * 3:=by
      have z2:(!false && decide ((es.size+1) * 5 ≥ t.mask * 3))=true:=z;simp at z2;omega
     exact z' hfl
    ·refine Yb (fin _ _ _ _ (b1 _ _) o1 rfl ?_ (hpm _));rw[hzi];exact T.put hj hp pl (by rw[Yq]; exact hfl)
   ·refine Yr (fun _ => ?_) (fun z => ?_)
    ·have hfew:=T.few;rw[Yq] at hfew;obtain⟨M,hM,e1,e2,e3⟩:=Zo2 T.msk hfew hfl (by omega);generalize hes1:SetTable.insertAt es (t.put j).2 (tupleKeyHash (strKind prog w) p,Value.ref x)=es1 at o1;have hz1:es1.size=es.size+1:=by rw[<-hes1,hzs]
     have hf1:SetTable.fits { (t.put j).1 with plain:=pl } es1.size=true:=by
      unfold SetTable.fits;rw[hfill,hz1];have h1:=congrArg List.length (Zeb t.place (SetTable.below t.place j) j);have h2:=T.len;simp only[YW,Yw,Y8,Qf,Yq] at h1 h2;have h3:({ (t.put j).1 with plain:=pl }:SetTable).place.size=es.size+1:=by
       show (SetTable.insertAt t.place (SetTable.below t.place j) j).size=_;omega
      have h4:({ (t.put j).1 with plain:=pl }:SetTable).mask=t.mask:=rfl;rw[h3,h4];simp;omega
     obtain⟨t1,ord,r1,r2,r3,r4⟩:=Zma (t:={ (t.put j).1 with plain:=pl }) (es:=es1) e1 hM (by rw[hz1]; exact e2);unfold setRelay;refine Ya (Ya (Wh (s:={ s with heap:=s.heap.update a (Obj.putSet es1 { (t.put j).1 with plain:=pl }) }) o1 rfl hf1 ?_));dsimp only;refine Yr (fun z=>absurd z (by omega)) (fun _ => ?_);have hz2:(ord.filterMap (es1[·]?)).size=es1.size:=by
      have:=r3.length_eq;rw[Yq,Yq] at this;exact this
     refine Ya (VV (a:=(ord.filterMap (es1[·]?),t1)) ?_ ?_)
     ·rw[r1];show (if ((ord.filterMap (es1[·]?)).size != es1.size)=true then _ else pure (ord.filterMap (es1[·]?),t1))=_;rw[hz2,UF];rfl
     ·dsimp only;refine VR (s:={ s with heap:=s.heap.update a (Obj.putSet es1 { (t.put j).1 with plain:=pl }) }) o1 rfl ?_ (by rw[hz2,hz1,YG]; omega);have o2:((s.heap.update a (Obj.putSet es1 { (t.put j).1 with plain:=pl })).update a (Obj.putSet (ord.filterMap (es1[·]?)) t1)).get? a=some { o with data:=.set (ord.filterMap (es1[·]?)) (ep+1+1) t1 }:=by
       have q:=YI (Obj.putSet (ord.filterMap (es1[·]?)) t1) o1 (by rw[Vx _ t1 rfl]; rfl);rwa[Vx _ t1 rfl] at q
      refine Yb (fin _ _ _ _ ((b1 _ _).trans (YB _ a _)) o2 r4 r2 ?_);have:=hpm (t.put j).2;rw[hes1] at this;exact this.trans r3.symm
    ·exfalso;unfold SetTable.tooFull at z;rw[hfill] at z;have z2:¬ (!false && decide ((es.size+1) * 5 ≥ t.mask * 3))=true:=z;simp at z2;omega
  by_cases hpl:(t.put j).1.plain=true
  ·refine Yr (fun _ => ?_) (fun z=>absurd hpl z);refine Ya (Zr4 hx sx fun b => ?_);cases b with
   | true =>
    have e:(t.put j).1 = { (t.put j).1 with plain:=true }:=by
     have:∀u:SetTable,u.plain=true->u = { u with plain:=true }:=fun u hu'=>by cases u; simp at hu'; subst hu'; rfl
     exact this _ hpl
    have:=go true;rw[<-e] at this;exact this
   | false=>exact go false
  ·refine Yr (fun z=>absurd z hpl) (fun _ => ?_);refine Ya (Yb ?_);have e:(t.put j).1 = { (t.put j).1 with plain:=false }:=by
    have:∀u:SetTable,¬ u.plain=true->u = { u with plain:=false }:=fun u hu'=>by
     cases u with
     | mk a b c d e f g=>cases g with
      | true=>exact absurd rfl hu'
      | false=>rfl
    exact this _ hpl
   have:=go false;rw[<-e] at this;exact this
end
end DL
end
section
namespace DL
open PySem PySem.Spec PyProof.Rows L2
section
variable{prog:P7}{w:World}{B:Addr->Prop}{A:P6}{E:P9->P1->Prop}{s:P1}{a:Addr}
theorem Zld{h:Heap}:∀{vs:List P9} {ps:List (List Str)},PlsAre h vs ps->∀(i:Nat) (v:P9),vs[i]?=some v->∃b its,v = .ref b/\IsTup h b its.toArray/\StrsAre its (ps.getD i [])
 | vs,ps,x,i,v,e=>by
  obtain⟨hi,e'⟩:=Yk.mp e;obtain⟨b,its,h1,h2,h3⟩:=x.get i hi;rw[Ye,e] at h1;exact⟨b,its,h1,h2,h3⟩
theorem Zrm{I:Addr}{fp wr:List Addr}{G:Array GenState->Array GenState->Prop}{n:Nat}{P:Nat->P9->Prop}{St:Nat->P1->Prop}{R:Result->P1->Prop}(hu:A.units+1<cLine)(W:WalksS prog w A.in1 I fp wr G n P St){a:Addr}(ha:a ∉ fp)(hwr:∀i s,St i s->∀b∈wr,∃o,s.heap.get? b=some o/\o.cls≠.type "tuple")(val:Nat->List Str)(hn:n<128)
  : ∀(k i:Nat) (s:P1) (xs:List (List Str)),n - i=k->i<=n->St i s->SetP prog w B s.heap a xs->(∀i v,P i v->∃b its,v = .ref b/\IsTup s.heap b its.toArray/\StrsAre its (val i)/\B b)->(∀y,y∈xs ↔ ∃j,j<i/\y=val j)->xs.length<=i ->
   (∀s' xs',Moved (a :: wr) G s s'->SetP prog w B s'.heap a xs'->(∀y,y∈xs' ↔ ∃j,j<n/\y=val j)->R (.ok (.ret .none)) s') ->
   codeAny (model prog w) A (.builtin "set.update.loop" ⟨[.ref a,.ref I],[]⟩) R s:=by
 have haw:a ∉ wr:=fun z=>ha (W.sub _ z);have sub:∀b∈wr,b∈a :: wr:=fun b z=>Yo _ z;have keepT:∀{i:Nat} {s s':P1} {b:Addr} {its:Array P9},St i s->Moved wr G s s'->IsTup s.heap b its->IsTup s'.heap b its:=by
  rintro i s s' b its hst m ⟨o,h1,h2,h3⟩;refine⟨o,m.heap b o (fun hb => ?_) h1,h2,h3⟩;obtain⟨o',g1,g2⟩:=hwr i s hst b hb;rw[h1] at g1;cases g1;exact g2 h2
 have keepS:∀{i:Nat} {s s':P1} {xs:List (List Str)},St i s->Moved wr G s s'->SetP prog w B s.heap a xs->SetP prog w B s'.heap a xs:=by
  rintro i s s' xs hst m ⟨o,es,ep,t,ho,h1,h2,h3,h4,h5,r⟩;exact⟨o,es,ep,t,m.heap a o haw ho,h1,h2,h3,h4,h5.mono fun b its z=>keepT hst m z,r⟩
 intro k
 induction k with
 | zero =>
  intro i s xs hk hi hst hS hP hm _ hR;obtain rfl:i=n:=by omega
  refine Ww Vz ?_;rw[Wi Qx _];show wpAny _ A.in1 (pyNext (.ref I) >>= _) _ _ s;exact Ya (W.done s _ _ hst fun s' m=>Yb (hR s' xs (m.mono sub) (keepS hst m hS) hm))
 | succ k ih =>
  intro i s xs hk hi hst hS hP hm hl hR;have hlt:i<n:=by omega
  refine Ww Vz ?_;rw[Wi Qx _];show wpAny _ A.in1 (pyNext (.ref I) >>= _) _ _ s;refine Ya (W.item i s _ _ hlt hst fun v s1 hPv hst1 m1 => ?_);have hP1:∀i v,P i v->∃b its,v = .ref b/\IsTup s1.heap b its.toArray/\StrsAre its (val i)/\B b:=fun i v z=>by
   obtain⟨b,its,e,h1,h2⟩:=hP i v z;exact⟨b,its,e,keepT hst m1 h1,h2⟩
  obtain⟨b,its,rfl,hb1,hb2,hb3⟩:=hP1 i v hPv;show wpAny _ A.in1 (holding [Value.ref b] (setAdd a (.ref b)) >>= _) _ _ s1;refine Ya (YM ?_);unfold setAdd;refine YM (Ya (wpAny_pyHash_tuple (knd:=strKind prog w) hu (Zda hb1 hb2) ?_));refine Zlw (s:={ s1 with toks:=s1.toks+((val i).length+1) }) hu (show SetP prog w B s1.heap a xs from keepS hst m1 hS) hb3 hb1 hb2 (by omega) fun h' xs' _ b1 b2 b3 b4 => ?_;obtain⟨oa,_,_,_,hoa,_,hda,_⟩:=keepS hst m1 hS;refine Yb ⟨Qd Qx _,ih (i+1) _ xs' (by omega) hlt (W.frame _ s1 _ _ hst1 (WY _ _) fun b hb o e => ?_) b2 (fun i v z => ?_) (fun y => ?_) (by omega) fun s2 xs2 m2 c1 c2 => ?_⟩
  ·rw[b1.2 b fun z=>ha (by rw[<-z]; exact hb)];exact e
  ·obtain⟨c,jts,e,h1,h2⟩:=hP1 i v z;exact⟨c,jts,e,Zf2 h1 hoa hda b1,h2⟩
  ·rw[b3,hm];constructor
   ·rintro (⟨j,h1,h2⟩ | h)
    ·exact⟨j,by omega,h2⟩
    ·exact⟨i,by omega,h⟩
   ·rintro⟨j,h1,h2⟩;by_cases hj:j<i
    ·exact .inl ⟨j,hj,h2⟩
    ·have:j=i:=by omega
     exact .inr (by rw[h2,this])
  ·refine hR s2 xs2 (Moved.trans W.gtrans ((m1.mono sub).then_heap (WY _ _) fun b o hb e => ?_) m2) c1 c2;rw[b1.2 b fun z=>hb (by rw[z]; exact Yv)];exact e
theorem ZhL{l:Addr}{items:Array P9}{ss:List (List Str)}{Q:P9->P1->Prop}(hh:A.handled=none)(hl:s.heap.IsList l items)(hu:A.units+16<cLine)(hi:PlsAre s.heap items.toList ss)(hB:∀b,Value.ref b∈items.toList->B b)(hb:items.size<128)
  (h:∀(h':Heap) (tk:Nat) (xs:List (List Str)),SetP prog w B h' s.heap.objs.size xs->(∀y,y∈xs ↔ y∈ss)->(∀b o,b<s.heap.objs.size->s.heap.get? b=some o->h'.get? b=some o)->Q (.ref s.heap.objs.size) { s with heap:=h',toks:=tk }) :
  wpAny (model prog w) A (call (.type "set") [.ref l]) Q E s:=by
 obtain⟨c,tl,hmro⟩:=WZ.mro;have hmade:=WZ.made;have hsub:=WZ.sub;have h1:=WZ.notType;have h2:=WZ.canCreate;have hct:=PySem.F.typeCall_set_1 (.ref l);obtain⟨O,hO⟩:∃O:Obj,O = { cls:=.type "set",dict:=none,data:=.set #[] 0 (.fresh 0 0 (!byT w)) }:=⟨_,rfl⟩;have hnew:codeAny (model prog w) A.in1 (.call (.builtin "set.__new__") ⟨[.type "set",.ref l],[]⟩) (wants (fun obj s1=>obj = .ref s.heap.objs.size/\s1 = { s with heap:=s.heap.push O }) E) s:=ZoN (.ref l) ⟨rfl,by rw[hO]⟩;refine wpAny_call (codeAny_of_tree ?_);show wpAny _ _ (callAny (.type "set") _) _ _ _;refine Yb ⟨Code.quiet_builtin _ (by decide +kernel),Ww PySem.F.entry_type_call ?_⟩;rw[Around.under_plain (weight_type_call_type "set" [.ref l] []) rfl]
 repeat (any_goals (first | assumption | wp_step))
 refine V9 hnew fun r s1 hr => ?_;cases r with
 | error e=>exact hr
 | ok fl =>
  cases fl with
  | ret obj =>
   obtain⟨rfl,rfl⟩:=hr;have hS:(s.heap.push O).get? s.heap.objs.size=some O:=Yi _ (by rw[hO]; rfl);have hT:Shared.TypeIs { s with heap:=s.heap.push O } (.ref s.heap.objs.size) "set":=⟨_,hS,by rw[hO]⟩;have hli:=WZ.init.lookup;have hbi:=WZ.init.bind (.ref s.heap.objs.size)
   repeat (any_goals (first | assumption | wp_step))
   have hbody:wpAny (model prog w) A.in1.in1 (Builtin.«set.__init__» ⟨[.ref s.heap.objs.size,.ref l],[]⟩) (fun fin s'=>match fin with
     | .done f=>wants (fun r s2=>r = .none/\∃h' tk xs,s2 = { s with heap:=h',toks:=tk }/\SetP prog w B h' s.heap.objs.size xs/\(∀y,y∈xs ↔ y∈ss)/\∀b o,b<s.heap.objs.size->s.heap.get? b=some o->h'.get? b=some o) E (.ok f) s'
     | .again c'=>c'.quiet=true/\codeAny (model prog w) A.in1 c' (wants (fun r s2=>r = .none/\∃h' tk xs,s2 = { s with heap:=h',toks:=tk }/\SetP prog w B h' s.heap.objs.size xs/\(∀y,y∈xs ↔ y∈ss)/\∀b o,b<s.heap.objs.size->s.heap.get? b=some o->h'.get? b=some o) E) s')
     (fun e s'=>wants (fun r s2=>r = .none/\∃h' tk xs,s2 = { s with heap:=h',toks:=tk }/\SetP prog w B h' s.heap.objs.size xs/\(∀y,y∈xs ↔ y∈ss)/\∀b o,b<s.heap.objs.size->s.heap.get? b=some o->h'.get? b=some o) E (.error e) s') { s with heap:=s.heap.push O }:=by
    obtain⟨ol,hol,hcl,nl,hdl⟩:=hl;obtain⟨ocls,odict,odata,oslots⟩:=ol;simp only at hcl hdl;subst hcl hdl hO;obtain⟨H1,hH1⟩:∃H1,H1=s.heap.push { cls:=.type "set",dict:=none,data:=.set #[] 0 (.fresh 0 0 (!byT w)) }:=⟨_,rfl⟩;rw[<-hH1] at hS hT ⊢;have hsz1:H1.objs.size=s.heap.objs.size+1:=by rw[hH1,Y5]
    have hlS:l<s.heap.objs.size:=Yg hol;have hol':H1.get? l=some { cls:=.type "list",dict:=odict,data:=.seq items nl,slots:=oslots }:=by rw[hH1]; exact Yc _ hol
    have hl1:H1.IsList l items:=⟨_,hol',rfl,nl,rfl⟩;have hk1:∀b o,s.heap.get? b=some o->H1.get? b=some o:=fun b o e=>by rw[hH1]; exact Yc _ e
    have hsls:=PySem.F.sub_list_set;have hslf:=PySem.F.sub_list_frozenset;have hne:(Value.type "list" == Value.type "dict")=false:=by decide
    unfold Builtin.«set.__init__» noKeywords Builtin.Frozenset.updateFrom;generalize hPI:pyIter=PI
    wp_walk
    subst hPI;refine Qp hl1 (Ya (wpAny_runValue ?_));have hh3:A.in1.in1.in1.handled=none:=by simp[hh]
    have hI:l≠H1.objs.size:=Yp (by rw[hsz1]; exact WC hlS);have hf:s.heap.objs.size ∉ [H1.objs.size,l]:=by
     simp only[Yl,YO,WL,Vf];exact⟨Yp (by rw[hsz1]; exact Va _),Qb hlS⟩
    have hlen:ss.length=items.size:=by
     have:=hi.length;simpa using this.symm
    refine Zrm (B:=B) (show A.units+1+1+1<cLine by omega) ((Walks.list hh3 _ l hI items).toS) hf (fun i s' hst b hb => ?_) (fun i=>ss.getD i []) hb (items.size - 0) 0 _ [] (by omega) (YU _) ⟨⟨_,Yi _ rfl,rfl,rfl⟩,hl1.push _⟩ ?_ (fun i v e => ?_) (fun y=>⟨(fun z=>by cases z),fun⟨j,z,_⟩=>by omega⟩) (Yj _) fun s' xs m hS' hm => ?_
    ·rw[YC] at hb;subst hb;obtain⟨⟨o,h1,h2,_⟩,_⟩:=hst;exact⟨o,h1,by rw[h2]; exact fun z=>by injection z with z; exact absurd z (by decide)⟩
    ·exact⟨_,#[],0,_,Yc _ hS,⟨rfl,rfl,rfl⟩,rfl,rfl,⟨.inl rfl,rfl,List.Pairwise.nil,rfl,(by show 0 * 5<7 * 3; decide),fun q hq=>by simp[SetTable.fresh] at hq⟩,.nil,WO,by decide⟩
    ·obtain⟨b,its,e1,⟨o,g1,g2⟩,e3⟩:=Zld hi i v (by rw[YD]; exact e);exact⟨b,its,e1,⟨o,Yc _ (hk1 b o g1),g2⟩,e3,hB b (by rw[<-e1]; exact Y2 (by rw[YD]; exact e))⟩
    ·obtain⟨h',g',d',tk',os'⟩:=s';have eg:g'=s.gens:=m.gens;have ed:d'=s.drawn:=m.drawn;have eo:os'=s.os:=m.os;subst eg ed eo;show wpAny _ _ _ _ _ _;refine Yb ?_;show wpAny _ _ (ret Value.none) _ _ _;refine Yb ⟨rfl,h',tk',xs,rfl,hS',fun y => ?_,fun b o hb' e => ?_⟩
     ·rw[hm];constructor
      ·rintro⟨j,hj,rfl⟩;rw[Ye,Yd (by omega)];exact Vd _
      ·intro hy;obtain⟨j,hj,rfl⟩:=Vj hy;exact⟨j,by omega,by rw[Ye,Yd hj]; rfl⟩
     ·refine m.heap b o ?_ (Yc _ (hk1 b o e));simp only[Yl,YO,WL,Vf];exact⟨Yp hb',Yp (by rw[hsz1]; exact WC hb')⟩
   refine V9 (codeAny_call_builtin WZ.init.plain PySem.F.entry_set_init (check_set_init_1 hT hbody)) fun r2 s2 hr2 => ?_;cases r2 with
   | error e=>exact hr2
   | ok fl2 =>
    cases fl2 with
    | ret r =>
     obtain⟨rfl,h',tk,xs,rfl,g1,g2,g3⟩:=hr2
     repeat (any_goals (first | assumption | wp_step))
     exact h _ _ xs g1 g2 g3
    | _=>exact hr2.elim
  | _=>exact hr.elim
end
end DL
end
section
namespace DL
open PySem PySem.Spec PyProof.Rows L2 PySem.W SO
section
variable{prog:P7}{w:World}{B:Addr->Prop}{A:P6}{E:P9->P1->Prop}{s:P1}{a:Addr}
theorem Zr9{h:Heap}{vs vs':List P9}(p:vs.Perm vs'):∀{xs:List (List Str)},PlsAre h vs xs->∃xs',PlsAre h vs' xs'/\xs.Perm xs':=by
 induction p with
 | nil=>intro xs x; exact⟨xs,x,.refl _⟩
 | cons v _ ih =>
  intro xs x;cases xs with
  | nil=>exact x.elim
  | cons p xs =>
   obtain⟨xs',h1,h2⟩:=ih x.2;exact⟨p :: xs',⟨x.1,h1⟩,h2.cons p⟩
 | swap u v l =>
  intro xs x
  match xs,x with
  | p :: q :: xs,x=>exact⟨q :: p :: xs,⟨x.2.1,x.1,x.2.2⟩,.swap q p _⟩
  | [p],x=>exact x.2.elim
  | [],x=>exact x.elim
 | trans _ _ ih1 ih2 =>
  intro xs x;obtain⟨ys,h1,h2⟩:=ih1 x;obtain⟨zs,h3,h4⟩:=ih2 h1;exact⟨zs,h3,h2.trans h4⟩
theorem Zn4{o:Obj}{es:Array (Int×P9)}{ep:Nat}{t:SetTable}{Q:P9->P1->Prop}(ho:s.heap.get? a=some o)(hx:o.ExactSet)(hd:o.data = .set es ep t)(hT:TabI w t es.size)(hb:es.size<scanBound)
  (h:∀(h':Heap) (d:Drawn) (I:Addr) (fp:List Addr) (St:Nat->P1->Prop) (L:List P9),(∀b o,s.heap.get? b=some o->h'.get? b=some o)->s.heap.objs.size<=I->(∀b∈fp,b=a\/s.heap.objs.size<=b) ->
   (∀A':P6,A'.handled=none->WalksS prog w A' I fp [I] (fun x y=>y=x) L.length (fun i v=>L[i]?=some v) St)->St 0 { s with heap:=h',drawn:=d }->L.Perm (es.toList.map (·.2))->Q (.ref I) { s with heap:=h',drawn:=d }) :
  wpAny (model prog w) A (pyIter (.ref a)) Q E s:=by
 have haS:a<s.heap.objs.size:=Yg ho;have hty:s.TypeIs (.ref a) "set":=⟨_,ho,hx.1⟩;refine Q1 hty PySem.F.slot_set_iter (YE PySem.F.slot_set_iter hty SF.entryI ?_ (PySem.F.args_set_iter_1 _));unfold Builtin.«frozenset.__iter__»;refine Ya (m:=Builtin.Frozenset.slot0 _ _) (Yb ?_);dsimp only;unfold Builtin.Frozenset.sizeOf;refine Ya (Ya (Ul ho hd hT.fits (Yb ?_)));refine Ya (m:=setDrawn a) (Ya (Wh ho hd hT.fits ?_));dsimp only;refine Ya (ZeG (Yb ?_));have hz:es.toList.length=es.size:=Yq;refine Yr (fun hc => ?_) (fun hc => ?_)
 ·-- drawn
  refine Ya (Zin es.size (List.range es.size) s (by simp) fun q d hq => ?_);refine Ya (VH ?_ (by
   rw[Ym,hq.length_eq,Wa];exact UG hb))
  have hqb:∀(i p:Nat),q[i]?=some p->p<es.size:=fun i p e=>by
   have:=hq.mem_iff.mp (Y2 e);simpa using this
  generalize hTo:({ cls:=.type "tuple",data:=.seq (q.map fun (i:Nat)=>rawInt (i:Int)).toArray }:Obj)=oT;refine Ya (m:=setEpoch a) (Ya (Wh (s:={ s with heap:=s.heap.push oT,drawn:=d }) (Yc _ ho) hd hT.fits (Yb ?_)));refine Ya (YV (Yb ⟨_,rfl, "set_iterator",_,⟨_,Yi _ rfl,rfl⟩,SF.slotN.lookup,?_⟩));have hTg:(s.heap.push oT).get? s.heap.objs.size=some oT:=Yi _ (by rw[<-hTo]; rfl);have hsz:(s.heap.push oT).objs.size=s.heap.objs.size+1:=Y5 ..;have hIT:(s.heap.push oT).objs.size≠s.heap.objs.size:=by omega
  have hIa:(s.heap.push oT).objs.size≠a:=Qb (by rw[hsz]; exact WC haS);have hL:(q.map fun i=>((es.toList[i]?).map (·.2)).getD .none).Perm (es.toList.map (·.2)):=by
   refine (hq.map _).trans (Vp ?_);rw[<-hz];exact map_getD (·.2) .none es.toList
  have hlen:(q.map fun i=>((es.toList[i]?).map (·.2)).getD .none).length=es.size:=by rw[Ym,hq.length_eq,Wa]
  refine h _ d _ [(s.heap.push oT).objs.size,s.heap.objs.size,a] (fun i s' => ∃f,ItS s'.heap (s.heap.push oT).objs.size a o es.size ep f i/\(f = .ref s.heap.objs.size/\s'.heap.get? s.heap.objs.size=some oT)) _ (fun b o e=>Yc _ (Yc _ e)) (show s.heap.objs.size<=(s.heap.push oT).objs.size by rw[hsz]; exact Vg _) (fun b hb' => ?_) (fun A' hA' => ?_) ?_ hL
  ·simp only[Yl,YO,WL] at hb';rcases hb' with rfl | rfl | rfl
   ·right; omega
   ·right; omega
   ·left; rfl
  ·rw[hlen];refine ZgN (F:=fun i f h'=>f = .ref s.heap.objs.size/\h'.get? s.heap.objs.size=some oT) hA' hd hT.fits hIa (by simp) (by simp) (fun i f h1 h2 hF hk=>⟨hF.1,hk _ (by simp) (YX hIT) _ hF.2⟩) (fun i s' f hi _ hF => ?_) (fun s' f _ hF => ?_)
   ·have hiq:i<q.length:=by rw[hq.length_eq,Wa]; exact hi
    have e1:q[i]?=some q[i]:=Yd hiq;have e2:=hqb i _ e1;have e3:es.toList[q[i]]?=some (es[q[i]]):=by rw[YD,Ys e2]
    refine⟨(es[q[i]]).2,.ref s.heap.objs.size,?_,.inr ⟨s.heap.objs.size,oT,(q.map fun (i:Nat)=>rawInt (i:Int)).toArray,0,q[i],(es[q[i]]).1,hF.1,rfl,hF.2,by rw[<-hTo],?_,?_⟩,rfl,hF.2⟩
    ·rw[Yz,e1];simp only[Vm,e3,Option.getD_some]
    ·rw[List.getElem?_toArray,Yz,e1];rfl
    ·rw[Ys e2]
   ·refine .inr ⟨s.heap.objs.size,oT,(q.map fun (i:Nat)=>rawInt (i:Int)).toArray,0,hF.1,hF.2,by rw[<-hTo],?_⟩;rw[List.getElem?_toArray];refine Qz ?_;rw[Ym,hq.length_eq,Wa];exact Yj _
  ·exact⟨_,⟨⟨_,Yi _ rfl,rfl,rfl⟩,Yc _ (Yc _ ho)⟩,rfl,Yc _ hTg⟩
 ·-- by its places
  have hc':¬ (!byT w && (!t.plain && decide (es.size > 1)))=true:=hc;refine Ya (Yb ?_);refine Ya (m:=setEpoch a) (Ya (Wh ho hd hT.fits (Yb ?_)));refine Ya (YV (Yb ⟨_,rfl, "set_iterator",_,⟨_,Yi _ rfl,rfl⟩,SF.slotN.lookup,?_⟩));have hIa:s.heap.objs.size≠a:=Qb haS;have hfp:∀b∈[s.heap.objs.size,a],b=a\/s.heap.objs.size<=b:=fun b hb'=>by
   simp only[Yl,YO,WL] at hb';rcases hb' with rfl | rfl
   ·right; omega
   ·left; rfl
  generalize hIo:({ cls:=.type "set_iterator",data:=.fields [rawInt 0,rawInt 0,Value.ref a,rawInt (es.size:Int),rawInt (ep:Int)].toArray }:Obj)=oI;have hIg:(s.heap.push oI).get? s.heap.objs.size=some oI:=Yi _ (by rw[<-hIo]; rfl);have X0:ItS (s.heap.push oI) s.heap.objs.size a o es.size ep (.int 0 0) 0:=⟨⟨_,hIg,by rw[<-hIo],by rw[<-hIo]; rfl⟩,Yc _ ho⟩;have es0:∀{h':Heap},({ s with heap:=h' }:P1) = { s with heap:=h',drawn:=s.drawn }:=fun {h'}=>by cases s; rfl
  rw[es0];by_cases hbt:byT w=true
  ·have hL:((pickOrder (w.params.setOrder a ep) es).toList.map (·.2)).Perm (es.toList.map (·.2)):=(ZoB _ es).map _;have hlen:((pickOrder (w.params.setOrder a ep) es).toList.map (·.2)).length=es.size:=by rw[hL.length_eq,Ym,hz]
   have hpl:(pickOrder (w.params.setOrder a ep) es).size=es.size:=by simpa using hlen
   refine h _ s.drawn _ [s.heap.objs.size,a] (fun i s' => ∃f,ItS s'.heap s.heap.objs.size a o es.size ep f i/\f = .int 0 0) _ (fun b o e=>Yc _ e) (Yj _) hfp (fun A' hA' => ?_) ⟨_,X0,rfl⟩ hL;rw[hlen];refine ZgN (F:=fun i f h'=>f = .int 0 0) hA' hd hT.fits hIa (by simp) (by simp) (fun i f h1 h2 hF hk=>hF) (fun i s' f hi ho' hF => ?_) (fun s' f ho' hF => ?_)
   ·have hi':i<(pickOrder (w.params.setOrder a ep) es).size:=by omega
    refine⟨((pickOrder (w.params.setOrder a ep) es)[i]).2,.int 0 0,?_,.inl ⟨0,0,hF,rfl,fun A E Q hQ=>Zg6 hbt ho' hd hT.fits ?_⟩,rfl⟩
    ·rw[Yz,YD,Ys hi']; rfl
    ·rw[Ys hi']; exact hQ
   ·refine .inl ⟨0,hF,fun A E Q hQ=>Zg6 hbt ho' hd hT.fits ?_⟩;rw[Wo (by omega)];exact hQ
  ·have hbf:byT w=false:=by simpa using hbt
   have h1:¬ (!t.plain && decide (es.size > 1))=true:=fun z=>hc' (by rw[hbf,z]; rfl);have hpl:t.place.size=es.size:=by
    have:=hT.fits;unfold SetTable.fits at this;rw[YJ] at this;exact eq_of_beq this.1
   have hrs:Rs t.place:=by
    by_cases hp:t.plain=true
    ·exact hT.plain hp
    ·have hz1:es.size<=1:=by
      rw[Bool.not_eq_true] at hp;rw[hp] at h1;simp at h1;omega
     unfold Rs;have hl1:t.place.toList.length<=1:=by rw[Yq]; omega
     match hm:t.place.toList,hl1 with
     | [],_=>exact .nil
     | [x],_=>exact VN _ _
   have hlen:(es.toList.map (·.2)).length=es.size:=by simp
   refine h _ s.drawn _ [s.heap.objs.size,a] (fun i s' => ∃f,ItS s'.heap s.heap.objs.size a o es.size ep f i/\∃k:Nat,f = .int k 0/\SetTable.below t.place k=i) (es.toList.map (·.2)) (fun b o e=>Yc _ e) (Yj _) hfp (fun A' hA' => ?_) ⟨_,X0,0,rfl,?_⟩ (.refl _)
   ·rw[hlen];refine ZgN (F:=fun i f h' => ∃k:Nat,f = .int k 0/\SetTable.below t.place k=i) hA' hd hT.fits hIa (by simp) (by simp) (fun i f h1 h2 hF hk=>hF) (fun i s' f hi ho' hF => ?_) (fun s' f ho' hF => ?_)
    ·obtain⟨k,rfl,hk⟩:=hF;have hi':i<t.place.size:=by omega
     refine⟨(es[i]).2,.int ((t.place[i]+1:Nat)) 0,?_,.inl ⟨k,t.place[i]+1,rfl,rfl,fun A E Q hQ=>Zhr hbf ho' hd hT h1 ?_⟩,_,rfl,?_⟩
     ·rw[Yz,YD,Ys hi]; rfl
     ·rw[hk,Ys hi,Ys hi']; exact hQ
     ·have e2:=ZrI hrs hi';have e3:t.place.getD i 0=t.place[i]:=by simp[Array.getD,hi']
      rw[e3] at e2;exact e2
    ·obtain⟨k,rfl,hk⟩:=hF;refine .inl ⟨k,rfl,fun A E Q hQ=>Zhr hbf ho' hd hT h1 ?_⟩;rw[hk,Wo (Yj _)];exact hQ
   ·exact ZrH hrs
theorem SetP.kept{h h':Heap}{xs:List (List Str)}(x:SetP prog w B h a xs)(hk:∀b o,h.get? b=some o->h'.get? b=some o):SetP prog w B h' a xs:=by
 obtain⟨o,es,ep,t,ho,h1,h2,h3,h4,h5,r⟩:=x;exact⟨o,es,ep,t,hk _ _ ho,h1,h2,h3,h4,h5.mono fun b its ⟨u,g1,g2⟩=>⟨u,hk _ _ g1,g2⟩,r⟩
theorem SetP.typeIs{xs:List (List Str)}(x:SetP prog w B s.heap a xs):s.TypeIs (.ref a) "set":=by
 obtain⟨o,es,ep,t,ho,hx,_⟩:=x;exact⟨o,ho,hx.1⟩
theorem SetP.len{h:Heap}{xs:List (List Str)}(x:SetP prog w B h a xs):xs.length<128/\xs.Nodup/\a<h.objs.size:=by
 obtain⟨o,es,ep,t,ho,hx,hd,hled,T,el,hn,hb⟩:=x;have:=el.length;rw[Yq] at this;exact⟨by omega,hn,Yg ho⟩
theorem ZrV{o:Obj}{es:Array (Int×P9)}{ep:Nat}{t:SetTable}{R:List P9->P1->Prop}(hh:A.handled=none)(ho:s.heap.get? a=some o)(hx:o.ExactSet)(hd:o.data = .set es ep t)(hT:TabI w t es.size)(hb:es.size<scanBound)
  (h:∀(h':Heap) (tk:Nat) (d:Drawn) (vs:List P9),(∀b o,s.heap.get? b=some o->h'.get? b=some o)->vs.Perm (es.toList.map (·.2))->R vs { s with heap:=h',toks:=tk,drawn:=d }) :
  wpAny (model prog w) A (collect (.ref a)) R E s:=by
 unfold collect;refine Ya (wpAny_runValue (Ww entry_proto_collect' ?_));rw[Wi Uu _];show wpAny _ A.in1 (newList [] >>= fun l=>again (.builtin "list.__iadd__" ⟨[l,.ref a],[]⟩)) _ _ s;refine Ya (YV (Yb ⟨Qd QQ _,Ww entry_list_iadd' ?_⟩));rw[Wi QQ _];show wpAny _ A.in1 (Builtin.List.listExtendWith (.ref s.heap.objs.size) (.ref a) (.ref s.heap.objs.size)) _ _ _;generalize hoL:({ cls:=.type "list",data:=.seq ([]:List P9).toArray }:Obj)=oL;have hL:(s.heap.push oL).get? s.heap.objs.size=some { cls:=.type "list",data:=.seq #[] }:=by rw[Yi _ (by rw[<-hoL]; rfl),<-hoL]
 have k0:∀b o,s.heap.get? b=some o->(s.heap.push oL).get? b=some o:=fun b o e=>Yc _ e;have hsz:(s.heap.push oL).objs.size=s.heap.objs.size+1:=Y5 ..;have haS:a<s.heap.objs.size:=Yg ho;have ho1:=k0 _ _ ho;generalize s.heap.push oL=H1 at hL k0 hsz ho1;unfold Builtin.List.listExtendWith;refine Ya (WM (s:={ s with heap:=H1 }) (T:="set") ⟨o,ho1,hx.1⟩ ?_);have h1:Builtin.List.listSameRef (.ref s.heap.objs.size) (.ref a)=false:=by
  have:s.heap.objs.size≠a:=Qb haS;simp[Builtin.List.listSameRef,this]
 refine Yr (fun z => ?_) (fun _ => ?_)
 ·rw[h1] at z;exact absurd z (by decide)
 refine Ya (Zn4 (s:={ s with heap:=H1 }) ho1 hx hd hT hb fun h2 d I fp St L k2 hI hfp W st0 hp => ?_);refine Ya (YM (Zow (s:={ s with heap:=h2,drawn:=d }) ⟨o,k2 _ _ ho1,hx.1⟩ ?_));refine Yr (fun _ => ?_) (fun z=>absurd (by decide +kernel) z);refine Ya (W5 ?_);have hf:s.heap.objs.size ∉ fp:=fun z=>by
  rcases hfp _ z with e | e
  ·rw[e] at haS; exact absurd haS (YT _)
  ·have e':H1.objs.size<=s.heap.objs.size:=e;omega
 have hg2:=k2 _ _ hL;refine Ya ?_;show wpAny _ _ (updateSeq s.heap.objs.size (·.push .none) >>= fun _=>updateSeq s.heap.objs.size (·.pop)) _ _ _;refine Ya (Qn hg2 rfl ?_);have hg3:=YI (Obj.mapSeq (·.push Value.none)) hg2 rfl;refine Qn (hz:=by seq_fits) hg3 rfl ?_;have hg4:=YI (Obj.mapSeq (·.pop)) hg3 rfl;have k4:∀b o,b≠s.heap.objs.size->h2.get? b=some o->((h2.update s.heap.objs.size (Obj.mapSeq (·.push Value.none))).update s.heap.objs.size (Obj.mapSeq (·.pop))).get? b=some o:=fun b o hb e =>
  (Qc _ _ (YX hb)).trans ((Qc _ _ (YX hb)).trans e)
 refine Yb ⟨Qd WV _,?_⟩;have hl:L.length=es.size:=by rw[hp.length_eq,Ym,Yq]
 have W1:=W A.in1 (by simp[hh]);have st1:=W1.frame 0 _ ((h2.update s.heap.objs.size (Obj.mapSeq (·.push Value.none))).update s.heap.objs.size (Obj.mapSeq (·.pop))) s.toks st0 (Yj _) fun b hb o e=>k4 b o (fun z=>hf (z ▸ hb)) e;refine codeAny_extend_loopS W1 (by rw[hl]; exact (YL (Q4 hb) (by rw[YG]; decide))) s.heap.objs.size hf _ (L.length - 0) 0 _ #[] _ rfl (YU _) st1 hg4 (ItemsOf.nil _) fun s' acc c m hg hit => ?_;rw[Ux m];refine Ya (UI hg ?_);refine Yb ?_;rw[Zp8 hit];refine h _ _ _ _ (fun b o e=>m.heap b o ?_ (k4 b o (Yp (Yg e)) (k2 _ _ (k0 _ _ e)))) hp;have hb:=Yg e;have hI':s.heap.objs.size+1<=I:=hsz ▸ hI;simp only[Yl,YO,WL,Vf];exact⟨Yp hb,Yp (Yy hb (UA hI'))⟩
theorem Zk5{xs:List (List Str)}{R:List P9->P1->Prop}(hh:A.handled=none)(hS:SetP prog w B s.heap a xs)
  (h:∀(h':Heap) (tk:Nat) (d:Drawn) (vs:List P9) (ys:List (List Str)),(∀b o,s.heap.get? b=some o->h'.get? b=some o)->PlsAre s.heap vs ys->(∀v∈vs,∃b,v = .ref b/\B b)->ys.Perm xs->R vs { s with heap:=h',toks:=tk,drawn:=d }) :
  wpAny (model prog w) A (collect (.ref a)) R E s:=by
 obtain⟨o,es,ep,t,ho,hx,hd,hled,T,el,hn,hb'⟩:=id hS;have hT:TabI w t es.size:=⟨by rw[<-Yq]; exact T.fits,hled,fun _=>T.rs⟩;refine ZrV hh ho hx hd hT (Q7 hb' (by decide)) fun h' tk d vs k hp => ?_;obtain⟨ys,hys,hp'⟩:=Zr9 hp.symm el.pls;exact h h' tk d vs ys k hys (fun v hv=>el.bs v (hp.mem_iff.mp hv)) hp'.symm
end
end DL
end
section
namespace DL
open PySem PySem.Spec PyProof.Rows L2 PySem.W SO
def ddP:List (List Str)->List (List Str)
 | []=>[]
 | x :: xs=>if x∈ddP xs then ddP xs else x :: ddP xs
theorem Zc6:∀(xs:List (List Str)) (y:List Str),y∈ddP xs ↔ y∈xs
 | [],y=>Q6
 | x :: xs,y=>by
  unfold ddP;split
  ·rename_i h;rw[Zc6 xs y,Yl];exact⟨.inr,fun z=>z.elim (fun e=>e ▸ (Zc6 xs x).mp h) id⟩
  ·rw[Yl,Yl,Zc6 xs y]
theorem ZcP:∀(xs:List (List Str)),(ddP xs).Nodup
 | []=>WO
 | x :: xs=>by
  unfold ddP;split
  ·exact ZcP xs
  ·rename_i h;exact Wd.mpr ⟨h,ZcP xs⟩
theorem ZiM:∀(xs:List (List Str)),(ddP xs).length<=xs.length
 | []=>Yj _
 | x :: xs=>by
  unfold ddP;have:=ZiM xs;split
  ·exact UD this
  ·exact Nat.succ_le_succ this
section
variable{prog:P7}{w:World}{B:Addr->Prop}{A:P6}{E:P9->P1->Prop}{s:P1}{a:Addr}
theorem Zn6{xs:List (List Str)}{Q:P9->P1->Prop}(hu:A.units+2<cLine)(hh:A.handled=none)(hS:SetP prog w B s.heap a xs)(h64:xs.length<64)
  (k:∀vs ys,PlsAre s.heap vs ys->(∀v∈vs,∃b,v = .ref b/\B b)->ys.Perm xs->∀p:List Nat,p.Perm (List.range ys.length)->p.Pairwise (fun i j=>plB (ys.getD i []) (ys.getD j [])=true)->∀(h1:Heap) b (h':Heap) tk d c,(∀b o,s.heap.get? b=some o->h1.get? b=some o)->h1.objs.size<=b->(∀b o,h1.get? b=some o->h'.get? b=some o) ->
   h'.get? b=some (seqObj "list" (p.map fun i=>vs.getD i .none).toArray c)->Q (.ref b) { s with heap:=h',toks:=tk,drawn:=d }) :
  wpAny (model prog w) A (call (.builtin "sorted") [.ref a]) Q E s:=by
 refine Qk VW Vv Vw (Ui _) ?_;unfold Builtin.«sorted»;refine Ya (m:=checkCount "sorted" 1 1 _) (Yb ?_);refine Ya (Zk5 (by simp[hh]) hS fun h1 tk d vs ys k1 hys hbs hp => ?_);have hl:vs.length=ys.length:=hys.length;have hl2:ys.length=xs.length:=hp.length_eq;refine Ya (QE ?_ (by rw[YG]; omega));have hoL:(h1.push (seqObj "list" vs.toArray 0)).get? h1.objs.size=some (seqObj "list" vs.toArray 0):=Yi _ rfl;have keep:∀b o,h1.get? b=some o->(h1.push (seqObj "list" vs.toArray 0)).get? b=some o:=fun b o q=>Yc _ q;show wpAny _ _ _ _ _ { s with heap:=h1.push (seqObj "list" vs.toArray 0),toks:=tk,drawn:=d };generalize h1.push (seqObj "list" vs.toArray 0)=g at hoL keep;refine Ya (YM (YE slot_list_sort ⟨_,hoL,rfl⟩ entry_list_sort ?body (VI _)))
 case body =>
  refine Zer (s:={ s with heap:=g,toks:=tk,drawn:=d }) (by show _<_; omega) hoL (by omega) (ZfX (s:={ s with drawn:=d }) (hp.nodup_iff.mpr hS.len.2.1) hys (fun b o e=>Yp (Yg (k1 b o e))) fun b o e=>keep b o (k1 b o e)) (by rw[hl]; exact Zfq (hp.nodup_iff.mpr hS.len.2.1)) fun p hp' hpw h' c hb hc => ?_;refine⟨_,rfl,Yb ⟨_,rfl,?_⟩⟩;rw[hl] at hp';exact k vs ys hys hbs hp p hp' hpw h1 _ h' tk d c k1 (Yj _) (fun b o e=>hb b o (Yp (Yg e)) (keep b o e)) hc
theorem ZnX{xs:List (List Str)}{Q:P9->P1->Prop}(hS:SetP prog w B s.heap a xs)(k:∀t tk,Q (.int xs.length t) { s with toks:=tk }):wpAny (model prog w) A (call (.builtin "len") [.ref a]) Q E s:=by
 obtain⟨o,es,ep,t,ho,hx,hd,hled,T,el,hn,hb⟩:=id hS;have hty:s.TypeIs (.ref a) "set":=⟨_,ho,hx.1⟩;have fits:t.fits es.size=true:=by rw[<-Yq]; exact T.fits
 have hsz:es.size=xs.length:=by rw[<-Yq]; exact el.length
 refine call_len_set ho hx hd fits (by omega) ?_;rw[hsz];exact k _ _
end
def Zds:List D->Sto->Out (List D)
 | [d],st=>match Zp st d with
  | some xs=>match ZaZ xs with
   | some ss=>if ss.length<64 then .ok ((ZU (ddP ss)).map fun p=>D.tup (p.map D.str)) st else .bad
   | none => .bad
  | none => .bad
 | _,_ => .bad
def Zdj:List D->Sto->Out D
 | [d],st=>match Zp st d with
  | some xs=>match ZaZ xs with
   | some ss=>if ss.length<64 then .ok (.int (ddP ss).length) st else .bad
   | none => .bad
  | none => .bad
 | _,_ => .bad
section
variable{X:Cx}{EX:EXT}{pins:List (Addr×Obj)}{σ:L2.St}{H:Hp}{s:P1}{O:List Addr}
theorem ZiN:∀{vs:List P9} {p q:List Str},StrsAre vs p->StrsAre vs q->p=q
 | _,_,_,.nil,h=>by cases h; rfl
 | _,_,_,.cons x t r,h=>by
  cases h with
  | cons y u r'=>rw[ZiN r r']
theorem ZlN{h:Heap}{b:Addr}{xs ys:Array P9}(x:IsTup h b xs)(y:IsTup h b ys):xs=ys:=by
 obtain⟨o,h1,_,n,h2⟩:=x;obtain⟨o',g1,_,m,g2⟩:=y;rw[h1] at g1;cases g1;rw[h2] at g2;cases g2;rfl
def RdB(X:Cx)(O:List Addr)(H:Hp)(b:Addr):Prop:=∃q:List Str,Rep X.K O H (.tup (q.map D.str)) (.ref b)
theorem ZkR(I:Inv X pins σ H s):∀{vs:List P9} {ys:List (List Str)},PlsAre s.heap vs ys->(∀v∈vs,∃b,v = .ref b/\RdB X O H b)->∃us,Reps X.K O H (ys.map fun p=>D.tup (p.map D.str)) us/\Vals us vs
 | [],[],_,_=>⟨[],Reps.nil_i.mpr rfl,.nil⟩
 | v :: vs,p :: ps,x,y=>by
  obtain⟨us,h1,h2⟩:=ZkR I x.2 fun v hv=>y v (Yo _ hv);obtain⟨⟨b,its,rfl,t1,t2⟩,_⟩:=x;obtain⟨b',e,q,r⟩:=y _ Yv;cases e;have hp:=ZcG I (ps:=[q]) (Reps.one r) (.cons rfl .nil);obtain⟨⟨b'',jts,e,g1,g2⟩,_⟩:=hp;cases e;have:=ZlN t1 g1;have e2:its=jts:=by
   have:=congrArg Array.toList this;simpa using this
  subst e2;obtain rfl:=ZiN t2 g2;exact⟨.ref b :: us,Reps.cons_i.mpr ⟨_,_,rfl,r,h1⟩,.cons rfl h2⟩
 | [],_ :: _,x,_=>x.elim
 | _ :: _,[],x,_=>x.elim
theorem ZgU:∀{ss:List (List Str)} {vs:List V} {its:List P9},Reps X.K O H (ss.map fun p=>D.tup (p.map D.str)) vs->Vals vs its->∀b,Value.ref b∈its->RdB X O H b
 | [],vs,its,r,v,b,hb=>by
  rw[Q5,Reps.nil_i] at r;subst r;cases v;cases hb
 | p :: ps,vs,its,r,v,b,hb=>by
  obtain⟨u,rs,rfl,r1,r2⟩:=Reps.cons_i.mp r;cases v with
  | cons v1 v2 =>
   rcases Yl.mp hb with e | hb
   ·rw[Rep.tup_i] at r1;obtain⟨a,ys,rfl,q,r3⟩:=r1;cases v1;cases e;exact⟨p,Rep.tup_i.mpr ⟨_,ys,rfl,q,r3⟩⟩
   ·exact ZgU r2 v2 b hb
theorem ZpT{e:Expr}{x y:Str}{p q pos pos2:Pos}{f:DA}(hcalm:X.calm=true)(hu:X.A.units+64<cLine)(hg:Gl X x)(hm:X.mg x=none)(hv:bootBuiltins x=some (.builtin "sorted"))(hg2:Gl X y)(hm2:X.mg y=none)(hv2:bootBuiltins y=some (.type "set"))(ha:PDA X EX [e] f)
  (hn:x≠"__name__":=by decide) (hdb:(x == ("__debug__" : Str))=false:=by decide) (hn2:y≠"__name__":=by decide) (hdb2:(y == ("__debug__" : Str))=false:=by decide)
  (he:starEach [e] X.env=(false,eval e X.env) :: starEach [] X.env:=by rfl):PDF X EX (.Call (.Name x p) [.Call (.Name y q) [e] [] pos2] [] pos) (Zl Zds f):=by
 intro pins s σ H Q I h;have h':=ZfS _ _ _ h;refine Wn (ZaE I hg hm hv ?_ hn hdb);refine Wv ?_ rfl rfl;show wpAny _ _ (spliced ((false,eval (.Call (.Name y q) [e] [] pos2) X.env) :: backTo pos (starEach [] X.env))) _ _ s;refine WH ?_;refine Wn (ZaE I hg2 hm2 hv2 ?_ hn2 hdb2);refine WG (thn (ha pos2 pins s σ H _ I h') fun us s1 ⟨vs,H1,I1,r1,q1⟩ => ?_) he rfl;obtain⟨O,ds,st,W,r,R⟩:=q1;unfold Zds at R;split at R
 ·rename_i d;obtain⟨v,rfl,rv⟩:=r.one_of;split at R
  ·rename_i zs ez;split at R
   ·rename_i ss hss;by_cases hc:ss.length<64
    ·rw[Yf hc] at R;obtain⟨pl,vs,rfl,qq,rs⟩:=rdL W rv ez;have hzs:=Zdy hss;subst hzs;cases r1 with
     | cons r0 rt =>
      cases rt;cases r0;obtain⟨its,rv',pl',hz⟩:=I1.list qq;have hl1:=rv'.length;have hl2:=rs.length;rw[Ym] at hl2;have sAll:PlsAre s1.heap its ss:=ZcG I1 rs rv';refine ZhL (B:=RdB X O H1) (items:=its.toArray) (ss:=ss) (I1.ok.hd hcalm) pl'.isList (by omega) (by simpa using sAll) (fun b hb=>ZgU rs rv' b (by simpa using hb)) (by simp; omega) fun h2 tk xs hS hmem hk => ?_;refine W8 ?_;have k1:∀b o,s1.heap.get? b=some o->h2.get? b=some o:=fun b o e=>hk b o (Yg e) e;have hperm:xs.Perm (ddP ss):=(QF hS.len.2.1 (ZcP ss)).mpr fun y=>by rw[hmem,Zc6]
      have hxl:xs.length<64:=by
       rw[hperm.length_eq];exact Nat.lt_of_le_of_lt (ZiM ss) hc
      have I2:Inv X pins σ H1 { s1 with heap:=h2,toks:=tk }:=I1.kept k1;refine Zn6 (s:={ s1 with heap:=h2,toks:=tk }) (by omega) (I1.ok.hd hcalm) hS hxl fun vs' ys hys hbs hp ix hpx hw h3 b h4 tk4 d4 c k3 hb k4 hg4 => ?_;have I3:Inv X pins σ H1 { s1 with heap:=h2,toks:=tk,drawn:=d4 }:=Inv.drew I2;obtain⟨us',hr1,hr2⟩:=ZkR (O:=O) I3 hys hbs;have hsame:ZU ys=ZU (ddP ss):=by
       refine (Zfm ?_ ?_).symm
       ·exact (Zdl _).trans (hp.trans hperm).symm
       ·refine List.Pairwise.imp₂ (R:=fun a b=>Za3 a b=true) (S:=fun a b=>a≠b) (fun a b h1 h2 => ?_) (ZeY _) ((Zdl (ddP ss)).nodup_iff.mpr (ZcP ss));have h3:plB b a=false:=by
         have:(!plB b a)=true:=h1;simpa using this
        exact ZcQ (YX h2) h3
      exact ZfE (s:={ s1 with heap:=h2,toks:=tk,drawn:=d4 }) I3 W hr1 hr2 (hsame ▸ R) hpx hw (by rw[hp.length_eq]; omega) k3 hb k4 hg4
    ·rw[Yh hc] at R; exact R.elim
   ·exact R.elim
  ·exact R.elim
 ·exact R.elim
theorem Zlj{e:Expr}{x y:Str}{p q pos pos2:Pos}{f:DA}(hcalm:X.calm=true)(hu:X.A.units+64<cLine)(hg:Gl X x)(hm:X.mg x=none)(hv:bootBuiltins x=some (.builtin "len"))(hg2:Gl X y)(hm2:X.mg y=none)(hv2:bootBuiltins y=some (.type "set"))(ha:PDA X EX [e] f)
  (hn:x≠"__name__":=by decide) (hdb:(x == ("__debug__" : Str))=false:=by decide) (hn2:y≠"__name__":=by decide) (hdb2:(y == ("__debug__" : Str))=false:=by decide)
  (he:starEach [e] X.env=(false,eval e X.env) :: starEach [] X.env:=by rfl):PD X EX (.Call (.Name x p) [.Call (.Name y q) [e] [] pos2] [] pos) (Zl Zdj f):=by
 intro pins s σ H Q I h;have h':=Ze8 _ _ _ h;refine Wn (ZaE I hg hm hv ?_ hn hdb);refine Wv ?_ rfl rfl;show wpAny _ _ (spliced ((false,eval (.Call (.Name y q) [e] [] pos2) X.env) :: backTo pos (starEach [] X.env))) _ _ s;refine WH ?_;refine Wn (ZaE I hg2 hm2 hv2 ?_ hn2 hdb2);refine WG (thn (ha pos2 pins s σ H _ I h') fun us s1 ⟨vs,H1,I1,r1,q1⟩ => ?_) he rfl;obtain⟨O,ds,st,W,r,R⟩:=q1;unfold Zdj at R;split at R
 ·rename_i d;obtain⟨v,rfl,rv⟩:=r.one_of;split at R
  ·rename_i zs ez;split at R
   ·rename_i ss hss;by_cases hc:ss.length<64
    ·rw[Yf hc] at R;obtain⟨pl,vs,rfl,qq,rs⟩:=rdL W rv ez;have hzs:=Zdy hss;subst hzs;cases r1 with
     | cons r0 rt =>
      cases rt;cases r0;obtain⟨its,rv',pl',hz⟩:=I1.list qq;have hl1:=rv'.length;have hl2:=rs.length;rw[Ym] at hl2;have sAll:PlsAre s1.heap its ss:=ZcG I1 rs rv';refine ZhL (B:=RdB X O H1) (items:=its.toArray) (ss:=ss) (I1.ok.hd hcalm) pl'.isList (by omega) (by simpa using sAll) (fun b hb=>ZgU rs rv' b (by simpa using hb)) (by simp; omega) fun h2 tk xs hS hmem hk => ?_;refine W8 ?_;have k1:∀b o,s1.heap.get? b=some o->h2.get? b=some o:=fun b o e=>hk b o (Yg e) e;have hperm:xs.Perm (ddP ss):=(QF hS.len.2.1 (ZcP ss)).mpr fun y=>by rw[hmem,Zc6]
      refine ZnX (s:={ s1 with heap:=h2,toks:=tk }) hS fun t tk2 => ?_;have I2:Inv X pins σ H1 { s1 with heap:=h2,toks:=tk2 }:=I1.kept k1;refine⟨.int xs.length,H1,I2,⟨t,rfl⟩,?_⟩;rw[hperm.length_eq];exact Run.now (k:=Val X.K Q) R W _ (Rep.int_i.mpr rfl)
    ·rw[Yh hc] at R; exact R.elim
   ·exact R.elim
  ·exact R.elim
 ·exact R.elim
end
end DL
end
section
namespace DL
open PySem PySem.Spec PyProof.Rows L2
structure BlkD(sc scope:Scope)(N0 N:List Str)(caps:List Nat)(nT:Nat):Prop where
 kind:scope.kind = .function
 names:∀y∈scope.names,y.2 = .local->scope.names.lookup y.1=some .local
 free:∀y∈scope.names,y.2 = .free->sc.names.lookup y.1=some .cell\/sc.names.lookup y.1=some .free
 len:N.length=nT+caps.length
 cap:∀q∈(List.range caps.length),∃i x,caps[q]?=some i/\N[nT+q]?=some x/\N0[i]?=some x/\(x,NameKind.free)∈scope.names/\(x,NameKind.cell) ∉ scope.names/\((ZaY scope sc).names.lookup x=some .cell\/(ZaY scope sc).names.lookup x=some .free)
def ZkF(sc scope:Scope)(N0 N:List Str)(caps:List Nat)(nT:Nat):Bool :=
 (scope.kind == .function) && scope.names.all (fun y => !(y.2 == .local) || scope.names.lookup y.1 == some .local) &&
  scope.names.all (fun y => !(y.2 == .free) || (sc.names.lookup y.1 == some .cell || sc.names.lookup y.1 == some .free)) && (N.length == nT+caps.length) &&
  (List.range caps.length).all fun q=>match caps[q]?,N[nT+q]? with
   | some i,some x=>(N0[i]? == some x) && scope.names.any (fun y=>y.1 == x && y.2 == .free) && scope.names.all (fun y => !(y.1 == x && y.2 == .cell)) && ((ZaY scope sc).names.lookup x == some .cell || (ZaY scope sc).names.lookup x == some .free)
   | _,_=>false
theorem BlkD.of{sc scope:Scope}{N0 N:List Str}{caps:List Nat}{nT:Nat}(h:ZkF sc scope N0 N caps nT=true):BlkD sc scope N0 N caps nT:=by
 unfold ZkF at h;simp only[YJ] at h;obtain⟨⟨⟨⟨h1,h3⟩,h4⟩,h5⟩,h6⟩:=h;refine⟨eq_of_beq h1,fun y hy hl => ?_,fun y hy hl => ?_,eq_of_beq h5,fun q hq => ?_⟩
 ·have:=YH.mp h3 y hy;rw[hl] at this;simpa using this
 ·have:=YH.mp h4 y hy;rw[hl] at this;simpa using this
 ·have:=YH.mp h6 q hq;split at this
  ·rename_i i x e1 e2;simp only[YJ,QT,List.any_eq_true,beq_iff_eq] at this;obtain⟨⟨⟨g1,⟨y,g2,g3,g4⟩⟩,g6⟩,g5⟩:=this;refine⟨i,x,e1,e2,g1,?_,fun z => ?_,g5⟩
   ·obtain⟨y1,y2⟩:=y;simp only at g3 g4;subst g3 g4;exact g2
   ·have:=YH.mp g6 _ z;simp at this
  ·cases this
end DL
end
section
end
section
end
section
end
section
end
section
end
section
end
section
namespace DL
open PySem PySem.Spec PyProof.Rows L2 PySem.W SO
section
variable{prog:P7}{w:World}{A:P6}{E:P9->P1->Prop}{s:P1}{K:Type}[DecidableEq K]{knd:HeapKind prog w K}
def ZaK(e:P9->P9->Bool)(ys:List (K×Addr×P9))(x:K×Addr×P9):Bool:=match atKey ys x.1 with
 | some p=>e x.2.2 p.2
 | none=>false
theorem ZrC{nm:String}{a b:Addr}{xs ys:List (K×Addr×P9)}{Q:Bool->P1->Prop}(hr:knd.room A)(ha:(a == sysModules)=false)(hb:(b == sysModules)=false)
  (da:s.heap.DictOfH knd a xs) (db:s.heap.DictOfH knd b ys) (e:P9->P9->Bool) (he:∀x∈xs,∀y∈ys,SeqAt.EqAt A s x.2.2 y.2.2 (e x.2.2 y.2.2)) (h:Q (xs.length == ys.length && xs.all (ZaK e ys)) s) :
  wpAny (model prog w) A (Builtin.Dict.samePairs nm a b) Q E s:=by
 obtain⟨oa,es,ep,hoa,_,hda,hea,hka,hna⟩:=da;obtain⟨ob,fs,fp,hob,_,hdb,hfb,hkb,hnb⟩:=db;have hla:es.size=xs.length:=size_of_entries hea;have hlb:fs.size=ys.length:=size_of_entries hfb;rw[<-hla,<-hlb] at h;unfold Builtin.Dict.samePairs Builtin.Dict.showsAll;rw[Yh (show ¬ (a == sysModules)=true by rw[ha]; exact Qh),Yh (show ¬ (b == sysModules)=true by rw[hb]; exact Qh)];refine Ya (Yb (Ya (Yb ?_)));refine Ya (Wm hoa hda ?_);dsimp only;refine Ya (Wm hob hdb ?_);by_cases hsz:es.size=fs.size
 case neg =>
  rw[Yf (by simpa using hsz)];have hbf:(es.size == fs.size)=false:=by simpa using hsz
  rw[hbf,VB] at h;exact Ya (W5 (Yb h))
 case pos =>
  have h':Q (xs.all (ZaK e ys)) s:=by simpa[hsz] using h
  rw[Yh (by rw[hsz]; simp)];refine Ya (WU hoa hda ?_);refine Ya ?_;rw[Std.Legacy.Range.forIn_eq_forIn_range'];simp only[Std.Legacy.Range.size,Nat.sub_zero,Nat.add_sub_cancel,Nat.div_one];refine V2 _
   (fun rest q s'=>s'=s/\q=(none,())/\∃i,rest=List.range' i (es.size - i)/\i<=es.size/\xs.all (ZaK e ys)=(xs.drop i).all (ZaK e ys))
   _ ?_ ?_ _ _ ⟨rfl,rfl,0,by simp,YU _,rfl⟩
  ·rintro x rest q s' ⟨rfl,rfl,i,hr1,hi,hpre⟩;have hlt:i<es.size:=by
    rcases Nat.lt_or_ge i es.size with h | h
    ·exact h
    ·rw[Nat.sub_eq_zero_of_le h] at hr1; simp at hr1
   obtain⟨rfl,hrest⟩:x=i/\rest=List.range' (i+1) (es.size - (i+1)):=by
    have e:es.size - i=(es.size - (i+1))+1:=by omega
    rw[e,List.range'_succ] at hr1;injection hr1 with h1 h2;exact⟨h1,h2⟩
   refine Ya (Wm hoa hda ?_);have hlt':x<xs.length:=by rw[<-hla]; exact hlt
   rw[entry_at hea x,Yd hlt'];have hmx:xs[x]∈xs:=Vd hlt';have hdrop:xs.drop x=xs[x] :: xs.drop (x+1):=List.drop_eq_getElem_cons hlt';rw[hdrop,QR] at hpre;generalize hxx:xs[x]=X at *;obtain⟨k,ka,v⟩:=X;show wpAny _ _ (holding [.ref ka,v] _ >>= _) _ _ _;refine Ya (YM (Ya (wpAny_dictFind_heap hr (hka _ hmx) hob hdb hfb hkb hnb (fun hno => ?_) fun j p hj => ?_)))
   ·have hk0:atKey ys k=none:=atKey_none_of_get hno;have hp:ZaK e ys (k,ka,v)=false:=by unfold ZaK; dsimp only; rw[hk0]
    rw[hp,VB] at hpre;rw[hpre] at h';refine Yb ?_;show wpAny _ _ (if (!false)=true then _ else _) _ _ _;rw[Yf (by decide)];exact Yb (Yb h')
   ·have hk1:atKey ys k=some p:=atKey_of_get hnb hj;have hp:ZaK e ys (k,ka,v)=e v p.2:=by unfold ZaK; dsimp only; rw[hk1]
    rw[hp] at hpre;refine Ya (Wm hob hdb ?_);rw[entry_at hfb j,hj];show wpAny _ _ (holding [p.2] (eqBool v p.2)) _ _ _;refine YM (he _ hmx (k,p) (Y2 hj) prog w _ _ ?_);show wpAny _ _ (if (!(e v p.2))=true then _ else _) _ _ _;cases hev:e v p.2 with
    | false =>
     rw[hev,VB] at hpre;rw[hpre] at h';rw[Yf (by decide)];exact Yb (Yb h')
    | true =>
     rw[hev,Bool.true_and] at hpre;rw[Yh (by decide)];refine Ya (WU hoa hda ?_);rw[Yh (by simp)];exact Yb ⟨rfl,rfl,x+1,hrest,hlt,hpre⟩
  ·rintro q s' ⟨rfl,rfl,i,hr1,hi,hpre⟩;have hin:i=es.size:=by
    rcases Nat.lt_or_ge i es.size with h | h
    ·have e:es.size - i=(es.size - (i+1))+1:=by omega
     rw[e,List.range'_succ] at hr1; exact nomatch hr1
    ·exact Nat.le_antisymm hi h
   refine Yb ?_;rw[hin,hla,List.drop_length] at hpre;rw[hpre] at h';exact h'
theorem eqH{a b:Addr}{xs ys:List (K×Addr×P9)}{Q:P9->P1->Prop}(hr:knd.room A.in1)(hu:A.units<cLine)(ha:(a == sysModules)=false)(hb:(b == sysModules)=false)
  (da:s.heap.DictOfH knd a xs) (db:s.heap.DictOfH knd b ys) (e:P9->P9->Bool) (he:∀x∈xs,∀y∈ys,SeqAt.EqAt A.in1 s x.2.2 y.2.2 (e x.2.2 y.2.2)) (h:Q (.bool (xs.length == ys.length && xs.all (ZaK e ys))) s) :
  wpAny (model prog w) A (compareOp .Eq (.ref a) (.ref b)) Q E s:=by
 have hTa:s.TypeIs (.ref a) "dict":=let ⟨_,_,_,h1,h2,_⟩:=da; ⟨_,h1,h2.1⟩
 have hTb:s.TypeIs (.ref b) "dict":=let ⟨_,_,_,h1,h2,_⟩:=db; ⟨_,h1,h2.1⟩
 refine wpAny_richCompare_same_room (op:=.Eq) hTa hTb PySem.F.slot_dict_eq (YE PySem.F.slot_dict_eq hTa PySem.F.entry_dict_eq ?_ (PySem.F.args_dict_eq_2 _ _)) hu;show wpAny _ _ (Builtin.Dict.dictSlotArgs "__eq__" ⟨[.ref a,.ref b],[]⟩ >>= _) _ _ s;refine Ya ?_;unfold Builtin.Dict.dictSlotArgs;refine Ya (QA hTa ?_);show wpAny _ _ (pure (Value.ref a,Value.ref b)) _ _ s;refine Yb ?_;refine Ya (WK (T:="dict") hTb PySem.F.sub_dict_dict ?_);simp only[Bool.not_true,YF,Y3];refine Ya (Yb (Ya (Yb ?_)));refine Ya (ZrC hr ha hb da db e he ?_);refine Yb ⟨_,rfl,?_,?_⟩
 ·exact fun x=>nomatch x
 ·simpa using h
end
def ZV(ds:List (D×D)):Bool:=ds.all fun p=>match p.2 with
 | .int _=>true
 | _=>false
def Zdu(es:List (D×D))(p:D×D):Bool:=match p.2,ZI Zo es p.1 with
 | .int j,some (.int i)=>j == i
 | _,_=>false
def Zdq(ds es:List (D×D)):Bool:=ds.length == es.length && ds.all (Zdu es)
def ZdL:D->D->Sto->Out D
 | .res i,.res j,st=>match st[i]?,st[j]? with
  | some (.dtt ds),some (.dtt es)=>if ZV ds=true/\ZV es=true then .ok (.bl (Zdq ds es)) st else .bad
  | _,_ => .bad
 | _,_,_ => .bad
def ZkI:D->D->Sto->Out D
 | .res i,.res j,st=>match st[i]?,st[j]? with
  | some (.dtt ds),some (.dtt es)=>if ZV ds=true/\ZV es=true then .ok (.bl (!Zdq ds es)) st else .bad
  | _,_ => .bad
 | _,_,_ => .bad
def eI:P9->P9->Bool
 | .int a _,.int b _=>a == b
 | _,_=>false
section
variable{K:P5}{O:List Addr}{H:Hp}
theorem Zkl{k:D}:∀{es:List (D×D)},ZV es=true->∀{d:D},ZI Zo es k=some d->∃i,d = .int i
 | [],_,d,e=>by cases e
 | p :: es,h,d,e=>by
  unfold ZV at h;rw[QR,YJ] at h;unfold ZI at e;split at e
  ·cases e;have:=h.1;revert this;cases p.2 <;> simp
  ·exact Zkl (es:=es) h.2 e
theorem Zgf:∀{ds:List (D×D)} {kvs:List (List Key×V)} {xs:List (List Key×Addr×P9)},Kvs K Zo O H ds kvs->KT H kvs xs->ZV ds=true->∀x∈xs,∃i t,x.2.2 = .int i t
 | [],kvs,xs,h,r,_,x,hx=>by
  cases (show kvs=[] from h);cases r;cases hx
 | (a,d) :: ds,kvs,xs,h,r,hi,x,hx=>by
  obtain⟨qa,v,rr,rfl,ha,hr,ht⟩:=(show ∃q v r,kvs=(q,v) :: r/\Zo a=some q/\Rep K O H d v/\Kvs K Zo O H ds r from h);cases r with
  | cons r0 rt =>
   unfold ZV at hi;rw[QR,YJ] at hi;rcases Yl.mp hx with rfl | hx
   ·obtain⟨i,rfl⟩:∃i,d = .int i:=by
     have:=hi.1;revert this;cases d <;> simp
    rw[Rep.int_i] at hr;subst hr;obtain⟨t,e⟩:=(show RelV (.int i) x.2.2 from r0.2.2);exact⟨i,t,e⟩
   ·exact Zgf ht rt hi.2 x hx
theorem Zrc{es:List (D×D)}{lvs:List (List Key×V)}{ys:List (List Key×Addr×P9)}(kv:Kvs K Zo O H es lvs)(kt:KT H lvs ys)(hi:ZV es=true){dk:D}{k:List Key}{ad:Addr}{v:P9}{j:Int}(hk:Zo dk=some k)(hv:RelV (.int j) v):ZaK eI ys (k,ad,v)=Zdu es (dk,.int j):=by
 obtain⟨t,rfl⟩:=hv;have h1:=ZbV hk kv;have h2:=kt.val k;unfold ZaK Zdu;dsimp only;cases e1:atKey ys k with
 | none =>
  rw[e1] at h2;cases e2:Zap lvs k with
  | none =>
   rw[e2] at h1;cases e3:ZI Zo es dk with
   | none=>rfl
   | some d=>rw[e3] at h1; exact h1.elim
  | some z=>rw[e2] at h2; exact h2.elim
 | some p =>
  rw[e1] at h2;cases e2:Zap lvs k with
  | none=>rw[e2] at h2; exact h2.elim
  | some z =>
   rw[e2] at h1 h2;cases e3:ZI Zo es dk with
   | none=>rw[e3] at h1; exact h1.elim
   | some d =>
    rw[e3] at h1;obtain⟨i,rfl⟩:=Zkl hi e3;have h3:Rep K O H (.int i) z:=h1;rw[Rep.int_i] at h3;subst h3;obtain⟨t2,e4⟩:=(show RelV (.int i) p.2 from h2);show eI (.int j t) p.2=(j == i);rw[e4];rfl
theorem Zgv{es:List (D×D)}{lvs:List (List Key×V)}{ys:List (List Key×Addr×P9)}(kv:Kvs K Zo O H es lvs)(kt:KT H lvs ys)(hi:ZV es=true):∀{ds:List (D×D)} {kvs:List (List Key×V)} {xs:List (List Key×Addr×P9)},Kvs K Zo O H ds kvs->KT H kvs xs->ZV ds=true->xs.length=ds.length/\xs.all (ZaK eI ys)=ds.all (Zdu es)
 | [],kvs,xs,h,r,_=>by
  cases (show kvs=[] from h);cases r;exact⟨rfl,rfl⟩
 | (a,d) :: ds,kvs,xs,h,r,hd=>by
  obtain⟨qa,v,rr,rfl,ha,hr,ht⟩:=(show ∃q v r,kvs=(q,v) :: r/\Zo a=some q/\Rep K O H d v/\Kvs K Zo O H ds r from h);cases r with
  | cons r0 rt =>
   rename_i x xs;unfold ZV at hd;rw[QR,YJ] at hd;obtain⟨h1,h2⟩:=Zgv kv kt hi ht rt hd.2;obtain⟨j,rfl⟩:∃i,d = .int i:=by
    have:=hd.1;revert this;cases d <;> simp
   rw[Rep.int_i] at hr;subst hr;obtain⟨k,ad,v⟩:=x;have e1:qa=k:=r0.1;subst e1;refine⟨by simp[h1],?_⟩;rw[QR,QR,h2,Zrc kv kt hi ha r0.2.2]
end
section
variable{X:Cx}{EX:EXT}
theorem Zmm{A:P6}{s:P1}{v u:P9}(h:∃i t,v = .int i t)(h2:∃i t,u = .int i t):SeqAt.EqAt A s v u (eI v u):=by
 obtain⟨i,t,rfl⟩:=h;obtain⟨j,t2,rfl⟩:=h2;exact SeqAt.EqAt.int_int i t j t2
theorem ZlQ(hu:X.A.units+64<cLine):OpD X EX (compareOp .Eq) ZdL:=by
 intro pins s σ H x y v u Q I rx ry h;obtain⟨O,k,d,st,W,rk,rd,R⟩:=h;unfold ZdL at R;split at R
 ·rename_i i j;split at R
  ·rename_i ds es hs1 hs2;by_cases hc:ZV ds=true/\ZV es=true
   ·rw[Yf hc] at R;rw[Rep.res_i] at rk rd;obtain⟨a,rfl,q⟩:=rk;obtain⟨b,rfl,q'⟩:=rd;cases (show v=Value.ref a from rx);cases (show u=Value.ref b from ry);obtain⟨vs,e2,kv⟩:=W.at_ _ _ _ q hs1;obtain⟨us,e3,kv'⟩:=W.at_ _ _ _ q' hs2;obtain⟨_,hd,xs,kt,dd⟩:=ZaN I.hok (.inl e2);obtain⟨_,hd',ys,kt',dd'⟩:=ZaN I.hok (.inl e3);obtain⟨h1,h2⟩:=Zgv kv' kt' hc.2 kv kt hc.1;obtain⟨h3,_⟩:=Zgv kv' kt' hc.2 kv' kt' hc.2;refine eqH (QV (by omega)) (by omega) hd hd' dd dd' eI (fun x hx y hy=>Zmm (Zgf kv kt hc.1 x hx) (Zgf kv' kt' hc.2 y hy)) ?_;rw[h1,h3,h2];exact⟨.bl (Zdq ds es),H,I,rfl,Run.now (k:=Val X.K Q) R W _ (Rep.bl_i.mpr rfl)⟩
   ·rw[Yh hc] at R; exact R.elim
  ·exact R.elim
 ·exact R.elim
end
end DL
end
section
namespace HT
open PySem PyProof.Rows
noncomputable abbrev Z0(h:Heap)(T:Addr)(a b c:P9):Prop:=h.get? T=some { cls:=.type "tuple",data:=.seq #[a,b,c] }
structure Z3(z TI TO i1 i2 i3:Addr):Prop where
 TIz:TI≠z
 TOz:TO≠z
 i1z:i1≠z
 i2z:i2≠z
 i3z:i3≠z
 TITO:TI≠TO
 TIi1:TI≠i1
 TIi2:TI≠i2
 TIi3:TI≠i3
 TOi1:TO≠i1
 TOi2:TO≠i2
 TOi3:TO≠i3
 i12:i1≠i2
 i13:i1≠i3
 i23:i2≠i3
structure L3(l z TO i1 i2 i3:Addr):Prop where
 z:l≠z
 TO:l≠TO
 i1:l≠i1
 i2:l≠i2
 i3:l≠i3
section
variable{prog:P7}{w:World}{A:P6}{E:P9->P1->Prop}{s:P1}
theorem Zgq{T:Addr}{a b c x:P9}{k:Nat}{Q:Unit->P1->Prop}(hT:Z0 s.heap T a b c)
  (h:∀h',h'.get? T=some { cls:=.type "tuple",data:=.seq ((#[a,b,c]:Array P9).setIfInBounds k x) }->Heap.SameBut T s.heap h'->Q () { s with heap:=h' }) :
  wpAny (model prog w) A (updateSeq T (·.setIfInBounds k x)) Q E s:=by
 refine Qn hT rfl (h _ ?_ (YB ..));rw[YI _ hT rfl];simp[Obj.mapSeq]
theorem Znn{z TI TO i1 i2 i3 l1 l2 l3:Addr}{k:Nat}{xs ys zs:Array P9}{x y v a b c:P9}{Q:P9->P1->Prop}(D:Z3 z TI TO i1 i2 i3)(D1:L3 l1 z TO i1 i2 i3)(D2:L3 l2 z TO i1 i2 i3)(D3:L3 l3 z TO i1 i2 i3)
  (hz:IsZip s.heap z TI TO .none) (hTI:Z0 s.heap TI (.ref i1) (.ref i2) (.ref i3)) (hTO:Z0 s.heap TO a b c)
  (h1:s.heap.IsListIter i1 l1 k) (h2:s.heap.IsListIter i2 l2 k) (h3:s.heap.IsListIter i3 l3 k) (hl1:s.heap.IsList l1 xs) (hl2:s.heap.IsList l2 ys) (hl3:s.heap.IsList l3 zs) (hx:xs[k]?=some x) (hy:ys[k]?=some y) (hv:zs[k]?=some v)
  (hQ:∀h',IsZip h' z TI TO (rawInt s.heap.objs.size)->Z0 h' TO x y v->h'.IsListIter i1 l1 (k+1)->h'.IsListIter i2 l2 (k+1)->h'.IsListIter i3 l3 (k+1)->Z0 h' s.heap.objs.size x y v->h'.objs.size=s.heap.objs.size+1 ->
   (∀c o,c≠z->c≠TO->c≠i1->c≠i2->c≠i3->s.heap.get? c=some o->h'.get? c=some o)->Q (.ref s.heap.objs.size) { s with heap:=h' }) :
  wpAny (model prog w) A (Builtin.«zip.__next__» ⟨[.ref z],[]⟩) (fun fin s' => ∃v,fin = .done (.ret v)/\Q v s') E s:=by
 show wpAny _ _ (field (.ref z) 2 >>= _) _ _ _;refine Ya (WN hz rfl (x:=.bool false) rfl ?_);show wpAny _ _ (field (.ref z) 3 >>= _) _ _ _;refine Ya (WN hz rfl (x:=.ref TI) rfl ?_);refine Ya (Qv hTI rfl ?_);show wpAny _ _ (Builtin.SmallTypes.ownedTupleIsFree (.ref z) >>= _) _ _ _;refine Ya ?_;unfold Builtin.SmallTypes.ownedTupleIsFree;refine Ya (WN hz rfl (x:=.none) rfl (Yb ?_));simp only[Y9];refine Ya (W5 ?_);refine Ya (WN hz rfl (x:=.ref TO) rfl ?_);refine Ya (Qi hz (by simp) fun h₁ hz₁ hs₁ => ?_);replace hz₁:IsZip h₁ z TI TO .ellipsis:=hz₁;refine Ya ?_;simp only[List.zipIdx_cons,List.zipIdx_nil,Vn,VG];refine Ya (Ya (Uy ?_));show wpAny _ _ (Builtin.SmallTypes.nextOf (.ref i1) >>= _) _ _ _;refine Ya (VX (h1.extBut hs₁.extBut D.i1z) (hl1.extBut hs₁.extBut D1.z) hx fun h₂ h1₂ hs₂=>Yb ?_);have hTO₂:Z0 h₂ TO a b c:=hs₂.extBut _ _ D.TOi1 (hs₁.extBut _ _ D.TOz hTO);refine Ya (Qv hTO₂ rfl ?_);refine Ya (Zgq hTO₂ fun h₃ hTO₃ hs₃ => ?_);replace hTO₃:Z0 h₃ TO x b c:=hTO₃;refine Ya (wpAny_letGo (Yb ?_));have k₃:∀d o,d≠z->d≠i1->d≠TO->s.heap.get? d=some o->h₃.get? d=some o:=fun d o d1 d2 d3 e=>hs₃.extBut _ _ d3 (hs₂.extBut _ _ d2 (hs₁.extBut _ _ d1 e));refine Ya (Ya (Uy ?_));show wpAny _ _ (Builtin.SmallTypes.nextOf (.ref i2) >>= _) _ _ _;refine Ya (VX (h2.at fun o e=>k₃ _ o D.i2z D.i12.symm D.TOi2.symm e) (hl2.at fun o e=>k₃ _ o D2.z D2.i1 D2.TO e) hy fun h₄ h2₄ hs₄=>Yb ?_);have hTO₄:Z0 h₄ TO x b c:=hs₄.extBut _ _ D.TOi2 hTO₃;refine Ya (Qv hTO₄ rfl ?_);refine Ya (Zgq hTO₄ fun h₅ hTO₅ hs₅ => ?_);replace hTO₅:Z0 h₅ TO x y c:=hTO₅;refine Ya (wpAny_letGo (Yb ?_));have k₅:∀d o,d≠z->d≠i1->d≠i2->d≠TO->s.heap.get? d=some o->h₅.get? d=some o:=fun d o d1 d2 d3 d4 e=>hs₅.extBut _ _ d4 (hs₄.extBut _ _ d3 (k₃ d o d1 d2 d4 e));refine Ya (Ya (Uy ?_));show wpAny _ _ (Builtin.SmallTypes.nextOf (.ref i3) >>= _) _ _ _;refine Ya (VX (h3.at fun o e=>k₅ _ o D.i3z D.i13.symm D.i23.symm D.TOi3.symm e) (hl3.at fun o e=>k₅ _ o D3.z D3.i1 D3.i2 D3.TO e) hv fun h₆ h3₆ hs₆=>Yb ?_);have hTO₆:Z0 h₆ TO x y c:=hs₆.extBut _ _ D.TOi3 hTO₅;refine Ya (Qv hTO₆ rfl ?_);refine Ya (Zgq hTO₆ fun h₇ hTO₇ hs₇ => ?_);replace hTO₇:Z0 h₇ TO x y v:=hTO₇;refine Ya (wpAny_letGo (Yb (Yb ?_)));refine Ya (Qv hTO₇ rfl ?_);refine Ya (VH ?_);have hsz:h₇.objs.size=s.heap.objs.size:=by rw[hs₇.1,hs₆.1,hs₅.1,hs₄.1,hs₃.1,hs₂.1,hs₁.1]
 have hz₇:IsZip h₇ z TI TO .ellipsis:=hs₇.extBut _ _ D.TOz.symm (hs₆.extBut _ _ D.i3z.symm (hs₅.extBut _ _ D.TOz.symm (hs₄.extBut _ _ D.i2z.symm (hs₃.extBut _ _ D.TOz.symm (hs₂.extBut _ _ D.i1z.symm hz₁)))));have hk₇:∀d o,d≠z->d≠TO->d≠i1->d≠i2->d≠i3->s.heap.get? d=some o->h₇.get? d=some o:=fun d o c1 c2 c3 c4 c5 e=>hs₇.extBut _ _ c2 (hs₆.extBut _ _ c5 (k₅ d o c1 c3 c4 c2 e));have h1₇:h₇.IsListIter i1 l1 (k+1):=((((h1₂.extBut hs₃.extBut D.TOi1.symm).extBut hs₄.extBut D.i12).extBut hs₅.extBut D.TOi1.symm).extBut hs₆.extBut D.i13).extBut hs₇.extBut D.TOi1.symm;have h2₇:h₇.IsListIter i2 l2 (k+1):=((h2₄.extBut hs₅.extBut D.TOi2.symm).extBut hs₆.extBut D.i23).extBut hs₇.extBut D.TOi2.symm;have h3₇:h₇.IsListIter i3 l3 (k+1):=h3₆.extBut hs₇.extBut D.TOi3.symm;have hzlt:z<h₇.objs.size:=Yg hz₇;show wpAny _ _ (Builtin.SmallTypes.ownedTupleHandOut (.ref z) (.ref h₇.objs.size) >>= _) _ _ _;refine Ya ?_;unfold Builtin.SmallTypes.ownedTupleHandOut;have hz₈:IsZip (h₇.push { cls:=.type "tuple",data:=.seq #[x,y,v] }) z TI TO .ellipsis:=Yc _ hz₇;refine Ya (Qi hz₈ (by simp) fun h₉ hz₉ hs₉ => ?_);replace hz₉:IsZip h₉ z TI TO (rawInt h₇.objs.size):=hz₉;refine Qi hz₉ (by simp) fun hA hzA hsA => ?_;replace hzA:IsZip hA z TI TO (rawInt h₇.objs.size):=hzA;have up:∀c o,c≠z->h₇.get? c=some o->hA.get? c=some o:=fun c o c1 e=>hsA.extBut _ _ c1 (hs₉.extBut _ _ c1 (Yc _ e));have hTA:Z0 hA h₇.objs.size x y v:=hsA.extBut _ _ (Qb hzlt) (hs₉.extBut _ _ (Qb hzlt) (Yi _ rfl));have hzA':hA.objs.size=h₇.objs.size+1:=by rw[hsA.1,hs₉.1,Y5]
 rw[hsz] at hzA hTA hzA';refine Yb ⟨_,rfl,?_⟩;show Q (.ref h₇.objs.size) _;rw[hsz];exact hQ hA hzA (up _ _ D.TOz hTO₇) (h1₇.at fun o e=>up _ o D.i1z e) (h2₇.at fun o e=>up _ o D.i2z e) (h3₇.at fun o e=>up _ o D.i3z e) hTA hzA' fun c o c1 c2 c3 c4 c5 e=>up c o c1 (hk₇ c o c1 c2 c3 c4 c5 e)
theorem ZnH{z TI TO i1 i2 i3 l1:Addr}{k:Nat}{xs:Array P9}{a b c:P9}{Q:PySem.Fin->P1->Prop}(hh:A.handled=none)(D:Z3 z TI TO i1 i2 i3)(D1:L3 l1 z TO i1 i2 i3)
  (hz:IsZip s.heap z TI TO .none) (hTI:Z0 s.heap TI (.ref i1) (.ref i2) (.ref i3)) (hTO:Z0 s.heap TO a b c) (h1:s.heap.IsListIter i1 l1 k) (hl1:s.heap.IsList l1 xs) (hx:xs[k]?=none)
  (hE:∀h' e,(∀c o,c≠z->c≠TO->c≠i1->c≠i2->c≠i3->s.heap.get? c=some o->h'.get? c=some o)->(∃o,h'.get? e=some o/\o.cls = .type "StopIteration")->E (.ref e) { s with heap:=h' }) :
  wpAny (model prog w) A (Builtin.«zip.__next__» ⟨[.ref z],[]⟩) Q E s:=by
 show wpAny _ _ (field (.ref z) 2 >>= _) _ _ _;refine Ya (WN hz rfl (x:=.bool false) rfl ?_);show wpAny _ _ (field (.ref z) 3 >>= _) _ _ _;refine Ya (WN hz rfl (x:=.ref TI) rfl ?_);refine Ya (Qv hTI rfl ?_);show wpAny _ _ (Builtin.SmallTypes.ownedTupleIsFree (.ref z) >>= _) _ _ _;refine Ya ?_;unfold Builtin.SmallTypes.ownedTupleIsFree;refine Ya (WN hz rfl (x:=.none) rfl (Yb ?_));simp only[Y9];refine Ya (W5 ?_);refine Ya (WN hz rfl (x:=.ref TO) rfl ?_);refine Ya (Qi hz (by simp) fun h₁ hz₁ hs₁ => ?_);replace hz₁:IsZip h₁ z TI TO .ellipsis:=hz₁;refine Ya ?_;simp only[List.zipIdx_cons,List.zipIdx_nil,Vn,VG];refine Ya (Ya (Uy ?_));show wpAny _ _ (Builtin.SmallTypes.nextOf (.ref i1) >>= _) _ _ _;refine Ya (wpAny_nextOf_list_end hh (h1.extBut hs₁.extBut D.i1z) (hl1.extBut hs₁.extBut D1.z) hx fun h₂ e hs₂ he => ?_);obtain⟨oe,hoe,hce⟩:=he;have hz₂:IsZip h₂ z TI TO .ellipsis:=hs₂ _ _ D.i1z.symm hz₁;have hez:e≠z:=fun x=>by subst x; rw[hz₂] at hoe; cases hoe; simp at hce
 refine Qi hz₂ (by simp) fun h₃ _ hs₃=>hE h₃ e (fun c o c1 _ c3 _ _ x=>hs₃.extBut _ _ c1 (hs₂ _ _ c3 (hs₁.extBut _ _ c1 x))) ⟨oe,hs₃.extBut _ _ hez hoe,hce⟩
noncomputable abbrev y1(h:Heap)(l1:Addr):Heap:=h.push { cls:=.type "list_iterator",data:=.fields #[.ref l1,.int 0 0] }
noncomputable abbrev y2(h:Heap)(l1 l2:Addr):Heap:=(y1 h l1).push { cls:=.type "list_iterator",data:=.fields #[.ref l2,.int 0 0] }
noncomputable abbrev y3(h:Heap)(l1 l2 l3:Addr):Heap:=(y2 h l1 l2).push { cls:=.type "list_iterator",data:=.fields #[.ref l3,.int 0 0] }
noncomputable abbrev y4(h:Heap)(l1 l2 l3:Addr):Heap:=(y3 h l1 l2 l3).push { cls:=.type "tuple",data:=.seq #[.ref h.objs.size,.ref (y1 h l1).objs.size,.ref (y2 h l1 l2).objs.size] }
noncomputable abbrev y5(h:Heap)(l1 l2 l3:Addr):Heap:=(y4 h l1 l2 l3).push { cls:=.type "tuple",data:=.seq #[.none,.none,.none] }
noncomputable abbrev y6(h:Heap)(l1 l2 l3:Addr):Heap:=(y5 h l1 l2 l3).push { cls:=.type "zip",data:=.fields #[.none,.bool false,.bool false,.ref (y3 h l1 l2 l3).objs.size,.ref (y4 h l1 l2 l3).objs.size] }
theorem ZpZ(l1 l2 l3:Addr)(xs ys zs:Array P9) :
  Meets (Builtin.«zip.__new__» ⟨[.type "zip",.ref l1,.ref l2,.ref l3],[]⟩) (fun _ R s=>s.heap.IsList l1 xs/\s.heap.IsList l2 ys/\s.heap.IsList l3 zs /\
   R (.ok (.ret (.ref (y5 s.heap l1 l2 l3).objs.size))) { s with heap:=y6 s.heap l1 l2 l3 }) :=
 .of_wp fun prog w A R s h=>by
  obtain⟨hp,g,d,tk,os⟩:=s; obtain⟨hl1,hl2,hl3,h⟩:=h;have hsub:=sub_zip;have hL1:Heap.IsList (Shared.heap ⟨hp,g,d,tk,os⟩) l1 xs:=hl1;have hL2:Heap.IsList (Shared.heap ⟨hp.push { cls:=.type "list_iterator",data:=.fields #[.ref l1,.int 0 0] },g,d,tk,os⟩) l2 ys:=Heap.IsList.push hl2 _;have hL3:Heap.IsList (Shared.heap ⟨(hp.push { cls:=.type "list_iterator",data:=.fields #[.ref l1,.int 0 0] }).push { cls:=.type "list_iterator",data:=.fields #[.ref l2,.int 0 0] },g,d,tk,os⟩) l3 zs:=Heap.IsList.push (Heap.IsList.push hl3 _) _
  wp_walk using Qp hL1,Qp hL2,Qp hL3
  exact⟨_,rfl,h⟩
theorem ZoI(a b c:P9):checkTypeCall "zip" ⟨[a,b,c],[]⟩=pure ():=by kernel_rfl
theorem Zk9(a b c:P9):checkBuiltinCall "zip.__new__" ⟨[.type "zip",a,b,c],[]⟩=pure ():=by kernel_rfl
theorem ZrN(a b c d:P9):argsOk "object.__init__" ⟨[a,b,c,d],[]⟩:=by
 unfold argsOk; rw[signature?_of (id:="object.__init__") (n:=['_','_','t','i','n','i','_','_']) (o:=['t','c','e','j','b','o']) (by kernel_rfl) PySem.F.owner_object]; kernel_rfl
theorem ZqN{l1 l2 l3:Addr}{xs ys zs:Array P9}{Q:P9->P1->Prop}(hl1:s.heap.IsList l1 xs)(hl2:s.heap.IsList l2 ys)(hl3:s.heap.IsList l3 zs)
  (h:∀h',IsZip h' (s.heap.objs.size+5) (s.heap.objs.size+3) (s.heap.objs.size+4) .none->Z0 h' (s.heap.objs.size+3) (.ref s.heap.objs.size) (.ref (s.heap.objs.size+1)) (.ref (s.heap.objs.size+2)) ->
   Z0 h' (s.heap.objs.size+4) .none .none .none->h'.IsListIter s.heap.objs.size l1 0->h'.IsListIter (s.heap.objs.size+1) l2 0->h'.IsListIter (s.heap.objs.size+2) l3 0 ->
   (∀c o,s.heap.get? c=some o->h'.get? c=some o)->Q (.ref (s.heap.objs.size+5)) { s with heap:=h' }) :
  wpAny (model prog w) A (call (.type "zip") [.ref l1,.ref l2,.ref l3]) Q E s:=by
 refine callType_new PySem.F.called_zip (by decide) (ZoI _ _ _) (Zk9 _ _ _) (fun obj=>ZrN obj _ _ _) PySem.F.entry_zip_new
  (ZpZ l1 l2 l3 xs ys zs) ⟨hl1,hl2,hl3,?_⟩
 have z1:(y1 s.heap l1).objs.size=s.heap.objs.size+1:=Y5 ..;have z2:(y2 s.heap l1 l2).objs.size=s.heap.objs.size+2:=by rw[Y5,z1]
 have z3:(y3 s.heap l1 l2 l3).objs.size=s.heap.objs.size+3:=by rw[Y5,z2]
 have z4:(y4 s.heap l1 l2 l3).objs.size=s.heap.objs.size+4:=by rw[Y5,z3]
 have z5:(y5 s.heap l1 l2 l3).objs.size=s.heap.objs.size+5:=by rw[Y5,z4]
 have g6:(y6 s.heap l1 l2 l3).get? (y5 s.heap l1 l2 l3).objs.size=some _:=Yi _ rfl;have g5:(y6 s.heap l1 l2 l3).get? (y4 s.heap l1 l2 l3).objs.size=some _:=Yc _ (Yi _ rfl);have g4:(y6 s.heap l1 l2 l3).get? (y3 s.heap l1 l2 l3).objs.size=some _:=Yc _ (Yc _ (Yi _ rfl));have g3:(y6 s.heap l1 l2 l3).get? (y2 s.heap l1 l2).objs.size=some _:=Yc _ (Yc _ (Yc _ (Yi _ rfl)));have g2:(y6 s.heap l1 l2 l3).get? (y1 s.heap l1).objs.size=some _:=Yc _ (Yc _ (Yc _ (Yc _ (Yi _ rfl))));have g1:(y6 s.heap l1 l2 l3).get? s.heap.objs.size=some _:=Yc _ (Yc _ (Yc _ (Yc _ (Yc _ (Yi _ rfl)))));show _/\_;rw[z3,z4,z5] at g6;rw[z1,z2,z3] at g4;rw[z4] at g5;rw[z2] at g3;rw[z1] at g2;rw[z5];exact⟨⟨_,g6,rfl⟩,h _ g6 g4 g5 ⟨_,g1,rfl,rfl⟩ ⟨_,g2,rfl,rfl⟩ ⟨_,g3,rfl,rfl⟩ fun c o x =>
  Yc _ (Yc _ (Yc _ (Yc _ (Yc _ (Yc _ x)))))⟩
end
end HT
namespace DL
open PySem PySem.Spec PyProof.Rows L2 HT
def It3(K:P5)(a b c:Addr):It :=
  ⟨fun i H => ∃xs ys zs x y z,SqL K H a xs/\SqL K H b ys/\SqL K H c zs/\xs[i]?=some x/\ys[i]?=some y/\zs[i]?=some z,
   fun i H v H' => ∃p x y z,H p=none/\v = .ref p/\H'=upd H p (.tup [x,y,z])/\(∀xs,SqL K H a xs->xs[i]?=some x)/\(∀ys,SqL K H b ys->ys[i]?=some y)/\∀zs,SqL K H c zs->zs[i]?=some z,
   fun i H => ∃xs,SqL K H a xs/\xs.length<=i⟩
theorem ZrU{P:P7}{w:World}{K:P5}{es:List Expr}{k:Nat}{pt:Pos}(a b c z TI TO i1 i2 i3:Addr)(D:Z3 z TI TO i1 i2 i3) :
  Turn P w K (.Tuple es k pt) (It3 K a b c) [z,TI,TO,i1,i2,i3] z (fun i h=>IsZip h z TI TO .none/\Z0 h TI (.ref i1) (.ref i2) (.ref i3)/\(∃u v t,Z0 h TO u v t)/\h.IsListIter i1 a i/\h.IsListIter i2 b i/\h.IsListIter i3 c i) where
 mem:=by simp
 obj:=fun i h st d hc=>by
  obtain⟨h1,h2,⟨u,v,t,h3⟩,⟨o4,h4,_,d4⟩,⟨o5,h5,_,d5⟩,⟨o6,h6,_,d6⟩⟩:=st;simp only[Yl,YO,WL] at hc;rcases hc with rfl | rfl | rfl | rfl | rfl | rfl
  ·exact⟨_,h1,fun v z=>by cases z⟩
  ·exact⟨_,h2,fun v z=>by cases z⟩
  ·exact⟨_,h3,fun v z=>by cases z⟩
  ·exact⟨_,h4,fun v z=>by rw[d4] at z; cases z⟩
  ·exact⟨_,h5,fun v z=>by rw[d5] at z; cases z⟩
  ·exact⟨_,h6,fun v z=>by rw[d6] at z; cases z⟩
 keep:=fun i h h' st k=>by
  obtain⟨h1,h2,⟨u,v,t,h3⟩,h4,h5,h6⟩:=st;exact⟨k z (by simp) _ h1,k TI (by simp) _ h2,⟨u,v,t,k TO (by simp) _ h3⟩,h4.at fun o e=>k i1 (by simp) o e,h5.at fun o e=>k i2 (by simp) o e,h6.at fun o e=>k i3 (by simp) o e⟩
 item:=by
  intro X hP hw hK hc i pins s σ H E I hf st hg;subst hP hw hK;obtain⟨xs,ys,zs,vx,vy,vz,q1,q2,q3,g1,g2,g3⟩:=hg;obtain⟨its1,r1,p1,_⟩:=I.list q1;obtain⟨its2,r2,p2,_⟩:=I.list q2;obtain⟨its3,r3,p3,_⟩:=I.list q3;obtain⟨ux,e1,rx⟩:=r1.get g1;obtain⟨uy,e2,ry⟩:=r2.get g2;obtain⟨uz,e3,rz⟩:=r3.get g3;obtain⟨hz,h2,⟨u,v,t,h3⟩,h4,h5,h6⟩:=st;have fz:=hf z (by simp);have fTO:=hf TO (by simp);have f1:=hf i1 (by simp);have f2:=hf i2 (by simp);have f3:=hf i3 (by simp);have L1:L3 a z TO i1 i2 i3:=⟨Z8 I q1 fz,Z8 I q1 fTO,Z8 I q1 f1,Z8 I q1 f2,Z8 I q1 f3⟩;have L2:L3 b z TO i1 i2 i3:=⟨Z8 I q2 fz,Z8 I q2 fTO,Z8 I q2 f1,Z8 I q2 f2,Z8 I q2 f3⟩;have L3:L3 c z TO i1 i2 i3:=⟨Z8 I q3 fz,Z8 I q3 fTO,Z8 I q3 f1,Z8 I q3 f2,Z8 I q3 f3⟩;have hzH:z<s.heap.objs.size:=Yg hz;have hT0:s.TypeIs (.ref z) "zip":=⟨_,hz,rfl⟩;unfold pyNext;refine Ya (W0 (YY (name:=Str.ofString "__next__") hT0 Q9
   (YE Q9 hT0 PySem.F.entry_zip_next
    (Znn D L1 L2 L3 hz h2 h3 h4 h5 h6 p1.isList p2.isList p3.isList (by simpa using e1) (by simpa using e2) (by simpa using e3) fun h' z1 z2 z3 z4 z5 z6 z7 z8=>Yb ?_) (PySem.F.args_zip_next_1 _))))
  refine⟨_,rfl,wpAny_letOwnedTupleGo_zip (s:={ s with heap:=h' }) z1 fun h'' y1 y2 => ?_⟩;replace y2:Heap.SameBut z h' h'':=y2;have up:∀c o,c≠z->h'.get? c=some o->h''.get? c=some o:=fun c o hce ho=>(y2.2 c hce).trans ho;have z9:∀c o,c≠z->c≠TO->c≠i1->c≠i2->c≠i3->s.heap.get? c=some o->h''.get? c=some o:=fun c o c1 c2 c3 c4 c5 ho=>up c o c1 (z8 c o c1 c2 c3 c4 c5 ho);have hfr:=I.hok.fresh (Yj s.heap.objs.size);have hT:Z0 h'' s.heap.objs.size ux uy uz:=up _ _ (Qb hzH) z6;refine⟨.ref s.heap.objs.size,upd H s.heap.objs.size (.tup [vx,vy,vz]),?_,rfl,⟨s.heap.objs.size,vx,vy,vz,hfr,rfl,rfl,fun zs hq=>by rw[I.list_inj hq q1]; exact g1,fun zs hq=>by rw[I.list_inj hq q2]; exact g2,fun zs hq=>by rw[I.list_inj hq q3]; exact g3⟩,
   ⟨y1,z9 _ _ D.TIz D.TITO D.TIi1 D.TIi2 D.TIi3 h2,⟨ux,uy,uz,up _ _ D.TOz z2⟩,z3.at fun o e=>up _ o D.i1z e,z4.at fun o e=>up _ o D.i2z e,z5.at fun o e=>up _ o D.i3z e⟩,fun c hc => ?_⟩
  ·show Inv X pins σ _ { s with heap:=h'' };refine I.step (ch:=[z,TO,i1,i2,i3]) (g':=s.gens) (t':=s.toks) (d':=s.drawn) ?_ ?_ ?_ ?_ ?_ ?_ ?_ ?_ ?_ ?_ I.bare
   ·intro c hc;have hc':c∈[z,TI,TO,i1,i2,i3]:=by
     simp only[Yl,YO,WL] at hc ⊢;rcases hc with h | h | h | h | h <;> simp[h]
    obtain⟨k0,k1,k2,k3,k4,k5⟩:=hf c hc';exact⟨k3,k1,k4,k5⟩
   ·intro c o k1 k2 k3 k4 k5;simp only[Yl,YO,WL,Vf] at k3;exact z9 c o k3.1 k3.2.1 k3.2.2.1 k3.2.2.2.1 k3.2.2.2.2 k4
   ·intro c o k1 k2 k3 k4 k5;simp only[Yl,YO,WL,Vf] at k3;exact⟨o.slots,z9 c o k3.1 k3.2.1 k3.2.2.1 k3.2.2.2.1 k3.2.2.2.2 k4⟩
   ·intro c o k3 k4 k5;rw[Zh (Yp (Yg k4))];exact k5
   ·intro c o k3 k4;simp only[Yl,YO,WL,Vf] at k3;exact⟨o,z9 c o k3.1 k3.2.1 k3.2.2.1 k3.2.2.2.1 k3.2.2.2.2 k4⟩
   ·intro c ws k;rw[Zh (ZG k hfr)]; exact k
   ·intro c ob ws k;rw[Zh (ZG k hfr)]; exact k
   ·intro c ps k;exact⟨#[],by rw[Zh (ZG k hfr),k]; simp⟩
   ·intro m hm;exact hm.at' fun o e=>z9 _ o (YX fz.2.1) (YX fTO.2.1) (YX f1.2.1) (YX f2.2.1) (YX f3.2.1) e
   ·intro c o e;by_cases hcc:c=s.heap.objs.size
    ·subst hcc;rw[ZH] at e;cases e;exact⟨(by show 3<=sizeLine; rw[YG]; decide),[ux,uy,uz],.cons rx (.cons ry (.cons rz .nil)),⟨_,hT,rfl,_,rfl⟩,fun o2 e2=>by have e3:=e2.symm.trans hT; cases e3; rfl⟩
    ·rw[Zh hcc] at e;refine (I.hok c o e).stay (fun d u hd k => ?_) (fun d k=>by rw[Zh (ZG k hfr)]; exact k) fun d ws k=>by rw[Zh (ZG k hfr)]; exact k
     have hHd:∃o',H d=some o':=by
      rcases hd with rfl | hd
      ·exact⟨o,e⟩
      ·exact⟨_,hd⟩
     obtain⟨o',ho'⟩:=hHd;exact z9 d u (ZG ho' fz.1) (ZG ho' fTO.1) (ZG ho' f1.1) (ZG ho' f2.1) (ZG ho' f3.1) k
  ·have hcn:=(hf c hc).1;obtain⟨oc,hoc⟩:∃o,s.heap.get? c=some o:=by
    simp only[Yl,YO,WL] at hc;obtain⟨o4,h4',_⟩:=h4;obtain⟨o5,h5',_⟩:=h5;obtain⟨o6,h6',_⟩:=h6;rcases hc with rfl | rfl | rfl | rfl | rfl | rfl
    ·exact⟨_,hz⟩
    ·exact⟨_,h2⟩
    ·exact⟨_,h3⟩
    ·exact⟨_,h4'⟩
    ·exact⟨_,h5'⟩
    ·exact⟨_,h6'⟩
   rw[Zh (Yp (Yg hoc))];exact hcn
 done:=by
  intro X hP hw hK hc i pins s σ H E I hf st hg;subst hP hw hK;obtain⟨xs,q1,g⟩:=hg;obtain⟨its1,r1,p1,_⟩:=I.list q1;obtain⟨hz,h2,⟨u,v,t,h3⟩,h4,h5,h6⟩:=st;have fz:=hf z (by simp);have fTO:=hf TO (by simp);have f1:=hf i1 (by simp);have f2:=hf i2 (by simp);have f3:=hf i3 (by simp);have L1:L3 a z TO i1 i2 i3:=⟨Z8 I q1 fz,Z8 I q1 fTO,Z8 I q1 f1,Z8 I q1 f2,Z8 I q1 f3⟩;have hend:its1.toArray[i]?=none:=by
   have l1:=r1.length;simp; omega
  have hT0:s.TypeIs (.ref z) "zip":=⟨_,hz,rfl⟩;unfold pyNext;refine Ya (W0 (YY (name:=Str.ofString "__next__") hT0 Q9
   (YE Q9 hT0 PySem.F.entry_zip_next (ZnH (by simpa using I.ok.hd hc) D L1 hz h2 h3 h4 p1.isList hend fun h' e hk he => ?_) (PySem.F.args_zip_next_1 _))))
  obtain⟨o,ho,hcl⟩:=he;refine Ya (WK (T:="StopIteration") (b:=true) ⟨o,ho,hcl⟩ Q8 ?_);refine Yb ⟨rfl,?_⟩;refine I.step (H':=H) (ch:=[z,TO,i1,i2,i3]) (g':=s.gens) (t':=s.toks) (d':=s.drawn) ?_ ?_ ?_ ?_ ?_ (fun _ _ k=>k) (fun _ _ _ k=>k) (fun c ps k=>⟨#[],by rw[k]; simp⟩) ?_ ?_ I.bare
  ·intro c hc;have hc':c∈[z,TI,TO,i1,i2,i3]:=by
    simp only[Yl,YO,WL] at hc ⊢;rcases hc with h | h | h | h | h <;> simp[h]
   obtain⟨k0,k1,k2,k3,k4,k5⟩:=hf c hc';exact⟨k3,k1,k4,k5⟩
  ·intro c o k1 k2 k3 k4 k5;simp only[Yl,YO,WL,Vf] at k3;exact hk c o k3.1 k3.2.1 k3.2.2.1 k3.2.2.2.1 k3.2.2.2.2 k4
  ·intro c o k1 k2 k3 k4 k5;simp only[Yl,YO,WL,Vf] at k3;exact⟨o.slots,hk c o k3.1 k3.2.1 k3.2.2.1 k3.2.2.2.1 k3.2.2.2.2 k4⟩
  ·intro c o k3 k4 k5;exact k5
  ·intro c o k3 k4;simp only[Yl,YO,WL,Vf] at k3;exact⟨o,hk c o k3.1 k3.2.1 k3.2.2.1 k3.2.2.2.1 k3.2.2.2.2 k4⟩
  ·intro m hm;exact hm.at' fun o e=>hk _ o (YX fz.2.1) (YX fTO.2.1) (YX f1.2.1) (YX f2.2.1) (YX f3.2.1) e
  ·intro c o e;refine (I.hok c o e).stay (fun d u hd k => ?_) (fun d k=>k) fun d ws k=>k;have hHd:∃o',H d=some o':=by
    rcases hd with rfl | hd
    ·exact⟨o,e⟩
    ·exact⟨_,hd⟩
   obtain⟨o',ho'⟩:=hHd;exact hk d u (ZG ho' fz.1) (ZG ho' fTO.1) (ZG ho' f1.1) (ZG ho' f2.1) (ZG ho' f3.1) k
 self:=fun _ _ _ _ _ st h=>by
  obtain⟨hz,_⟩:=st;exact wpAny_pyIter_zip hz h
section
variable{X:Cx}{EX:EXT}{es:List Expr}{k:Nat}{pt p pos:Pos}{a b c:Expr}{g:DA}
def ZqO(K:P5)(ta:TA):TI:=fun σ H R=>ta σ H fun vs H1 => ∃a b c,vs=[.ref a,.ref b,.ref c]/\(∃xs,SqL K H1 a xs)/\(∃ys,SqL K H1 b ys)/\(∃zs,SqL K H1 c zs)/\R (It3 K a b c) H1
theorem Zm6{ta:TA}(hg:Gl X "zip")(hm:X.mg "zip" = none)(ha:PA X [a,b,c] ta)(hs:starEach [a,b,c] X.env=[(false,eval a X.env),(false,eval b X.env),(false,eval c X.env)]:=by rfl)(hs2:starEach [b,c] X.env=[(false,eval b X.env),(false,eval c X.env)]:=by rfl) :
  PI X (.Tuple es k pt) (.Call (.Name "zip" p) [a,b,c] [] pos) (ZqO X.K ta):=by
 intro pins s σ H R I h;refine Call_ (ZaE I hg hm PyProof.Rows.boot_zip (WG (thn (ha pos pins s σ H _ I h) fun us s1 ⟨vs,H1,I1,r1,q1⟩ => ?_) (by rw[hs,hs2]) (by rw[hs2]; rfl)));obtain⟨pa,pb,pc,e,⟨xs,h1⟩,⟨ys,h2⟩,⟨zs,h3⟩,q⟩:=q1;subst e;cases r1 with
 | cons r rr =>
 cases rr with
 | cons r' rr =>
 cases rr with
 | cons r'' rr =>
  cases rr;cases r;cases r';cases r'';obtain⟨its1,v1,p1,_⟩:=I1.list h1;obtain⟨its2,v2,p2,_⟩:=I1.list h2;obtain⟨its3,v3,p3,_⟩:=I1.list h3;refine ZqN p1.isList p2.isList p3.isList fun h' z1 z2 z3 z4 z5 z6 z7 => ?_;have I2:Inv X pins σ H1 { s1 with heap:=h' }:=I1.kept (t':=s1.toks) z7;have D:Z3 (s1.heap.objs.size+5) (s1.heap.objs.size+3) (s1.heap.objs.size+4) s1.heap.objs.size (s1.heap.objs.size+1) (s1.heap.objs.size+2):=by
   constructor <;> (intro z; have z':(_:Nat)=_:=z; omega)
  have T:=ZrU (P:=X.prog) (w:=X.w) (K:=X.K) (es:=es) (k:=k) (pt:=pt) pa pb pc _ _ _ _ _ _ D;have st:IsZip h' (s1.heap.objs.size+5) (s1.heap.objs.size+3) (s1.heap.objs.size+4) .none/\Z0 h' (s1.heap.objs.size+3) (.ref s1.heap.objs.size) (.ref (s1.heap.objs.size+1)) (.ref (s1.heap.objs.size+2))/\(∃u v t,Z0 h' (s1.heap.objs.size+4) u v t)/\h'.IsListIter s1.heap.objs.size pa 0/\h'.IsListIter (s1.heap.objs.size+1) pb 0/\h'.IsListIter (s1.heap.objs.size+2) pc 0 :=
   ⟨z1,z2,⟨_,_,_,z3⟩,z4,z5,z6⟩
  refine T.self _ 0 _ _ _ st ?_;refine⟨_,_,_,_,H1,rfl,I2,T,st,fun c hc => ?_,q⟩;have hle:s1.heap.objs.size<=c:=by
   simp only[Yl,YO,WL] at hc;rcases hc with rfl | rfl | rfl | rfl | rfl | rfl
   ·exact WY _ _
   ·exact WY _ _
   ·exact WY _ _
   ·exact Yj _
   ·exact WY _ _
   ·exact WY _ _
  exact I1.fpOk hle (I1.hok.fresh hle)
def Zaf:List D->List D->List D->List D
 | x :: xs,y :: ys,z :: zs => .tup [x,y,z] :: Zaf xs ys zs
 | _,_,_=>[]
theorem ZjL:∀(xs ys zs:List D),xs.length<=ys.length->xs.length<=zs.length->(Zaf xs ys zs).length=xs.length
 | [],_,_,_,_=>by unfold Zaf; rfl
 | x :: xs,[],_,h,_=>by simp at h
 | x :: xs,y :: ys,[],_,h=>by simp at h
 | x :: xs,y :: ys,z :: zs,h1,h2=>by
  show (Zaf xs ys zs).length+1=_;rw[ZjL xs ys zs (by simpa using h1) (by simpa using h2)];rfl
theorem Zjc:∀(xs ys zs:List D) (i:Nat) (d:D),(Zaf xs ys zs)[i]?=some d->∃x y z,d = .tup [x,y,z]/\xs[i]?=some x/\ys[i]?=some y/\zs[i]?=some z
 | [],_,_,i,d,h=>by unfold Zaf at h; simp at h
 | x :: xs,[],_,i,d,h=>by unfold Zaf at h; simp at h
 | x :: xs,y :: ys,[],i,d,h=>by unfold Zaf at h; simp at h
 | x :: xs,y :: ys,z :: zs,0,d,h=>by
  unfold Zaf at h;simp only[Yu,Yx] at h;exact⟨x,y,z,h.symm,rfl,rfl,rfl⟩
 | x :: xs,y :: ys,z :: zs,i+1,d,h=>by
  unfold Zaf at h;rw[YA] at h;exact Zjc xs ys zs i d h
def Zd6(g:DA):DI:=fun ρ st=>(g ρ st).bind fun ds st1=>match ds with
 | [x,y,z]=>match Zp st1 x,Zp st1 y,Zp st1 z with
  | some xs,some ys,some zs=>if xs.length<=ys.length/\xs.length<=zs.length then .ok (Zaf xs ys zs,fun st=>Zp st x=some xs/\Zp st y=some ys/\Zp st z=some zs) st1 else .bad
  | _,_,_ => .bad
 | _ => .bad
theorem ZlU(hg:Gl X "zip")(hm:X.mg "zip" = none)(ha:PDA X EX [a,b,c] g)(hs:starEach [a,b,c] X.env=[(false,eval a X.env),(false,eval b X.env),(false,eval c X.env)]:=by rfl)(hs2:starEach [b,c] X.env=[(false,eval b X.env),(false,eval c X.env)]:=by rfl):PID X EX (.Tuple es k pt) (.Call (.Name "zip" p) [a,b,c] [] pos) (Zd6 g):=by
 refine PI.mono (Zm6 hg hm ha hs hs2) ?_;rintro σ H R ⟨O,ρ,st,W,E,R0⟩;refine⟨O,ρ,st,W,E,R0.bind.mono fun ds st1 O1 H1 k1 W1 R1 vs r => ?_⟩;split at R1
 ·rename_i x y z;obtain⟨v,u,t,rfl,rv,ru,rt⟩:∃v u t,vs=[v,u,t]/\Rep X.K O1 H1 x v/\Rep X.K O1 H1 y u/\Rep X.K O1 H1 z t:=by
   obtain⟨v,vs',e1,r1,r2⟩:=Reps.cons_i.mp r;obtain⟨u,t,e2,r3,r4⟩:=Reps.two_of r2;exact⟨v,u,t,by rw[e1,e2],r1,r3,r4⟩
  split at R1
  ·rename_i xs ys zs ex ey ez;by_cases hc:xs.length<=ys.length/\xs.length<=zs.length
   ·rw[Yf hc] at R1;obtain⟨pa,va,rfl,qa,ra⟩:=rdL W1 rv ex;obtain⟨pb,vb,rfl,qb,rb⟩:=rdL W1 ru ey;obtain⟨pc,vc,rfl,qc,rc⟩:=rdL W1 rt ez;refine⟨pa,pb,pc,rfl,⟨va,qa⟩,⟨vb,qb⟩,⟨vc,qc⟩,Run.now (k:=fun q _ O' H' => ∀J,ItD X.K J O' H' q->R J H') R1 W1 _ ?_⟩;intro i O' H' st2 kp W' hp;obtain⟨pa',va',e1,qa',ra'⟩:=rdL W' (Rep.mono kp _ _ rv) hp.1;cases e1;obtain⟨pb',vb',e2,qb',rb'⟩:=rdL W' (Rep.mono kp _ _ ru) hp.2.1;cases e2;obtain⟨pc',vc',e3,qc',rc'⟩:=rdL W' (Rep.mono kp _ _ rt) hp.2.2;cases e3;refine⟨fun d hd => ?_,fun hl => ?_⟩
    ·obtain⟨dx,dy,dz,rfl,g1,g2,g3⟩:=Zjc xs ys zs i d hd;obtain⟨vx,e1,rx⟩:=ra'.get g1;obtain⟨vy,e2,ry⟩:=rb'.get g2;obtain⟨vz,e3,rz⟩:=rc'.get g3;refine⟨⟨va',vb',vc',vx,vy,vz,qa',qb',qc',e1,e2,e3⟩,?_⟩;rintro v H2 ⟨p,x',y',z',hp,rfl,rfl,h3,h4,h5⟩;have e4:=h3 va' qa';have e5:=h4 vb' qb';have e6:=h5 vc' qc';rw[e1] at e4;rw[e2] at e5;rw[e3] at e6;cases e4;cases e5;cases e6;exact⟨Keep.laid hp,W'.laid hp,Rep.tup_i.mpr ⟨p,_,rfl,ZH,Reps.cons_i.mpr ⟨_,_,rfl,Rep.mono (Keep.laid hp) _ _ rx,Reps.cons_i.mpr ⟨_,_,rfl,Rep.mono (Keep.laid hp) _ _ ry,Reps.one (Rep.mono (Keep.laid hp) _ _ rz)⟩⟩⟩⟩
    ·refine⟨va',qa',?_⟩;rw[<-ra'.length];have:=ZjL xs ys zs hc.1 hc.2;dsimp only at hl;omega
   ·rw[Yh hc] at R1; exact R1.elim
  ·exact R1.elim
 ·exact R1.elim
end
end DL
end
section
namespace HT
open PySem PyProof.Rows
noncomputable abbrev ZbI(h:Heap)(it d:Addr)(i n ep:Nat)(ok ov:P9)(a:Addr)(f1:Bool):Prop :=
 h.get? it=some { cls:=.type "dict_itemiterator",dict:=none,data:=.fields #[rawInt a,.bool f1,.ref d,.int i 0,.int n 0,.int ep 0,ok,ov],slots:=#[] }
section
variable{prog:P7}{w:World}{K:Type}[DecidableEq K]{knd:KeyKind prog w K}{A:P6}{E:P9->P1->Prop}{s:P1}
theorem Zlk{a:Addr}{o:Obj}{Q:Option Obj->P1->Prop}(h:s.heap.get? a=some o)(hQ:Q (some o) s):wpAny (model prog w) A (loadIfAlive a) Q E s:=by
 unfold loadIfAlive;intro B p hB;rw[Sem.wp_loadIfAlive,h];exact Yb (M:=model prog w) (A:=A) (E:=E) hQ B p hB
theorem Zqv{it d a:Addr}{oa:Obj}{f1:Bool}{i ep:Nat}{kvs:List (K×P9)}{k:K}{v ok ov:P9}{Q:Option P9->P1->Prop}(hit:ZbI s.heap it d i kvs.length ep ok ov a f1)(hal:s.heap.get? a=some oa)
  (hm:s.heap.DictAt knd d kvs ep) (hx:kvs[i]?=some (k,v)) (hne:oa≠{ cls:=.type "dict_itemiterator",dict:=none,data:=.fields #[rawInt a,.bool f1,.ref d,.int i 0,.int kvs.length 0,.int ep 0,ok,ov],slots:=#[] })
  (hQ:∀key h',knd.is k key=true->ZbI h' it d (i+1) kvs.length ep ok ov a true->h'.get? a=some oa ->
   h'.get? s.heap.objs.size=some { cls:=.type "tuple",data:=.seq #[key,v] }->h'.objs.size=s.heap.objs.size+1 ->
   (∀b o,b≠it->s.heap.get? b=some o->h'.get? b=some o)->Q (some (.ref s.heap.objs.size)) { s with heap:=h' }) :
  wpAny (model prog w) A (pyNext (.ref it)) Q E s:=by
 obtain⟨hp,g,dr,tk,os⟩:=s;obtain⟨od,es,hod,hcd,hdd,hk,hpr,hn⟩:=id hm;have hT:Shared.TypeIs ⟨hp,g,dr,tk,os⟩ (.ref it) "dict_itemiterator":=⟨_,hit,rfl⟩;unfold pyNext;refine Ya (W0 (YY (name:=Str.ofString "__next__") hT W6
  (YE W6 hT VA ?_ (V8 _))))
 refine Ya (Yb ?_);refine Ya ?_;refine Ya ?_
 first | refine Ya (Qo hT (Yb ?_)) | refine Ya (QJ hT (Yb ?_))
 refine Ya (Qu hit rfl ?_);have hown:Builtin.Dict_items.ownsTuple "dict_itemiterator" = true:=by decide
 simp only[hown,Y9];show wpAny _ _ (if (Value.ref d == Value.none)=true then _ else _) _ _ _;rw[Yh (show ¬ ((Value.ref d == Value.none)=true) from Qh)];refine Ya (Yb ?_);refine Ya (Wm hod hdd ?_);have hsz:es.size=kvs.length:=by rw[<-hpr.length]; simp
 rw[Yh (by rw[hsz]; simp)];refine Ya (Yb ?_);refine Ya (WU hod hdd ?_);rw[Yh (by simp)];refine Yb ?_;have hlt:i<kvs.length:=by
  rcases Nat.lt_or_ge i kvs.length with h | h
  ·exact h
  ·simp[Qz h] at hx
 have hlt':i<es.size:=by rw[hsz]; exact hlt
 obtain⟨hkey,hval⟩:=hpr.get? (e:=es[i]) (by simp[hlt']) hx;simp only[show ¬ ((i:Int)<0) from by omega,Y3,Y4,Ys hlt'];refine Ya ?_
 first | refine Ya (Qo hT (Yb ?_)) | refine Ya (QJ hT (Yb ?_))
 refine Ya (VY hT ?_);show wpAny _ _ (setField (.ref it) 3 (rawInt ((i:Int)+1)) >>= _) _ _ ⟨hp,g,dr,tk,os⟩;refine Ya (Qi hit (by simp) fun h₁ he₁ hs₁ => ?_);replace hs₁:Heap.SameBut it hp h₁:=hs₁;replace he₁:ZbI h₁ it d (i+1) kvs.length ep ok ov a f1:=by
  have e:((i+1:Nat):Int)=(i:Int)+1:=by omega
  unfold ZbI; rw[e]; simpa[rawInt] using he₁
 have hT₁:Shared.TypeIs ⟨h₁,g,dr,tk,os⟩ (.ref it) "dict_itemiterator":=⟨_,he₁,rfl⟩;refine Ya (YM ?_);refine Ya (VY hT₁ ?_);refine Ya (VY hT₁ ?_);show wpAny _ _ (Builtin.Dict_items.pairFromOwner (.ref it) 6 es[i].key es[i].val) _ _ ⟨h₁,g,dr,tk,os⟩;unfold Builtin.Dict_items.pairFromOwner;refine Ya (VH ?_);have he₂:ZbI (h₁.push { cls:=.type "tuple",data:=.seq #[es[i].key,es[i].val] }) it d (i+1) kvs.length ep ok ov a f1:=Yc _ he₁;generalize hh₂:h₁.push { cls:=.type "tuple",data:=.seq #[es[i].key,es[i].val] }=h₂ at he₂;have hz₁:h₁.objs.size=hp.objs.size:=hs₁.1;have hil:it<hp.objs.size:=Yg hit;have ht₂:h₂.get? hp.objs.size=some { cls:=.type "tuple",data:=.seq #[es[i].key,es[i].val] }:=by rw[<-hh₂,<-hz₁]; exact Yi _ rfl
 have hz₂:h₂.objs.size=hp.objs.size+1:=by rw[<-hh₂,Y5,hz₁]
 have hk₂:∀b o,b≠it->hp.get? b=some o->h₂.get? b=some o:=fun b o hb e=>by rw[<-hh₂]; exact Yc _ (hs₁.extBut b o hb e)
 show wpAny _ _ (Builtin.Dict_items.ownedTupleIsFree (.ref it) >>= _) _ _ ⟨h₂,g,dr,tk,os⟩;rw[hz₁];clear hh₂ he₁ hs₁ hT₁ hz₁ h₁;refine Ya ?_;have hae:a≠it:=fun z=>by
  subst z;have hal':hp.get? a=some oa:=hal;have hit':hp.get? a=_:=hit;exact hne (Option.some.inj (hal'.symm.trans hit'))
 have hal₂:h₂.get? a=some oa:=hk₂ a oa hae hal;unfold Builtin.Dict_items.ownedTupleIsFree;refine Ya (WN he₂ rfl (x:=rawInt a) rfl ?_);show wpAny _ _ (loadIfAlive ((a:Int).toNat) >>= _) _ _ _;rw[Y4];refine Ya (Zlk (s:=⟨h₂,g,dr,tk,os⟩) hal₂ ?_);rw[Yh (by simp)];refine Ya (WN he₂ rfl (x:=.bool f1) rfl ?_);cases f1 with
 | true =>
  rw[Yh (by decide)];refine Yb ?_;rw[Yh (by decide)];exact Yb (Yb ⟨_,rfl,Yb (hQ es[i].key h₂ hkey he₂ hal₂ (hval ▸ ht₂) hz₂ hk₂)⟩)
 | false =>
  rw[Yf (by decide)];refine Ya (Qi he₂ (by simp) fun h₃ he₃ hs₃=>Yb ?_);replace hs₃:Heap.SameBut it h₂ h₃:=hs₃;replace he₃:ZbI h₃ it d (i+1) kvs.length ep ok ov a true:=he₃;rw[Yh (by decide)];refine Yb (Yb ⟨_,rfl,Yb (hQ es[i].key h₃ hkey he₃ (hs₃.extBut _ _ hae hal₂) ?_ ?_ ?_)⟩)
  ·rw[<-hval]; exact hs₃.extBut _ _ (Qb hil) ht₂
  ·show h₃.objs.size=hp.objs.size+1;rw[hs₃.1,hz₂]
  ·exact fun b o hb e=>hs₃.extBut b o hb (hk₂ b o hb e)
theorem ZmO{it d a:Addr}{f1:Bool}{i ep:Nat}{kvs:List (K×P9)}{ok ov:P9}{Q:Option P9->P1->Prop}(hh:A.handled=none)(hit:ZbI s.heap it d i kvs.length ep ok ov a f1)
  (hm:s.heap.DictAt knd d kvs ep) (hx:kvs[i]?=none)
  (hQ:∀h',Heap.ExtBut it s.heap h'->Q none { s with heap:=h' }):wpAny (model prog w) A (pyNext (.ref it)) Q E s:=by
 obtain⟨od,es,hod,hcd,hdd,hk,hpr,hn⟩:=id hm;have hT:s.TypeIs (.ref it) "dict_itemiterator":=⟨_,hit,rfl⟩;unfold pyNext;refine Ya (W0 (YY (name:=Str.ofString "__next__") hT W6
  (YE W6 hT VA ?_ (V8 _))))
 refine Ya (Yb ?_);refine Ya ?_;refine Ya ?_
 first | refine Ya (Qo hT (Yb ?_)) | refine Ya (QJ hT (Yb ?_))
 refine Ya (Qu hit rfl ?_);have hown:Builtin.Dict_items.ownsTuple "dict_itemiterator" = true:=by decide
 simp only[hown,Y9];show wpAny _ _ (if (Value.ref d == Value.none)=true then _ else _) _ _ s;rw[Yh (show ¬ ((Value.ref d == Value.none)=true) from Qh)];refine Ya (Yb ?_);refine Ya (Wm hod hdd ?_);have hsz:es.size=kvs.length:=by rw[<-hpr.length]; simp
 rw[Yh (by rw[hsz]; simp)];refine Ya (Yb ?_);refine Ya (WU hod hdd ?_);rw[Yh (by simp)];refine Yb ?_;have hge:es.size<=i:=by rw[hsz]; simpa using hx
 simp only[show ¬ ((i:Int)<0) from by omega,Y3,Y4,Wo hge];refine Ya ?_
 first | refine Ya (Qo hT (Yb ?_)) | refine Ya (QJ hT (Yb ?_))
 show wpAny _ _ (setField (.ref it) 2 .none >>= _) _ _ s;refine Ya (WQ hit rfl (by simp) ?_);show wpAny _ _ (newExc (.type "StopIteration") [] >>= _) _ _ _;refine Ya ?_;simp only[newExc,newTuple];refine Ya (YV ?_ (by size_fits));refine Ya (m:=firstArgMember _ _) (VV (a:=Value.none) (by first | rfl | (simp only[firstArgMember]; rfl)) ?_);refine YV ?_ (by size_fits);simp only[raiseNew];refine Ya (wpAny_handled ?_);rw[show A.in1.handled=none from hh];refine Ya (Yb (wpAny_throw ?_));refine Ya (WK (T:="StopIteration") (b:=true) ⟨_,Yi _ rfl,rfl⟩ Q8 ?_);exact Yb (hQ _ (((YB ..).extBut.push _).push _))
end
section
variable{prog:P7}{w:World}{K:Type}[DecidableEq K]{knd:KeyKind prog w K}{A:P6}{E:P9->P1->Prop}{s:P1}
def PairsAt(knd:KeyKind prog w K)(n0:Nat)(h:Heap):List P9->List (K×P9)->Prop
 | [],[]=>True
 | v :: vs,p :: r=>(∃b key,v = .ref b/\h.get? b=some { cls:=.type "tuple",data:=.seq #[key,p.2] }/\knd.is p.1 key=true/\n0<=b)/\PairsAt knd n0 h vs r
 | _,_=>False
theorem PairsAt.len{n0:Nat}{h:Heap}:∀{vs:List P9} {r:List (K×P9)},PairsAt knd n0 h vs r->vs.length=r.length
 | [],[],_=>rfl
 | v :: vs,p :: r,x=>by simp[PairsAt.len x.2]
 | [],_ :: _,x=>x.elim
 | _ :: _,[],x=>x.elim
theorem PairsAt.mono{n0:Nat}{h h':Heap}:∀{vs:List P9} {r:List (K×P9)},PairsAt knd n0 h vs r->(∀b o,h.get? b=some o->o.cls = .type "tuple"->h'.get? b=some o)->PairsAt knd n0 h' vs r
 | [],[],_,_=>trivial
 | v :: vs,p :: r,⟨⟨b,key,e1,e2,e3⟩,x⟩,k=>⟨⟨b,key,e1,k _ _ e2 rfl,e3⟩,PairsAt.mono x k⟩
 | [],_ :: _,x,_=>x.elim
 | _ :: _,[],x,_=>x.elim
theorem PairsAt.snoc{n0:Nat}{h:Heap}{b:Addr}{key:P9}{p:K×P9}(e2:h.get? b=some { cls:=.type "tuple",data:=.seq #[key,p.2] })(e3:knd.is p.1 key=true)(e4:n0<=b):∀{vs:List P9} {r:List (K×P9)},PairsAt knd n0 h vs r->PairsAt knd n0 h (vs++[.ref b]) (r++[p])
 | [],[],_=>⟨⟨b,key,rfl,e2,e3,e4⟩,trivial⟩
 | v :: vs,q :: r,x=>⟨x.1,PairsAt.snoc e2 e3 e4 x.2⟩
 | [],_ :: _,x=>x.elim
 | _ :: _,[],x=>x.elim
def ItI(h:Heap)(it d:Addr)(i n ep:Nat):Prop :=
 (i=0/\IsItemIter h it d 0 n ep .none .none)\/∃a oa f1 ok ov,ZbI h it d i n ep ok ov a f1/\h.get? a=some oa/\oa.cls = .type "tuple"
theorem ItI.cls{h:Heap}{it d:Addr}{i n ep:Nat}(x:ItI h it d i n ep):∃o,h.get? it=some o/\o.cls = .type "dict_itemiterator":=by
 rcases x with⟨_,x⟩ | ⟨_,_,_,_,_,x,_⟩ <;> exact⟨_,x,rfl⟩
theorem ZmC{n0:Nat}{it d S:Addr}{ep:Nat}{kvs:List (K×P9)}{res:P9}{R:Result->P1->Prop}(hh:A.handled=none)(hn:kvs.length<=sizeLine)(hSi:S≠it)(hdi:d≠it)(hdS:d≠S) :
  ∀(k i:Nat) (s:P1) (acc:Array P9) (c:Nat),kvs.length - i=k->i<=kvs.length->ItI s.heap it d i kvs.length ep->s.heap.DictAt knd d kvs ep->s.heap.get? S=some { cls:=.type "list",dict:=none,data:=.seq acc c,slots:=#[] }->PairsAt knd n0 s.heap acc.toList (kvs.take i)->n0<=s.heap.objs.size ->
  (∀h' acc' c',(∀b o,b≠S->b≠it->s.heap.get? b=some o->h'.get? b=some o)->h'.get? S=some { cls:=.type "list",dict:=none,data:=.seq acc' c',slots:=#[] }->PairsAt knd n0 h' acc'.toList kvs->R (.ok (.ret res)) { s with heap:=h' }) ->
  codeAny (model prog w) A (.builtin "list.extend.loop" ⟨[.ref S,.ref it,res],[]⟩) R s:=by
 intro k
 induction k with
 | zero =>
  intro i s acc c hk hi hst hd hS hacc hn0 hR;have hin:i=kvs.length:=by omega
  subst hin;rw[Qt] at hacc;refine Ww UK ?_;rw[Wi WV _];show wpAny _ A.in1 (pyNext (.ref it) >>= _) _ _ s;have fin:∀h',Heap.ExtBut it s.heap h'->R (.ok (.ret res)) { s with heap:=h' }:=fun h' x=>hR h' acc c (fun b o _ hb e=>x b o hb e) (x _ _ hSi hS) (hacc.mono fun b o e hc=>x b o (fun z=>by
   obtain⟨o',e',c'⟩:=hst.cls;rw[z,e'] at e;cases e;rw[c'] at hc;exact absurd hc (by simp)) e)
  rcases hst with⟨h0,x⟩ | ⟨a,oa,f1,ok,ov,x,_⟩
  ·have hk0:kvs=[]:=W7.mp h0;subst hk0;exact Ya (wpAny_pyNext_items_end (by simpa using hh) x hd (by simp) fun h' e=>Yb (fin h' e))
  ·exact Ya (ZmO (by simpa using hh) x hd (by simp) fun h' e=>Yb (fin h' e))
 | succ k ih =>
  intro i s acc c hk hi hst hd hS hacc hn0 hR;have hlt:i<kvs.length:=by omega
  obtain⟨p,hp⟩:∃p,kvs[i]?=some p:=⟨_,Yd hlt⟩;have hlen:=hacc.len;rw[Y8,UW hi,Yq] at hlen;refine Ww UK ?_;rw[Wi WV _];show wpAny _ A.in1 (pyNext (.ref it) >>= _) _ _ s;have htk:kvs.take (i+1)=kvs.take i++[p]:=by rw[QH,hp]; rfl
  have go:∀key h',knd.is p.1 key=true->ItI h' it d (i+1) kvs.length ep->h'.get? s.heap.objs.size=some { cls:=.type "tuple",data:=.seq #[key,p.2] } ->
    (∀b o,b≠it->s.heap.get? b=some o->h'.get? b=some o) ->
    h'.get? S=some { cls:=.type "list",dict:=none,data:=.seq acc c,slots:=#[] }/\h'.DictAt knd d kvs ep/\PairsAt knd n0 h' (acc.toList++[.ref s.heap.objs.size]) (kvs.take (i+1)):=fun key h' e1 e2 e3 e4=>by
   refine⟨e4 _ _ hSi hS,hd.at fun o e=>e4 _ o hdi e,?_⟩;rw[htk];refine PairsAt.snoc e3 e1 hn0 (hacc.mono fun b o e hc=>e4 b o (fun z => ?_) e);obtain⟨o',e',c'⟩:=hst.cls;rw[z,e'] at e;cases e;rw[c'] at hc;exact absurd hc (by simp)
  have upd:∀(h':Heap) (X:Addr) (o:Obj),X≠S->h'.get? X=some o->(h'.update S (Obj.mapSeq (·.push (Value.ref s.heap.objs.size)))).get? X=some o:=fun h' X o hX e=>(Qc _ _ (YX hX)).trans e;have nS:∀{h':Heap} {X:Addr} {o:Obj},h'.get? S=some { cls:=.type "list",dict:=none,data:=.seq acc c,slots:=#[] }->h'.get? X=some o->o.cls≠.type "list"->X≠S:=fun {h' X o} e1 e2 hc z=>by
   rw[z,e1] at e2;cases e2;exact hc rfl
  have fin:∀key h',knd.is p.1 key=true->ItI h' it d (i+1) kvs.length ep->h'.get? s.heap.objs.size=some { cls:=.type "tuple",data:=.seq #[key,p.2] } ->
    (∀b o,b≠it->s.heap.get? b=some o->h'.get? b=some o)->h'.objs.size=s.heap.objs.size+1->codeAny (model prog w) A (.builtin "list.extend.loop" ⟨[.ref S,.ref it,res],[]⟩) R { s with heap:=h'.update S (Obj.mapSeq (·.push (Value.ref s.heap.objs.size))) }:=fun key h' e1 e2 e3 e4 e6=>by
   obtain⟨g1,g2,g3⟩:=go key h' e1 e2 e3 e4;have hS2:=YI (Obj.mapSeq (·.push (Value.ref s.heap.objs.size))) g1 rfl;refine ih (i+1) _ (acc.push (.ref s.heap.objs.size)) _ (by omega) hlt ?_ (g2.at fun o e=>upd h' _ o hdS e) hS2 ?_ (by show n0<=(h'.update _ _).objs.size; rw[(YB h' S _).1,e6]; omega) fun h2 acc' c' k2 hS3 hp2 => ?_
   ·rcases e2 with⟨z,_⟩ | ⟨a,oa,f1,ok,ov,x1,x2,x3⟩
    ·omega
    ·exact .inr ⟨a,oa,f1,ok,ov,upd h' _ _ (YX hSi) x1,upd h' _ _ (nS g1 x2 (by rw[x3]; simp)) x2,x3⟩
   ·rw[UB];exact g3.mono fun b o e hc=>upd h' b o (nS g1 e (by rw[hc]; simp)) e
   ·exact hR h2 acc' c' (fun b o b1 b2 e=>k2 b o b1 b2 (upd h' b o b1 (e4 b o b2 e))) hS3 hp2
  rcases hst with⟨h0,x⟩ | ⟨a,oa,f1,ok,ov,x,xa,xc⟩
  ·subst h0;refine Ya (wpAny_pyNext_items_item x hd hp fun key h' e1 e2 e3 e6 e5 => ?_);have e2':ItI h' it d (0+1) kvs.length ep:=.inr ⟨_,_,false,_,_,e2,e3,rfl⟩;obtain⟨g1,_⟩:=go key h' e1 e2' e3 e5;show wpAny _ A.in1 (updateSeq S (·.push (.ref s.heap.objs.size)) >>= _) _ _ _;refine Ya ?_;exact Qn g1 rfl (Yb ⟨Qd WV _,fin key h' e1 e2' e3 e5 e6⟩) (by rw[hlen]; omega) (by show (acc.push _).size<=sizeLine+1; rw[UX,hlen]; omega)
  ·refine Ya (Zqv x xa hd hp (fun z=>by rw[z] at xc; exact absurd xc (by simp)) fun key h' e1 e2 ea e3 e6 e5 => ?_);have e2':ItI h' it d (i+1) kvs.length ep:=.inr ⟨_,_,_,_,_,e2,ea,xc⟩;obtain⟨g1,_⟩:=go key h' e1 e2' e3 e5;show wpAny _ A.in1 (updateSeq S (·.push (.ref s.heap.objs.size)) >>= _) _ _ _;refine Ya ?_;exact Qn g1 rfl (Yb ⟨Qd WV _,fin key h' e1 e2' e3 e5 e6⟩) (by rw[hlen]; omega) (by show (acc.push _).size<=sizeLine+1; rw[UX,hlen]; omega)
end
open PySem PyProof.Rows DL SO PySem.W
section
variable{prog:P7}{w:World}{K:Type}[DecidableEq K]{knd:KeyKind prog w K}{A:P6}{E:P9->P1->Prop}{s:P1}
theorem ZlR{v:Addr}{Q:Bool->P1->Prop}(hT:s.TypeIs (.ref v) "dict_items")(h:Q false s):wpAny (model prog w) A (Builtin.List.listLengthHint (.ref v)) Q E s:=by
 unfold Builtin.List.listLengthHint;refine Ya (Ud hT PySem.F.slot_dict_items_len.lookup ?_);generalize hid:("dict_items.__len__" : String)=id0
 wp_delta
 rw[show splitId id0=some ("dict_items", "__len__") from by subst hid; decide +kernel];subst hid;refine Ya (WK (T:="dict_items") (b:=true) hT (by rw[VE]; kernel_rfl) ?_);refine Yr (fun z=>absurd z (by decide)) (fun _ => ?_);exact Yr (fun _=>Ya (WM hT (Yb h))) (fun z=>absurd (by decide +kernel) z)
noncomputable abbrev H1v(h:Heap)(v d:Addr):Prop:=h.IsItemsView v d
theorem Zmr{v d:Addr}{kvs:List (K×P9)}{ep:Nat}{R:List P9->P1->Prop}(hh:A.handled=none)(hn:kvs.length<=sizeLine)(hv:s.heap.IsItemsView v d)(hm:s.heap.DictAt knd d kvs ep)
  (h:∀(h':Heap) (vs:List P9),(∀b o,s.heap.get? b=some o->h'.get? b=some o)->s.heap.objs.size<h'.objs.size->PairsAt knd s.heap.objs.size h' vs kvs->R vs { s with heap:=h' }) :
  wpAny (model prog w) A (collect (.ref v)) R E s:=by
 unfold collect;refine Ya (wpAny_runValue (Ww entry_proto_collect' ?_));rw[Wi Uu _];show wpAny _ A.in1 (newList [] >>= fun l=>again (.builtin "list.__iadd__" ⟨[l,.ref v],[]⟩)) _ _ s;refine Ya (YV (Yb ⟨Qd QQ _,Ww entry_list_iadd' ?_⟩));rw[Wi QQ _];show wpAny _ A.in1 (Builtin.List.listExtendWith (.ref s.heap.objs.size) (.ref v) (.ref s.heap.objs.size)) _ _ _;generalize hoL:({ cls:=.type "list",data:=.seq ([]:List P9).toArray }:Obj)=oL;have hL:(s.heap.push oL).get? s.heap.objs.size=some { cls:=.type "list",data:=.seq #[] }:=by rw[Yi _ (by rw[<-hoL]; rfl),<-hoL]
 have k0:∀b o,s.heap.get? b=some o->(s.heap.push oL).get? b=some o:=fun b o e=>Yc _ e;have hsz:(s.heap.push oL).objs.size=s.heap.objs.size+1:=Y5 ..;have haS:v<s.heap.objs.size:=by obtain⟨o,e,_⟩:=hv; exact Yg e
 have hdl:d<s.heap.objs.size:=by obtain⟨o,_,e,_⟩:=hm; exact Yg e
 have hv1:H1v (s.heap.push oL) v d:=let ⟨o,e,r⟩:=hv; ⟨o,k0 _ _ e,r⟩
 have hm1:(s.heap.push oL).DictAt knd d kvs ep:=hm.at fun o e=>k0 _ o e;generalize s.heap.push oL=H1 at hL k0 hsz hv1 hm1;unfold Builtin.List.listExtendWith;refine Ya (WM (s:={ s with heap:=H1 }) (T:="dict_items") (Heap.IsItemsView.typeIs (s:={ s with heap:=H1 }) hv1) ?_);have h1:Builtin.List.listSameRef (.ref s.heap.objs.size) (.ref v)=false:=by
  have:s.heap.objs.size≠v:=Qb haS;simp[Builtin.List.listSameRef,this]
 refine Yr (fun z => ?_) (fun _ => ?_)
 ·rw[h1] at z;exact absurd z (by decide)
 refine Ya (wpAny_pyIter_items (s:={ s with heap:=H1 }) hv1 hm1 ?_);have k2:∀b o,H1.get? b=some o->(H1.push { cls:=.type "dict_itemiterator",data:=.fields #[.none,.bool false,.ref d,.int 0 0,.int kvs.length 0,.int ep 0,.none,.none] }).get? b=some o:=fun b o e=>Yc _ e;have hit:IsItemIter (H1.push { cls:=.type "dict_itemiterator",data:=.fields #[.none,.bool false,.ref d,.int 0 0,.int kvs.length 0,.int ep 0,.none,.none] }) H1.objs.size d 0 kvs.length ep .none .none:=Yi _ rfl;have hsz2:(H1.push { cls:=.type "dict_itemiterator",data:=.fields #[.none,.bool false,.ref d,.int 0 0,.int kvs.length 0,.int ep 0,.none,.none] }).objs.size=H1.objs.size+1:=Y5 ..;generalize H1.push { cls:=.type "dict_itemiterator",data:=.fields #[.none,.bool false,.ref d,.int 0 0,.int kvs.length 0,.int ep 0,.none,.none] }=h2 at k2 hit hsz2;refine Ya (YM (ZlR (s:={ s with heap:=h2 }) (let ⟨o,e,c,_⟩:=hv1; ⟨o,k2 _ _ e,c⟩) ?_));refine Yr (fun _ => ?_) (fun z=>absurd (by decide +kernel) z);refine Ya (W5 ?_);have hg2:=k2 _ _ hL;refine Ya ?_;show wpAny _ _ (updateSeq s.heap.objs.size (·.push .none) >>= fun _=>updateSeq s.heap.objs.size (·.pop)) _ _ _;refine Ya (Qn hg2 rfl ?_);have hg3:=YI (Obj.mapSeq (·.push Value.none)) hg2 rfl;refine Qn (hz:=by seq_fits) hg3 rfl ?_;have hg4:=YI (Obj.mapSeq (·.pop)) hg3 rfl;have k4:∀b o,b≠s.heap.objs.size->h2.get? b=some o->((h2.update s.heap.objs.size (Obj.mapSeq (·.push Value.none))).update s.heap.objs.size (Obj.mapSeq (·.pop))).get? b=some o:=fun b o hb e =>
  (Qc _ _ (YX hb)).trans ((Qc _ _ (YX hb)).trans e)
 refine Yb ⟨Qd WV _,?_⟩;have lt1:∀b,b<s.heap.objs.size->b≠H1.objs.size:=fun b hb=>Yp (hsz ▸ WC hb);have hne:s.heap.objs.size≠H1.objs.size:=Yp (hsz ▸ Va _);refine ZmC (n0:=s.heap.objs.size) (d:=d) (S:=s.heap.objs.size) (it:=H1.objs.size) (by simp[hh]) hn hne (lt1 d hdl) (Yp hdl) (kvs.length - 0) 0 _ #[] _ rfl (YU _) (.inl ⟨rfl,k4 _ _ (YX hne) hit⟩) (hm1.at fun o e=>k4 _ o (Yp hdl) (k2 _ o e)) hg4 trivial (by show s.heap.objs.size<=((h2.update _ _).update _ _).objs.size; rw[(YB _ _ _).1,(YB _ _ _).1,hsz2,hsz]; omega) fun h' acc c k3 hS hp => ?_;refine Ya (UI (s:={ s with heap:=h' }) hS ?_);refine Yb ?_;exact h h' acc.toList (fun b o e=>k3 b o (Yp (Yg e)) (lt1 b (Yg e)) (k4 b o (Yp (Yg e)) (k2 _ _ (k0 _ _ e)))) (Yg hS) hp
end
end HT
end
section
namespace HT
open PySem PySem.W PyProof.Rows DL SO
section
variable{prog:P7}{w:World}{A:P6}{E:P9->P1->Prop}{s:P1}
theorem PairsAt.get{knd:KeyKind prog w L2.Key}{n0:Nat}{h:Heap}:∀{vs:List P9} {r:List (L2.Key×P9)},PairsAt knd n0 h vs r->∀{i:Nat} {p:L2.Key×P9},r[i]?=some p->∃b key,vs[i]?=some (.ref b)/\h.get? b=some { cls:=.type "tuple",data:=.seq #[key,p.2] }/\knd.is p.1 key=true/\n0<=b
 | [],[],_,i,p,e=>by simp at e
 | v :: vs,q :: r,x,0,p,e=>by
  simp only[Yu,Yx] at e;subst e;obtain⟨b,key,e1,e2,e3,e4⟩:=x.1;exact⟨b,key,by rw[e1]; rfl,e2,e3,e4⟩
 | v :: vs,q :: r,x,i+1,p,e=>by
  rw[YA] at e ⊢;exact PairsAt.get x.2 e
 | [],_ :: _,x,_,_,_=>x.elim
 | _ :: _,[],x,_,_,_=>x.elim
def ZhA(kvs:List (L2.Key×P9)):Prop:=∀p∈kvs,∃n t,p.2 = .int n t
theorem ZoE{n0:Nat}{vs:List P9}{kvs:List (L2.Key×P9)}{ss:List Str}{a:Addr}(hp:PairsAt (L2.mixKind prog w) n0 s.heap vs kvs)(hks:kvs.map (·.1)=ss.map Sum.inr)(hn:ss.Nodup)(hi:ZhA kvs)(ha:∀b o,s.heap.get? b=some o->o.cls = .type "tuple"->b≠a) :
  CmpR prog w s a vs (tuples' true) (fun i j=>ZX (ss.getD i default) (ss.getD j default)):=by
 have hl:vs.length=kvs.length:=hp.len;have hls:kvs.length=ss.length:=by have:=congrArg List.length hks; simpa using this
 have at':∀g,KB s a g->∀i,i<vs.length->∃b x t v n u,vs[i]?=some (.ref b)/\g.get? b=some { cls:=.type "tuple",data:=.seq #[.str x t,v] }/\ss.getD i default=x/\v = .int n u/\ss[i]?=some x:=fun g hg i hiv=>by
  obtain⟨p,hpi⟩:∃p,kvs[i]?=some p:=⟨_,Yd (by omega)⟩;obtain⟨b,key,e1,e2,e3,_⟩:=hp.get hpi;obtain⟨n,u,e4⟩:=hi p (Y2 hpi);have e6:(ss.map (Sum.inr (α:=Int)))[i]?=some p.1:=by rw[<-hks,Yz,hpi]; rfl
  rw[Yz] at e6;obtain⟨x,e5,e7⟩:=Y7.mp e6;rw[<-e7] at e3;obtain⟨t,rfl⟩:=Zib (x:=x) e3;exact⟨b,x,t,p.2,n,u,e1,hg b _ (ha b _ e2 rfl) e2,by rw[Ye,e5]; rfl,e4,e5⟩
 refine⟨fun h2 g A E Q hg hQ => ?_,fun h2 g A E Q i j hu hg hi' hj' hQ => ?_,fun i j hi' hj' e => ?_⟩
 ·have T:∃fs,KatTups g vs fs/\fs.length=vs.length/\∀v∈fs,∃x t,v = .str x t:=by
   have go:∀(k:Nat) (l:List P9),l=vs.drop k->∃fs,KatTups g l fs/\fs.length=l.length/\∀v∈fs,∃x t,v = .str x t:=by
    intro k l
    induction l generalizing k with
    | nil=>exact fun _=>⟨[],trivial,rfl,fun v hv=>by cases hv⟩
    | cons x l ih =>
     intro e;have hkl:k<vs.length:=by
      have:=congrArg List.length e;simp at this;omega
     obtain⟨fs,f1,f2,f3⟩:=ih (k+1) (by rw[<-Um,<-e]; rfl);obtain⟨b,y,t,v,n,u,h1,h2,_⟩:=at' g hg k hkl;have hx:vs[k]?=some x:=by
      have:=congrArg (fun z=>z[0]?) e;simp at this;exact this.symm
     rw[h1] at hx;cases hx;refine⟨.str y t :: fs,KatTups.cons h2 rfl rfl rfl f1,by simp[f2],fun v hv => ?_⟩;rcases Yl.mp hv with rfl | hv
     ·exact⟨_,_,rfl⟩
     ·exact f3 v hv
   exact go 0 vs rfl
  obtain⟨fs,f1,f2,f3⟩:=T;refine kat_kind (T:=.type "str") f1 (by omega) (fun v hv => ?_) rfl hQ;obtain⟨x,t,rfl⟩:=f3 v hv;exact Looks.of_pure rfl
 ·obtain⟨b,x,t,v,n,u,h1,h2,h3,h4,h5⟩:=at' g hg i hi';obtain⟨b',x',t',v',n',u',h1',h2',h3',h4',h5'⟩:=at' g hg j hj';rw[Ye,Ye,h1,h1'];rw[h3,h3'] at hQ;subst h4 h4';refine kat_lt h2 rfl h2' rfl (kat_cons (VZ ?_));by_cases e1:x=x'
  ·rw[YN e1];have hij:i=j:=by
    rw[e1] at h5;have l1:i<ss.length:=by omega
    have l2:j<ss.length:=by omega
    rw[Yd l1] at h5;rw[Yd l2] at h5';exact (Qe hn).mp ((Option.some.inj h5).trans (Option.some.inj h5').symm)
   subst hij;rw[h1] at h1';cases h1';rw[h2] at h2';cases h2';refine kat_yes (kat_cons (wpAny_eqBool_int ?_));rw[V0];refine kat_yes (kat_nil ?_);have:ZX x x=false:=by simp[ZX]
   rw[this] at hQ;simpa using hQ
  ·rw[YS e1];exact kat_no (oneLt_str hQ)
 ·obtain⟨b,x,t,v,n,u,h1,h2,h3,h4,h5⟩:=at' s.heap (fun _ _ _ e=>e) i hi';obtain⟨b',x',t',v',n',u',h1',h2',h3',h4',h5'⟩:=at' s.heap (fun _ _ _ e=>e) j hj';rw[Ye,Ye,h1,h1'] at e;have eb:b=b':=by
   simp only[Option.getD_some,Value.ref.injEq] at e;exact e
  subst eb;rw[h2] at h2';simp only[Yx,Obj.mk.injEq,Data.seq.injEq,true_and,and_true] at h2';have ex:x=x':=by
   have:=congrArg (fun z=>z[0]?) h2';simp at this;exact this.1
  rw[<-ex] at h5';have l1:i<ss.length:=by omega
  have l2:j<ss.length:=by omega
  rw[Yd l1] at h5;rw[Yd l2] at h5';exact (Qe hn).mp ((Option.some.inj h5).trans (Option.some.inj h5').symm)
theorem ZmR{v d:Addr}{kvs:List (L2.Key×P9)}{ss:List Str}{ep:Nat}{Q:P9->P1->Prop}(hu:A.units+2<cLine)(hh:A.handled=none)(hv:s.heap.IsItemsView v d)(hm:s.heap.DictAt (L2.mixKind prog w) d kvs ep)(h64:kvs.length<64)(hks:kvs.map (·.1)=ss.map Sum.inr)(hn:ss.Nodup)(hi:ZhA kvs)
  (k:∀vs,∀p:List Nat,p.Perm (List.range kvs.length)->p.Pairwise (fun i j=>ZX (ss.getD i default) (ss.getD j default)=true)->∀b (h':Heap) c,(∀b o,s.heap.get? b=some o->h'.get? b=some o)->s.heap.objs.size<=b->PairsAt (L2.mixKind prog w) s.heap.objs.size h' vs kvs ->
   h'.get? b=some (seqObj "list" (p.map fun i=>vs.getD i .none).toArray c)->Q (.ref b) { s with heap:=h' }) :
  wpAny (model prog w) A (call (.builtin "sorted") [.ref v]) Q E s:=by
 refine Qk VW Vv Vw (Ui _) ?_;unfold Builtin.«sorted»;refine Ya (m:=checkCount "sorted" 1 1 _) (Yb ?_);refine Ya (Zmr (by simp[hh]) (by rw[YG]; omega) hv hm fun h1 vs k1 hlt hp => ?_);have hl:vs.length=kvs.length:=hp.len;refine Ya (QE ?_ (by rw[YG]; omega));have hoL:(h1.push (seqObj "list" vs.toArray 0)).get? h1.objs.size=some (seqObj "list" vs.toArray 0):=Yi _ rfl;have keep:∀b o,h1.get? b=some o->(h1.push (seqObj "list" vs.toArray 0)).get? b=some o:=fun b o q=>Yc _ q;have le1:s.heap.objs.size<=h1.objs.size:=Q4 hlt;show wpAny _ _ _ _ _ { s with heap:=h1.push (seqObj "list" vs.toArray 0) };generalize h1.push (seqObj "list" vs.toArray 0)=g at hoL keep;refine Ya (YM (YE slot_list_sort ⟨_,hoL,rfl⟩ entry_list_sort ?body (VI _)))
 case body =>
  have hpg:PairsAt (L2.mixKind prog w) s.heap.objs.size g vs kvs:=hp.mono fun b o e _=>keep b o e;refine Zer (s:={ s with heap:=g }) (by show _<_; omega) hoL (by omega) (ZoE (s:={ s with heap:=g }) hpg hks hn hi fun b o e hc z => ?_) (by rw[hl,show kvs.length=ss.length by have:=congrArg List.length hks; simpa using this]; exact ZqT hn) fun p hp' hpw h' c hb hc => ?_
  ·rw[z,hoL] at e;cases e;exact absurd hc (by simp[seqObj])
  ·refine⟨_,rfl,Yb ⟨_,rfl,?_⟩⟩;rw[hl] at hp';exact k vs p hp' hpw _ h' c (fun b o e=>hb b o (Yp (Yy (Yg e) le1)) (keep b o (k1 b o e))) le1 (hpg.mono fun b o e hc'=>hb b o (fun z=>by
    rw[z,hoL] at e;cases e;exact absurd hc' (by simp[seqObj])) e) hc
end
end HT
end
section
namespace L2
open PySem PySem.Spec PyProof.Rows
def Zaz(H:Hp):List (Addr×HO)->Hp
 | []=>H
 | p :: r=>upd (Zaz H r) p.1 p.2
theorem Za1{H:Hp}{b:Addr}:∀{news:List (Addr×HO)},(∀p∈news,p.1≠b)->Zaz H news b=H b
 | [],_=>rfl
 | p :: r,h=>by
  show upd (Zaz H r) p.1 p.2 b=_;rw[Zh (YX (h p Yv))];exact Za1 fun q hq=>h q (Yo _ hq)
theorem Zhj{H:Hp}{b:Addr}{o:HO}:∀{news:List (Addr×HO)},(news.map (·.1)).Nodup->(b,o)∈news->Zaz H news b=some o
 | [],_,h=>by cases h
 | p :: r,hn,h=>by
  rw[Yn,Wd] at hn;show upd (Zaz H r) p.1 p.2 b=_;rcases Yl.mp h with e | h
  ·subst e;exact ZH
  ·rw[Zh (fun e=>hn.1 (by rw[<-e]; exact YZ.mpr ⟨_,h,rfl⟩))];exact Zhj hn.2 h
theorem Zke{H:Hp}{b:Addr}{o:HO}:∀{news:List (Addr×HO)},Zaz H news b=some o->H b=some o/\(∀p∈news,p.1≠b)\/(b,o)∈news
 | [],h => .inl ⟨h,fun p hp=>by cases hp⟩
 | p :: r,h=>by
  by_cases e:b=p.1
  ·have h':upd (Zaz H r) p.1 p.2 b=some o:=h;rw[e,ZH] at h';cases h';exact .inr (by rw[e]; exact Yv)
  ·have h':upd (Zaz H r) p.1 p.2 b=some o:=h;rw[Zh e] at h';rcases Zke h' with⟨h1,h2⟩ | h1
   ·exact .inl ⟨h1,fun q hq=>(Yl.mp hq).elim (fun z=>by rw[z]; exact YX e) (h2 q)⟩
   ·exact .inr (Yo _ h1)
theorem Inv.laidL{X:Cx}{pins:List (Addr×Obj)}{σ:St}{H:Hp}{s:P1}{h':Heap}{t':Nat}{news:List (Addr×HO)}(I:Inv X pins σ H s)(k:∀b u,s.heap.get? b=some u->h'.get? b=some u)(hp:∀p∈news,s.heap.objs.size<=p.1)
  (new:∀p∈news,ObjOk X.prog X.w (Zaz H news) h' p.1 p.2):Inv X pins σ (Zaz H news) { s with heap:=h',toks:=t' }:=by
 have old:∀{b:Addr} {u:HO},H b=some u->∀p∈news,p.1≠b:=fun {b u} e p hm z=>by
  have:=I.hok.fresh (hp p hm);rw[z,e] at this;cases this
 refine I.un ⟨fun b u q _ _ _=>k b u q,fun b u q _ _ _=>⟨u.slots,k b u q⟩,fun b u q n _ => ?_,fun b u q _=>⟨u,k b u q⟩,fun b xs q => ?_,fun b u xs q => ?_,fun b ps q=>⟨#[],?_⟩⟩ fun b u e => ?_
 ·rw[Za1 fun p hm=>YX (Yp (Yy (Yg q) (hp p hm)))];exact n
 ·rw[Za1 (old q)]; exact q
 ·rw[Za1 (old q)]; exact q
 ·rw[Za1 (old q),q]; simp
 ·rcases Zke e with⟨h1,h2⟩ | h1
  ·exact (I.hok b u h1).stay (fun c v _ q=>k c v q) (fun c q=>by rw[Za1 (old q)]; exact q) fun c xs q=>by rw[Za1 (old q)]; exact q
  ·exact new _ h1
end L2
namespace DL
open PySem PySem.Spec PyProof.Rows L2 PySem.W SO HT
theorem Keep.laidL{K:P5}{O:List Addr}{H:Hp}:∀{news:List (Addr×HO)},(news.map (·.1)).Nodup->(∀p∈news,H p.1=none)->Keep K O H O (Zaz H news)
 | [],_,_=>Keep.refl
 | p :: r,hn,h=>by
  rw[Yn,Wd] at hn;refine (Keep.laidL hn.2 fun q hq=>h q (Yo _ hq)).trans (Keep.laid ?_);rw[Za1 fun q hq e=>hn.1 (by rw[<-e]; exact YZ.mpr ⟨q,hq,rfl⟩)];exact h p Yv
theorem WR.laidL{K:P5}{O:List Addr}{H:Hp}{st:Sto}(W:WR K O H st):∀{news:List (Addr×HO)},(news.map (·.1)).Nodup->(∀p∈news,H p.1=none)->WR K O (Zaz H news) st
 | [],_,_=>W
 | p :: r,hn,h=>by
  rw[Yn,Wd] at hn;refine (WR.laidL W hn.2 fun q hq=>h q (Yo _ hq)).laid ?_;rw[Za1 fun q hq e=>hn.1 (by rw[<-e]; exact YZ.mpr ⟨q,hq,rfl⟩)];exact h p Yv
def Zcw(ds:List (D×D))(x:Str):D:=.tup [.str x,(ZI Zx ds (.str x)).getD .non]
def ZdQ(fo:DE):DA:=fun ρ st=>(fo ρ st).bind fun d st1=>match d with
 | .res i=>match st1[i]? with
  | some (.dct ds)=>match Zbf (ds.map (·.1)) with
   | some ss=>if ZV ds=true/\ss.Nodup/\ss.length<64 then .ok ((srtS ss).map (Zcw ds)) st1 else .bad
   | none => .bad
  | _ => .bad
 | _ => .bad
section
variable{prog:P7}{w:World}{A:P6}{E:P9->P1->Prop}{s:P1}
theorem Znx{d:Addr}{kvs:List (Key×P9)}{Q:P9->P1->Prop}(hd:(d == sysModules)=false)(hm:s.heap.DictOf (mixKind prog w) d kvs)
  (h:Q (.ref s.heap.objs.size) { s with heap:=s.heap.push { cls:=.type "dict_items",data:=.fields #[.ref d] } }):wpAny (model prog w) A (call (.builtin "dict.items") [.ref d]) Q E s:=by
 refine YE PySem.F.slot_dict_items hm.typeIs PySem.F.entry_dict_items ?_ (PySem.F.args_dict_items_1 _);unfold Builtin.«dict.items»;refine Ya ?_;unfold Builtin.Dict.noArgs;refine Ya (QA hm.typeIs ?_);show wpAny _ _ (pure d) _ _ s;refine Yb ?_;show wpAny _ _ (Builtin.Dict.showsAll d >>= _) _ _ s;unfold Builtin.Dict.showsAll;rw[Yh (by rw[hd]; exact Qh)];refine Ya (Yb ?_);exact Ya (YV (Yb ⟨_,rfl,h⟩))
end
theorem pairs_at{prog:P7}{w:World}{n0:Nat}{h:Heap}:∀{vs:List P9} {kvs:List (L2.Key×P9)},PairsAt (mixKind prog w) n0 h vs kvs->∃as:List Addr,vs=as.map Value.ref/\as.length=kvs.length/\∀(i:Nat) (a:Addr) (p:L2.Key×P9),as[i]?=some a->kvs[i]?=some p->n0<=a/\∃key,h.get? a=some { cls:=.type "tuple",data:=.seq #[key,p.2] }/\(mixKind prog w).is p.1 key=true
 | [],[],_=>⟨[],rfl,rfl,fun i a p e _=>by simp at e⟩
 | v :: vs,p :: r,x=>by
  obtain⟨as,e1,e2,e3⟩:=pairs_at x.2;obtain⟨b,key,f1,f2,f3,f4⟩:=x.1;refine⟨b :: as,by rw[f1,e1]; rfl,by simp[e2],fun i a q g1 g2 => ?_⟩;cases i with
  | zero =>
   simp only[Yu,Yx] at g1 g2;subst g1 g2;exact⟨f4,key,f2,f3⟩
  | succ i =>
   rw[YA] at g1 g2;exact e3 i a q g1 g2
 | [],_ :: _,x=>x.elim
 | _ :: _,[],x=>x.elim
theorem ZkA:∀{ds:List (D×D)} {ss:List Str},ds.map (·.1)=ss.map D.str->ss.Nodup->∀{i:Nat} {x:Str} {q:D×D},ss[i]?=some x->ds[i]?=some q->ZI Zx ds (.str x)=some q.2
 | [],[],_,_,i,x,q,e,_=>by simp at e
 | [],_ :: _,e,_,_,_,_,_,_=>by cases e
 | _ :: _,[],e,_,_,_,_,_,_=>by cases e
 | p :: ds,y :: ss,e,hn,i,x,q,e1,e2=>by
  rw[Yn,Yn] at e;obtain⟨f1,f2⟩:=List.cons.inj e;rw[Wd] at hn;show (if Zx p.1=Zx (.str x) then some p.2 else ZI Zx ds (.str x))=_;cases i with
  | zero =>
   simp only[Yu,Yx] at e1 e2;subst e1 e2;rw[Yf (by rw[show p.1=D.str y from f1])]
  | succ i =>
   rw[YA] at e1 e2;rw[Yh,ZkA f2 hn.2 e1 e2];rw[show p.1=D.str y from f1];intro z;have:y=x:=by
    have z':some (Sum.inr y:L2.Key)=some (Sum.inr x):=z;exact Sum.inr.inj (Option.some.inj z')
   exact hn.1 (this ▸ Y2 e1)
theorem Zrk{ds:List (D×D)}(h:ZV ds=true){p:D×D}(hp:p∈ds):∃i,p.2 = .int i:=by
 unfold ZV at h;rw[YH] at h;have:=h p hp;split at this
 ·rename_i i e;exact⟨i,e⟩
 ·cases this
theorem Zd4{K:P5}{O:List Addr}{H:Hp}{κ:Type}{f:D->Option κ}:∀{ds:List (D×D)} {vs:List (κ×V)},Kvs K f O H ds vs->vs.length=ds.length/\∀{i:Nat} {p:D×D} {q:κ×V},ds[i]?=some p->vs[i]?=some q->f p.1=some q.1/\Rep K O H p.2 q.2
 | [],vs,h=>by
  cases (show vs=[] from h);exact⟨rfl,fun {i p q} e _=>by simp at e⟩
 | (k,d) :: ds,vs,h=>by
  obtain⟨q,v,r,rfl,hk,hr,ht⟩:=(show ∃q v r,vs=(q,v) :: r/\f k=some q/\Rep K O H d v/\Kvs K f O H ds r from h);obtain⟨e1,e2⟩:=Zd4 ht;refine⟨by simp[e1],fun {i p q'} g1 g2 => ?_⟩;cases i with
  | zero =>
   simp only[Yu,Yx] at g1 g2;subst g1 g2;exact⟨hk,hr⟩
  | succ i =>
   rw[YA] at g1 g2;exact e2 g1 g2
theorem Zrz{kvs:List (L2.Key×V)}{vs:List (L2.Key×P9)}(r:KV kvs vs):∀{i:Nat} {p:L2.Key×V} {q:L2.Key×P9},kvs[i]?=some p->vs[i]?=some q->p.1=q.1/\RelV p.2 q.2:=by
 unfold KV at r
 induction r with
 | nil=>exact fun {i p q} e _=>by simp at e
 | cons h t ih =>
  intro i p q g1 g2;cases i with
  | zero =>
   simp only[Yu,Yx] at g1 g2;subst g1 g2;exact h
  | succ i =>
   rw[YA] at g1 g2;exact ih g1 g2
section
variable{X:Cx}{EX:EXT}
theorem Zm5{o:Expr}{x:Str}{p pos apos cpos:Pos}{fo:DE}(hcalm:X.calm=true)(hu:X.A.units+64<cLine)(hg:Gl X x)(hm:X.mg x=none)(hv:bootBuiltins x=some (.builtin "sorted"))(ho:PD X EX o fo)
  (hn:x≠"__name__":=by decide) (hdb:(x == ("__debug__" : Str))=false:=by decide)
  (hbase:attributeBase o "items" X.env (eval o X.env)=eval o X.env:=by rfl) (hline:(apos.endLine == cpos.line)=true:=by rfl) :
  PDF X EX (.Call (.Name x p) [.Call (.Attribute o "items" apos) [] [] cpos] [] pos) (ZdQ fo):=by
 intro pins s σ H Q I h;refine Wn (ZaE I hg hm hv ?_ hn hdb);refine Wv ?_ rfl rfl;show wpAny _ _ (spliced ((false,eval (.Call (.Attribute o "items" apos) [] [] cpos) X.env) :: backTo pos (starEach [] X.env))) _ _ s;refine WH ?_;refine wpAny_Call_method0_late hbase hline (thn (ho pins s σ H (fun v H1 => ∃O d st,WR X.K O H1 st/\Rep X.K O H1 d v/\Run X.K EX O H1 (match d with
  | .res i=>match st[i]? with
   | some (.dct ds)=>match Zbf (ds.map (·.1)) with
    | some ss=>if ZV ds=true/\ss.Nodup/\ss.length<64 then .ok ((srtS ss).map (Zcw ds)) st else .bad
    | none => .bad
   | _ => .bad
  | _ => .bad) (New X.K Q)) I ?_) fun v s1 ⟨y,H1,I1,r1,O,d,st,W,rv,R⟩ => ?_)
 ·obtain⟨O,ρ,st,W,E,R⟩:=h;exact⟨O,ρ,st,W,E,R.bind.mono fun d st1 O1 H1 k1 W1 R1 v rv=>⟨O1,d,st1,W1,rv,R1⟩⟩
 split at R
 ·rename_i i;rw[Rep.res_i] at rv;obtain⟨a,rfl,q⟩:=rv;split at R
  ·rename_i ds hd;obtain⟨kvs,e2,kv⟩:=W.at_ _ _ _ q hd;split at R
   ·rename_i ss hss;have hds:=Ze9 hss;have hkeys:=Zj1 kv hds;by_cases hc:ZV ds=true/\ss.Nodup/\ss.length<64
    ·rw[Yf hc] at R;obtain⟨hin,hnd,h128⟩:=hc;cases r1;obtain⟨z,hsm,ws,rel,hdo⟩:=Zb2 I1.hok (.inl e2);have hdo':=hdo;obtain⟨ob,es,ep,g1,g2,g3,g4,g5,g6⟩:=hdo';have hwk:ws.map (·.1)=ss.map Sum.inr:=by rw[<-rel.keys]; exact hkeys
     have hlw:ws.length=ss.length:=by simpa using congrArg List.length hwk
     have hlk:kvs.length=ws.length:=rel.length;have hld:kvs.length=ds.length:=(Zd4 kv).1;have at':∀i,i<ss.length->∃x q r u n t,ss[i]?=some x/\ds[i]?=some q/\kvs[i]?=some r/\ws[i]?=some u/\q.2 = .int n/\u.2 = .int n t/\u.1=Sum.inr x:=fun i hi=>by
      obtain⟨x,e1⟩:∃x,ss[i]?=some x:=⟨_,Yd hi⟩;obtain⟨q,e2⟩:∃x,ds[i]?=some x:=⟨_,Yd (by omega)⟩;obtain⟨r,e3⟩:∃x,kvs[i]?=some x:=⟨_,Yd (by omega)⟩;obtain⟨u,e4⟩:∃x,ws[i]?=some x:=⟨_,Yd (by omega)⟩;obtain⟨n,e5⟩:=Zrk hin (Y2 e2);obtain⟨f1,f2⟩:=(Zd4 kv).2 e2 e3;obtain⟨f3,f4⟩:=Zrz rel e3 e4;rw[e5,Rep.int_i] at f2;rw[f2] at f4;obtain⟨t,e6⟩:∃t,u.2 = .int n t:=f4;have e7:(ws.map (·.1))[i]?=some u.1:=by rw[Yz,e4]; rfl
      rw[hwk,Yz,e1] at e7;exact⟨x,q,r,u,n,t,e1,e2,e3,e4,e5,e6,(Option.some.inj e7).symm⟩
     refine⟨"dict", "dict.items",VL,PySem.F.slot_dict_items,PySem.F.type_dict_items,hdo.typeIs,hdo.mapOf.noDict,QX rfl (PySem.evalArgs_none (Znx hsm hdo ?_))⟩;refine W8 ?_;have k0:∀b o,s1.heap.get? b=some o->(s1.heap.push { cls:=.type "dict_items",data:=.fields #[.ref a] }).get? b=some o:=fun b o e=>Yc _ e;have hvw:(s1.heap.push { cls:=.type "dict_items",data:=.fields #[.ref a] }).IsItemsView s1.heap.objs.size a:=⟨_,Yi _ rfl,rfl,rfl⟩;have hm1:(s1.heap.push { cls:=.type "dict_items",data:=.fields #[.ref a] }).DictAt (mixKind X.prog X.w) a ws ep:=⟨ob,es,k0 _ _ g1,g2,g3,g4,g5,g6⟩;have hsz:s1.heap.objs.size<=(s1.heap.push { cls:=.type "dict_items",data:=.fields #[.ref a] }).objs.size:=by rw[Y5]; omega
     generalize s1.heap.push { cls:=.type "dict_items",data:=.fields #[.ref a] }=h2 at k0 hvw hm1 hsz;refine ZmR (s:={ s1 with heap:=h2 }) (by show X.A.units+2<cLine; omega) (I1.ok.hd hcalm) hvw hm1 (by omega) hwk hnd (fun u hu' => ?_) fun vs ix hp hw b h' c k1 hb hpa hgb => ?_
     ·obtain⟨i,hi,hi2⟩:=List.mem_iff_getElem.mp hu';obtain⟨x,q,r,u',n,t,_,_,_,e4,_,e6,_⟩:=at' i (by omega);rw[Yd hi,hi2] at e4;cases e4;exact⟨n,t,e6⟩
     obtain⟨as,hvs,hal,hat⟩:=pairs_at hpa;have hix:ix.map (fun i=>ss.getD i default)=srtS ss:=by
      refine Zr7 ?_ (Q2.mpr hw);refine (hp.map (fun i=>ss.getD i default)).trans (Vp ?_);refine Vc (by simp[hlw]) fun i h1 h2 => ?_;simp[Ye,Yd h2]
     have hbx:∀i∈ix,i<ss.length:=fun i hi=>by
      have:=hp.mem_iff.mp hi;rw[hlw] at this;simpa using this
     have tat:∀i,i<ss.length->∃c x t n u,as[i]?=some c/\as.getD i 0=c/\ss.getD i default=x/\ss[i]?=some x/\((kvs[i]?).map (·.2)).getD (.int 0) = .int n/\h2.objs.size<=c/\h'.get? c=some { cls:=.type "tuple",data:=.seq #[.str x t,.int n u] }/\ZI Zx ds (.str x)=some (.int n):=fun i hi=>by
      obtain⟨x,q,r,u,n,t,e1,e2,e3,e4,e5,e6,e7⟩:=at' i hi;obtain⟨c,f1⟩:∃x,as[i]?=some x:=⟨_,Yd (by omega)⟩;obtain⟨f2,key,f3,f4⟩:=hat i c u f1 e4;rw[e7] at f4;obtain⟨t',rfl⟩:=Zib (x:=x) f4;rw[e6] at f3;have f5:=((Zd4 kv).2 e2 e3).2;rw[e5,Rep.int_i] at f5;have f6:=ZkA hds hnd e1 e2;rw[e5] at f6;exact⟨c,x,t',n,t,f1,by rw[Ye,f1]; rfl,by rw[Ye,e1]; rfl,e1,by rw[e3]; exact f5,f2,f3,f6⟩
     have lt0:∀c,h2.objs.size<=c->H1 c=none:=fun c hc=>I1.hok.fresh (YL hsz hc);generalize hT:(List.range ss.length).map (fun i=>(as.getD i 0,HO.tup [.str (ss.getD i default),((kvs[i]?).map (·.2)).getD (.int 0)]))=T;have hTm:∀p∈T,∃i,i<ss.length/\p=(as.getD i 0,HO.tup [.str (ss.getD i default),((kvs[i]?).map (·.2)).getD (.int 0)]):=fun p hp'=>by
      rw[<-hT] at hp';obtain⟨i,h1,h2⟩:=YZ.mp hp';exact⟨i,by simpa using h1,h2.symm⟩
     have hTn:(T.map (·.1)).Nodup:=by
      rw[<-hT,YQ];refine Q2.mpr ((List.nodup_range (n:=ss.length)).imp_of_mem fun {i j} hi hj hij e=>hij ?_);obtain⟨c,x,t,n,u,f1,f2,f3,f4,f5,f6,f7,f8⟩:=tat i (by simpa using hi);obtain⟨c',x',t',n',u',f1',f2',f3',f4',f5',f6',f7',f8'⟩:=tat j (by simpa using hj);have e':as.getD i 0=as.getD j 0:=e;rw[f2,f2'] at e';subst e';rw[f7] at f7';simp only[Yx,Obj.mk.injEq,Data.seq.injEq,true_and,and_true] at f7';have ex:x=x':=by
       have:=congrArg (fun z=>z[0]?) f7';simp at this;exact this.1
      rw[<-ex] at f4';have l1:=(Yk.mp f4).1;have l2:=(Yk.mp f4').1;rw[Yd l1] at f4;rw[Yd l2] at f4';exact (Qe hnd).mp ((Option.some.inj f4).trans (Option.some.inj f4').symm)
     have hT0:∀p∈T,H1 p.1=none:=fun p hp'=>by
      obtain⟨i,hi,rfl⟩:=hTm p hp';obtain⟨c,x,t,n,u,f1,f2,f3,f4,f5,f6,f7,f8⟩:=tat i hi;show H1 (as.getD i 0)=none;rw[f2];exact lt0 c f6
     have hTb:∀p∈T,p.1≠b:=fun p hp'=>by
      obtain⟨i,hi,rfl⟩:=hTm p hp';obtain⟨c,x,t,n,u,f1,f2,f3,f4,f5,f6,f7,f8⟩:=tat i hi;show as.getD i 0≠b;rw[f2];rintro rfl;rw[hgb] at f7;simp[seqObj] at f7
     have kT:Keep X.K O H1 O (Zaz H1 T):=Keep.laidL hTn hT0;have I2:Inv X pins σ (Zaz H1 ((b,.lst (ix.map fun i=>V.ref (as.getD i 0))) :: T)) { s1 with heap:=h',toks:=s1.toks }:=by
      refine Inv.laidL I1 (fun c o e=>k1 c o (k0 c o e)) (fun p hp' => ?_) fun p hp' => ?_
      ·rcases Yl.mp hp' with rfl | hp'
       ·exact YL hsz hb
       ·obtain⟨i,hi,rfl⟩:=hTm p hp';obtain⟨c,x,t,n,u,f1,f2,f3,f4,f5,f6,f7,f8⟩:=tat i hi;show _<=as.getD i 0;rw[f2];exact YL hsz f6
      ·rcases Yl.mp hp' with rfl | hp'
       ·refine⟨?_,ix.map (fun i=>vs.getD i .none),c,Zen ix fun i hi => ?_,hgb⟩
        ·have h0:=hp.length_eq;simp only[Ym,Wa] at h0 ⊢;rw[YG];omega
        ·obtain⟨c,x,t,n,u,f1,f2,_⟩:=tat i (hbx i hi);rw[f2,hvs,Ye,Yz,f1];rfl
       ·obtain⟨i,hi,rfl⟩:=hTm p hp';obtain⟨c,x,t,n,u,f1,f2,f3,f4,f5,f6,f7,f8⟩:=tat i hi;show ObjOk _ _ _ _ (as.getD i 0) _;rw[f2];refine⟨by rw[YG]; simp,[.str x t,.int n u],.cons ?_ (.cons ?_ .nil),⟨_,f7,rfl,_,rfl⟩,fun o e => ?_⟩
        ·rw[f3]; exact⟨t,rfl⟩
        ·rw[f5]; exact⟨u,rfl⟩
        ·rw[f7] at e; cases e; rfl
     refine⟨.ref b,_,I2,rfl,?_⟩;have RR:=Run.now (k:=New X.K Q) (Run.later (r:=.ok ((srtS ss).map (Zcw ds)) st) R kT) (W.laidL hTn hT0);refine RR b _ ?_ ?_
     ·rw[<-hix,YQ];refine ZdD ix fun i hi => ?_;obtain⟨c,x,t,n,u,f1,f2,f3,f4,f5,f6,f7,f8⟩:=tat i (hbx i hi);show Rep _ _ _ (Zcw ds (ss.getD i default)) _;unfold Zcw;rw[f3,f8];refine Rep.tup_i.mpr ⟨_,_,rfl,Zhj hTn (by rw[<-hT]; exact YZ.mpr ⟨i,by simpa using hbx i hi,rfl⟩),?_⟩;rw[f3,f5];exact Reps.cons_i.mpr ⟨_,_,rfl,Rep.str_i.mpr rfl,Reps.one (Rep.int_i.mpr rfl)⟩
     ·rw[Za1 hTb];exact lt0 b hb
    ·rw[Yh hc] at R; exact R.elim
   ·exact R.elim
  ·exact R.elim
 ·exact R.elim
end
end DL
end
section
namespace SO
open PySem PySem.W PyProof.Rows
def okB{α:Type}(n:Nat)(lt:Nat->Nat->Bool)(q:α->Bool):KasT α->Bool
 | .ret a=>q a
 | .ask i j k=>decide (i<n) && (decide (j<n) && okB n lt q (k (lt i j)))
theorem Zha{α:Type}{n:Nat}{lt lt':Nat->Nat->Bool}{q:α->Bool}(h:∀i j,i<n->j<n->lt i j=lt' i j):∀{t:KasT α},okB n lt q t=true->ok n lt' t (fun a=>q a=true)
 | .ret _,e=>e
 | .ask i j k,e=>by
  have e':(decide (i<n) && (decide (j<n) && okB n lt q (k (lt i j))))=true:=e;simp only[YJ,YR] at e';obtain⟨h1,h2,h3⟩:=e';rw[h i j h1 h2] at h3;exact⟨h1,h2,Zha h (t:=k _) h3⟩
def ltR(r:List Nat)(i j:Nat):Bool:=Nat.blt (r.getD i 0) (r.getD j 0)
def ltS(r:List Nat)(i j:Nat):Bool:=ltR r i j || (Nat.beq (r.getD i 0) (r.getD j 0) && Nat.blt i j)
def pwB(f:Nat->Nat->Bool):List Nat->Bool
 | []=>true
 | x :: l=>l.all (f x) && pwB f l
theorem Zkr{f:Nat->Nat->Bool}:∀{l:List Nat},pwB f l=true->l.Pairwise (fun i j=>f i j=true)
 | [],_ => .nil
 | x :: l,h=>by
  have h':(l.all (f x) && pwB f l)=true:=h;simp only[YJ,YH] at h';exact .cons h'.1 (Zkr h'.2)
def ZfJ(n:Nat)(r:List Nat)(p:Array Nat):Bool:=p.toList.isPerm (List.range n) && pwB (ltS r) p.toList
def chk(n:Nat)(r:List Nat):Bool:=okB n (ltR r) (ZfJ n r) (kas_sort n)
def all4:List Nat:=[0,1,2,3]
theorem Zsd:(all4.all fun a=>all4.all fun b=>chk 2 [a,b])=true:=by decide +kernel
theorem Zq9:(all4.all fun a=>all4.all fun b=>all4.all fun c=>chk 3 [a,b,c])=true:=by decide +kernel
theorem Zpb:(all4.all fun a=>all4.all fun b=>all4.all fun c=>all4.all fun d=>chk 4 [a,b,c,d])=true:=by decide +kernel
def rkI(ks:List Int)(x:Int):Nat:=(ks.filter fun y=>decide (y<x)).length
theorem Zfc(x y:Int)(h:x<=y):∀ks:List Int,rkI ks x<=rkI ks y
 | []=>Yj _
 | z :: ks=>by
  have ih:=Zfc x y h ks;unfold rkI at *;rw[Y1,Y1];by_cases h1:z<x
  ·have h2:z<y:=by omega
   simp only[h1,h2,Vh,Y9,Yw];omega
  ·by_cases h2:z<y
   ·simp only[h1,h2,QL,Vh,Y9,YF,Y3,Yw];omega
   ·simp only[h1,h2,QL,YF,Y3];exact ih
theorem Zd8{x y:Int}(h:x<y):∀{ks:List Int},x∈ks->rkI ks x<rkI ks y
 | z :: ks,hx=>by
  have hle:=Zfc x y (by omega) ks;unfold rkI at *;rw[Y1,Y1];by_cases h0:z=x
  ·subst h0;simp only[h,Int.lt_irrefl,QL,Vh,Y9,YF,Y3,Yw];omega
  ·have hx':x∈ks:=(Yl.mp hx).elim (fun e=>absurd e.symm h0) id;have ih:=Zd8 h hx';unfold rkI at ih;by_cases h1:z<x
   ·have h2:z<y:=by omega
    simp only[h1,h2,Vh,Y9,Yw];omega
   ·by_cases h2:z<y
    ·simp only[h1,h2,QL,Vh,Y9,YF,Y3,Yw];omega
    ·simp only[h1,h2,QL,YF,Y3];exact ih
theorem ZnW{ks:List Int}{x:Int}(h:x∈ks):rkI ks x<ks.length:=by
 unfold rkI;refine Nat.lt_of_le_of_ne (List.length_filter_le _ _) fun e => ?_;have:=List.length_filter_eq_length_iff.mp e x h;simp at this
def rks(ks:List Int):List Nat:=ks.map (rkI ks)
theorem ZdX{ks:List Int}{i:Nat}(h:i<ks.length):(rks ks).getD i 0=rkI ks (ks.getD i 0)/\ks.getD i 0∈ks:=by
 unfold rks;rw[Ye,Yz,Ye,Yd h];exact⟨rfl,Vd h⟩
theorem ZjZ{ks:List Int}{i j:Nat}(hi:i<ks.length)(hj:j<ks.length):ltR (rks ks) i j=decide (ks.getD i 0<ks.getD j 0):=by
 obtain⟨e1,m1⟩:=ZdX hi;obtain⟨e2,m2⟩:=ZdX hj;unfold ltR;rw[e1,e2];by_cases h:ks.getD i 0<ks.getD j 0
 ·rw[YN h];exact Nat.blt_eq.mpr (Zd8 h m1)
 ·rw[YS h];cases q:Nat.blt (rkI ks (ks.getD i 0)) (rkI ks (ks.getD j 0)) with
  | false=>rfl
  | true =>
   have:=Nat.blt_eq.mp q;have:=Zfc (ks.getD j 0) (ks.getD i 0) (by omega) ks;omega
def ltK(ks:List Int)(i j:Nat):Prop:=ks.getD i 0<ks.getD j 0\/ks.getD i 0=ks.getD j 0/\i<j
theorem Zrw{ks:List Int}{i j:Nat}(hi:i<ks.length)(hj:j<ks.length)(h:ltS (rks ks) i j=true):ltK ks i j:=by
 unfold ltS at h;rw[ZjZ hi hj] at h;obtain⟨e1,m1⟩:=ZdX hi;obtain⟨e2,m2⟩:=ZdX hj;rcases QT _ _ ▸ h with h | h
 ·exact .inl (Wg h)
 ·rw[YJ] at h;have h1:=Nat.eq_of_beq_eq_true h.1;rw[e1,e2] at h1;have h2:=Nat.blt_eq.mp h.2;refine .inr ⟨?_,h2⟩;rcases Int.lt_trichotomy (ks.getD i 0) (ks.getD j 0) with z | z | z
  ·have:=Zd8 z m1;omega
  ·exact z
  ·have:=Zd8 z m2;omega
theorem Zmd{ks:List Int}(h2:2<=ks.length)(h4:ks.length<=4):chk ks.length (rks ks)=true:=by
 have hm:∀x∈rks ks,x∈all4:=fun x hx=>by
  unfold rks at hx;obtain⟨y,h1,rfl⟩:=YZ.mp hx;have:=ZnW h1;have:rkI ks y<4:=by omega
  generalize rkI ks y=z at this;unfold all4;simp only[Yl,YO,WL];omega
 have hl:(rks ks).length=ks.length:=by simp[rks]
 generalize rks ks=r at hm hl;rw[<-hl]
 match r,hl with
 | [],hl=>simp at hl; omega
 | [_],hl=>simp at hl; omega
 | [a,b],_=>exact YH.mp (YH.mp Zsd a (hm a (by simp))) b (hm b (by simp))
 | [a,b,c],_=>exact YH.mp (YH.mp (YH.mp Zq9 a (hm a (by simp))) b (hm b (by simp))) c (hm c (by simp))
 | [a,b,c,d],_=>exact YH.mp (YH.mp (YH.mp (YH.mp Zpb a (hm a (by simp))) b (hm b (by simp))) c (hm c (by simp))) d (hm d (by simp))
 | _ :: _ :: _ :: _ :: _ :: _,hl=>simp at hl; omega
theorem Zn8{ks:List Int}(h2:2<=ks.length)(h4:ks.length<=4):ok ks.length (fun i j=>decide (ks.getD i 0<ks.getD j 0)) (kas_sort ks.length) (fun p=>Al ks.length p/\p.toList.Pairwise (ltK ks)):=by
 refine Zbr (Q:=fun p=>ZfJ ks.length (rks ks) p=true) (fun p h => ?_) (Zha (lt:=ltR (rks ks)) (fun i j hi hj=>ZjZ hi hj) (Zmd h2 h4));unfold ZfJ at h;rw[YJ] at h;have hA:Al ks.length p:=List.isPerm_iff.mp h.1;refine⟨hA,(Zkr h.2).imp_of_mem fun {i j} hi hj e=>Zrw ?_ ?_ e⟩
 ·have:=hA.mem_iff.mp hi;simpa using this
 ·have:=hA.mem_iff.mp hj;simpa using this
end SO
end
section
namespace SO
open PySem PySem.W PyProof.Rows
section
variable{prog:P7}{w:World}{A:P6}{E:P9->P1->Prop}{s:P1}
def Zee(prog:P7)(w:World)(A:P6)(s:P1)(h0:Heap)(f:P9)(v:P9)(n:Int):Prop :=
 ∀(g:Heap) (tk:Nat) (Q:P9->P1->Prop),(∀b o,h0.get? b=some o->g.get? b=some o)->(∀h' tk' t,(∀b o,g.get? b=some o->h'.get? b=some o)->Q (.int n t) { s with heap:=h',toks:=tk' })->wpAny (model prog w) A (call f [v]) Q (fun _ _=>False) { s with heap:=g,toks:=tk }
noncomputable abbrev KB2(h0:Heap)(a kS:Addr)(g:Heap):Prop:=∀b o,b≠a->b≠kS->h0.get? b=some o->g.get? b=some o
theorem Zii{h0:Heap}{a kS:Addr}{e1:Nat}{f:P9}{body:P9->PUnit->Sem (ForInStep PUnit)}(hka:kS≠a)(h0a:h0.get? a=none)(h0k:h0.get? kS=none)
  (hb:∀x ks e g tk (n:Int),List.length ks<64->g.get? kS=some (seqObj "list" (List.toArray ks) e)->wpAny (model prog w) A (call f [x]) (fun v s' => ∃h' tk' t,v = .int n t/\s' = { s with heap:=h',toks:=tk' }/\∀b o,g.get? b=some o->h'.get? b=some o) (fun _ _=>False) { s with heap:=g,toks:=tk } ->
   wpAny (model prog w) A (body x ⟨⟩) (fun r s'=>r = .yield ⟨⟩/\∃h' tk' t c,s' = { s with heap:=h',toks:=tk' }/\h'.get? kS=some (seqObj "list" (List.toArray (ks++[.int n t])) c)/\∀b o,b≠kS->g.get? b=some o->h'.get? b=some o) E { s with heap:=g,toks:=tk }) :
  ∀(r:List P9) (ns:List Int) (ks:List P9) (ms:List Int) (e:Nat) (g:Heap) (tk:Nat),Paired (Zee prog w A s h0 f) r ns->ks.length+r.length<64->IntsAre ks ms->KB2 h0 a kS g->g.get? kS=some (seqObj "list" (List.toArray ks) e)->g.get? a=some (seqObj "list" #[] e1) ->
   wpAny (model prog w) A (forIn r PUnit.unit body) (fun _ s' => ∃ks' e' g' tk',s' = { s with heap:=g',toks:=tk' }/\IntsAre ks' (ms++ns)/\KB2 h0 a kS g'/\g'.get? kS=some (seqObj "list" (List.toArray ks') e')/\g'.get? a=some (seqObj "list" #[] e1)) E { s with heap:=g,toks:=tk }
 | [],ns,ks,ms,e,g,tk,hp,hl,hi,hk,hS,ha=>by
  cases hp;rw[VG];refine Yb ⟨ks,e,g,tk,rfl,by rw[Qm]; exact hi,hk,hS,ha⟩
 | x :: r,ns,ks,ms,e,g,tk,hp,hl,hi,hk,hS,ha=>by
  cases hp with
  | @cons _ n _ ns hx hp =>
  rw[Yw] at hl;rw[Vn];have old:∀b o,h0.get? b=some o->g.get? b=some o:=fun b o q=>hk b o (fun z=>by rw[z,h0a] at q; cases q) (fun z=>by rw[z,h0k] at q; cases q) q;refine Ya (YK (hb x ks e g tk n (by omega) hS (hx g tk _ old fun h' tk' t k1=>⟨h',tk',t,rfl,rfl,k1⟩)) (fun q s' hq => ?_) fun _ _ x=>x);obtain⟨rfl,h',tk',t,c,rfl,hS',hkp⟩:=hq;show wpAny (model prog w) A (forIn r PUnit.unit body) _ E _;have hi':IntsAre (ks++[.int n t]) (ms++[n]):=by
   have:∀{ks:List P9} {ms:List Int},IntsAre ks ms->IntsAre (ks++[.int n t]) (ms++[n]):=fun {ks ms} h=>by
    induction h with
    | nil=>exact .cons n t .nil
    | cons a b h ih=>exact .cons a b ih
   exact this hi
  have rr:=Zii (e1:=e1) hka h0a h0k hb r ns (ks++[.int n t]) (ms++[n]) c h' tk' hp (by simp; omega) hi' (fun b o h1 h2 q=>hkp b o h2 (hk b o h1 h2 q)) hS' (hkp a _ (YX hka) ha);rw[UC] at rr;exact rr
theorem ints_get{vs:List P9}{ns:List Int}(h:IntsAre vs ns):vs.length=ns.length/\∀i,i<vs.length->∃t,vs.getD i .none = .int (ns.getD i 0) t:=by
 induction h with
 | nil=>exact⟨rfl,fun i hi=>by simp at hi⟩
 | cons n t h ih =>
  refine⟨by simp[ih.1],fun i hi => ?_⟩;cases i with
  | zero=>exact⟨t,rfl⟩
  | succ i =>
   obtain⟨u,e⟩:=ih.2 i (by simpa using hi);exact⟨u,by simpa using e⟩
theorem Zhh{h0 g:Heap}{a kS:Addr}{e e1:Nat}{ks out:List P9}{st:SortSt}{tk:Nat}{P:PySem.Fin->P1->Prop}(hka:kS≠a)(h0a:h0.get? a=none)(h0k:h0.get? kS=none)(hk:KB2 h0 a kS g)(hS:g.get? kS=some (seqObj "list" (List.toArray ks) e))(ha:g.get? a=some (seqObj "list" #[] e1))(hl:ks.length<64)
  (hout:(arrOf st).map (·.2)=List.toArray out) (hz:out.length<64) (hf:failedOf st=none)
  (k:∀h' c,(∀b o,h0.get? b=some o->h'.get? b=some o)->h'.get? a=some (seqObj "list" out.toArray c)->P (.done (.ret .none)) { s with heap:=h',toks:=tk }) :
  wpAny (model prog w) A (ksk_tail a false e1 (.ref kS) st) P E { s with heap:=g,toks:=tk }:=by
 have s1:=YB g kS (Obj.mapSeq fun _=>(#[]:Array P9));have ha1:(g.update kS (Obj.mapSeq fun _=>(#[]:Array P9))).get? a=some (seqObj "list" #[] e1):=s1.extBut _ _ (YX hka) ha;have s2:=YB (g.update kS (Obj.mapSeq fun _=>(#[]:Array P9))) a (Obj.mapSeq fun _=>List.toArray out);unfold ksk_tail
 try dsimp only
 rw[hout];refine Ya (Ve (s:={ s with heap:=g,toks:=tk }) hS rfl ?_ (by rw[Yt,YG]; omega) (YU _));refine Ya (wpAny_letGo ?_);refine Ya (seqEpoch_at (s:={ s with heap:=g.update kS (Obj.mapSeq fun _=>(#[]:Array P9)),toks:=tk }) ha1 rfl ?_);refine Ya (Ve (s:={ s with heap:=g.update kS (Obj.mapSeq fun _=>(#[]:Array P9)),toks:=tk }) ha1 rfl ?_ (YU _) (YL (Nat.le_of_eq (Yt ..)) (by rw[YG]; omega)));rw[hf];simp only[UF,YF,Y3];refine Yb (k _ _ (fun b o q => ?_) (Vo ha1 fun _=>List.toArray out));have hba:b≠a:=fun z=>by rw[z,h0a] at q; cases q
 have hbk:b≠kS:=fun z=>by rw[z,h0k] at q; cases q
 exact s2.extBut b o hba (s1.extBut b o hbk (hk b o hba hbk q))
theorem Zob{a q:Addr}{vs:List P9}{ns:List Int}{n0:Nat}{P:PySem.Fin->P1->Prop}{h0:Heap}(ho:s.heap.get? a=some (seqObj "list" vs.toArray n0))(h4:vs.length<=4)(hln:vs.length=ns.length)(hp:Paired (Zee prog w A s h0 (.ref q)) vs ns)
  (h0a:h0.get? a=none) (h0s:h0.objs.size<=s.heap.objs.size) (h0k:∀b o,h0.get? b=some o->s.heap.get? b=some o)
  (k:∀p:List Nat,p.Perm (List.range vs.length)->p.Pairwise (ltK ns)->∀h' tk c,(∀b o,h0.get? b=some o->h'.get? b=some o)->h'.get? a=some (seqObj "list" (p.map fun i=>vs.getD i .none).toArray c)->P (.done (.ret .none)) { s with heap:=h',toks:=tk }) :
  wpAny (model prog w) A (ksk_tree a (.ref q) false) P E s:=by
 have ha:a<s.heap.objs.size:=Yg ho;have s1:=YB s.heap a (Obj.mapSeq fun _=>(#[]:Array P9));obtain⟨e1,ho1⟩:∃e1,(s.heap.update a (Obj.mapSeq fun _=>(#[]:Array P9))).get? a=some (seqObj "list" #[] e1):=⟨_,Vo ho fun _ => #[]⟩;have hkS:((s.heap.update a (Obj.mapSeq fun _=>(#[]:Array P9))).push (seqObj "tuple" vs.toArray 0)).objs.size=s.heap.objs.size+1:=by rw[size_push',UR]
 unfold ksk_tree;refine Ya (listItems_at ho rfl ?_);refine Ya (Ve ho rfl ?_ (by rw[Yt,YG]; omega) (YU _));refine Ya (seqEpoch_at ho1 rfl ?_);refine Ya (VH ?_ (by show vs.length<=_; rw[YG]; omega));refine Ya (QE ?_ (YU _));refine YM ?_;show wpAny (model prog w) A (ksk_rest a (.ref q) false vs.toArray e1 (.ref ((s.heap.update a (Obj.mapSeq fun _=>(#[]:Array P9))).push (seqObj "tuple" vs.toArray 0)).objs.size)) P E { s with heap:=((s.heap.update a (Obj.mapSeq fun _=>(#[]:Array P9))).push (seqObj "tuple" vs.toArray 0)).push (seqObj "list" #[] 0) };have hS0:(((s.heap.update a (Obj.mapSeq fun _=>(#[]:Array P9))).push (seqObj "tuple" vs.toArray 0)).push (seqObj "list" #[] 0)).get? ((s.heap.update a (Obj.mapSeq fun _=>(#[]:Array P9))).push (seqObj "tuple" vs.toArray 0)).objs.size=some (seqObj "list" (List.toArray []) 0):=Yi _ rfl;have ha0:(((s.heap.update a (Obj.mapSeq fun _=>(#[]:Array P9))).push (seqObj "tuple" vs.toArray 0)).push (seqObj "list" #[] 0)).get? a=some (seqObj "list" #[] e1):=Yc _ (Yc _ ho1);have hk0:KB2 h0 a ((s.heap.update a (Obj.mapSeq fun _=>(#[]:Array P9))).push (seqObj "tuple" vs.toArray 0)).objs.size (((s.heap.update a (Obj.mapSeq fun _=>(#[]:Array P9))).push (seqObj "tuple" vs.toArray 0)).push (seqObj "list" #[] 0)):=fun b o h1 h2 e =>
  Yc _ (Yc _ (s1.extBut b o h1 (h0k b o e)))
 generalize ((s.heap.update a (Obj.mapSeq fun _=>(#[]:Array P9))).push (seqObj "tuple" vs.toArray 0)).push (seqObj "list" #[] 0)=g0 at hS0 ha0 hk0;rw[hkS] at hS0 hk0 ⊢;have hka:s.heap.objs.size+1≠a:=fun z=>by rw[<-z] at ha; exact absurd ha (Nat.not_lt.mpr (Vg _))
 have h0S:h0.get? (s.heap.objs.size+1)=none:=QI (UD h0s);generalize s.heap.objs.size+1=kS at hS0 hk0 hka h0S;unfold ksk_rest;refine Ya (W5 ?_)
 first
  | rw[List.forIn_toArray]
  | (rw[<-Vy]; simp only[List.toList_toArray])
  | rw[<-Vy]
 refine Ya (YK (Zii (A:=A) (E:=E) (s:=s) (h0:=h0) (a:=a) (kS:=kS) (e1:=e1) (f:=.ref q) hka h0a h0S ?hb vs ns [] [] 0 g0 s.toks hp (by simp; omega) .nil hk0 hS0 ha0) (fun _ s' hd => ?_) fun _ _ x=>x)
 case hb =>
  intro x ks e g tk n hl hS hc;refine Ya (W0 (YK hc (fun v s'' hv => ?_) fun _ _ hF=>hF.elim));obtain⟨h',tk',t,rfl,rfl,hkp⟩:=hv;have hS':=hkp _ _ hS;have ea:(List.toArray ks).push (Value.int n t)=List.toArray (ks++[.int n t]):=by simp
  have s2:=YB h' kS (Obj.mapSeq (·.push (Value.int n t)));obtain⟨c2,hc2⟩:∃c2,(h'.update kS (Obj.mapSeq (·.push (Value.int n t)))).get? kS=some (seqObj "list" (List.toArray (ks++[.int n t])) c2):=⟨_,by rw[<-ea]; exact Vo hS' (·.push (Value.int n t))⟩
  try dsimp only
  refine Ya (Ve (s:={ s with heap:=h',toks:=tk' }) hS' rfl ?_ (by rw[Yt,YG]; omega) (YL (Nat.le_of_eq (UX ..)) (by rw[Yt,YG]; omega)));exact Yb ⟨rfl,_,tk',t,c2,rfl,hc2,fun b o hb e=>s2.extBut b o hb (hkp b o e)⟩
 obtain⟨ks,e,g,tk,rfl,hi,hkg,hS,hga⟩:=hd;rw[W9] at hi;obtain⟨hlk,hget⟩:=ints_get hi
 try dsimp only
 refine Ya (listItems_at (s:={ s with heap:=g,toks:=tk }) hS rfl ?_);unfold ksk_end;simp only[YF,Y3];by_cases h2:vs.length<2
 ·have hn2:vs.toArray.size<2:=by rw[Yt]; omega
  rw[Yf hn2,Yf hn2];refine Ya (Yb (Ya (Yb ?_)));have hm:(arrOf (SortSt.mk' general' ((List.toArray ks).zip vs.toArray) #[] 7 none)).map (·.2)=List.toArray ((List.range vs.length).map fun i=>vs.getD i Value.none):=by
   show ((List.toArray ks).zip vs.toArray).map (·.2)=_
   match vs,ks,h2,(show ks.length=vs.length by omega) with
   | [],[],_,_=>simp
   | [v],[u],_,_=>simp[Uh]
  have hpw:(List.range vs.length).Pairwise (ltK ns):=by
   match vs,h2 with
   | [],_=>exact .nil
   | [v],_=>exact VN _ _
  exact Zhh hka h0a h0S hkg hS hga (by omega) hm (by simp; omega) rfl fun h' c kp hc=>k _ (List.Perm.refl _) hpw h' tk c kp hc
 ·have hn2:¬ vs.toArray.size<2:=by rw[Yt]; omega
  rw[Yh hn2,Yh hn2];have hkk:keyKind' (List.toArray ks)=pure oneType':=by
   match ks,hi,(show 2<=ks.length by omega) with
   | v1 :: v2 :: r,hi,_=>exact keyKind_ints hi
  refine Ya ?_;rw[hkk];refine Yb ?_;have hl2:ks.length=vs.length:=by omega
  refine Ya (YK (kat_run (κ:=oneType') (ks:=ks) (vs:=vs) (G:=fun p s'=>(Al vs.length p/\p.toList.Pairwise (ltK ns))/\s' = { s with heap:=g,toks:=tk }) (Q:=fun st' s' => ∃p:Array Nat,arrOf st'=p.map (kas_item ((List.toArray ks).zip vs.toArray))/\failedOf st'=none/\(Al vs.length p/\p.toList.Pairwise (ltK ns))/\s' = { s with heap:=g,toks:=tk })
   hl2 (by omega) (by omega) (fun p st' s' _ h1 h2 h3=>⟨p,h1,h2,h3⟩) ?_) ?_ fun _ _ e=>e)
  ·have S4:=Zn8 (ks:=ns) (by omega) (by omega);rw[<-hln] at S4;refine ZgH (Q:=fun p=>Al vs.length p/\p.toList.Pairwise (ltK ns)) (fun i j D hi' hj' hD => ?_) (fun p z=>⟨z,rfl⟩) S4;obtain⟨t1,e1'⟩:=hget i (by omega);obtain⟨t2,e2'⟩:=hget j (by omega);unfold kas_ask;rw[e1',e2'];exact kat_lt_int hD
  ·rintro⟨⟨⟩,st'⟩ s' ⟨p,har,hf,⟨hA,hW⟩,rfl⟩;dsimp only;refine Zhh hka h0a h0S hkg hS hga (by omega) (kat_snds hl2 har) ?_ hf fun h' c kp hc=>k _ hA hW h' tk c kp hc;rw[Ym,hA.length_eq,Wa];omega
theorem ZoS{l q:Addr}{vs:List P9}{ns:List Int}{Q:P9->P1->Prop}(hl:s.heap.IsList l vs.toArray)(h4:vs.length<=4)(hln:vs.length=ns.length)(hp:Paired (Zee prog w A.in1.in1 s s.heap (.ref q)) vs ns)
  (k:∀p:List Nat,p.Perm (List.range vs.length)->p.Pairwise (ltK ns)->∀a h' tk c,s.heap.objs.size<=a->(∀b o,s.heap.get? b=some o->h'.get? b=some o)->h'.get? a=some (seqObj "list" (p.map fun i=>vs.getD i .none).toArray c)->Q (.ref a) { s with heap:=h',toks:=tk }) :
  wpAny (model prog w) A (call (.builtin "sorted") [.ref l] [(Str.ofString "key",.ref q)]) Q E s:=by
 refine call_function_entry_kw VW Vv Vw (ksk_s1 _ _) ?_;unfold Builtin.«sorted»;refine Ya (m:=checkCount "sorted" 1 1 _) (Yb ?_);refine Ya (collect_list hl ?_ (by rw[YG]; omega));refine Ya (QE ?_ (by rw[YG]; omega));have hsz:((s.heap.push (seqObj "list" #[] 0)).update s.heap.objs.size (Obj.mapSeq (· ++ vs.toArray))).objs.size=s.heap.objs.size+1:=by
  rw[UR,size_push']
 have hoL:(((s.heap.push (seqObj "list" #[] 0)).update s.heap.objs.size (Obj.mapSeq (· ++ vs.toArray))).push (seqObj "list" vs.toArray 0)).get? (s.heap.objs.size+1)=some (seqObj "list" vs.toArray 0):=by
  rw[<-hsz]; exact Yi _ rfl
 have keep:∀b o,s.heap.get? b=some o->(((s.heap.push (seqObj "list" #[] 0)).update s.heap.objs.size (Obj.mapSeq (· ++ vs.toArray))).push (seqObj "list" vs.toArray 0)).get? b=some o:=fun b o q=>by
  have hlt:b<s.heap.objs.size:=Yg q;rw[VS _ _ _ (by rw[hsz]; exact Yp (WC hlt)),Heap.get?_update_ne _ _ _ _ (Yp hlt),VS _ _ _ (Yp hlt)];exact q
 have hsz2:s.heap.objs.size<=(((s.heap.push (seqObj "list" #[] 0)).update s.heap.objs.size (Obj.mapSeq (· ++ vs.toArray))).push (seqObj "list" vs.toArray 0)).objs.size:=by rw[size_push',hsz]; omega
 show wpAny _ _ _ _ _ { s with heap:=((s.heap.push (seqObj "list" #[] 0)).update s.heap.objs.size (Obj.mapSeq (· ++ vs.toArray))).push (seqObj "list" vs.toArray 0) };rw[hsz];generalize ((s.heap.push (seqObj "list" #[] 0)).update s.heap.objs.size (Obj.mapSeq (· ++ vs.toArray))).push (seqObj "list" vs.toArray 0)=g at hoL keep hsz2;refine Ya (YM (wpAny_call_entry_kw slot_list_sort ⟨_,hoL,rfl⟩ entry_list_sort ?body (ksk_l1 _ _)))
 case body =>
  show wpAny (model prog w) A.in1.in1 (Builtin.«list.sort» ⟨[.ref (s.heap.objs.size+1)],[(Str.ofString "key",.ref q)]⟩) _ _ _;rw[ksk_t1];refine Zob (s:={ s with heap:=g }) (h0:=s.heap) hoL h4 hln hp (QI (Vg _)) hsz2 keep fun p hp hpw h' tk c kp hc => ?_;exact⟨_,rfl,Yb ⟨_,rfl,k p hp hpw _ h' tk c (Vg _) kp hc⟩⟩
end
end SO
end
section
namespace SO
open PySem PySem.W PyProof.Rows L2
noncomputable abbrev ZeO(p:Pos):Arguments:={ posonlyargs:=[],args:=[{ arg:="place",annotation:=none,pos:=p }],vararg:=none,kwonlyargs:=[],kw_defaults:=[],kwarg:=none,defaults:=[] }
noncomputable abbrev Zeu(p1 p2 p3 p4:Pos):Expr:=.UnaryOp .USub (.Subscript (.Name "many" p1) (.Name "place" p2) p3) p4
noncomputable abbrev lamScope:Scope:={ kind:=.function,names:=[("place",.local),("many",.free)],isGenerator:=false,isCoroutine:=false,more:=[] }
section
variable{prog:P7}{w:World}{A:P6}{E:P9->P1->Prop}{s:P1}
theorem Zod{h0:Heap}{f c c' d b:Addr}{p p1 p2 p3 p4:Pos}{qual:Str}{pm ctv:P9}{xs:List (List Key×Addr×P9)}{k:List Key}{q:Addr×P9}{n:Int}{t:Tok}(hroom:A.depth<recursionLimit)(hu:A.units+8<cLine)
  (ho:h0.get? f=some (kla_obj "<lambda>" qual (ZeO p) (Zeu p1 p2 p3 p4) lamScope [("many",c)] pm c' ctv)) (hcd:h0.CodeRec (.ref c') qual) (hcell:h0.IsCell c (some (.ref d)))
  (hd:h0.DictOfH (tupleKind (mixKind prog w)) d xs) (hk:(tupleKind (mixKind prog w)).is h0 k b) (hq:atKey xs k=some q) (hn:q.2 = .int n t) (lim:h0.NoLimit) :
  Zee prog w A s h0 (.ref f) (.ref b) (-n):=by
 intro g tk Q kp hQ;have hd':g.DictOfH (tupleKind (mixKind prog w)) d xs:=by
  obtain⟨o,es,ep,e1,e2,e3,e4,e5,e6⟩:=hd;exact⟨o,es,ep,kp _ _ e1,e2,e3,e4,fun x hx=>let ⟨o,it,n,z,r⟩:=e5 x hx; ⟨o,it,n,kp _ _ z,r⟩,e6⟩
 have hk':(tupleKind (mixKind prog w)).is g k b:=let ⟨o,it,n,z,r⟩:=hk; ⟨o,it,n,kp _ _ z,r⟩
 have lim':g.NoLimit:=lim.keeps kp;have hc':g.IsCell c (some (.ref d)):=let ⟨o,e1,e2⟩:=hcell; ⟨o,kp _ _ e1,e2⟩
 refine wpAny_call ?_;refine kla_callFunE (s:={ s with heap:=g,toks:=tk }) hroom (kp _ _ ho) rfl rfl rfl rfl (let ⟨a,oc,vs,tq,e1,e2,e3⟩:=hcd; ⟨a,oc,vs,tq,e1,kp _ _ e2,e3⟩) ?_;refine VV (a:=[((Str.ofString "place"),Value.ref b)]) rfl ?_;refine wpAny_newFunctionEnv (show ∀x∈lamScope.names,x.2≠NameKind.cell by decide) (fun x hx=>by rw[YC.mp hx]; rfl) (fun h1 hns hsb=>⟨lim'.fresh _ hsb,?_⟩) rfl;have hk1:∀b o,g.get? b=some o->h1.get? b=some o:=fun b o e=>hsb.extBut b o (Yp (Yg e)) (Yc _ e);refine kla_codeExpr ?_;refine UnaryOp_ (Zka UJ.lookup (by intro _ _; rfl) ?_);refine UH (wpAny_loadName_free (c:=c) (v:=.ref d) rfl rfl rfl (let ⟨o,e1,e2⟩:=hc'; ⟨o,hk1 _ _ e1,e2⟩) ?_);refine UH (wpAny_loadName_local (v:=.ref b) rfl rfl hns rfl ?_);have hd1:h1.DictOfH (tupleKind (mixKind prog w)) d xs:=by
  obtain⟨o,es,ep,e1,e2,e3,e4,e5,e6⟩:=hd';exact⟨o,es,ep,hk1 _ _ e1,e2,e3,e4,fun x hx=>let ⟨o,it,n,z,r⟩:=e5 x hx; ⟨o,it,n,hk1 _ _ z,r⟩,e6⟩
 refine⟨Heap.DictOfH.typeIs (s:={ s with heap:=h1,toks:=tk+1 }) hd1,wpAny_getItem_heap (s:={ s with heap:=h1,toks:=tk+1 }) (QV ?_) (let ⟨o,it,n,z,r⟩:=hk'; ⟨o,it,n,hk1 _ _ z,r⟩) hd1 hq ?_⟩
 ·show A.units+3+1<cLine;omega
 rw[hn];exact neg_int (hQ h1 _ _ hk1)
end
end SO
end
section
namespace L2
open PySem PySem.Spec PyProof.Rows
theorem Inv.grow{X:Cx}{pins:List (Addr×Obj)}{σ:St}{H:Hp}{s:P1}{h':Heap}{t':Nat}{P:Addr}{ps more:Array P9}(I:Inv X pins σ H s)(e:H P=some (.tbl ps))(k:∀b u,b≠P->s.heap.get? b=some u->h'.get? b=some u)
  (hP:h'.get? P=some { cls:=.none,data:=.fields (ps++more) }):Inv X pins σ (upd H P (.tbl (ps++more))) { s with heap:=h',toks:=t' }:=by
 have ne:∀{b:Addr},H b=none->b≠P:=fun {b} n z=>by rw[z,e] at n; cases n
 have ne2:∀{b:Addr} {u:HO},H b=some u->(∀q,u≠.tbl q)->b≠P:=fun {b u} n hu z=>by rw[z,e] at n; cases n; exact hu _ rfl
 refine I.un ⟨fun b u q n _ _=>k b u (ne n) q,fun b u q n _ _=>⟨u.slots,k b u (ne n) q⟩,fun b u q n _=>by rw[Zh (ne n)]; exact n,fun b u q _ => ?_,fun b xs q=>by rw[Zh (ne2 q fun _ z=>by cases z)]; exact q,
  fun b u xs q=>by rw[Zh (ne2 q fun _ z=>by cases z)]; exact q,fun b qs q => ?_⟩ fun b u q => ?_
 ·by_cases hb:b=P
  ·subst hb; exact⟨_,hP⟩
  ·exact⟨u,k b u hb q⟩
 ·by_cases hb:b=P
  ·subst hb;rw[e] at q;cases q;exact⟨more,ZH⟩
  ·exact⟨#[],by rw[Zh hb,q]; simp⟩
 ·by_cases hb:b=P
  ·subst hb;rw[ZH] at q;cases q;exact hP
  ·rw[Zh hb] at q;refine (I.hok b u q).stay (fun c v hc z=>k c v ?_ z) (fun c z=>by rw[Zh (ne2 z fun _ z=>by cases z)]; exact z) fun c xs z=>by rw[Zh (ne2 z fun _ z=>by cases z)]; exact z
   rcases hc with rfl | hc
   ·exact hb
   ·exact ne2 hc fun _ z=>by cases z
end L2
namespace DL
open PySem PySem.Spec PyProof.Rows L2 PySem.W SO
def Zcf(ds:List (D×D)):List D->Option (List Int)
 | []=>some []
 | x :: r=>match Zo x,ZI Zo ds x,Zcf ds r with
  | some _,some (.int n),some ns=>some (-n :: ns)
  | _,_,_=>none
def Zcm(ns:List Int)(xs:List D):List D:=(ZbO ((List.range ns.length).map fun i=>(ns.getD i 0,(i:Int)))).map fun q=>xs.getD q.2.toNat .non
def Zes(P:Addr)(im:Nat)(fl:DE):DA:=fun ρ st=>(fl ρ st).bind fun d st1=>match d,(ρ[im]?:Option (Option D)),(st1[0]?:Option S) with
 | .lst xs,some (some (.res r)),some (S.tab P' false)=>match st1[r]? with
  | some (.dtt ds)=>match Zcf ds xs with
   | some ns=>if P'=P/\xs.length<=4 then .ok (Zcm ns xs) (st1.set 0 (.tab P true)) else .bad
   | none => .bad
  | _ => .bad
 | _,_,_ => .bad
theorem Zg7{ds:List (D×D)}:∀{xs:List D} {ns:List Int},Zcf ds xs=some ns->xs.length=ns.length/\∀{i:Nat} {x:D} {n:Int},xs[i]?=some x->ns[i]?=some n->(∃k,Zo x=some k)/\ZI Zo ds x=some (.int (-n))
 | [],ns,e=>by
  cases (show some []=some ns from e);exact⟨rfl,fun {i x n} e _=>by simp at e⟩
 | x :: r,ns,e=>by
  unfold Zcf at e;split at e
  ·rename_i k n ms h1 h2 h3;cases e;obtain⟨l,g⟩:=Zg7 h3;refine⟨by simp[l],fun {i y m} e1 e2 => ?_⟩;cases i with
   | zero =>
    simp only[Yu,Yx] at e1 e2;subst e1 e2;exact⟨⟨k,h1⟩,by rw[h2,Int.neg_neg]⟩
   | succ i =>
    rw[YA] at e1 e2;exact g e1 e2
  ·cases e
theorem Zrn{ns:List Int}{xs:List D}{p:List Nat}(hp:p.Perm (List.range ns.length))(hw:p.Pairwise (ltK ns)):Zcm ns xs=p.map fun i=>xs.getD i .non:=by
 have e:p.map (fun i=>(ns.getD i 0,(i:Int)))=ZbO ((List.range ns.length).map fun i=>(ns.getD i 0,(i:Int))):=by
  refine Zqs (hp.map _) (Q2.mpr (hw.imp fun {i j} h => ?_));unfold ltK at h;simp only[Zgb,YR];omega
 unfold Zcm;rw[<-e,YQ];rfl
section
variable{X:Cx}{EX:EXT}
theorem Zg0{α β:Type}{F:α->β->Prop}:∀{l:List α} {m:List β},l.length=m.length->(∀(i:Nat) (a:α) (b:β),l[i]?=some a->m[i]?=some b->F a b)->Paired F l m
 | [],[],_,_ => .nil
 | [],_ :: _,h,_=>by cases h
 | _ :: _,[],h,_=>by cases h
 | a :: l,b :: m,h,k => .cons (k 0 a b rfl rfl) (Zg0 (by simpa using h) fun i a' b' h1 h2=>k (i+1) a' b' (by simpa using h1) (by simpa using h2))
theorem Zq5{l:Expr}{p pos kpos lp ap p1 p2 p3 p4:Pos}{fl:DE}{P c:Addr}{k:Nat}(im:Nat)(hr:Room k X.A)(hg:Gl X "sorted")(hm:X.mg "sorted" = none)(hcode:X.env.code = .ref c)(hP:codeHdIn X.K c P=true)(hba:X.base.BuiltinsAt X.mg P)
  (hl:PD X EX l fl) (hN:X.N[im]?=some "many":=by rfl) (hvis:X.env.kindOf "many" = some .cell:=by rfl) (hvi2:X.env.scope.names.lookup ("many" : Str)=some NameKind.cell:=by rfl) (hs:starEach [l] X.env=[(false,eval l X.env)]:=by rfl) :
  PDF X EX (.Call (.Name "sorted" p) [l] [⟨some "key",.Lambda (ZeO ap) (Zeu p1 p2 p3 p4) lamScope lp,kpos⟩] pos) (Zes P im fl):=by
 intro pins s σ H Q I h;refine Wn (ZaE I hg hm Wl ?_);refine callWith_builtin_kwB (by rw[hs]; rfl) rfl (evalArgs_kw2 rfl ?_ hs);rw[hs];refine WH (thn (hl pins s σ H (fun v H1 => ∃O ρ d st1,WR X.K O H1 st1/\REnv X.K O H1 ρ σ/\Rep X.K O H1 d v/\Run X.K EX O H1 (match d,(ρ[im]?:Option (Option D)),(st1[0]?:Option S) with
  | .lst xs,some (some (.res r)),some (S.tab P' false)=>match st1[r]? with
   | some (.dtt ds)=>match Zcf ds xs with
    | some ns=>if P'=P/\xs.length<=4 then .ok (Zcm ns xs) (st1.set 0 (.tab P true)) else .bad
    | none => .bad
   | _ => .bad
  | _,_,_ => .bad) (New X.K Q)) I ?_) fun u s1 ⟨x,H1,I1,r1,O,ρ,d,st,W,EV,rv,R⟩=>W8 ?_)
 ·obtain⟨O,ρ,st,W,E,R⟩:=h;exact⟨O,ρ,st,W,E,R.bind.mono fun d st1 O1 H1 k1 W1 R1 v rv=>⟨O1,ρ,d,st1,W1,E.mono k1,rv,R1⟩⟩
 split at R
 ·rename_i xs r P' e1 e2;split at R
  ·rename_i ds e3;split at R
   ·rename_i ns hns;by_cases hc:P'=P/\xs.length<=4
    ·rw[Yf hc] at R;obtain⟨rfl,h4⟩:=hc;show wpAny _ _ (evalAll [(do let v <-eval (.Lambda (ZeO ap) (Zeu p1 p2 p3 p4) lamScope lp) X.env; standAt pos; pure v)]) _ _ s1;obtain⟨a,vs,rfl,haO,hla,rvs⟩:=Rep.lst_i.mp rv;cases r1;obtain⟨v,hv1,hv2⟩:=EV.at_ im _ e1;rw[Rep.res_i] at hv2;obtain⟨dd,rfl,hO⟩:=hv2;obtain⟨a0,ha0⟩:∃a0,O[0]?=some a0:=⟨_,Yd (by rw[W.len]; exact (Yk.mp e2).1)⟩;obtain⟨z0,ps,hPt,hps⟩:=W.at_ 0 a0 _ ha0 e2;subst z0;have hps':=hps rfl;subst hps';obtain⟨kvs,hdt,kv⟩:=W.at_ _ _ _ hO e3;obtain⟨m,hns0,hlook⟩:=I1.loc;obtain⟨u',ru',hlk⟩:=hlook im "many" (.ref dd) hN hv1 (.inr (.inl hvi2));cases ru';rcases hlk with⟨hk,_⟩ | ⟨_,cm,hcm,hcell⟩
     ·rw[hvis] at hk; cases hk
     refine wpAny_evalAll_cons (Ya (kla_eval rfl ?_));have hcl:closureFor lamScope X.env=pure [(Str.ofString "many",cm)]:=by
      unfold closureFor cellOf;have hcm':List.lookup (Str.ofString "many") X.env.cells=some cm:=hcm;simp[lamScope,hcm']
     have hgP:mainGlobals≠a0:=fun z=>by
      obtain⟨o,es,ep,e,_⟩:=I1.mod.glob;have:=(I1.bs _ _ e).2;rw[z,hPt] at this;cases this
     refine kla_makeFunction (mg:=X.mg) (clos:=[("many",cm)]) (c:=c) (P:=a0) (ps:=#[]) hcl I1.ok.glob (I1.mod.glob.keeps I1.bk) hcode (codeHd_of_K I1.kIn hP) (I1.hok a0 _ hPt) trivial rfl hgP (let ⟨bm,o,b1,b2,b3,b4,b5,b6⟩:=hba; ⟨bm,o,b1,b2,b3,b4,I1.bk _ _ b5,b6⟩) fun c' ctv h' tk hx hge hlt hrec htb => ?_;refine Ya (wpAny_standAt (Yb (wpAny_evalAll_nil ?_)));show wpAny _ _ (call (.builtin "sorted") [.ref a] [(Str.ofString "key",.ref h'.objs.size)]) _ _ _;generalize hob:kla_obj "<lambda>" (X.env.qual ++ "<lambda>") (ZeO ap) (Zeu p1 p2 p3 p4) lamScope [("many",cm)] ((X.mg "__name__").getD .none) c' ctv=ob;have kp:∀b o,b≠a0->s1.heap.get? b=some o->(h'.push ob).get? b=some o:=fun b o hb e=>Yc _ (hx b o hb e);have hf2:(h'.push ob).get? h'.objs.size=some ob:=Yi _ (by rw[<-hob]; rfl);have hP2:(h'.push ob).get? a0=some { cls:=.none,data:=.fields (#[]++(#[rawInt lp.line,rawInt lp.col,.ref c']:Array P9)) }:=Yc _ htb;have hrec2:(h'.push ob).CodeRec (.ref c') (X.env.qual ++ "<lambda>"):=let ⟨x1,x2,x3,x4,x5,x6,x7⟩:=hrec; ⟨x1,x2,x3,x4,x5,Yc _ x6,x7⟩
     generalize h'.push ob=h2 at kp hf2 hP2 hrec2;generalize h'.objs.size=f at hf2;subst hob;have I2:=I1.grow (t':=tk) hPt kp hP2;have hne:∀{b:Addr} {u:HO},H1 b=some u->(∀q,u≠.tbl q)->upd H1 a0 (.tbl (#[]++(#[rawInt lp.line,rawInt lp.col,.ref c']:Array P9))) b=some u:=fun {b u} e hu=>by
      rw[Zh]
      ·exact e
      ·rintro rfl;rw[hPt] at e;cases e;exact hu _ rfl
     have kw:Keep X.K O H1 O (upd H1 a0 (.tbl (#[]++(#[rawInt lp.line,rawInt lp.col,.ref c']:Array P9)))):=Keep.write W ha0;have W2:WR X.K O (upd H1 a0 (.tbl (#[]++(#[rawInt lp.line,rawInt lp.col,.ref c']:Array P9)))) (st.set 0 (.tab a0 true)):=W.write ha0 ⟨rfl,_,ZH,fun z=>by cases z⟩;have hla2:=hne hla fun _ z=>by cases z
     have hdt2:=hne hdt fun _ z=>by cases z
     generalize upd H1 a0 (.tbl (#[]++(#[rawInt lp.line,rawInt lp.col,.ref c']:Array P9)))=H2 at I2 kw W2 hla2 hdt2;have kv2:=Kvs.mono kw _ _ kv;have rvs2:=Reps.mono kw _ _ rvs;obtain⟨its,rv',pl,hz⟩:=I2.list (.inl (.inl hla2));obtain⟨z1,hdm,ws,rel,dd2⟩:=ZaN I2.hok (.inl hdt2);obtain⟨hlx,hget⟩:=Zg7 hns;have l1:=rv'.length;have l2:=rvs2.length;have hcm0:cm≠a0:=fun z=>by
      have:=I1.freeC "many" cm hcm;rw[z,hPt] at this;cases this
     have hcell2:h2.IsCell cm (some (.ref dd)):=let ⟨o,x1,x2⟩:=hcell; ⟨o,kp _ _ hcm0 x1,x2⟩
     refine ZoS (s:={ s1 with heap:=h2,toks:=tk }) (ns:=ns) pl.isList (by omega) (by omega) (Zg0 (by omega) fun i y n hy hn => ?_) fun ix hp hw b h3 tk3 c3 hb k3 hc3 => ?_
     ·obtain⟨x,hx1⟩:∃x,xs[i]?=some x:=⟨_,Yd (by rw[hlx]; exact (Yk.mp hn).1)⟩;obtain⟨⟨key,hkey⟩,hval⟩:=hget hx1 hn;obtain⟨y1,g1,g2⟩:=rvs2.get hx1;obtain⟨b,rfl,hb⟩:=Zdi hkey g2;obtain⟨y2,g3,g4⟩:=rv'.get g1;rw[hy] at g3;cases g3;cases g4;have g5:=ZbV hkey kv2;rw[hval] at g5;cases g6:Zap kvs key with
      | none=>rw[g6] at g5; exact g5.elim
      | some w1 =>
       rw[g6] at g5;have g7:w1=V.int (-n):=Rep.int_i.mp (show Rep X.K O H2 (.int (-n)) w1 from g5);subst g7;obtain⟨w',hw1,t,hw2⟩:=RelO.some_of (v:=V.int (-n)) (o:=(atKey ws key).map (·.2)) (by rw[<-g6]; exact rel.val key);obtain⟨q,hq1,hq2⟩:=Y7.mp hw1;have:=Zod (prog:=X.prog) (w:=X.w) (A:=X.A.in1.in1) (s:={ s1 with heap:=h2,toks:=tk }) (h0:=h2) (n:=-n) (t:=t) (by
        have:=hr.depth;show X.A.depth<recursionLimit;exact this) (by
        have:=hr.units;show X.A.units+1+1+8<cLine;omega) hf2 hrec2 hcell2 dd2 (ZcS I2.hok hb) hq1 (by rw[hq2]; exact hw2) I2.nolimit
       rw[Int.neg_neg] at this;exact this
     ·have hix:∀i∈ix,i<xs.length:=fun i hi=>by
       have:=hp.mem_iff.mp hi;simp only[Q3] at this;omega
      refine⟨.ref b,_,I2.laid (t':=tk3) (a:=b) (o:=.lst (ix.map fun i=>vs.getD i .non)) k3 hb ⟨?_,ix.map (fun i=>its.getD i .none),c3,?_,hc3⟩,rfl,?_⟩
      ·have h0:=hp.length_eq;simp only[Ym,Wa] at h0 ⊢;rw[YG];omega
      ·refine Zen ix fun i hi => ?_;obtain⟨y1,g1⟩:∃x,vs[i]?=some x:=⟨_,Yd (by have:=hix i hi; omega)⟩;obtain⟨y2,g3,g4⟩:=rv'.get g1;rw[Ye,Ye,g1,g3];exact g4
      ·have RR:=Run.now (k:=New X.K Q) (Run.later (r:=.ok (Zcm ns xs) (st.set 0 (.tab a0 true))) R kw) W2;refine RR b _ ?_ (I2.hok.fresh hb);rw[Zrn (ns:=ns) (p:=ix) (by rw[<-hlx,l2,l1]; exact hp) hw];refine ZdD ix fun i hi => ?_;obtain⟨x,hx1⟩:∃x,xs[i]?=some x:=⟨_,Yd (hix i hi)⟩;obtain⟨y1,g1,g2⟩:=rvs2.get hx1;rw[Ye,Ye,g1,hx1];exact g2
    ·rw[Yh hc] at R; exact R.elim
   ·exact R.elim
  ·exact R.elim
 ·exact R.elim
end
end DL
end
section
namespace L2
open PySem PySem.Spec PyProof.Rows
def Zd9(T:Addr)(H:Hp):Prop:=∀b,H b=none\/(∃o xs,H b=some (.frz o (.lst xs)))\/(b=T/\H b=some (.tbl #[]))
theorem Zo9{P:P7}{w:World}{K:P5}{mg mb:Str->Option P9}{CX:CXT}{k:Nat}{fa a:Addr}{fd:P8}{x:Str}{sp:Sp}{s₁:P1}{vs:List P9}{ns:List Int}{c T:Addr}
  (KX:K.In s₁.heap) (hns:s₁.heap.Ns mainGlobals mg) (hb:s₁.heap.Ns builtinsNs mb) (hbb:∀x:Str,x≠"__name__"->mb x=bootBuiltins x) (hlim:s₁.heap.NoLimit) (hg:s₁.gens = #[])
  (hbm:∃bm ob,mg "__builtins__" = some (.ref bm)/\bm≠builtinsNs/\s₁.heap.get? bm=some ob/\ob.cls = .type "module"/\ob.dict=some builtinsNs/\ob.data = .plain)
  (hC:PySem.W.CodeHd s₁.heap c T) (hT:s₁.heap.get? T=some (PySem.W.tabObj #[])) (hKT:PySem.W.noTabs K=true)
  (ha:s₁.heap.get? a=some { cls:=.type "list",data:=.seq vs.toArray }) (hi:IntsAre vs ns) (hl:ns.length<=sizeLine) (hr:Room k callerA)
  (F:∀base:Heap,K.In base->base.Ns mainGlobals mg->base.BuiltinsAt mg T->FnOk P w K mg base CX k fa fd [x] sp) (hbind:∀(s:P1) (u:P9),BindsTo s fd ⟨[u],[]⟩ [(x,u)])
  (hsp:∀H:Hp,Zd9 T H->H T=some (.tbl #[])->SqL K H a (ns.map V.int)->sp [.ref a] H (fun v _=>v = .bl true) fun _ _ _=>False)
  (hCX:∀H e s',CX [] H s₁ (fun _ _ _=>False) e s'->False) :
  codeAny (model P w) callerA (.call (.ref fa) ⟨[.ref a],[]⟩) (fun r s'=>r = .ok (.ret (.bool true))/\OldK s₁.heap s'.heap/\s'.os=s₁.os/\AllBare s'.gens) s₁:=by
 have rv:=Zde hi;have lenV:=hi.length;have aT:a≠T:=fun z=>by rw[z,hT] at ha; cases ha
 have kT:K.lookup T=none:=by
  cases q:K.lookup T with
  | none=>rfl
  | some o =>
   have e:=KX T o q;rw[hT] at e;cases e;have h2:=YH.mp hKT (T,_) (PySem.W.mem_of_lookupK q);exact absurd (show false=true from h2) Qh
 have core:∀H:Hp,Zd9 T H->H T=some (.tbl #[])->SqL K H a (ns.map V.int)->HOk P w H s₁.heap->(∀b,H b≠none->b=a\/b=T)->(H a≠none->K.lookup a=none) ->
   codeAny (model P w) callerA (.call (.ref fa) ⟨[.ref a],[]⟩) (fun r s'=>r = .ok (.ret (.bool true))/\OldK s₁.heap s'.heap/\s'.os=s₁.os/\AllBare s'.gens) s₁:=by
  intro H hO hHT hS hok hA hK;have base_of:∀{b:Addr} {o:Obj},s₁.heap.get? b=some o->H b=none->(Za9 s₁.heap H).get? b=some o:=fun e n=>Znd e n;have noA:∀{b:Addr} {o:Obj},s₁.heap.get? b=some o->o.cls≠.type "list"->o.cls≠.none->H b=none:=fun {b o} e d1 d2=>by
   cases q:H b with
   | none=>rfl
   | some u =>
    rcases hA b (by rw[q]; simp) with e' | e'
    ·subst e';rw[ha] at e; cases e;exact absurd rfl d1
    ·subst e';rw[hT] at e; cases e;exact absurd rfl d2
  have noD:∀{b:Addr} {o:Obj} {es:Array DictEntry} {ep:Nat},s₁.heap.get? b=some o->o.data = .dict es ep->H b=none:=fun {b o es ep} e d=>by
   cases q:H b with
   | none=>rfl
   | some u =>
    rcases hA b (by rw[q]; simp) with e' | e'
    ·subst e';rw[ha] at e; cases e;have d':Data.seq vs.toArray _=Data.dict es ep:=d;cases d'
    ·subst e';rw[hT] at e; cases e;have d':Data.fields _=Data.dict es ep:=d;cases d'
  have nsK:∀{b:Addr} {m:Str->Option P9},s₁.heap.Ns b m->(Za9 s₁.heap H).Ns b m:=fun {b m} ⟨o,es,ep,e,d,r⟩=>⟨o,es,ep,base_of e (noD e d),d,r⟩;have hKb:K.In (Za9 s₁.heap H):=fun b o e=>base_of (KX b o e) (by
   cases q:H b with
   | none=>rfl
   | some u =>
    rcases hA b (by rw[q]; simp) with e' | e'
    ·subst e';rw[hK (by rw[q]; simp)] at e; cases e
    ·subst e';rw[kT] at e; cases e)
  have hM:Mod K mg (Za9 s₁.heap H):=⟨hKb,nsK hns,⟨mb,nsK hb,hbb⟩,let ⟨mc,h1,h2⟩:=hlim; ⟨mc,nsK h1,h2⟩⟩;have hBA:(Za9 s₁.heap H).BuiltinsAt mg T:=by
   obtain⟨bm,ob,b1,b2,b3,b4,b5,b6⟩:=hbm;refine⟨bm,ob,b1,b2,fun z => ?_,fun z => ?_,base_of b3 (noA b3 (by rw[b4]; decide) (by rw[b4]; intro z; cases z)),b4,b5,b6⟩
   ·obtain⟨o,es,ep,e,d,_⟩:=hns;rw[z,e] at b3;cases b3;rw[b6] at d;cases d
   ·rw[z,hT] at b3;cases b3;cases b4
  have e0:Env0 P w K mg (Za9 s₁.heap H) callerA [] s₁ H:=⟨rfl,hM,fun b o e=>Zoo e,Nat.le_of_eq (Zlg _ _),trivial,fun b hb=>absurd (show b∈([]:List Addr) from hb) (by simp),hok,.of_eq hg⟩;refine V9 ((F _ hKb (nsK hns) hBA).run callerA [] s₁ H ⟨[.ref a],[]⟩ [.ref a] [.ref a] _ _ hr e0 (hbind s₁ (.ref a)) (.cons rfl .nil) (hsp H hO hHT hS)) fun r s' h => ?_;cases r with
  | error e=>exact (hCX H e s' h).elim
  | ok fl =>
   cases fl with
   | next=>exact False.elim h
   | brk=>exact False.elim h
   | cont=>exact False.elim h
   | ret u =>
    obtain⟨v,H',os,bare,un,hok',r',q⟩:=h;have q':v = .bl true:=q;subst q';obtain rfl:u=Value.bool true:=r';refine⟨rfl,⟨fun b o e => ?_,fun b o e => ?_⟩,os,bare⟩
    ·cases q:H b with
     | none=>exact .inl (un.keep b o e q (by intro z; exact absurd (show b∈([]:List Addr) from z) (by simp)) (by simp))
     | some u =>
      rcases hO b with z | ⟨ob,xs,z⟩ | ⟨rfl,z⟩
      ·rw[q] at z; cases z
      ·have z2:=un.frzs b ob _ z;obtain⟨e1,_⟩:=hok b _ z;obtain⟨e2,_⟩:=hok' b _ z2;rw[e] at e1; cases e1;exact .inl e2
      ·obtain⟨more,z2⟩:=un.tbls b _ z;have e2:=hok' b _ z2;rw[hT] at e; cases e;exact .inr (.inl ⟨(hC.tab hT).isCodeTable,rfl,#[],more,rfl,e2⟩)
    ·exact un.there b o e (by simp)
 cases hk:K.lookup a with
 | some o =>
  have e:=KX a o hk;rw[ha] at e;cases e;refine core (fun b=>if b=T then some (.tbl #[]) else none) (fun b => ?_) (Yf rfl) (.inr ⟨_,vs.toArray,_,hk,rfl,rfl,rfl,by rw[Yt,lenV]; exact hl,by simpa using rv⟩) (fun b u z => ?_) (fun b z => ?_) fun z=>absurd (Yh aT) z
  ·by_cases hb:b=T
   ·exact .inr (.inr ⟨hb,Yf hb⟩)
   ·exact .inl (Yh hb)
  ·by_cases hb:b=T
   ·have z':=(Yf hb).symm.trans z;cases z';subst hb;exact hT
   ·have z':=(Yh hb).symm.trans z;cases z'
  ·by_cases hb:b=T
   ·exact .inr hb
   ·exact absurd (Yh hb) z
 | none =>
  refine core (fun b=>if b=T then some (.tbl #[]) else if b=a then some (.frz { cls:=.type "list",data:=.seq vs.toArray } (.lst (ns.map V.int))) else none) (fun b => ?_) (Yf rfl) (.inl (.inr ⟨{ cls:=.type "list",data:=.seq vs.toArray },(Yh aT).trans (Yf rfl)⟩)) (fun b u z => ?_) (fun b z => ?_) fun _=>hk
  ·by_cases hb:b=T
   ·exact .inr (.inr ⟨hb,Yf hb⟩)
   ·by_cases hb2:b=a
    ·exact .inr (.inl ⟨_,_,(Yh hb).trans (Yf hb2)⟩)
    ·exact .inl ((Yh hb).trans (Yh hb2))
  ·by_cases hb:b=T
   ·have z':=(Yf hb).symm.trans z;cases z';subst hb;exact hT
   ·by_cases hb2:b=a
    ·have z':=((Yh hb).trans (Yf hb2)).symm.trans z;cases z';subst hb2;exact⟨ha,by rw[Ym]; exact hl,vs,_,rv,ha⟩
    ·have z':=((Yh hb).trans (Yh hb2)).symm.trans z;cases z'
  ·by_cases hb:b=T
   ·exact .inr hb
   ·by_cases hb2:b=a
    ·exact .inl hb2
    ·exact absurd ((Yh hb).trans (Yh hb2)) z
theorem walk_ofT{l:PySem.W.OpenLaw}{n k:Nat}{q:P7}{loose:List Str}{XP:(Str->Option P9)->Heap->Prop}{YP:World->Heap->Prop}{d:DefRec}{K:Params->P5}{CX:World->CXT}{sp:World->Sp}{x:Str}{T:Addr}
  (hn:l.most=some n) (hn2:n<=sizeLine) (hdf:d.params.defaults=[]) (hr:Room k callerA)
  (hY:∀(w:World) (h:Heap),YP w h->(K w.params).In h/\h.get? T=some (PySem.W.tabObj #[])) (hKT:∀w:World,(∃c,PySem.W.codeHdIn (K w.params) c T=true)/\PySem.W.noTabs (K w.params)=true)
  (F:∀(w:World) (mg:Str->Option P9) (fa:Addr) (h:Heap),(K w.params).In h->h.Ns mainGlobals mg->mg d.name=some (.ref fa) ->
   ∃fd:P8,(∀(s:P1) (u:P9),BindsTo s fd ⟨[u],[]⟩ [(x,u)]) /\
    ∀base:Heap,(K w.params).In base->base.Ns mainGlobals mg->base.BuiltinsAt mg T->FnOk l.prog w (K w.params) mg base (CX w) k fa fd [x] (sp w))
  (hsp:∀(w:World) (H:Hp) (a:Addr) (ns:List Int),ns.length<=n->Zd9 T H->H T=some (.tbl #[])->SqL (K w.params) H a (ns.map V.int)->sp w [.ref a] H (fun v _=>v = .bl true) fun _ _ _=>False)
  (hCX:∀(w:World) (H:Hp) (s:P1) (e:P9) (s':P1),CX w [] H s (fun _ _ _=>False) e s'->False) :
  PySem.W.WalkO q loose XP YP l.row.toRowW d [] (fun f vs=>PySem.call f vs):=by
 refine Att.attach_call hn hdf fun w s₀ s₁ mg mb fa o pm cd doc a vs ns G Y ho hd hcd hmg hobj hints hlen hg => ?_;obtain⟨KX,hT⟩:=hY w _ Y;obtain⟨fd,hb,hF⟩:=F w mg fa _ KX G.T.g hmg;obtain⟨c,hc⟩:=(hKT w).1;have hC:=PySem.W.codeHd_of_K KX hc;exact Zo9 KX G.T.g G.T.b G.T.builtins G.T.nolimit hg G.T.bmain hC hT (hKT w).2 hobj hints (YL hlen hn2) hr hF hb (fun H hO hH hS=>hsp w H a ns hlen hO hH hS) fun H e s'=>hCX w H s₁ e s'
end L2
namespace DL
open PySem PySem.Spec PyProof.Rows L2
theorem law_spT{K:P5}{F:FD}{T:Addr}(hF:∀ns:List Int,ns.length<=63->∃st,F [.scr (ns.map .int)] [.tab T false] = .ok (.bl true) st)(H:Hp)(a:Addr)(ns:List Int)(hl:ns.length<=63)(ho:Zd9 T H)(hT:H T=some (.tbl #[]))(hs:SqL K H a (ns.map V.int)) :
  spD K F [.ref a] H (fun v _=>v = .bl true) fun _ _ _=>False:=by
 obtain⟨st,e⟩:=hF ns hl;refine⟨[T],[.scr (ns.map .int)],[.tab T false],⟨rfl,by simp,fun i b s h1 h2 => ?_⟩,Reps.one (Rep.scr_i.mpr ⟨a,_,rfl,SqF.of hs ?_,?_⟩),?_⟩
 ·cases i with
  | zero =>
   simp only[Yu,Yx] at h1 h2;subst h1 h2;exact⟨rfl,#[],hT,fun _=>rfl⟩
  | succ i=>simp at h1
 ·rcases ho a with h | ⟨o,xs,h⟩ | ⟨_,h⟩ <;> rw[h] <;> intro z <;> cases z
 ·have:∀(ms:List Int),Reps K [T] H (ms.map D.int) (ms.map V.int):=by
   intro ms
   induction ms with
   | nil=>exact Reps.nil_i.mpr rfl
   | cons m ms ih=>exact Reps.cons_i.mpr ⟨_,_,rfl,Rep.int_i.mpr rfl,ih⟩
  exact this ns
 ·rw[e];exact fun O' H' _ _ v r=>Rep.bl_i.mp r
theorem ZlZ{P:P7}{w:World}{K:P5}{mg:Str->Option P9}{base:Heap}{x qual:Str}{st:Stmt}{f c:Addr}{fd:P8}{N ps:List Str}{k:Nat}{g:DS}(F:Fun K x qual st f fd)(S:FnScope N ps (Ze st))(hm:mg x=some (.ref f))(hb:Binds K fd ps [])(hc:fd.code = .ref c)
  (hbody:∀(A:P6) (outer:List Env) (s:P1) (H:Hp) (E:XK),Room k (A.deeper (envOfC qual (Ze st) s.heap.objs.size f (.ref c))) ->
   PDS (ZJ CX0 P w K mg base N qual (Ze st) f (.ref c) A outer s H E).nox EX0 (Zt st) g):FnAt P w K mg base x (k+1) (ZL N.length ps.length g):=by
 have hlen:∀vs H Q E,spD K (ZL N.length ps.length g) vs H Q E->vs.length=ps.length:=by
  rintro vs H Q E ⟨O,ds,st,W,r,R⟩;unfold ZL at R;by_cases hl:ds.length=ps.length
  ·rw[<-r.length]; exact hl
  ·rw[Yh hl] at R; exact R.elim
 have G:FnOk P w K mg base CX0 (k+1) f fd ps (spD K (ZL N.length ps.length g)):=by
  obtain⟨oc,od,kV,doc,pm,an,cdv,ct,osl,rfl,lk,hcd⟩:=F.ex;have hcv:cdv = .ref c:=hc;subst hcv;refine Zhx lk hcd S hlen fun A outer s H vs Q E hr h => ?_;refine⟨_,PSs.nox (hbody A outer s H E hr),?_⟩;have hl:=hlen vs H Q E h;obtain⟨O,ds,st,W,r,R⟩:=h;have hd:ds.length=ps.length:=by rw[r.length]; exact hl
  unfold ZL at R;rw[Yf hd] at R;refine⟨O,ds.map some++List.replicate (N.length - ps.length) none,st,W,?_,?_⟩
  ·unfold L2.start;rw[hl];exact ZhX (N:=N) _ r
  ·cases hg:g (ds.map some++List.replicate (N.length - ps.length) none) st with
   | nx ρ st'=>rw[hg] at R; exact fun O' H' σ kp W' _=>R O' H' kp W' _ (Rep.non_i.mpr rfl)
   | rt d st'=>rw[hg] at R; exact fun O' H' v kp W' rv=>R O' H' kp W' v rv
   | exc c st'=>rw[hg] at R; exact R.elim
   | bad=>rw[hg] at R; exact R
   | bk ρ st'=>rw[hg] at R; exact R.elim
   | ct ρ st'=>rw[hg] at R; exact R.elim
 exact⟨f,fd,ps,G,hm,F.kp,hb⟩
end DL
end
section
namespace DL
open PySem PySem.Spec PyProof.Rows L2
section
variable{X:Cx}{pins:List (Addr×Obj)}{σ:L2.St}{H:Hp}{s:P1}{d:Addr}{o:Obj}{vs:List (List Key×V)}
theorem Inv.freezeT(I:Inv X pins σ H s)(e:H d=some (.dT vs))(ho:s.heap.get? d=some o):Inv X pins σ (upd H d (.frz o (.dT vs))) s:=by
 refine I.write (t':=s.toks) (h':=s.heap) (x:=d) (e:=d) (by rw[e]; exact trivial) (.inl rfl) (fun b u _ q=>q) ⟨o,ho⟩ ⟨ho,?_⟩;exact (I.hok d _ e).stay (fun b u _ q=>q) (fun b q=>by rw[Zh]; exact q; rintro rfl; rw[e] at q; cases q) fun b xs q=>by rw[Zh]; exact q; rintro rfl; rw[e] at q; cases q
theorem Inv.thawT(I:Inv X pins σ H s)(e:H d=some (.frz o (.dT vs)))(hn:∀ob u,X.H₀ d≠some (.frz ob u)):Inv X pins σ (upd H d (.dT vs)) s:=by
 have ne:∀b,H b=none->b≠d:=fun b q z=>by subst z; rw[e] at q; cases q
 refine⟨I.ok,I.os,I.bare,⟨I.base.keep,I.base.slot,fun b ob q n hx => ?_,I.base.there,fun b xs q => ?_,fun b ob u q => ?_,fun b ps q => ?_⟩,I.loc,I.cell,?_,fun x c hx => ?_,fun p hp => ?_,fun b u q => ?_,I.len⟩
 ·have:=I.base.free b ob q n hx;rw[Zh (ne b this)]; exact this
 ·have h:=I.base.tups b xs q;rw[Zh]; exact h;rintro rfl; rw[e] at h; cases h
 ·have h:=I.base.frzs b ob u q;rw[Zh]; exact h;rintro rfl; exact hn _ _ q
 ·obtain⟨m,h⟩:=I.base.tbls b ps q;refine⟨m,?_⟩;rw[Zh]; exact h;rintro rfl; rw[e] at h; cases h
 ·have:=I.free;rw[Zh (ne _ this)]; exact this
 ·have:=I.freeC x c hx;rw[Zh (ne _ this)]; exact this
 ·obtain⟨p1,p2,p3⟩:=I.pin p hp;exact⟨p1,by rw[Zh (ne _ p2)]; exact p2,p3⟩
 ·have st:∀{b u},ObjOk X.prog X.w H s.heap b u->ObjOk X.prog X.w (upd H d (.dT vs)) s.heap b u:=fun x=>x.stay (fun b u _ q=>q) (fun c r=>by rw[Zh (fun z=>by rw[z,e] at r; cases r)]; exact r) fun c xs r=>by rw[Zh (fun z=>by rw[z,e] at r; cases r)]; exact r
  by_cases hb:b=d
  ·subst hb;rw[ZH] at q;cases q;exact st (I.hok b _ e).2
  ·rw[Zh hb] at q;exact st (I.hok b u q)
end
def Zdp(d:Addr)(o:Obj)(as:List Addr):It :=
 ⟨fun i H=>(∃vs,H d=some (.frz o (.dT vs)))/\i<as.length,fun i H x H'=>H'=H/\∀a,as[i]?=some a->x = .ref a,fun i H=>(∃vs,H d=some (.frz o (.dT vs)))/\as.length<=i⟩
theorem ZoQ{P:P7}{w:World}{K:P5}{tg:Expr}{d it:Addr}{o:Obj}{as:List Addr}{es:Array DictEntry}{ep:Nat}(hd:o.data = .dict es ep)(has:es.toList.map (·.key)=as.map Value.ref):Turn P w K tg (Zdp d o as) [it] it (fun i h=>h.IsKeyIter it d i es.size ep) where
 mem:=by simp
 obj:=fun i h st b hb=>by
  have e:b=it:=by simpa using hb
  subst e;obtain⟨o,e,c,d⟩:=st;exact⟨o,e,fun v z=>by rw[d] at z; cases z⟩
 keep:=fun i h h' st k=>st.at fun o e=>k it (by simp) o e
 item:=by
  intro X hP hw hK hc i pins s σ H E I hf st hg;subst hP hw hK;obtain⟨⟨vs,e⟩,hi⟩:=hg;obtain⟨g0,z,hsys,xs,kt,o',es',ep',g1,g2,g3,g4⟩:=(show ObjOk X.prog X.w H s.heap d (.frz o (.dT vs)) from I.hok d _ e);rw[g0] at g1;cases g1;rw[hd] at g3;cases g3;obtain⟨f0,f1,f2,f3,f4,f5⟩:=hf it (by simp);have hl:es.size=as.length:=by
   have:=congrArg List.length has;simpa using this
  have hie:i<es.size:=by omega
  have hk:es[i].key = .ref as[i]:=by
   have:(es.toList.map (·.key))[i]?=(as.map Value.ref)[i]?:=by rw[has]
   rw[Yz,Yz,Yd hi,YD,Ys hie] at this;simpa using this
  refine Zh0 st ⟨o,g0,g2,hd⟩ (e:=es[i]) (Ys hie) fun h' st' sb => ?_;have I1:Inv X pins σ H { s with heap:=h' }:=I.turned (t':=s.toks) (fun b o hb e=>(sb.2 b hb).trans e) f0 f1 f3 f4 f5;obtain⟨o2,e2,c2,d2⟩:=id st';refine⟨_,rfl,ZdG (s:={ s with heap:=h' }) e2 c2 d2 (by decide) ⟨.ref as[i],H,I1,hk,⟨rfl,fun a q => ?_⟩,st',fun b hb=>(hf b hb).1⟩⟩;rw[Yd hi] at q;cases q;rfl
 done:=by
  intro X hP hw hK hc i pins s σ H E I hf st hg;subst hP hw hK;obtain⟨⟨vs,e⟩,hi⟩:=hg;obtain⟨g0,z,hsys,xs,kt,o',es',ep',g1,g2,g3,g4⟩:=(show ObjOk X.prog X.w H s.heap d (.frz o (.dT vs)) from I.hok d _ e);rw[g0] at g1;cases g1;rw[hd] at g3;cases g3;obtain⟨f0,f1,f2,f3,f4,f5⟩:=hf it (by simp);have hl:es.size=as.length:=by
   have:=congrArg List.length has;simpa using this
  exact Zic (I.ok.hd hc) st ⟨o,g0,g2,hd⟩ (Wo (by omega)) fun h' eb=>⟨rfl,I.turned (t':=s.toks) (fun b o hb e=>eb b o hb e) f0 f1 f3 f4 f5⟩
 self:=fun _ _ _ _ _ st h=>wpAny_pyIter_keyiter st h
theorem ZjK{K:P5}{O:List Addr}{H:Hp}{d:Addr}{o:Obj}{i:Nat}{ds:List (D×D)}{xs:List D}{as:List Addr}(q:O[i]?=some d)(r:Reps K O H xs (as.map V.ref)):ItD K (Zdp d o as) O H (xs,fun st=>st[i]?=some (.fdt o ds)):=by
 intro j O' H' st' kp W' hp;obtain⟨vs,e,_⟩:=W'.at_ i d _ (kp.pre _ _ q) hp;refine⟨fun x hx => ?_,fun hle=>⟨⟨vs,e⟩,?_⟩⟩
 ·obtain⟨v,h1,h2⟩:=r.get hx;rw[Yz] at h1;obtain⟨a,ha,rfl⟩:=Y7.mp h1;refine⟨⟨⟨vs,e⟩,(Yk.mp ha).1⟩,?_⟩;rintro x H2 ⟨rfl,h5⟩;rw[h5 a ha];exact⟨Keep.refl,W',Rep.mono kp _ _ h2⟩
 ·have:=r.length;have hle':xs.length<=j:=hle;simp at this;omega
open Classical in
def pick{α:Type}(f:Obj->α)(b:α):α:=if h:∃R,∀o,f o=R then h.choose else b
theorem ZhO{α:Type}{f:Obj->α}{b R:α}(h:∀o,f o=R):pick f b=R:=by
 unfold pick;rw[dif_pos ⟨R,h⟩];have e:=(⟨R,h⟩:∃R,∀o,f o=R).choose_spec;exact (e default).symm.trans (h default)
theorem ZiI{α:Type}{f:Obj->α}{b:α}:(∀o,pick f b=f o)\/pick f b=b:=by
 unfold pick;split
 ·rename_i h;exact .inl fun o=>(h.choose_spec o).symm
 ·exact .inr rfl
def iDT(X:Cx)(EX:EXT)(f:DE):TI:=fun σ H R => ∃O ρ st,WR X.K O H st/\REnv X.K O H ρ σ/\Run X.K EX O H (f ρ st) (fun d st1 O1 H1 => ∃i ds a vs,d = .res i/\st1[i]?=some (.dtt ds)/\O1[i]?=some a/\H1 a=some (.dT vs)/\Kvs X.K Zo O1 H1 ds vs /\
 ∀o as,(∀ob u,X.H₀ a≠some (.frz ob u))->Reps X.K O1 H1 (ds.map (·.1)) (as.map V.ref)->R (Zdp a o as) (upd H1 a (.frz o (.dT vs))))
section
variable{X:Cx}{EX:EXT}{tg iter:Expr}{f:DE}
theorem Zhc(hd:PD X EX iter f):PI X tg iter (iDT X EX f):=by
 rintro pins s σ H R I ⟨O,ρ,st,W,E,Rn⟩;refine YK (hd pins s σ H (fun v H1 => ∃O1 ds a vs,v = .ref a/\H1 a=some (.dT vs)/\Kvs X.K Zo O1 H1 ds vs/\∀o as,(∀ob u,X.H₀ a≠some (.frz ob u))->Reps X.K O1 H1 (ds.map (·.1)) (as.map V.ref)->R (Zdp a o as) (upd H1 a (.frz o (.dT vs)))) I
  ⟨O,ρ,st,W,E,Rn.mono fun d st1 O1 H1 k1 W1 h v r => ?_⟩) (fun u s1 h1 => ?_) fun _ _ e=>e
 ·obtain⟨i,ds,a,vs,rfl,hs,q,e2,kv,hR⟩:=h;rw[Rep.res_i] at r;obtain⟨a',rfl,q'⟩:=r;rw[q] at q';cases q';exact⟨O1,ds,a,vs,rfl,e2,kv,hR⟩
 ·obtain⟨v,H1,I1,rv,O1,ds,a,vs,rfl,e,kv,hR⟩:=h1;cases rv;obtain⟨z,hsys,xs,kt,o,es,ep,g1,g2,g3,g4,g5,g6⟩:=ZaN I1.hok (.inl e);refine ZjF hsys ⟨o,g1,g2,g3⟩ ?_;have hn:∀ob u,X.H₀ a≠some (.frz ob u):=fun ob u z=>by
   have:=I1.base.frzs a ob u z;rw[e] at this;cases this
  have I2:Inv X pins σ H1 { s1 with heap:=s1.heap.push { cls:=.type "dict_keyiterator",data:=.fields #[.ref a,.int 0 0,.int es.size 0,.int ep 0] } }:=I1.kept (t':=s1.toks) fun b o e=>Yc _ e;have has:es.toList.map (·.key)=(xs.map (·.2.1)).map Value.ref:=by
   rw[g4,YQ,YQ];rfl
  have hre:Reps X.K O1 H1 (ds.map (·.1)) ((xs.map (·.2.1)).map V.ref):=by
   have:=ZeT kv kt;rw[YQ];exact this
  refine⟨s1.heap.objs.size,[s1.heap.objs.size],_,Zdp a o (xs.map (·.2.1)),upd H1 a (.frz o (.dT vs)),rfl,Inv.freezeT I2 e (Yc _ g1),ZoQ g3 has,⟨_,Yi _ rfl,rfl,rfl⟩,fun b hb => ?_,hR o _ hn hre⟩;have eb:b=s1.heap.objs.size:=by simpa using hb
  subst eb;obtain⟨f0,f1⟩:=I1.fpOk (Yj _) (I1.hok.fresh (Yj _));refine⟨?_,f1⟩;rw[Zh]; exact f0;intro z; rw[z,e] at f0; cases f0
end
def Zey(caps:List Nat)(nT:Nat)(f:DE)(t:TgD)(cond:DT)(fe:DE):DA:=fun ρ st=>(f ρ st).bind fun d st1=>match d with
 | .res i=>match st1[i]? with
  | some (.dtt ds)=>pick (fun o=>(ZK (fun st=>st[i]?=some (.fdt o ds)) t cond fe (ds.map (·.1)) (Z1 ρ caps nT) (st1.set i (.fdt o ds)) []).bind fun xs st2=>(match st2[i]? with
    | some (.fdt _ ds') => .ok xs (st2.set i (.dtt ds'))
    | _ => .bad)) .bad
  | _ => .bad
 | _ => .bad
section
variable{X:Cx}{EX:EXT}{caps:List Nat}{nT:Nat}{tg iter:Expr}{f:DE}{t:TgD}{cond:DT}{fe:DE}
theorem Zp4(hd:PD X EX iter f):PLc X EX tg iter caps nT t cond fe (Zey caps nT f t cond fe):=by
 rintro pins s σ H Q I ⟨O,ρ,st,W,E,R⟩;refine YK (Zhc (tg:=tg) hd pins s σ H (fun J H2 => ∃(O1:List Addr) (i:Nat) (a:Addr) (ds:List (D×D)) (st2:Sto) (o:Obj),(∀ob u,X.H₀ a≠some (.frz ob u))/\O1[i]?=some a/\ItD X.K J O1 H2 (ds.map (·.1),fun st=>st[i]?=some (.fdt o ds))/\WR X.K O1 H2 st2/\REnv X.K O1 H2 ρ σ /\
  Run X.K EX O1 H2 ((ZK (fun st=>st[i]?=some (.fdt o ds)) t cond fe (ds.map (·.1)) (Z1 ρ caps nT) st2 []).bind fun xs st2=>(match st2[i]? with
    | some (.fdt _ ds') => .ok xs (st2.set i (.dtt ds'))
    | _ => .bad)) (New X.K Q)) I ⟨O,ρ,st,W,E,R.bind.mono fun d st1 O1 H1 k1 W1 R1 => ?_⟩) (fun u s1 h1=>YK h1 (fun itv s2 h2 => ?_) fun _ _ e=>e) fun _ _ e=>e
 ·cases d with
  | res i =>
   dsimp only at R1;cases e1:st1[i]? with
   | none=>rw[e1] at R1; exact R1.elim
   | some so =>
    rw[e1] at R1;cases so with
    | dtt ds =>
     have hi:i<O1.length:=by rw[W1.len]; exact (Yk.mp e1).1
     obtain⟨a,q⟩:∃a,O1[i]?=some a:=⟨_,Yd hi⟩;obtain⟨vs,e2,kv⟩:=W1.at_ _ _ _ q e1;refine⟨i,ds,a,vs,rfl,e1,q,e2,kv,fun o as hn hr => ?_⟩;have Kw:Keep X.K O1 H1 O1 (upd H1 a (.frz o (.dT vs))):=Keep.write W1 q;refine⟨O1,i,a,ds,st1.set i (.fdt o ds),o,hn,q,ZjK q (Reps.mono Kw _ _ hr),W1.write q ⟨vs,ZH,Kvs.mono Kw _ _ kv⟩,E.mono (k1.trans Kw),?_⟩;dsimp only at R1;rcases ZiI (f:=fun o=>(ZK (fun st=>st[i]?=some (.fdt o ds)) t cond fe (ds.map (·.1)) (Z1 ρ caps nT) (st1.set i (.fdt o ds)) []).bind fun xs st2=>(match st2[i]? with
      | some (.fdt _ ds')=>Out.ok xs (st2.set i (.dtt ds'))
      | _ => .bad)) (b:=.bad) with h | h
     ·rw[h o] at R1;exact Run.later R1 Kw
     ·rw[h] at R1; exact R1.elim
    | _=>exact R1.elim
  | _=>exact R1.elim
 ·obtain⟨it,fp,tn,J,H',rfl,I',T,h0,hf,O1,i,a,ds,st2,o,hn,q,hJ,W2,E2,R2⟩:=h2;refine⟨it,fp,tn,J,H',rfl,I',T,h0,hf,O1,ρ,(ds.map (·.1),fun st=>st[i]?=some (.fdt o ds)),st2,fun v Hh => ∃vs2 ob,Hh a=some (.frz ob (.dT vs2))/\Q v (upd Hh a (.dT vs2)),hJ.fz,W2,E2,?_,?_⟩
  ·refine R2.bind.mono fun xs st3 O2 H2 k2 W3 R3 p ws2 r hp => ?_;have q2:=k2.pre _ _ q;cases e2:st3[i]? with
   | none=>rw[e2] at R3; exact R3.elim
   | some so =>
    rw[e2] at R3;cases so with
    | fdt ob ds2 =>
     obtain⟨vs2,e3,kv2⟩:=W3.at_ _ _ _ q2 e2;have hap:a≠p:=fun z=>by rw[z,hp] at e3; cases e3
     refine⟨vs2,ob,by rw[Zh hap]; exact e3,?_⟩;have kw:Keep X.K O2 H2 O2 (upd H2 a (.dT vs2)):=Keep.write W3 q2;have:=(show Run X.K EX O2 H2 (.ok xs (st3.set i (.dtt ds2))) (New X.K Q) from R3) O2 (upd H2 a (.dT vs2)) kw (W3.write q2 ⟨vs2,ZH,Kvs.mono kw _ _ kv2⟩) p ws2 (Reps.mono kw _ _ r) (by rw[Zh (YX hap)]; exact hp);have eu:upd (upd H2 p (.lst ws2)) a (.dT vs2)=upd (upd H2 a (.dT vs2)) p (.lst ws2):=by
      funext b;by_cases h1:b=a
      ·subst h1;rw[ZH,Zh hap,ZH]
      ·rw[Zh h1];by_cases h2:b=p
       ·subst h2;rw[ZH,ZH]
       ·rw[Zh h2,Zh h2,Zh h1]
     rw[eu];exact this
    | _=>exact R3.elim
  ·rintro p ws2 H2 ⟨vs2,ob,e3,hq⟩;refine⟨_,hq,fun C hC hn2 => ?_,fun σ' s' I3=>Inv.thawT I3 e3 hn⟩;rw[Zh]
   ·rw[Zh hC]; exact hn2
   ·rintro rfl;rw[Zh hC,hn2] at e3;cases e3
end
def Zc5(i:Nat):OutS->OutS
 | .nx ρ st=>match st[i]? with
  | some (.fdt _ ds) => .nx ρ (st.set i (.dtt ds))
  | _ => .bad
 | .rt d st=>match st[i]? with
  | some (.fdt _ ds) => .rt d (st.set i (.dtt ds))
  | _ => .bad
 | _ => .bad
def Ze1(f:DE)(t:TgD)(g:DS):DS:=fun ρ st=>(f ρ st).to fun d st1=>match d with
 | .res i=>match st1[i]? with
  | some (.dtt ds)=>pick (fun o=>Zc5 i (ZO (fun st=>st[i]?=some (.fdt o ds)) t g (ds.map (·.1)) ρ (st1.set i (.fdt o ds)))) .bad
  | _ => .bad
 | _ => .bad
def Thw(X:Cx)(H:Hp)(P:Hp->Prop):Prop:=∃a ob vs,H a=some (.frz ob (.dT vs))/\(∀ob u,X.H₀ a≠some (.frz ob u))/\P (upd H a (.dT vs))
def thE(X:Cx)(Dn:Ends):Ends:={ nx:=fun σ H=>Thw X H (Dn.nx σ),rt:=fun v H=>Thw X H (Dn.rt v) }
section
variable{X:Cx}{EX:EXT}{tg iter:Expr}{f:DE}{t:TgD}{g:DS}{pos:Pos}{body:List Stmt}
theorem ZlX{Dn:Ends}{O:List Addr}{H:Hp}{i:Nat}{a:Addr}{r:OutS}(q:O[i]?=some a)(hn:∀ob u,X.H₀ a≠some (.frz ob u))(R:RunS X.K EX Dn O H (Zc5 i r)):RunS X.K EX (thE X Dn) O H r:=by
 cases r with
 | nx ρ st =>
  intro O' H' σ kp W E;have q':=kp.pre _ _ q;dsimp only[Zc5] at R;cases e:st[i]? with
  | none=>rw[e] at R; exact R.elim
  | some so =>
   rw[e] at R;cases so with
   | fdt ob ds =>
    obtain⟨vs,e2,kv⟩:=W.at_ _ _ _ q' e;have kw:Keep X.K O' H' O' (upd H' a (.dT vs)):=Keep.write W q';exact⟨a,ob,vs,e2,hn,R O' _ σ (kp.trans kw) (W.write q' ⟨vs,ZH,Kvs.mono kw _ _ kv⟩) (E.mono kw)⟩
   | _=>exact R.elim
 | rt d st =>
  intro O' H' v kp W r;have q':=kp.pre _ _ q;dsimp only[Zc5] at R;cases e:st[i]? with
  | none=>rw[e] at R; exact R.elim
  | some so =>
   rw[e] at R;cases so with
   | fdt ob ds =>
    obtain⟨vs,e2,kv⟩:=W.at_ _ _ _ q' e;have kw:Keep X.K O' H' O' (upd H' a (.dT vs)):=Keep.write W q';exact⟨a,ob,vs,e2,hn,R O' _ v (kp.trans kw) (W.write q' ⟨vs,ZH,Kvs.mono kw _ _ kv⟩) (Rep.mono kw _ _ r)⟩
   | _=>exact R.elim
 | bk ρ st=>exact R.elim
 | ct ρ st=>exact R.elim
 | exc c st=>exact R.elim
 | bad=>exact R.elim
theorem Zpr{Dn:Ends}{q:Wk}{J:It}{O1:List Addr}{H1:Hp}{ρ:Ev}{st1:Sto}{σ:L2.St}(hJ:ItD X.K J O1 H1 q)(W1:WR X.K O1 H1 st1)(E:REnv X.K O1 H1 ρ σ)(R1:RunS X.K EX Dn O1 H1 (ZO q.2 t g q.1 ρ st1)) :
  ∃W:Nat->Nat->L2.St->Hp->Prop,(∃m,W 0 m σ H1)/\∀i m σ H,W i m σ H ->
   (J.stop i H/\Dn.nx σ H)\/(J.go i H/\∃N:L2.St->Hp->Prop,(∀σ' H',N σ' H'->∃m',m' < m/\W (i+1) m' σ' H')/\∀x H',J.yld i H x H'->tgD X.K t x σ H' fun σ2 H2=>tDS X.K EX g { Dn with nx:=N,ct:=N,bk:=Dn.nx } σ2 H2):=by
 refine⟨fun i m σ' H'=>m+i=q.1.length/\∃O' ρ' st',Keep X.K O1 H1 O' H'/\WR X.K O' H' st'/\REnv X.K O' H' ρ' σ'/\RunS X.K EX Dn O' H' (ZO q.2 t g (q.1.drop i) ρ' st'),⟨q.1.length,rfl,O1,ρ,st1,Keep.refl,W1,E,R1⟩,?_⟩;rintro i m σ' H' ⟨hm,O',ρ',st',kp,W',E',R'⟩;cases hd:q.1.drop i with
 | nil =>
  rw[hd] at R';unfold ZO at R';have hl:q.1.length<=i:=Ua.mp hd;by_cases hch:q.2 st'
  ·rw[Yf hch] at R';exact .inl ⟨(hJ i O' H' st' kp W' hch).2 hl,R' O' H' σ' Keep.refl W' E'⟩
  ·rw[Yh hch] at R'; exact R'.elim
 | cons x xs =>
  rw[hd] at R';unfold ZO at R';have hx:q.1[i]?=some x:=by
   have:=Ur (xs:=q.1) (i:=i) (j:=0);rw[hd] at this;simpa using this.symm
  have hxs:q.1.drop (i+1)=xs:=by
   have:=Um (i:=1) (j:=i) (l:=q.1);rw[hd] at this;simpa using this.symm
  have hi:i<q.1.length:=(Yk.mp hx).1;by_cases hch:q.2 st'
  ·rw[Yf hch] at R';obtain⟨hgo,hy⟩:=(hJ i O' H' st' kp W' hch).1 x hx;refine .inr ⟨hgo,fun σ2 H2=>(m - 1)+(i+1)=q.1.length/\∃O' ρ' st',True/\WR X.K O' H2 st'/\Keep X.K O1 H1 O' H2/\REnv X.K O' H2 ρ' σ2/\RunS X.K EX Dn O' H2 (ZO q.2 t g (q.1.drop (i+1)) ρ' st'),?_,?_⟩
   ·rintro σ2 H2 ⟨h1,O2,ρ2,st2,_,W2,kp2,E2,R2⟩;exact⟨m - 1,by omega,h1,O2,ρ2,st2,kp2,W2,E2,R2⟩
   ·intro v H2 hv;obtain⟨ky,Wy,ry⟩:=hy v H2 hv;cases ht:t x ρ' with
    | none=>rw[ht] at R'; exact R'.elim
    | some ρ1 =>
     rw[ht] at R';dsimp only at R';refine⟨O',x,ρ',ρ1,ry,E'.mono ky,ht,fun σ2 E2=>⟨O',ρ1,st',Wy,E2,?_⟩⟩;cases hgr:g ρ1 st' with
     | nx ρ2 st2 =>
      rw[hgr] at R';intro O3 H3 σ3 k3 W3 E3;exact⟨by omega,O3,ρ2,st2,trivial,W3,kp.trans (ky.trans k3),E3,by rw[hxs]; exact RunS.later R' (ky.trans k3)⟩
     | ct ρ2 st2 =>
      rw[hgr] at R';intro O3 H3 σ3 k3 W3 E3;exact⟨by omega,O3,ρ2,st2,trivial,W3,kp.trans (ky.trans k3),E3,by rw[hxs]; exact RunS.later R' (ky.trans k3)⟩
     | bk ρ2 st2 =>
      rw[hgr] at R';exact fun O3 H3 σ3 k3 W3 E3=>R' O3 H3 σ3 (ky.trans k3) W3 E3
     | rt d st2 =>
      rw[hgr] at R';exact fun O3 H3 σ3 k3 W3 E3=>R' O3 H3 σ3 (ky.trans k3) W3 E3
     | exc c st2 =>
      rw[hgr] at R';exact fun O3 H3 k3 W3=>R' O3 H3 (ky.trans k3) W3
     | bad=>rw[hgr] at R'; exact R'
  ·rw[Yh hch] at R'; exact R'.elim
theorem Zrv(hp:PassesOwn (model X.prog X.w) X.A X.env X.xe)(hc:X.calm=true)(hd:PD X EX iter f)(hg:PGD X tg t)(hb:PDS X EX body g)(hs:∀x,foldedSetIterable iter X.env x=pure x:=by intro _; rfl):PDs X EX (.For tg iter body [] pos) (Ze1 f t g):=by
 rintro pins s σ H Dn I ⟨O,ρ,st,W,E,R⟩;refine YK (Zir hp hc (Zhc hd) hg hb hs pins s σ H (thE X Dn) I ⟨O,ρ,st,W,E,R.to.mono fun d st1 O1 H1 k1 W1 R1 => ?_⟩) (fun fl s' h => ?_) fun _ _ e=>e
 ·cases d with
  | res i =>
   dsimp only at R1;cases e1:st1[i]? with
   | none=>rw[e1] at R1; exact R1.elim
   | some so =>
    rw[e1] at R1;cases so with
    | dtt ds =>
     have hi:i<O1.length:=by rw[W1.len]; exact (Yk.mp e1).1
     obtain⟨a,q⟩:∃a,O1[i]?=some a:=⟨_,Yd hi⟩;obtain⟨vs,e2,kv⟩:=W1.at_ _ _ _ q e1;refine⟨i,ds,a,vs,rfl,e1,q,e2,kv,fun o as hn hr => ?_⟩;have Kw:Keep X.K O1 H1 O1 (upd H1 a (.frz o (.dT vs))):=Keep.write W1 q;dsimp only at R1;rcases ZiI (f:=fun o=>Zc5 i (ZO (fun st=>st[i]?=some (.fdt o ds)) t g (ds.map (·.1)) ρ (st1.set i (.fdt o ds)))) (b:=.bad) with h | h
     ·rw[h o] at R1;exact Zpr (q:=(ds.map (·.1),fun st=>st[i]?=some (.fdt o ds))) (ZjK q (Reps.mono Kw _ _ hr)) (W1.write (s:=.fdt o ds) q ⟨vs,ZH,Kvs.mono Kw _ _ kv⟩) (E.mono (k1.trans Kw)) (ZlX q hn (RunS.later R1 Kw))
     ·rw[h] at R1; exact R1.elim
    | _=>exact R1.elim
  | _=>exact R1.elim
 ·cases fl with
  | next =>
   obtain⟨σ',H',I',a,ob,vs,e,hn,q⟩:=h;exact⟨σ',_,Inv.thawT I' e hn,q⟩
  | brk =>
   obtain⟨σ',H',I',q⟩:=h;exact q.elim
  | cont =>
   obtain⟨σ',H',I',q⟩:=h;exact q.elim
  | ret u =>
   obtain⟨v,σ',H',I',r,a,ob,vs,e,hn,q⟩:=h;exact⟨v,σ',_,Inv.thawT I' e hn,r,q⟩
end
end DL
end
section
namespace DL
open PySem PySem.Spec PyProof.Rows L2 PySem.W
section
variable{prog:P7}{w:World}{A:P6}{E:P9->P1->Prop}{s:P1}
theorem Zk0{v d:Addr}{es:Array DictEntry}{ep:Nat}{Q:P9->P1->Prop}(hv:s.heap.IsValuesView v d)(hm:RawD s.heap d es ep)
  (hQ:Q (.ref s.heap.objs.size) { s with heap:=s.heap.push { cls:=.type "dict_valueiterator",data:=.fields #[.ref d,.int 0 0,.int es.size 0,.int ep 0] } }):wpAny (model prog w) A (pyIter (.ref v)) Q E s:=by
 obtain⟨ov,g1,g2,g3⟩:=id hv;obtain⟨o,ho,hc,hdat⟩:=id hm;have hT:=hv.typeIs;refine Q1 hT Uj (YE Uj hT PySem.F.entry_dict_values_iter ?_ (PySem.F.args_dict_values_iter_1 _));unfold Builtin.«dict_values.__iter__» Builtin.Dict_items.dictOf Builtin.Dict_items.newIterator;refine Ya (Yb (Ya (Ya (WN g1 g3 (x:=.ref d) rfl (Yb (Ya (Ya (Wm ho hdat (Ya (WU ho hdat ?_))))))))));simp only[show Builtin.Dict_items.ownsTuple "dict_valueiterator" = false from by decide,YF,Y3];refine YV (Yb ⟨_,rfl, "dict_valueiterator",_,⟨_,Yi _ rfl,rfl⟩,Wz.lookup,?_⟩);simpa[rawInt] using hQ
theorem ZqJ{it d:Addr}{i ep:Nat}{es:Array DictEntry}{e:DictEntry}{Q:Option P9->P1->Prop}(hit:s.heap.IsValIter it d i es.size ep)(hm:RawD s.heap d es ep)(hx:es[i]?=some e)
  (hQ:∀h',h'.IsValIter it d (i+1) es.size ep->Heap.SameBut it s.heap h'->Q (some e.val) { s with heap:=h' }):wpAny (model prog w) A (pyNext (.ref it)) Q E s:=by
 obtain⟨o,ho,hc,hd⟩:=id hit;obtain⟨od,hod,hcd,hdd⟩:=id hm;unfold pyNext;refine Ya (W0 (YY (name:=Str.ofString "__next__") hit.typeIs Wz
  (YE Wz hit.typeIs Vq ?_ (Vk _))))
 have hown:Builtin.Dict_items.ownsTuple "dict_valueiterator" = false:=by decide
 have hT:=hit.typeIs
 repeat (any_goals (first | assumption | with_reducible refine Qs hT ?_ | with_reducible refine Qu ho hd ?_ | with_reducible refine Wm hod hdd ?_ | with_reducible refine WU hod hdd ?_ | with_reducible refine Qj hT ?_ | wp_step))
 simp only[show ¬ ((i:Int)<0) by omega,Y3,Y4,hx]
 repeat (any_goals (first | assumption | with_reducible refine Qs hT ?_ | with_reducible refine Qj hT ?_ | ((fail_if_success (with_reducible show wpAny _ _ (setField _ _ _) _ _ _)); wp_step)))
 simp only[hown,YF,Y3,Wx];refine WQ ho hd (by simp) ?_;rw[Yh]
 rotate_left
 ·decide +kernel
 have hit':(s.heap.update it (Obj.mapFields (·.setIfInBounds 1 (rawInt ((i:Int)+1))))).IsValIter it d (i+1) es.size ep :=
  ⟨_,YI _ ho (Qg (Wj hd _)),(Q0 ..).trans hc,by rw[Wj hd]; simp[rawInt]⟩
 have sb:=YB s.heap it (Obj.mapFields (·.setIfInBounds 1 (rawInt ((i:Int)+1))));generalize s.heap.update it (Obj.mapFields (·.setIfInBounds 1 (rawInt ((i:Int)+1))))=h2 at hit' sb;have hT2:Shared.TypeIs { s with heap:=h2 } (.ref it) "dict_valueiterator":=hit'.typeIs;refine Ya (YM (Ya (Qj hT2 ?_)));refine Yr (fun z=>absurd z (by decide +kernel)) (fun _ => ?_);refine Ya (Qj hT2 ?_);refine Yr (fun _ => ?_) (fun z=>absurd (by decide +kernel) z);exact Yb (Yb ⟨_,rfl,Yb (hQ _ hit' sb)⟩)
theorem Znw{it d:Addr}{i ep:Nat}{es:Array DictEntry}{Q:Option P9->P1->Prop}(hh:A.handled=none)(hit:s.heap.IsValIter it d i es.size ep)(hm:RawD s.heap d es ep)(hx:es[i]?=none)
  (hQ:∀h',Heap.ExtBut it s.heap h'->Q none { s with heap:=h' }):wpAny (model prog w) A (pyNext (.ref it)) Q E s:=by
 obtain⟨o,ho,hc,hd⟩:=id hit;obtain⟨od,hod,hcd,hdd⟩:=id hm;unfold pyNext;refine Ya (W0 (YY (name:=Str.ofString "__next__") hit.typeIs Wz
  (YE Wz hit.typeIs Vq ?_ (Vk _))))
 have hown:Builtin.Dict_items.ownsTuple "dict_valueiterator" = false:=by decide
 have hT:=hit.typeIs
 repeat (any_goals (first | assumption | with_reducible refine Qs hT ?_ | with_reducible refine Qu ho hd ?_ | with_reducible refine Wm hod hdd ?_ | with_reducible refine WU hod hdd ?_ | with_reducible refine Qj hT ?_ | wp_step))
 simp only[show ¬ ((i:Int)<0) by omega,Y3,Y4,hx]
 repeat (any_goals (first | assumption | with_reducible refine Qs hT ?_ | with_reducible refine Qj hT ?_ | ((fail_if_success (with_reducible show wpAny _ _ (setField _ _ _) _ _ _)); wp_step)))
 simp only[hown,YF,Y3];refine WQ ho hd (by simp) ?_;refine Zd0 (s:={ s with heap:=s.heap.update it (Obj.mapFields (·.setIfInBounds 0 Value.none)) }) hh fun o1 o2 c2 g2 => ?_;refine Ya (WK (T:="StopIteration") (b:=true) ⟨_,g2,c2⟩ Q8 ?_);exact Yb (hQ _ (((YB ..).extBut.push _).push _))
theorem ZmA(hh:A.handled=none)(I d:Addr)(hne:d≠I)(es:Array DictEntry)(ep:Nat) :
  Walks prog w A I [I,d] [I] es.size (fun i v => ∃e,es[i]?=some e/\v=e.val) (fun i h=>h.IsValIter I d i es.size ep/\RawD h d es ep) where
 sub:=fun b hb=>by simp at hb; simp[hb]
 frame:=fun _ _ _ st hk=>⟨let ⟨o,e,r⟩:=st.1; ⟨o,hk I (by simp) o e,r⟩,st.2.kept fun o e=>hk d (by simp) o e⟩
 item:=fun i s Q E hi st hQ=>by
  refine ZqJ st.1 st.2 (e:=es[i]) (by simp[hi]) fun h' hit' hs' => ?_;exact hQ _ h' s.toks ⟨es[i],by simp[hi],rfl⟩ ⟨hit',st.2.kept fun o e=>hs'.extBut d o hne e⟩ fun b o hb e=>hs'.extBut b o (fun h=>hb (by simp[h])) e
 done:=fun s Q E st hQ=>Znw hh st.1 st.2 (by simp) fun h' he'=>hQ h' s.toks fun b o hb e=>he' b o (fun h=>hb (by simp[h])) e
 self:=fun _ _ _ _ st hQ=>wpAny_pyIter_valiter st.1 hQ
theorem ZhG{r d:Addr}{es:Array DictEntry}{ep:Nat}:KdlSrc prog w "dict_values" r d es.size (fun i v => ∃e,es[i]?=some e/\v=e.val) (fun h=>h.IsValuesView r d/\RawD h d es ep) where
 type:=fun _ hm=>hm.1.typeIs
 there:=fun _ hm=>⟨let ⟨_,e,_⟩:=hm.1; Yg e,let ⟨_,e,_⟩:=hm.2; Yg e⟩
 keep:=fun _ _ hm hk=>⟨let ⟨o,e,r⟩:=hm.1; ⟨o,hk _ (.inl rfl) o e,r⟩,hm.2.kept fun o e=>hk d (.inr rfl) o e⟩
 notList:=by decide
 notTuple:=by decide
 hint:=fun _ _ _ _ hm hq=>kdl_hint_values hm.1.typeIs hq
 iter:=fun _ _ hh hm=>⟨_,_,(fun _ _ hq=>Zk0 hm.1 hm.2 hq),ZmA hh _ d (Yp (let ⟨_,e,_⟩:=hm.2; Yg e)) es ep,⟨⟨_,Yi _ rfl,rfl,rfl⟩,hm.2.kept fun o e=>Yc _ e⟩⟩
theorem Zmk{d:Addr}{es:Array DictEntry}{ep:Nat}{Q:P9->P1->Prop}(hd:(d == sysModules)=false)(hm:RawD s.heap d es ep)
  (h:Q (.ref s.heap.objs.size) { s with heap:=s.heap.push { cls:=.type "dict_values",data:=.fields #[.ref d] } }):wpAny (model prog w) A (call (.builtin "dict.values") [.ref d]) Q E s:=by
 refine YE US hm.typeIs PySem.F.entry_dict_values ?_ (PySem.F.args_dict_values_1 _);unfold Builtin.«dict.values»;refine Ya ?_;unfold Builtin.Dict.noArgs;refine Ya (QA hm.typeIs ?_);show wpAny _ _ (pure d) _ _ s;refine Yb ?_;show wpAny _ _ (Builtin.Dict.showsAll d >>= _) _ _ s;unfold Builtin.Dict.showsAll;rw[Yh (by rw[hd]; exact Qh)];refine Ya (Yb ?_);exact Ya (YV (Yb ⟨_,rfl,h⟩))
theorem Zqp{T:String}{r d:Addr}{n:Nat}{P:Nat->P9->Prop}{OK:Heap->Prop}{Q:P9->P1->Prop}(K:KdlSrc prog w T r d n P OK)(hh:A.handled=none)(hok:OK s.heap)(val:Nat->Int)(hval:∀(i:Nat) (v:P9),P i v->∃t:Tok,v=Value.int (val i) t)
  (h:∀(h':Heap) (tk:Nat) (t':Tok),(∀b o,s.heap.get? b=some o->h'.get? b=some o)->Q (.int (preSum val n) t') { s with heap:=h',toks:=tk }):wpAny (model prog w) A (call (.builtin "sum") [.ref r]) Q E s:=by
 refine call_sum_walkAnyS ?_;obtain⟨oI,St,hit,W,st⟩:=K.iter A.in1 s hh hok;refine hit _ _ ⟨_,_,_,_,n,P,_,val,rfl,W.toS,st,fun b hb => ?_,hval,fun s' t' hm => ?_⟩
 ·show b<(s.heap.push oI).objs.size;rw[Y5];rcases Yl.mp hb with e | hb
  ·rw[e]; exact Va _
  ·rw[YC.mp hb]; exact WC (K.there _ hok).2
 ·rw[Ux hm];refine h s'.heap s'.toks t' fun b o e=>hm.heap b o (fun hI => ?_) (Yc _ e);rw[YC.mp hI] at e;exact absurd (Yg e) (YT _)
theorem sum_list{l:Addr}{vs:List P9}{ns:List Int}{Q:P9->P1->Prop}(hh:A.handled=none)(hl:s.heap.IsList l vs.toArray)(hv:IntsAre vs ns)
  (h:∀(h':Heap) (tk:Nat) (t':Tok),(∀b o,s.heap.get? b=some o->h'.get? b=some o)->Q (.int (preSum (fun i=>ns.getD i 0) ns.length) t') { s with heap:=h',toks:=tk }):wpAny (model prog w) A (call (.builtin "sum") [.ref l]) Q E s:=by
 have hlt:l<s.heap.objs.size:=by obtain⟨_,e,_⟩:=hl; exact Yg e
 obtain⟨hlen,hget⟩:=SO.ints_get hv;refine call_sum_walkAnyS (Qp hl ?_);have hsz:vs.toArray.size=ns.length:=by simpa using hlen
 refine⟨s.heap.objs.size,[s.heap.objs.size,l],[s.heap.objs.size],_,vs.toArray.size,_,_,fun i=>ns.getD i 0,rfl,(Walks.list (A:=A.in1) hh _ l (Yp hlt) vs.toArray).toS,⟨⟨_,Yi _ rfl,rfl,rfl⟩,hl.push _⟩,fun b hb => ?_,fun i v hv => ?_,fun s' t' hm => ?_⟩
 ·show b<(s.heap.push _).objs.size;rw[Y5];rcases Yl.mp hb with e | hb
  ·rw[e]; exact Va _
  ·rw[YC.mp hb]; exact WC hlt
 ·have hv':vs[i]?=some v:=by simpa using hv
  have hi:=(Yk.mp hv').1;obtain⟨t,e⟩:=hget i hi;rw[Ye,hv'] at e;exact⟨t,e⟩
 ·rw[Ux hm,hsz];refine h s'.heap s'.toks t' fun b o e=>hm.heap b o (fun hI => ?_) (Yc _ e);rw[YC.mp hI] at e;exact absurd (Yg e) (YT _)
end
theorem ZjU(val:Nat->Int)(ns:List Int)(h:∀i,i<ns.length->val i=ns.getD i 0):∀n,n<=ns.length->preSum val n=(ns.take n).sum
 | 0,_=>by rw[VC]; rfl
 | n+1,hn=>by
  have ih:=ZjU val ns h n (by omega);show preSum val n+val n=_;rw[ih,QH,h n (by omega),Ye,Yd (show n<ns.length by omega),List.sum_append];show _=_+List.sum [ns[n]];rw[QG,List.sum_nil];show (List.take n ns).sum+ns[n]=_;omega
theorem ZhZ(val:Nat->Int)(ns:List Int)(h:∀i,i<ns.length->val i=ns.getD i 0):preSum val ns.length=ns.sum:=by
 rw[ZjU val ns h _ (Yj _),Qt]
def Zdf:List D->Sto->Out D
 | [d],st=>match Zp st d with
  | some xs=>match Zay xs with
   | some ns => .ok (.int ns.sum) st
   | none => .bad
  | none => .bad
 | _,_ => .bad
section
variable{X:Cx}{EX:EXT}
theorem Zo8(hc:X.calm=true):Zco X EX (.builtin "sum") Zdf:=by
 intro pins s σ H xs us Q I rx h;obtain⟨O,ds,st,W,r,R⟩:=h;unfold Zdf at R;split at R
 ·rename_i d;obtain⟨v,rfl,rv⟩:=r.one_of;split at R
  ·rename_i zs e;split at R
   ·rename_i ns hss;obtain⟨p,vs,rfl,q,rs⟩:=rdL W rv e;have hzs:=Zio hss;subst hzs;cases rx with
    | cons r0 rt =>
     cases rt;cases r0;obtain⟨its,rv',pl,hz⟩:=I.list q;have ia:∀{ns:List Int} {vs:List V} {its:List P9},Reps X.K O H (ns.map D.int) vs->Vals vs its->IntsAre its ns:=by
      intro ns
      induction ns with
      | nil =>
       intro vs its r v;rw[Q5,Reps.nil_i] at r;subst r;cases v;exact .nil
      | cons n ns ih =>
       intro vs its r v;obtain⟨u,rr,rfl,r1,r2⟩:=Reps.cons_i.mp r;rw[Rep.int_i] at r1;subst r1;cases v with
       | cons v1 v2 =>
        obtain⟨t,rfl⟩:=v1;exact .cons n t (ih r2 v2)
     refine sum_list (ns:=ns) (I.ok.hd hc) pl.isList (ia rs rv') fun h' tk t hk => ?_;rw[ZhZ _ ns fun _ _=>rfl];exact⟨.int _,H,I.kept hk,⟨t,rfl⟩,Run.now (k:=Val X.K Q) R W _ (Rep.int_i.mpr rfl)⟩
   ·exact R.elim
  ·exact R.elim
 ·exact R.elim
end
end DL
end
section
namespace DL
open PySem PySem.Spec PyProof.Rows L2 PySem.W SO
theorem Zde{K:P5}{O:List Addr}{H:Hp}:∀{ds:List (D×D)} {vs:List (List Key×V)} {xs:List (List Key×Addr×P9)} {ns:List Int},Kvs K Zo O H ds vs->KT H vs xs->Zay (ds.map (·.2))=some ns->IntsAre (xs.map (·.2.2)) ns
 | [],vs,xs,ns,h,t,e=>by
  cases (show vs=[] from h);cases t;cases e;exact .nil
 | (k,d) :: ds,vs,xs,ns,h,t,e=>by
  obtain⟨q,v,r,rfl,hk,hr,ht⟩:=(show ∃q v r,vs=(q,v) :: r/\Zo k=some q/\Rep K O H d v/\Kvs K Zo O H ds r from h);rw[Yn] at e;unfold Zay at e;split at e
  ·rename_i z; cases z
  ·rename_i i r' z;cases z;obtain⟨ns',e1,rfl⟩:=Y7.mp e;have hr':Rep K O H (.int i) v:=hr;rw[Rep.int_i] at hr';subst hr';cases t with
   | @cons p x _ xs hq t =>
    obtain⟨ty,e2⟩:=(show RelV (.int i) x.2.2 from hq.2.2);rw[Yn,e2];exact .cons i ty (Zde ht t e1)
  ·cases e
section
variable{X:Cx}{EX:EXT}{o:Expr}{fo:DE}{pos p apos cpos:Pos}{x:Str}
theorem Zho{P:List Int->Sto->List Addr->Hp->Prop}{pins:List (Addr×Obj)}{s:P1}{σ:L2.St}{H:Hp}(ho:PD X EX o fo)(hbase:attributeBase o "values" X.env (eval o X.env)=eval o X.env)(hline:(apos.endLine == cpos.line)=true)(I:Inv X pins σ H s)
  (h:∃O ρ st,WR X.K O H st/\REnv X.K O H ρ σ/\Run X.K EX O H (fo ρ st) (fun d st1 O1 H1 => ∃i ds ns,d = .res i/\st1[i]?=some (.dtt ds)/\Zay (ds.map (·.2))=some ns/\P ns st1 O1 H1)) :
  wpAny (model X.prog X.w) X.A (eval (.Call (.Attribute o "values" apos) [] [] cpos) X.env) (fun v s' => ∃r a es ep ns st1 O1 H1,v = .ref r/\s'.heap.IsValuesView r a/\RawD s'.heap a es ep/\IntsAre (es.toList.map (·.val)) ns/\Inv X pins σ H1 s'/\WR X.K O1 H1 st1/\P ns st1 O1 H1) X.xe s:=by
 refine wpAny_Call_method0_late hbase hline (thn (ho pins s σ H (fun v H1 => ∃(O1:List Addr) (st1:Sto) (i:Nat) (ds:List (D×D)) (ns:List Int) (a:Addr),v = .ref a/\O1[i]?=some a/\WR X.K O1 H1 st1/\st1[i]?=some (.dtt ds)/\Zay (ds.map (·.2))=some ns/\P ns st1 O1 H1) I ?_) fun v s1 ⟨y,H1,I1,r1,O,st,i,ds,ns,a,e0,q,W,hd,hns,hP⟩ => ?_)
 ·obtain⟨O,ρ,st,W,E,R⟩:=h;refine⟨O,ρ,st,W,E,R.mono fun d st1 O1 H1 k1 W1 h1 v rv => ?_⟩;obtain⟨i,ds,ns,rfl,hd,hns,hP⟩:=h1;rw[Rep.res_i] at rv;obtain⟨a,rfl,q⟩:=rv;exact⟨O1,st1,i,ds,ns,a,rfl,q,W1,hd,hns,hP⟩
 subst e0;cases r1;obtain⟨vs,e2,kv⟩:=W.at_ _ _ _ q hd;obtain⟨z,hsm,xs,kt,ob,es,ep,g1,g2,g3,g4,g5,g6⟩:=ZaN I1.hok (.inl e2);have hia:IntsAre (es.toList.map (·.val)) ns:=by
  rw[g4,YQ];exact Zde kv kt hns
 refine⟨"dict", "dict.values",VL,US,PySem.F.type_dict_values,⟨ob,g1,g2.1⟩,?_,QX rfl (PySem.evalArgs_none (Zmk hsm ⟨ob,g1,g2,g3⟩ ?_))⟩
 ·rintro b ⟨⟩;exact⟨ob,g1,g2.2.1⟩
 have k0:∀b o,s1.heap.get? b=some o->(s1.heap.push { cls:=.type "dict_values",data:=.fields #[.ref a] }).get? b=some o:=fun b o e=>Yc _ e;exact⟨s1.heap.objs.size,a,es,ep,ns,st,O,H1,rfl,⟨_,Yi _ rfl,rfl,rfl⟩,⟨ob,k0 _ _ g1,g2,g3⟩,hia,I1.kept (t':=s1.toks) k0,W,hP⟩
def Zeq(fo:DE):DE:=fun ρ st=>(fo ρ st).bind fun d st1=>match d with
 | .res i=>match st1[i]? with
  | some (.dtt ds)=>match Zay (ds.map (·.2)) with
   | some ns => .ok (.int ns.sum) st1
   | none => .bad
  | _ => .bad
 | _ => .bad
theorem Zro(hcalm:X.calm=true)(hg:Gl X x)(hm:X.mg x=none)(hv:bootBuiltins x=some (.builtin "sum"))(ho:PD X EX o fo)
  (hn:x≠"__name__":=by decide) (hdb:(x == ("__debug__" : Str))=false:=by decide)
  (hbase:attributeBase o "values" X.env (eval o X.env)=eval o X.env:=by rfl) (hline:(apos.endLine == cpos.line)=true:=by rfl) :
  PD X EX (.Call (.Name x p) [.Call (.Attribute o "values" apos) [] [] cpos] [] pos) (Zeq fo):=by
 intro pins s σ H Q I h;refine Wn (ZaE I hg hm hv ?_ hn hdb);refine Wv ?_ rfl rfl;show wpAny _ _ (spliced ((false,eval (.Call (.Attribute o "values" apos) [] [] cpos) X.env) :: backTo pos (starEach [] X.env))) _ _ s;refine WH ?_;refine thn (Zho (P:=fun ns st O H=>Run X.K EX O H (.ok (.int ns.sum) st) (Val X.K Q)) ho hbase hline I ?_) fun v s1 ⟨r,a,es,ep,ns,st1,O1,H1,e0,hvw,hrd,hia,I1,W1,R1⟩ => ?_
 ·obtain⟨O,ρ,st,W,E,R⟩:=h;refine⟨O,ρ,st,W,E,R.bind.mono fun d st1 O1 H1 k1 W1 R1 => ?_⟩;cases d with
  | res i =>
   dsimp only at R1;split at R1
   ·rename_i ds hd;split at R1
    ·rename_i ns hns;exact⟨i,ds,ns,rfl,hd,hns,R1⟩
    ·exact R1.elim
   ·exact R1.elim
  | _=>exact R1.elim
 subst e0;refine W8 ?_;obtain⟨hlen,hget⟩:=ints_get hia;rw[Ym,Yq] at hlen;refine Zqp (ZhG (r:=r) (d:=a) (es:=es) (ep:=ep)) (I1.ok.hd hcalm) ⟨hvw,hrd⟩ (fun i=>ns.getD i 0) (fun i v ⟨e,h1,h2⟩ => ?_) fun h' tk t hk => ?_
 ·have hi:=(Wt.mp h1).1;obtain⟨t,e3⟩:=hget i (by simpa using hi);rw[Ye,Yz,YD,h1] at e3;exact⟨t,h2.trans e3⟩
 ·rw[hlen,ZhZ _ ns fun _ _=>rfl];exact⟨.int _,H1,I1.kept hk,⟨t,rfl⟩,Run.now (k:=Val X.K Q) R1 W1 _ (Rep.int_i.mpr rfl)⟩
def ZaO(ns:List Int):List Int:=ns.mergeSort (fun a b=>decide (a<=b))
theorem ZiA{ns ms:List Int}(hp:ms.Perm ns)(hw:ms.Pairwise (·<=·)):ms=ZaO ns:=by
 refine QK (le:=fun a b=>decide (a<=b)=true) (fun a b _ _ h1 h2 => ?_) (hw.imp fun {a b} h=>YN h) (QP (fun a b c h1 h2 => ?_) (fun a b => ?_) ns) (hp.trans (Vi _ _).symm)
 ·have h1:=Wg h1;have h2:=Wg h2;omega
 ·have h1:=Wg h1;have h2:=Wg h2;exact YN (by omega)
 ·by_cases h:a<=b
  ·simp[h]
  ·have:b<=a:=by omega
   simp[this]
def ZdN(fo:DE):DA:=fun ρ st=>(fo ρ st).bind fun d st1=>match d with
 | .res i=>match st1[i]? with
  | some (.dtt ds)=>match Zay (ds.map (·.2)) with
   | some ns=>if ns.length<64 then .ok ((ZaO ns).map D.int) st1 else .bad
   | none => .bad
  | _ => .bad
 | _ => .bad
theorem Zqg{A:P6}{s:P1}{prog:P7}{w:World}{E:P9->P1->Prop}{T:String}{r d:Addr}{n:Nat}{P:Nat->P9->Prop}{OK:Heap->Prop}{ns:List Int}{Q:P9->P1->Prop}(K:KdlSrc prog w T r d n P OK)(hh:A.handled=none)(hok:OK s.heap)(hn:n<64)(hv:∀acc:Array P9,ItemsOf P acc n->IntsAre acc.toList ns)
  (k:∀out ns',IntsAre out ns'->ns'.Perm ns->ns'.Pairwise (·<=·)->∀(h1:Heap) a h' tk c,(∀b o,s.heap.get? b=some o->h1.get? b=some o)->h1.objs.size<=a->(∀b o,h1.get? b=some o->h'.get? b=some o)->h'.get? a=some (seqObj "list" (List.toArray out) c)->Q (.ref a) { s with heap:=h',toks:=tk }):wpAny (model prog w) A (call (.builtin "sorted") [.ref r]) Q E s:=by
 refine Qk VW Vv Vw (Ui _) ?_;unfold Builtin.«sorted»;refine Ya (m:=checkCount "sorted" 1 1 _) (Yb ?_);refine Ya (kdu_collect K hh hok (by rw[YG]; omega) fun h1 tk acc k1 hI => ?_);have hlen:acc.toList.length=n:=by rw[Yq]; exact hI.1
 refine Ya (QE ?_ (by rw[YG,hlen]; omega));have hoL:(h1.push (seqObj "list" acc.toList.toArray 0)).get? h1.objs.size=some (seqObj "list" acc.toList.toArray 0):=Yi _ rfl;have keep:∀b o,h1.get? b=some o->(h1.push (seqObj "list" acc.toList.toArray 0)).get? b=some o:=fun b o q=>Yc _ q;show wpAny _ _ _ _ _ { s with heap:=h1.push (seqObj "list" acc.toList.toArray 0),toks:=tk };generalize h1.push (seqObj "list" acc.toList.toArray 0)=g at hoL keep;refine Ya (YM (YE slot_list_sort ⟨_,hoL,rfl⟩ entry_list_sort ?body (VI _)))
 case body =>
  refine list_sort_tree (s:={ s with heap:=g,toks:=tk }) hoL (hv acc hI) (by omega) fun out ns' i1 i2 i3 => ?_;refine⟨_,rfl,Yb ⟨_,rfl,?_⟩⟩;obtain⟨e,he⟩:=sortedHeap_at (out:=out) hoL;exact k out.toList ns' i1 i2 i3 h1 _ _ tk e k1 (Yj _) (fun b o q=>by
   rw[sortedHeap_old (Yp (Yg q)) (Yg (keep b o q))];exact keep b o q) (by simpa using he)
theorem ZqI(hcalm:X.calm=true)(hg:Gl X x)(hm:X.mg x=none)(hv:bootBuiltins x=some (.builtin "sorted"))(ho:PD X EX o fo)
  (hn:x≠"__name__":=by decide) (hdb:(x == ("__debug__" : Str))=false:=by decide)
  (hbase:attributeBase o "values" X.env (eval o X.env)=eval o X.env:=by rfl) (hline:(apos.endLine == cpos.line)=true:=by rfl) :
  PDF X EX (.Call (.Name x p) [.Call (.Attribute o "values" apos) [] [] cpos] [] pos) (ZdN fo):=by
 intro pins s σ H Q I h;refine Wn (ZaE I hg hm hv ?_ hn hdb);refine Wv ?_ rfl rfl;show wpAny _ _ (spliced ((false,eval (.Call (.Attribute o "values" apos) [] [] cpos) X.env) :: backTo pos (starEach [] X.env))) _ _ s;refine WH ?_;refine thn (Zho (P:=fun ns st O H=>ns.length<64/\Run X.K EX O H (.ok ((ZaO ns).map D.int) st) (New X.K Q)) ho hbase hline I ?_) fun v s1 ⟨r,a,es,ep,ns,st1,O1,H1,e0,hvw,hrd,hia,I1,W1,h64,R1⟩ => ?_
 ·obtain⟨O,ρ,st,W,E,R⟩:=h;refine⟨O,ρ,st,W,E,R.bind.mono fun d st1 O1 H1 k1 W1 R1 => ?_⟩;cases d with
  | res i =>
   dsimp only at R1;split at R1
   ·rename_i ds hd;split at R1
    ·rename_i ns hns;by_cases h64:ns.length<64
     ·rw[Yf h64] at R1;exact⟨i,ds,ns,rfl,hd,hns,h64,R1⟩
     ·rw[Yh h64] at R1; exact R1.elim
    ·exact R1.elim
   ·exact R1.elim
  | _=>exact R1.elim
 subst e0;refine W8 ?_;obtain⟨hlen,hget⟩:=ints_get hia;rw[Ym,Yq] at hlen;refine Zqg (ns:=ns) (ZhG (r:=r) (d:=a) (es:=es) (ep:=ep)) (I1.ok.hd hcalm) ⟨hvw,hrd⟩ (by omega) (fun acc hI => ?_) fun out ns' i1 i2 i3 h1 b h' tk c k1 hb k2 hgb => ?_
 ·have:acc.toList=es.toList.map (·.val):=by
   refine VQ fun j => ?_;rw[YD,Yz,YD];by_cases hj:j<acc.size
   ·obtain⟨e,h1,h2⟩:=hI.2 j acc[j] (Ys hj);rw[Ys hj,h2,h1];rfl
   ·have:=hI.1;rw[Wo (by omega),Wo (by omega)];rfl
  rw[this];exact hia
 ·have hns:=ZiA i2 i3;have hl:out.length=ns'.length:=(ints_get i1).1;have hl2:ns'.length=ns.length:=i2.length_eq;have I2:Inv X pins σ H1 { s1 with heap:=h1,toks:=tk }:=I1.kept k1;have vl:∀{out:List P9} {ns':List Int},IntsAre out ns'->Vals (ns'.map V.int) out:=by
   intro out ns' h
   induction h with
   | nil=>exact .nil
   | cons n t _ ih=>exact .cons ⟨t,rfl⟩ ih
  refine⟨.ref b,upd H1 b (.lst (ns'.map V.int)),I2.laid k2 hb ⟨by rw[Ym,YG]; omega,out,c,vl i1,hgb⟩,rfl,Run.now (k:=New X.K Q) R1 W1 b _ ?_ (I2.hok.fresh hb)⟩;rw[<-hns];exact ZdD ns' fun i _=>Rep.int_i.mpr rfl
theorem ZoF{A:P6}{s:P1}{prog:P7}{w:World}{E:P9->P1->Prop}{l:Addr}{vs:List P9}{κ:SortKind}{lt:Nat->Nat->Bool}{Q:P9->P1->Prop}(hu:A.units+2<cLine)(hl:s.heap.IsList l vs.toArray)(h64:vs.length<64)
  (C:∀a h',(∀b o,s.heap.get? b=some o->b≠a)->(∀b o,s.heap.get? b=some o->h'.get? b=some o)->CmpR prog w { s with heap:=h' } a vs κ lt) (O:Ord vs.length lt)
  (k:∀p:List Nat,p.Perm (List.range vs.length)->p.Pairwise (fun i j=>lt i j=true)->∀a h' c,s.heap.objs.size<=a->(∀b o,s.heap.get? b=some o->h'.get? b=some o)->h'.get? a=some (seqObj "list" (p.map fun i=>vs.getD i .none).toArray c)->Q (.ref a) { s with heap:=h' }) :
  wpAny (model prog w) A (call (.builtin "sorted") [.ref l]) Q E s:=by
 refine Qk VW Vv Vw (Ui _) ?_;unfold Builtin.«sorted»;refine Ya (m:=checkCount "sorted" 1 1 _) (Yb ?_);refine Ya (collect_list hl ?_ (by rw[YG]; omega));refine Ya (QE ?_ (by rw[YG]; omega));have hsz:((s.heap.push (seqObj "list" #[] 0)).update s.heap.objs.size (Obj.mapSeq (· ++ vs.toArray))).objs.size=s.heap.objs.size+1:=by
  rw[UR,size_push']
 have hoL:(((s.heap.push (seqObj "list" #[] 0)).update s.heap.objs.size (Obj.mapSeq (· ++ vs.toArray))).push (seqObj "list" vs.toArray 0)).get? (s.heap.objs.size+1)=some (seqObj "list" vs.toArray 0):=by
  rw[<-hsz]; exact Yi _ rfl
 have keep:∀b o,s.heap.get? b=some o->(((s.heap.push (seqObj "list" #[] 0)).update s.heap.objs.size (Obj.mapSeq (· ++ vs.toArray))).push (seqObj "list" vs.toArray 0)).get? b=some o:=fun b o q=>by
  have hlt:b<s.heap.objs.size:=Yg q;rw[VS _ _ _ (by rw[hsz]; exact Yp (WC hlt)),Heap.get?_update_ne _ _ _ _ (Yp hlt),VS _ _ _ (Yp hlt)];exact q
 show wpAny _ _ _ _ _ { s with heap:=((s.heap.push (seqObj "list" #[] 0)).update s.heap.objs.size (Obj.mapSeq (· ++ vs.toArray))).push (seqObj "list" vs.toArray 0) };rw[hsz];generalize ((s.heap.push (seqObj "list" #[] 0)).update s.heap.objs.size (Obj.mapSeq (· ++ vs.toArray))).push (seqObj "list" vs.toArray 0)=g at hoL keep;refine Ya (YM (YE slot_list_sort ⟨_,hoL,rfl⟩ entry_list_sort ?body (VI _)))
 case body =>
  refine Zer (s:={ s with heap:=g }) (by show _<_; omega) hoL h64 (C _ g (fun b o e=>Yp (WC (Yg e))) keep) O fun p hp hpw h' c hb hc => ?_;refine⟨_,rfl,Yb ⟨_,rfl,?_⟩⟩;exact k p hp hpw _ h' c (Vg _) (fun b o e=>hb b o (Yp (WC (Yg e))) (keep b o e)) hc
def Zb8:List D->Sto->Out (List D)
 | [d],st=>match Zp st d with
  | some xs=>match ZaZ xs with
   | some ps=>if ps.Nodup/\ps.length<64 then .ok ((ZU ps).map fun p=>D.tup (p.map D.str)) st else .bad
   | none => .bad
  | none => .bad
 | _,_ => .bad
theorem Zfw(hu:X.A.units+2<cLine):ZcE X EX (.builtin "sorted") Zb8:=by
 intro pins s σ H xs us Q I rx h;obtain⟨O,ds,st,W,r,R⟩:=h;unfold Zb8 at R;split at R
 ·rename_i d;obtain⟨v,rfl,rv⟩:=r.one_of;split at R
  ·rename_i zs ez;split at R
   ·rename_i ps hss;by_cases hc:ps.Nodup/\ps.length<64
    ·rw[Yf hc] at R;obtain⟨pl,vs,rfl,qq,rs⟩:=rdL W rv ez;have hzs:=Zdy hss;subst hzs;cases rx with
     | cons r0 rt =>
      cases rt;cases r0;obtain⟨its,rv',pl',hz⟩:=I.list qq;have hl1:=rv'.length;have hl2:=rs.length;rw[Ym] at hl2;have P0:PlsAre s.heap its ps:=ZcG I rs rv';refine ZoF (κ:=Zcl ps) (lt:=fun i j=>plB (ps.getD i []) (ps.getD j [])) hu pl'.isList (by omega) (fun a h' ha hk=>ZfX (tk:=s.toks) hc.1 P0 ha hk) (by rw[<-hl1,<-hl2]; exact Zfq hc.1) fun ix hp hw a h' c ha hk hg => ?_;exact ZfE (tk:=s.toks) I W rs rv' R (by rw[hl2,hl1]; exact hp) hw hc.2 (fun b o e=>e) ha hk hg
    ·rw[Yh hc] at R; exact R.elim
   ·exact R.elim
  ·exact R.elim
 ·exact R.elim
end
end DL
end
section
namespace DL
open PySem PySem.Spec PyProof.Rows L2
noncomputable abbrev TK(prog:P7)(w:World):HeapKind prog w (List Key):=tupleKind (mixKind prog w)
def Zas(xs L:List (List Key×Addr×P9)):List (List Key×Addr×P9):=L.foldl (fun acc p=>storedH acc p.1 p.2.1 p.2.2) xs
def ZcZ(ds more:List (D×D)):List (D×D):=more.foldl (fun acc p=>putD Zo acc p.1 p.2) ds
def Zbb(vs more:List (List Key×V)):List (List Key×V):=more.foldl (fun acc p=>putK acc p.1 p.2) vs
theorem Zn1(xs:List (List Key×Addr×P9))(k:List Key)(a:Addr)(v:P9):(storedH xs k a v).length<=xs.length+1:=by
 unfold storedH;split
 ·rw[Ym]; omega
 ·simp
theorem ZhY:∀(L xs:List (List Key×Addr×P9)),(Zas xs L).length<=xs.length+L.length
 | [],xs=>Yj _
 | p :: L,xs=>by
  have h1:=ZhY L (storedH xs p.1 p.2.1 p.2.2);have h2:=Zn1 xs p.1 p.2.1 p.2.2;show (Zas (storedH xs p.1 p.2.1 p.2.2) L).length<=_;simp only[Yw];omega
theorem ZkB:∀(L xs:List (List Key×V)),(Zbb xs L).length<=xs.length+L.length
 | [],xs=>Yj _
 | p :: L,xs=>by
  have h1:=ZkB L (putK xs p.1 p.2);have h2:=ZgG xs p.1 p.2;show (Zbb (putK xs p.1 p.2) L).length<=_;simp only[Yw];omega
theorem Zmi(xs L:List (List Key×Addr×P9))(i:Nat)(p:List Key×Addr×P9)(h:L[i]?=some p):Zas xs (L.take (i+1))=storedH (Zas xs (L.take i)) p.1 p.2.1 p.2.2:=by
 rw[QH,h];unfold Zas;rw[List.foldl_append];rfl
theorem Zij{K:P5}{O:List Addr}{H:Hp}:∀{more:List (D×D)} {ks:List (List Key×V)} {ds:List (D×D)} {vs:List (List Key×V)},Kvs K Zo O H more ks->Kvs K Zo O H ds vs->Kvs K Zo O H (ZcZ ds more) (Zbb vs ks)
 | [],ks,ds,vs,h,hd=>by
  cases (show ks=[] from h);exact hd
 | (k,d) :: more,ks,ds,vs,h,hd=>by
  obtain⟨q,v,r,rfl,hk,hr,ht⟩:=(show ∃q v r,ks=(q,v) :: r/\Zo k=some q/\Rep K O H d v/\Kvs K Zo O H more r from h);show Kvs K Zo O H (ZcZ (putD Zo ds k d) more) (Zbb (putK vs q v) r);exact Zij ht (ZgT hk hr hd)
theorem Zjv{H:Hp}:∀{more:List (List Key×V)} {L:List (List Key×Addr×P9)} {vs:List (List Key×V)} {xs:List (List Key×Addr×P9)},KT H more L->KT H vs xs->KT H (Zbb vs more) (Zas xs L)
 | _,_,vs,xs,.nil,h=>h
 | _,_,vs,xs,.cons (a:=p) (b:=q) (l₁:=more) (l₂:=L) hq t,h=>by
  have e:putK vs p.1 p.2=putK vs q.1 p.2:=by rw[hq.1]
  show KT H (Zbb (putK vs p.1 p.2) more) (Zas (storedH xs q.1 q.2.1 q.2.2) L);rw[e];exact Zjv t (h.put q.1 (by rw[<-hq.1]; exact hq.2.1) hq.2.2)
section
variable{prog:P7}{w:World}{A:P6}{E:P9->P1->Prop}{s:P1}
theorem ZjX{h h':Heap}{ks:List Key}{a:Addr}(x:(TK prog w).is h ks a)(k:∀b o,h.get? b=some o->h'.get? b=some o):(TK prog w).is h' ks a:=by
 obtain⟨o,its,n,e,r⟩:=(show IsTupleKey (mixKind prog w) h ks a from x);exact⟨o,its,n,k _ _ e,r⟩
theorem Zie{h h':Heap}{d:Addr}{xs:List (List Key×Addr×P9)}(x:h.DictOfH (TK prog w) d xs)(k:∀o,h.get? d=some o->h'.get? d=some o)(k2:∀x∈xs,(TK prog w).is h x.1 x.2.1->(TK prog w).is h' x.1 x.2.1):h'.DictOfH (TK prog w) d xs:=by
 obtain⟨o,es,ep,g1,g2,g3,g4,g5,g6⟩:=x;exact⟨o,es,ep,k _ g1,g2,g3,g4,fun x hx=>k2 x hx (g5 x hx),g6⟩
theorem ZkZ{I:Addr}{fp wr:List Addr}{G:Array GenState->Array GenState->Prop}{n:Nat}{P:Nat->P9->Prop}{St:Nat->P1->Prop}{R:Result->P1->Prop}(hu:A.units+2<cLine)(W:WalksS prog w A.in1 I fp wr G n P St){d:Addr}(hd:d ∉ fp)(h0:Heap)(hw:∀b∈wr,h0.get? b=none)(hd0:h0.get? d=none)(L:List (List Key×Addr×P9))(hL:L.length=n)(hn:n<=1000)
  (hLk:∀x∈L,(TK prog w).is h0 x.1 x.2.1) (hv:∀i v,P i v->∃b o m q a y,v = .ref b/\h0.get? b=some o/\o.cls = .type "tuple"/\o.data = .seq #[.ref a,y] m/\L[i]?=some (q,a,y)) :
  ∀(k i:Nat) (s:P1) (j:Int),n - i=k->i<=n->St i s->s.heap.DictOfH (TK prog w) d (Zas [] (L.take i))->(∀b o,h0.get? b=some o->s.heap.get? b=some o) ->
   (∀s',Moved (d :: wr) G s s'->s'.heap.DictOfH (TK prog w) d (Zas [] L)->R (.ok (.ret .none)) s') ->
   codeAny (model prog w) A (.builtin "dict.update.loop" ⟨[.ref d,.ref I,rawInt j,.none],[]⟩) R s:=by
 have hdw:d ∉ wr:=fun z=>hd (W.sub _ z);have sub:∀b∈wr,b∈d :: wr:=fun b z=>Yo _ z;have mem:∀(L xs:List (List Key×Addr×P9)) (Pr:List Key->Addr->Prop),(∀x∈L,Pr x.1 x.2.1)->(∀x∈xs,Pr x.1 x.2.1)->∀x∈Zas xs L,Pr x.1 x.2.1:=by
  intro L
  induction L with
  | nil=>exact fun xs Pr _ h2 x hx=>h2 x hx
  | cons p L ih =>
   intro xs Pr h1 h2 x hx;refine ih (storedH xs p.1 p.2.1 p.2.2) Pr (fun x hx=>h1 x (Yo _ hx)) (fun x hx => ?_) x hx;unfold storedH at hx;split at hx
   ·obtain⟨y,hy,rfl⟩:=YZ.mp hx;have:=h2 y hy;unfold putAt;split <;> exact this
   ·rcases Wu.mp hx with hx | hx
    ·exact h2 x hx
    ·rw[YC.mp hx];exact h1 p Yv
 have keys0:∀i,∀x∈Zas [] (L.take i),(TK prog w).is h0 x.1 x.2.1:=fun i=>mem _ _ (fun a b=>(TK prog w).is h0 a b) (fun x hx=>hLk x (Uc hx)) fun x hx=>by cases hx
 have keep0:∀{s s':P1},Moved wr G s s'->(∀b o,h0.get? b=some o->s.heap.get? b=some o)->∀b o,h0.get? b=some o->s'.heap.get? b=some o:=fun m h b o e=>m.heap b o (fun z=>by rw[hw b z] at e; cases e) (h b o e);have keepD:∀{s s':P1} {i:Nat},Moved wr G s s'->(∀b o,h0.get? b=some o->s.heap.get? b=some o)->s.heap.DictOfH (TK prog w) d (Zas [] (L.take i))->s'.heap.DictOfH (TK prog w) d (Zas [] (L.take i)):=fun {s s' i} m h x =>
  Zie x (fun o e=>m.heap d o hdw e) fun x hx _=>ZjX (keys0 i x hx) (keep0 m h)
 intro k
 induction k with
 | zero =>
  intro i s j hk hi hst hD h0s hR;obtain rfl:i=n:=by omega
  refine Ww SF.entryU ?_;rw[Wi SF.plainU _];show wpAny _ A.in1 (pyNext (.ref I) >>= _) _ _ s;refine Ya (W.done s _ _ hst fun s' m => ?_);show wpAny _ _ (Builtin.Dict.addKeywords d [] >>= fun _=>ret Value.none) _ _ _;refine Ya (Yb (Yb (hR s' (m.mono sub) ?_)));have:=keepD m h0s hD;rwa[<-hL,Qt] at this
 | succ k ih =>
  intro i s j hk hi hst hD h0s hR;have hlt:i<n:=by omega
  refine Ww SF.entryU ?_;rw[Wi SF.plainU _];show wpAny _ A.in1 (pyNext (.ref I) >>= _) _ _ s;refine Ya (W.item i s _ _ hlt hst fun v s1 hP hst1 m1 => ?_);obtain⟨b,o,mm,q,a,y,rfl,hb,hc,hdat,hLi⟩:=hv i v hP;have h01:=keep0 m1 h0s;have hb1:=h01 b o hb;have hD1:=keepD m1 h0s hD;have hka:(TK prog w).is s1.heap q a:=ZjX (hLk _ (Y2 hLi)) h01;dsimp only;refine Ya (YM ?_);refine Ya (wpAny_tryCatch ?_);unfold Builtin.Dict.pairItems;refine Ya (WM (T:="tuple") ⟨_,hb1,hc⟩ ?_);refine Yr (fun _ => ?_) (fun z=>absurd (by decide) z);refine Ya (Qv hb1 hdat (Yb ?_));dsimp only[Option.getD];refine YM (wpAny_dictSet_heap (knd:=TK prog w) (show A.units+1<cLine by omega) hka hD1 (fun h' hD' hs' => ?_) ?_)
  ·refine Yb ⟨Qd SF.plainU _,ih (i+1) _ (j+1) (by omega) hlt (W.frame _ s1 _ _ hst1 (WY _ _) fun b' hb' o' e => ?_) ?_ ?_ fun s2 m2 c2 => ?_⟩
   ·exact (hs'.2 b' fun z=>hd (by rw[<-z]; exact hb')).trans e
   ·rw[Zmi [] L i (q,a,y) hLi];exact hD'
   ·intro b' o' e;refine (hs'.2 b' fun z => ?_).trans (h01 b' o' e);rw[z,hd0] at e;cases e
   ·refine hR s2 (Moved.trans W.gtrans ((m1.mono sub).then_heap (WY _ _) fun b' o' hb' e => ?_) m2) c2;exact (hs'.2 b' fun z=>hb' (by rw[z]; exact Yv)).trans e
  ·have h1:=ZhY (L.take i) [];rw[Y8,Wq] at h1;rw[YG];omega
theorem Zq0{l:Addr}{its:Array P9}{L:List (List Key×Addr×P9)}{Q:P9->P1->Prop}(hu:A.units+4<cLine)(hh:A.handled=none)(hl:PlainL s.heap l its)(hn:its.size<=1000)(hL:L.length=its.size)(hLk:∀x∈L,(TK prog w).is s.heap x.1 x.2.1)
  (hv:∀(i:Nat) (v:P9),its[i]?=some v->∃b o m q a y,v = .ref b/\s.heap.get? b=some o/\o.cls = .type "tuple"/\o.data = .seq #[.ref a,y] m/\L[i]?=some (q,a,y))
  (h:∀h' tk,h'.DictOfH (TK prog w) s.heap.objs.size (Zas [] L)->(∀b o,s.heap.get? b=some o->h'.get? b=some o)->Q (.ref s.heap.objs.size) { s with heap:=h',toks:=tk }) :
  wpAny (model prog w) A (call (.type "dict") [.ref l]) Q E s:=by
 refine callType_codes (Q₁:=fun obj s₁=>obj = .ref s.heap.objs.size/\s₁ = { s with heap:=s.heap.push { cls:=.type "dict",data:=.dict #[] } }) F.kt_called_dict (F.kt_typeCall_dict_1 _) F.entry_dict_init (kt_code_dict_new _ ⟨rfl,rfl⟩) ?_;rintro obj s₁ ⟨rfl,rfl⟩;have hnew:(s.heap.push { cls:=.type "dict",data:=.dict #[] }).DictOfH (TK prog w) s.heap.objs.size []:=⟨_,#[],0,Yi _ rfl,⟨rfl,rfl,rfl⟩,rfl,rfl,(fun x hx=>by cases hx),WO⟩;have hty:Shared.TypeIs { s with heap:=s.heap.push { cls:=.type "dict",data:=.dict #[] } } (.ref s.heap.objs.size) "dict":=⟨_,Yi _ rfl,rfl⟩;have k0:∀b o,s.heap.get? b=some o->(s.heap.push { cls:=.type "dict",data:=.dict #[] }).get? b=some o:=fun b o e=>Yc _ e;have hsz:(s.heap.push { cls:=.type "dict",data:=.dict #[] }).objs.size=s.heap.objs.size+1:=Y5 ..;refine⟨hty,F.args_dict_init_2 _ _,?_⟩;unfold Builtin.«dict.__init__»;refine Ya ?_;unfold Builtin.Dict.selfAndRest;refine Ya (QA hty ?_);show wpAny _ _ (pure (s.heap.objs.size,[Value.ref l])) _ _ _;refine Yb ?_;show wpAny _ _ (Builtin.Dict.updateFrom "dict.__init__" s.heap.objs.size (.ref l) [] .none) _ _ _;generalize s.heap.push { cls:=.type "dict",data:=.dict #[] }=H1 at hnew k0 hsz hty;have hl1:PlainL H1 l its:=hl.keeps k0;have hlS:l<s.heap.objs.size:=by
  obtain⟨o,n,e,_⟩:=hl;exact Yg e
 unfold Builtin.Dict.updateFrom;refine Ya (WM (s:={ s with heap:=H1 }) (T:="list") hl1.isList.typeIs ?_);refine Yr (fun _ => ?_) (fun z=>absurd (by decide) z);refine Ya (ZmJ (s:={ s with heap:=H1 }) (by simp[hh]) hl1 fun h2 tk k2 => ?_);refine Yr (fun _ => ?_) (fun z=>absurd rfl z);refine Ya (W5 ?_);have hl2:PlainL h2 l its:=hl1.keeps k2;refine Ya (Qp (s:={ s with heap:=h2,toks:=tk }) hl2.isList ?_);refine Yb ⟨Qd SF.plainU _,?_⟩;have hS2:s.heap.objs.size<h2.objs.size:=by
  obtain⟨o,es,ep,ho,_⟩:=hnew;exact Yg (k2 _ _ ho)
 have hI:l≠h2.objs.size:=Yp (Q7 hlS hS2);have hf:s.heap.objs.size ∉ [h2.objs.size,l]:=by
  simp only[Yl,YO,WL,Vf];exact⟨Yp hS2,Qb hlS⟩
 have hnew2:(h2.push { cls:=.type "list_iterator",data:=.fields #[.ref l,.int 0 0] }).DictOfH (TK prog w) s.heap.objs.size []:=Zie hnew (fun o e=>Yc _ (k2 _ _ e)) fun x hx=>by cases hx
 refine ZkZ (by show _<_; simp; omega) ((Walks.list (by simp[hh]) _ l hI its).toS) hf s.heap (fun b hb => ?_) (QI (Yj _)) L hL hn hLk hv (its.size - 0) 0 _ 0 rfl (YU _) ⟨⟨_,Yi _ rfl,rfl,rfl⟩,hl2.isList.push _⟩ hnew2 (fun b o e=>Yc _ (k2 _ _ (k0 _ _ e))) fun s' m hD => ?_
 ·rw[YC.mp hb];exact QI (Q4 hS2)
 ·rw[Ux m];refine⟨rfl,h _ _ hD fun b o e=>m.heap b o ?_ (Yc _ (k2 _ _ (k0 _ _ e)))⟩;have hb:=Yg e;simp only[Yl,YO,WL,Vf];exact⟨Yp hb,Yp (Q7 hb hS2)⟩
end
def ZbR:List (D×D)->Bool
 | []=>true
 | p :: r=>(Zo p.1).isSome && ZbR r
def ZdA:List D->Sto->Out D
 | [d],st=>match Zp st d with
  | some xs=>match Zcn xs with
   | some kvs=>if ZbR kvs=true/\kvs.length<=500 then .ok (.res st.length) (st++[.dtt (ZcZ [] kvs)]) else .bad
   | none => .bad
  | none => .bad
 | _,_ => .bad
section
variable{X:Cx}{EX:EXT}{pins:List (Addr×Obj)}{σ:L2.St}{H:Hp}{s:P1}{O:List Addr}
theorem Zkt(I:Inv X pins σ H s):∀{xs:List D} {kvs:List (D×D)} {vs:List V} {us:List P9},Zcn xs=some kvs->ZbR kvs=true->Reps X.K O H xs vs->Vals vs us ->
  ∃(ks:List (List Key×V)) (L:List (List Key×Addr×P9)),Kvs X.K Zo O H kvs ks/\KT H ks L/\L.length=us.length/\kvs.length=us.length/\ks.length=us.length /\
   ∀(i:Nat) (v:P9),us[i]?=some v->∃b o m q a y,v = .ref b/\s.heap.get? b=some o/\o.cls = .type "tuple"/\o.data = .seq #[.ref a,y] m/\L[i]?=some (q,a,y)
 | [],kvs,vs,us,e,_,r,u=>by
  cases e;have e2:vs=[]:=by unfold Reps at r; exact r
  subst e2;cases u;exact⟨[],[],rfl,.nil,rfl,rfl,rfl,fun i v h=>by simp at h⟩
 | d :: xs,kvs,vs,us,e,hk,r,u=>by
  unfold Zcn at e;split at e
  ·rename_i h; cases h
  ·rename_i k v r0 h;cases h;obtain⟨kvs',e1,rfl⟩:=Y7.mp e;obtain⟨x,rs,rfl,r1,r2⟩:=Reps.cons_i.mp r;rw[Rep.tup_i] at r1;obtain⟨p,ys,rfl,q,r3⟩:=r1;obtain⟨kv,vv,rfl,r4,r5⟩:=r3.two_of;cases u with
   | cons u1 u2 =>
    cases u1;have hk':((Zo k).isSome && ZbR kvs')=true:=hk;rw[YJ] at hk';obtain⟨key,hkey⟩:=UL.mp hk'.1;obtain⟨ks,L,a1,a2,a3,a4,a5,a6⟩:=Zkt I e1 hk'.2 r2 u2;obtain⟨its,t1,⟨ot,t2,t3,mt,t4⟩,_⟩:=I.tuple (SqT.of q);obtain⟨ka,rfl,hka⟩:=Zdi hkey r4;cases t1 with
    | cons w1 t1 =>
     cases t1 with
     | cons w2 t1 =>
      cases t1;cases w1;rename_i yval;refine⟨(key,vv) :: ks,(key,ka,yval) :: L,⟨key,vv,ks,rfl,hkey,r5,a1⟩,.cons ⟨rfl,hka,w2⟩ a2,by simp[a3],by simp[a4],by simp[a5],fun i v h => ?_⟩;cases i with
      | zero =>
       simp only[Yu,Yx] at h;subst h;exact⟨p,ot,mt,key,ka,yval,rfl,t2,t3,t4,rfl⟩
      | succ i=>simpa using a6 i v (by simpa using h)
  ·cases e
theorem Zmh(hc:X.calm=true)(hu:X.A.units+64<cLine):Zco X EX (.type "dict") ZdA:=by
 intro pins s σ H xs us Q I rx h;obtain⟨O,ds,st,W,r,R⟩:=h;unfold ZdA at R;split at R
 ·rename_i d;obtain⟨v,rfl,rv⟩:=r.one_of;split at R
  ·rename_i zs ez;split at R
   ·rename_i kvs hk;by_cases hok:ZbR kvs=true/\kvs.length<=500
    ·rw[Yf hok] at R;obtain⟨p,vs,rfl,q,rs⟩:=rdL W rv ez;cases rx with
     | cons r0 rt =>
      cases rt;cases r0;obtain⟨its,rv',pl,hz⟩:=I.list q;obtain⟨ks,L,a1,a2,a3,a4,a5,a6⟩:=Zkt I hk hok.1 rs rv';have hLk:∀{ks:List (List Key×V)} {L:List (List Key×Addr×P9)},KT H ks L->∀x∈L,(TK X.prog X.w).is s.heap x.1 x.2.1:=by
       intro ks L t
       induction t with
       | nil=>intro x hx; cases hx
       | @cons p q ps qs hq t ih =>
        intro x hx;rcases Yl.mp hx with e | hx
        ·subst e;exact ZcS I.hok (by rw[<-hq.1]; exact hq.2.1)
        ·exact ih x hx
      refine Zq0 (L:=L) (by omega) (I.ok.hd hc) pl (by simp; omega) (by simpa using a3) (hLk a2) (fun i v e=>a6 i v (by simpa using e)) fun h' tk dd kp => ?_;have hm:(Zbb [] ks).length<=sizeLine:=by
       have h1:=ZkB ks [];rw[Wq] at h1;rw[YG];omega
      have hp:H s.heap.objs.size=none:=I.hok.fresh (Yj _);obtain⟨o,es,ep,g1,g2,g3,g4,g5,g6⟩:=dd;have ktm:KT H (Zbb [] ks) (Zas [] L):=Zjv a2 .nil;refine⟨.ref s.heap.objs.size,_,I.laid (a:=s.heap.objs.size) (o:=.dT (Zbb [] ks)) (t':=tk) kp (Yj _) ⟨hm,QM.mpr (YX (Yp I.big)),_,ktm.keeps fun b ys e=>by rw[Zh (ZG e hp)]; exact e,o,es,ep,g1,g2,g3,g4,g6⟩,rfl,?_⟩;have kpp:Keep X.K O H (O++[s.heap.objs.size]) (upd H s.heap.objs.size (.dT (Zbb [] ks))):=Keep.push hp;exact R (O++[s.heap.objs.size]) _ kpp (W.push' hp ⟨_,ZH,Kvs.mono kpp _ _ (Zij a1 rfl)⟩) _ (Rep.res_i.mpr ⟨s.heap.objs.size,rfl,by rw[<-W.len]; simp⟩)
    ·rw[Yh hok] at R; exact R.elim
   ·exact R.elim
  ·exact R.elim
 ·exact R.elim
end
end DL
end
section
namespace DL
open PySem PySem.Spec PyProof.Rows L2
mutual
def nice:Nat->D->Bool
 | 0,_=>false
 | _+1,.non=>true
 | _+1,.int _=>true
 | _+1,.str _=>true
 | n+1,.tup xs=>Zcj n xs
 | n+1,.lst xs=>Zcj n xs
 | _+1,_=>false
def Zcj:Nat->List D->Bool
 | _,[]=>true
 | n,x :: xs=>nice n x && Zcj n xs
end
theorem Zcp(n:Nat):∀xs:List D,Zcj n xs=true ↔ ∀x∈xs,nice n x=true
 | []=>by simp[Zcj]
 | x :: xs=>by simp[Zcj,Zcp n xs]
open Classical in
theorem ZfU{f:D->D->Option Bool}:∀(xs ys:List D),(∀x∈xs,∀y∈ys,f x y=some (decide (x=y)))->ZY f xs ys=some (decide (xs=ys))
 | [],[],_=>by simp[ZY]
 | [],y :: ys,_=>by simp[ZY]
 | x :: xs,[],_=>by simp[ZY]
 | x :: xs,y :: ys,h=>by
  unfold ZY;rw[h x Yv y Yv,ZfU xs ys fun a ha b hb=>h a (Yo _ ha) b (Yo _ hb)];by_cases h1:x=y <;> by_cases h2:xs=ys <;> simp[h1,h2]
open Classical in
theorem Zb9(st:Sto):∀(n:Nat) (a b:D),nice n a=true->nice n b=true->eqN st n a b=some (decide (a=b))
 | 0,a,b,h,_=>by cases a <;> simp[nice] at h
 | n+1,a,b,ha,hb=>by
  unfold eqN;cases a <;> cases b <;> simp only[nice,YF] at ha hb <;> simp only[kd]
  case tup.tup xs ys =>
   rw[ZfU xs ys fun x hx y hy=>Zb9 st n x y ((Zcp n xs).mp ha x hx) ((Zcp n ys).mp hb y hy)];simp
  case lst.lst xs ys =>
   rw[ZfU xs ys fun x hx y hy=>Zb9 st n x y ((Zcp n xs).mp ha x hx) ((Zcp n ys).mp hb y hy)];simp
  all_goals simp[Bool.beq_eq_decide_eq]
open Classical in
theorem Zmz{a b:D}{st:Sto}(ha:nice depth a=true)(hb:nice depth b=true):eqD a b st = .ok (.bl (decide (a=b))) st:=by
 unfold eqD; rw[Zb9 st depth a b ha hb]
open Classical in
theorem Zit{a b:D}{st:Sto}(ha:nice depth a=true)(hb:nice depth b=true):neD a b st = .ok (.bl (!decide (a=b))) st:=by
 unfold neD; rw[Zb9 st depth a b ha hb]
def pl(ws:List Str):D:=.tup (ws.map .str)
theorem Zo6(n:Nat)(ws:List Str):Zcj (n+1) (ws.map .str)=true:=by
 rw[Zcp];intro x hx;obtain⟨w,_,rfl⟩:=YZ.mp hx;rfl
theorem Zef(n:Nat)(ws:List Str):nice (n+2) (pl ws)=true:=Zo6 n ws
theorem ZkJ(ws:List Str):nice depth (pl ws)=true:=Zef 48 ws
theorem str_inj{ws us:List Str}:ws.map D.str=us.map D.str ↔ ws=us:=by
 constructor
 ·intro h;have:(ws.map D.str).map (fun d=>match d with | .str x=>x | _=>("" : Str))=(us.map D.str).map (fun d=>match d with | .str x=>x | _=>("" : Str)):=by rw[h]
  simpa[YQ,QY] using this
 ·intro h; rw[h]
theorem ZlO{ws us:List Str}:pl ws=pl us ↔ ws=us:=by
 unfold pl;rw[D.tup.injEq];exact str_inj
theorem Zo4(ws us:List Str)(st:Sto):eqD (pl ws) (pl us) st = .ok (.bl (decide (ws=us))) st:=by
 rw[Zmz (ZkJ ws) (ZkJ us)];congr 2;exact decide_eq_decide.mpr ZlO
theorem Zfh(ws:List Str)(st:Sto):ZR [pl ws] st = .ok (.int ws.length) st:=by
 simp[ZR,pl,itemsOf]
theorem Zn7(ws us:List Str)(st:Sto)(h:ws.length+us.length<=small):ZQ (pl ws) (pl us) st = .ok (pl (ws++us)) st:=by
 simp[ZQ,pl,h]
theorem Zgw{α β:Type}(f:α->β)(xs:List α)(lo hi:Option Int):Zab (xs.map f) lo hi=(Zab xs lo hi).map f:=by
 simp[Zab,UY,List.map_drop]
theorem Zi5(ws:List Str)(lo hi:Option Int)(st:Sto):ZcL (pl ws) lo hi st = .ok (pl (Zab ws lo hi)) st:=by
 simp[ZcL,pl,Zgw]
theorem Zdc{α:Type}(xs:List α)(n:Nat):Zab xs none (some (n:Int))=xs.take n:=by
 unfold Zab;rw[HT.sIx_none,HT.sIx_nat,VD,Nat.sub_zero];by_cases h:n<=xs.length
 ·rw[UW h]
 ·rw[Nat.min_eq_right (by omega),Qt,WA (by omega)]
theorem ZkX{α:Type}(xs:List α)(n:Nat):Zab xs (some (n:Int)) none=xs.drop n:=by
 unfold Zab;rw[HT.sIx_none,HT.sIx_nat];by_cases h:n<=xs.length
 ·rw[UW h,WA (by simp)]
 ·rw[Nat.min_eq_right (by omega),Nat.sub_self,VC,List.drop_eq_nil_of_le (by omega)]
theorem Zk7(xs:List D)(st:Sto):ZdW [.lst xs] st = .ok (.tup xs) st:=rfl
theorem ZhU{chk:Sto->Prop}{t:TgD}{fe:DE}{st:Sto}(IE:Ev->Prop)(h:D->D)(hc:chk st):∀(xs:List D) (ρ:Ev) (acc:List D),IE ρ->acc.length+xs.length<=small ->
  (∀x∈xs,∀ρ,IE ρ->∃ρ1,t x ρ=some ρ1/\IE ρ1/\fe ρ1 st = .ok (h x) st)->ZK chk t Zae fe xs ρ st acc = .ok (acc++xs.map h) st
 | [],ρ,acc,_,_,_=>by simp[ZK,hc]
 | x :: xs,ρ,acc,hI,hl,hx=>by
  obtain⟨ρ1,e1,h1,e2⟩:=hx x Yv ρ hI;unfold ZK;rw[Yf ⟨hc,by simp at hl; omega⟩,e1];dsimp only[Zae];rw[e2];dsimp only;rw[ZhU IE h hc xs ρ1 (acc++[h x]) h1 (by simp at hl ⊢; omega) fun y hy=>hx y (Yo _ hy)];simp
theorem ZbG{chk:Sto->Prop}{t:TgD}{g:DS}{ρ:Ev}{st:Sto}(hc:chk st):ZO chk t g [] ρ st = .nx ρ st:=by
 unfold ZO; rw[Yf hc]
theorem ZbM{chk:Sto->Prop}{t:TgD}{g:DS}{x:D}{xs:List D}{ρ ρ1 ρ2:Ev}{st st2:Sto}(hc:chk st)(ht:t x ρ=some ρ1)(hg:g ρ1 st = .nx ρ2 st2):ZO chk t g (x :: xs) ρ st=ZO chk t g xs ρ2 st2:=by
 rw[ZO,if_pos hc,ht]; dsimp only; rw[hg]
theorem ZpX(i j:Int)(h1 : -(2 ^ 64)<j)(h2:j<2 ^ 64):Zb5 i j=true:=by
 unfold Zb5;rw[YN h1,YN h2];simp
theorem Zbx(i j:Int)(h1 : -(2 ^ 64)<i)(h2:i<2 ^ 64):Zb5 i j=true:=by
 unfold Zb5;rw[YN h1,YN h2];simp
theorem mod_int(i j:Int)(st:Sto)(h:0<j):Zbu (.int i) (.int j) st = .ok (.int (i % j)) st:=by
 simp[Zbu,intOp,h]
theorem ZeJ(i j:Int)(st:Sto)(h:0<j)(h2:j<1073741824):Zb1 (.int i) (.int j) st = .ok (.int (i / j)) st:=by
 have e:ZjB i j=true:=@YN (0<j/\j<1073741824) (Classical.propDecidable _) ⟨h,h2⟩;simp[Zb1,intOp,e]
theorem ZbA(a b:Int)(st:Sto):ZQ (.int a) (.int b) st = .ok (.int (a+b)) st:=rfl
theorem ZiX(a b:Int)(st:Sto):ZdJ (.int a) (.int b) st = .ok (.int (a - b)) st:=rfl
section
variable{α β:Type}{ρ:Ev}{st:Sto}{f fa fb fc fo:DE}{ta tb t:DT}{g g':DS}{da:DA}{i:Nat}{G:D->D->Sto->Out D}{H:D->D->Sto->Out (List D)}
@[simp] theorem Z9(a:α)(st:Sto)(k:α->Sto->Out β):(Out.ok a st).bind k=k a st:=rfl
@[simp] theorem ZsE(k:α->Sto->Out β):(Out.bad:Out α).bind k = .bad:=rfl
@[simp] theorem ZbP(a:α)(st:Sto)(k:α->Sto->OutS):(Out.ok a st).to k=k a st:=rfl
@[simp] theorem Zaj:Za i ρ st=match ρ[i]? with
 | some (some d) => .ok d st
 | _ => .bad:=rfl
@[simp] theorem z_C(d:D):dC d ρ st = .ok d st:=rfl
@[simp] theorem ZsW:Zm G fa fb ρ st=(fa ρ st).bind fun x st1=>(fb ρ st1).bind fun y st2=>G x y st2:=rfl
@[simp] theorem ZsK:ZbW H fa fb ρ st=(fa ρ st).bind fun x st1=>(fb ρ st1).bind fun y st2=>H x y st2:=rfl
@[simp] theorem z_B:dB f ρ st=(f ρ st).bind asB:=rfl
@[simp] theorem ZsJ(b:Bool):asB (.bl b) st = .ok b st:=rfl
@[simp] theorem ZsF(b:Int):Ze6 (.int b) st = .ok (some b) st:=rfl
@[simp] theorem ZsB:Zgd ta tb ρ st=(ta ρ st).bind fun x st1=>if x=true then tb ρ st1 else .ok false st1:=rfl
@[simp] theorem ZsN:dOr ta tb ρ st=(ta ρ st).bind fun x st1=>if x=true then .ok true st1 else tb ρ st1:=rfl
@[simp] theorem ZoH:Zi ρ st = .ok [] st:=rfl
@[simp] theorem Zo3:Zc f da ρ st=(f ρ st).bind fun x st1=>(da ρ st1).bind fun xs st2 => .ok (x :: xs) st2:=rfl
@[simp] theorem ZsV:Zdx da ρ st=(da ρ st).bind fun xs st1=>if xs.length<=small then .ok (.tup xs) st1 else .bad:=rfl
@[simp] theorem ZsO:Zbv da ρ st=(da ρ st).bind fun xs st1=>if xs.length<=small then .ok xs st1 else .bad:=rfl
@[simp] theorem z_F:dF da ρ st=(da ρ st).bind fun xs st1 => .ok (.lst xs) st1:=rfl
@[simp] theorem Zst{γ:D->Option Int->Option Int->Sto->Out α}{l h:DO}:dSl γ f l h ρ st=(f ρ st).bind fun x st1=>(l ρ st1).bind fun lo st2=>(h ρ st2).bind fun hi st3=>γ x lo hi st3:=rfl
@[simp] theorem Zsp:Zaw ρ st = .ok none st:=rfl
@[simp] theorem ZsA:Zav f ρ st=(f ρ st).bind Ze6:=rfl
@[simp] theorem ZsY{γ:List D->Sto->Out α}:Zl γ da ρ st=(da ρ st).bind γ:=rfl
@[simp] theorem ZsQ{caps:List Nat}{nT:Nat}{fi:DI}{tg:TgD}:ZaB caps nT fi tg t f ρ st=(fi ρ st).bind fun q st1=>ZK q.2 tg t f q.1 (Z1 ρ caps nT) st1 []:=rfl
@[simp] theorem ZsG:Zag f ρ st=(f ρ st).bind fun d st1=>match itemsOf st1 d with
 | some xs => .ok (xs,fun st=>itemsOf st d=some xs) st1
 | none => .bad:=rfl
@[simp] theorem ZsI:Zcu f ρ st=(f ρ st).bind fun d st1=>match d with
 | .int i => .ok (.int (-i)) st1
 | _ => .bad:=rfl
@[simp] theorem Zsz:ZaI ρ st = .nx ρ st:=rfl
@[simp] theorem ZsH:Zu g g' ρ st=match g ρ st with
 | .nx ρ' st'=>g' ρ' st'
 | r=>r:=rfl
@[simp] theorem ZsD:Ze5 f ρ st=(f ρ st).to fun _ st1 => .nx ρ st1:=rfl
@[simp] theorem Zss:ZN f ρ st=(f ρ st).to fun d st1 => .rt d st1:=rfl
@[simp] theorem Zsu:sIf t g g' ρ st=(t ρ st).to fun x st1=>if x=true then g ρ st1 else g' ρ st1:=rfl
@[simp] theorem ZsX:ZE i f ρ st=(f ρ st).to fun d st1 => .nx (ρ.set i (some d)) st1:=rfl
@[simp] theorem ZsU:Zdg i da ρ st=(da ρ st).to fun ds st1 => .nx (ρ.set i (some (.res st1.length))) (st1++[.lst ds]):=rfl
@[simp] theorem Zb7{fi:DI}{tg:TgD}:ZbN fi tg g ρ st=(fi ρ st).to fun q st1=>ZO q.2 tg g q.1 ρ st1:=rfl
@[simp] theorem ZnJ{N n:Nat}{ds:List D}:ZL N n g ds st=if ds.length=n then (match g (ds.map some++List.replicate (N - n) none) st with
 | .nx _ st' => .ok .non st'
 | .rt d st' => .ok d st'
 | _ => .bad) else .bad:=rfl
@[simp] theorem Zsw(a b:Int)(st:Sto):ZQ (.int a) (.int b) st = .ok (.int (a+b)) st:=rfl
@[simp] theorem Zso(a b:Int)(st:Sto):ZdJ (.int a) (.int b) st = .ok (.int (a - b)) st:=rfl
theorem Zad{n:Nat}(h:n<=1000):n<=small:=YL h (by decide)
@[simp] theorem ZsR:(0:Nat)<=small:=YU _
@[simp] theorem ZsM:(1:Nat)<=small:=by decide
@[simp] theorem Zsr:(2:Nat)<=small:=by decide
@[simp] theorem ZsP:(3:Nat)<=small:=by decide
@[simp] theorem Zsv:(4:Nat)<=small:=by decide
@[simp] theorem ZsC:(5:Nat)<=small:=by decide
@[simp] theorem Zsq:(6:Nat)<=small:=by decide
end
end DL
end
section
namespace K61
open PySem L2 DL
def top(i:Nat):Stmt:=PySem.Challenge.pw_cardplaces_k61_whole_visits.main.body.getD i (.Pass ⟨0,0,0,0⟩)
noncomputable abbrev ZcI:Stmt:=top 13
theorem ZnO:FnScope ["_law_script", "_law_k"] ["_law_script", "_law_k"] (Ze ZcI):=⟨rfl,rfl,rfl,by decide +kernel,rfl,by decide +kernel,by decide +kernel⟩
def ZkH:DS:=(Zu (sIf (dB (Zm eqD (Za 0) (dF (Zbv Zi)))) (ZN (Zm Zal (dC (.int 7)) (Za 1))) ZaI) (ZN (Zm ZQ (Zm ixD (Za 0) (Zm Zbu (Za 1) (Zl ZR (Zc (Za 0) Zi)))) (Zm Zal (dC (.int 6553)) (Zm Zb1 (Za 1) (Zl ZR (Zc (Za 0) Zi)))))))
def Zcx:FD:=ZL 2 2 (ZkH)
noncomputable abbrev ZcB:Stmt:=top 14
theorem scz_law_drawn:FnScope ["_law_script", "_law_k", "_law_many", "_law_cell_here"] ["_law_script", "_law_k", "_law_many"] (Ze ZcB):=⟨rfl,rfl,rfl,by decide +kernel,rfl,by decide +kernel,by decide +kernel⟩
def Zh8:DS:=(Zu (ZE 3 (Zm Zbu (Zm ZQ (Zm Zal (Zm Zbu (Zl Zcx (Zc (Za 0) (Zc (Za 1) Zi))) (dC (.int 2147483563))) (dC (.int 69069))) (Zm Zal (dC (.int 104723)) (Zm ZQ (Za 1) (dC (.int 1))))) (dC (.int 2147483563)))) (Zu (ZE 3 (Zm Zbu (Zm ZQ (Zm Zal (Za 3) (Za 3)) (Zm Zb1 (Za 3) (dC (.int 3)))) (dC (.int 2147483399)))) (ZN (Zm Zbu (Zm Zb1 (Zm Zbu (Zm ZQ (Zm Zal (Za 3) (Za 3)) (Zm Zb1 (Za 3) (dC (.int 7)))) (dC (.int 2147483647))) (dC (.int 11))) (Za 2)))))
def Za2:FD:=ZL 4 3 (Zh8)
noncomputable abbrev Zce:Stmt:=top 15
theorem ZoR:FnScope ["_law_script", "_law_at"] ["_law_script", "_law_at"] (Ze Zce):=⟨rfl,rfl,rfl,by decide +kernel,rfl,by decide +kernel,by decide +kernel⟩
def ZfC:DE:=(Zm ixD (dC (.str "abc")) (Zl Za2 (Zc (Za 1) (Zc (Zm ZQ (Zm ZQ (Za 2) (dC (.int 1))) (Za 0)) (Zc (dC (.int 3)) Zi)))))
def Ziq:DS:=(ZN (Zl ZdW (Zc (dF (ZaB [0,1] 1 (ZbB (Zc (Zl Za2 (Zc (Za 0) (Zc (Za 1) (Zc (dC (.int 4)) Zi)))) Zi)) (Zz 0) Zae ZfC)) Zi)))
def Zbk:FD:=ZL 2 2 (Ziq)
noncomputable abbrev ZbD:Stmt:=top 16
theorem scz_law_places:FnScope ["_law_script", "_law_at", "_law_some"] ["_law_script", "_law_at"] (Ze ZbD):=⟨rfl,rfl,rfl,by decide +kernel,rfl,by decide +kernel,by decide +kernel⟩
def Zfk:DE:=(Zl Zbk (Zc (Za 1) (Zc (Zm ZQ (Zm ZQ (Za 2) (dC (.int 1))) (Zm Zal (dC (.int 5)) (Za 0))) Zi)))
def ZgX:DE:=(Zm ixD (Za 1) (Zl Za2 (Zc (Za 2) (Zc (Zm ZQ (Zm ZQ (Za 3) (dC (.int 30))) (Za 0)) (Zc (dC (.int 4)) Zi)))))
def Zko:DS:=(Zu (ZE 2 (dF (ZaB [0,1] 1 (ZbB (Zc (dC (.int 4)) Zi)) (Zz 0) Zae Zfk))) (ZN (dF (ZaB [2,0,1] 1 (ZbB (Zc (Zl Za2 (Zc (Za 0) (Zc (Za 1) (Zc (dC (.int 10)) Zi)))) Zi)) (Zz 0) Zae ZgX))))
def Zbt:FD:=ZL 3 2 (Zko)
noncomputable abbrev ZcJ:Stmt:=top 3
theorem scztrail:FnScope ["places", "told", "place"] ["places"] (Ze ZcJ):=⟨rfl,rfl,rfl,by decide +kernel,rfl,by decide +kernel,by decide +kernel⟩
def Zdr:DS:=(sIf (dB (Zm inD (Za 2) (Za 1))) (Zdg 1 (dSl ZZ (Za 1) Zaw (Zav (Zm ZQ (dLM Zdv (Za 1) (Zc (Za 2) Zi)) (dC (.int 1)))))) (Ze5 (Zet (Za 1) (Za 2))))
def ZfP:DS:=(Zu (Zdg 1 (Zbv Zi)) (Zu (ZbN (Zag (Za 0)) (Zz 2) Zdr) (ZN (Za 1))))
def ZaJ:FD:=ZL 3 1 (ZfP)
noncomputable abbrev Zcy:Stmt:=top 4
theorem sczcounts:FnScope ["places", "many", "place"] ["places"] (Ze Zcy):=⟨rfl,rfl,rfl,by decide +kernel,rfl,by decide +kernel,by decide +kernel⟩
def Zca:DS:=(ZcN (Za 1) (Za 2) (Zm ZQ (Zar (Za 1) (Za 2) (dC (.int 0))) (dC (.int 1))))
def Zdz:DS:=(Zu (ZE 1 Zbo) (Zu (ZbN (Zag (Za 0)) (Zz 2) Zca) (ZN (Za 1))))
def Zao:FD:=ZL 3 1 (Zdz)
noncomputable abbrev ZcO:Stmt:=top 5
theorem sczlast_first:FnScope ["places", "once", "place"] ["places"] (Ze ZcO):=⟨rfl,rfl,rfl,by decide +kernel,rfl,by decide +kernel,by decide +kernel⟩
def ZeS:DS:=(ZcN (Za 1) (Za 2) (dC (.bl true)))
def Zgx:DS:=(Zu (ZE 1 Zbo) (Zu (ZbN (Zfj (Za 0)) (Zz 2) ZeS) (ZN (dF (Zl ZdM (Zc (Za 1) Zi))))))
def Zbn:FD:=ZL 3 1 (Zgx)
noncomputable abbrev Zc9:Stmt:=top 6
theorem ZpB:FnScope ["places", "most"] ["places", "most"] (Ze Zc9):=⟨rfl,rfl,rfl,by decide +kernel,rfl,by decide +kernel,by decide +kernel⟩
def Zj5:DS:=(ZN (dF (dSl ZZ (Za 0) Zaw (Zav (Zl Zdm (Zc (Za 1) (Zc (dC (.int 0)) Zi)))))))
def ZbL:FD:=ZL 2 2 (Zj5)
noncomputable abbrev ZcX:Stmt:=top 7
theorem Zsj:FnScope ["places", "most"] ["places", "most"] (Ze ZcX):=⟨rfl,rfl,rfl,by decide +kernel,rfl,by decide +kernel,by decide +kernel⟩
def Zjm:DS:=(ZN (Zl ZbL (Zc (Zl Zbn (Zc (Za 0) Zi)) (Zc (Za 1) Zi))))
def ZaV:FD:=ZL 2 2 (Zjm)
noncomputable abbrev ZcY:Stmt:=top 8
theorem sczoftenest:FnScope ["places", "most", "many"] ["places", "most"] (Ze ZcY):=⟨rfl,rfl,rfl,by decide +kernel,rfl,by decide +kernel,by decide +kernel⟩
def ZgK(cv:Nat->Addr):DS:=(Zu (ZE 2 (Zl Zao (Zc (Za 0) Zi))) (ZN (Zl ZbL (Zc (dF (Zes (cv 90) 2 (Zl Zbn (Zc (Za 0) Zi)))) (Zc (Za 1) Zi)))))
def Zb4(cv:Nat->Addr):FD:=ZL 3 2 (ZgK cv)
noncomputable abbrev ZcT:Stmt:=top 1
theorem Zrd:FnScope ["place", "other"] ["place", "other"] (Ze ZcT):=⟨rfl,rfl,rfl,by decide +kernel,rfl,by decide +kernel,by decide +kernel⟩
def ZhR:DS:=(ZN (Zm eqD (dSl ZcL (Za 0) Zaw (Zav (Zl ZR (Zc (Za 1) Zi)))) (Za 1)))
def ZbC:FD:=ZL 2 2 (ZhR)
noncomputable abbrev Zcg:Stmt:=top 9
theorem Znq:FnScope ["places", "other"] ["places", "other"] (Ze Zcg):=⟨rfl,rfl,rfl,by decide +kernel,rfl,by decide +kernel,by decide +kernel⟩
def Zfd:DE:=(Za 0)
def Zfr:DT:=(dB (Zl ZbC (Zc (Za 0) (Zc (Za 1) Zi))))
def Zh7:DS:=(ZN (Zl ZR (Zc (dF (ZaB [1] 1 (Zag (Za 0)) (Zz 0) Zfr Zfd)) Zi)))
def ZaS:FD:=ZL 2 2 (Zh7)
noncomputable abbrev Zc2:Stmt:=top 4
theorem sczcounts_on_K:FnScope ["places", "many", "place"] ["places"] (Ze Zc2):=⟨rfl,rfl,rfl,by decide +kernel,rfl,by decide +kernel,by decide +kernel⟩
def ZeL:DS:=(ZcN (Za 1) (Za 2) (Zm ZQ (Zar (Za 1) (Za 2) (dC (.int 0))) (dC (.int 1))))
def ZfV:DS:=(Zu (ZE 1 ZdU) (Zu (ZbN (Zag (Za 0)) (Zz 2) ZeL) (ZN (Za 1))))
def Zcb:FD:=ZL 3 1 (ZfV)
noncomputable abbrev Zcd:Stmt:=top 10
theorem sczbranches:FnScope ["places", "other", "length", "words"] ["places", "other"] (Ze Zcd):=⟨rfl,rfl,rfl,by decide +kernel,rfl,by decide +kernel,by decide +kernel⟩
def ZgI:DE:=(Zm ixD (Za 0) (Za 1))
def Zfx:DT:=(Zgd (dB (Zl ZbC (Zc (Za 0) (Zc (Za 2) Zi)))) (dB (Zm gtD (Zl ZR (Zc (Za 0) Zi)) (Za 1))))
def Zh5:DS:=(Zu (ZE 2 (Zl ZR (Zc (Za 1) Zi))) (Zu (ZE 3 (dF (ZaB [2,1] 1 (Zag (Za 0)) (Zz 0) Zfx ZgI))) (ZN (dF (ZdQ (Zl Zcb (Zc (Za 3) Zi)))))))
def Zch:FD:=ZL 4 2 (Zh5)
noncomputable abbrev ZcA:Stmt:=top 11
theorem sczstays:FnScope ["places", "moments", "end", "told", "ends", "place", "moment", "until"] ["places", "moments", "end"] (Ze ZcA):=⟨rfl,rfl,rfl,by decide +kernel,rfl,by decide +kernel,by decide +kernel⟩
def ZdY:DS:=(ZcN (Za 3) (Za 5) (Zm ZdJ (Zm ZQ (Zar (Za 3) (Za 5) (dC (.int 0))) (Za 7)) (Za 6)))
def ZfQ:DS:=(Zu (ZE 3 Zbo) (Zu (ZE 4 (dF (ZbW Zat (dF (Zl Zdh (Zc (dF (dSl ZZ (Za 1) (Zav (dC (.int 1))) Zaw)) Zi))) (dF (Zbv (Zc (Za 2) Zi)))))) (Zu (ZbN (Zd6 (Zc (Za 0) (Zc (Za 1) (Zc (Za 4) Zi)))) (Za7 [5,6,7]) ZdY) (ZN (Za 3)))))
def ZcH:FD:=ZL 8 3 (ZfQ)
noncomputable abbrev Zk:Stmt:=top 17
theorem sczlaw:FnScope ["_law_script", "_law_places_here", "_law_more", "_law_row", "_law_every", "_law_both", "_law_place_here", "_law_last", "_law_tops", "_law_other", "_law_some", "_law_word", "_law_many", "_law_moments", "_law_told"] ["_law_script"] (Ze Zk):=⟨rfl,rfl,rfl,by decide +kernel,rfl,by decide +kernel,by decide +kernel⟩
def Zh2:Stmt:=(Zt Zk).getD 0 (.Pass ⟨0,0,0,0⟩)
def ZkV:Stmt:=(Zt Zk).getD 1 (.Pass ⟨0,0,0,0⟩)
def Zhb:Stmt:=(Zt Zk).getD 2 (.Pass ⟨0,0,0,0⟩)
def Zkx:Stmt:=(Zt Zk).getD 3 (.Pass ⟨0,0,0,0⟩)
def Zik:Stmt:=(Zt Zk).getD 4 (.Pass ⟨0,0,0,0⟩)
def Zjq:Stmt:=(Zt Zk).getD 5 (.Pass ⟨0,0,0,0⟩)
def Zg1:Stmt:=(Zt Zk).getD 6 (.Pass ⟨0,0,0,0⟩)
def ZkC:Stmt:=(Zt Zk).getD 7 (.Pass ⟨0,0,0,0⟩)
def ZiQ:Stmt:=(Zt Zk).getD 8 (.Pass ⟨0,0,0,0⟩)
def ZiW:Stmt:=(Zt Zk).getD 9 (.Pass ⟨0,0,0,0⟩)
def Zj7:Stmt:=(Zt Zk).getD 10 (.Pass ⟨0,0,0,0⟩)
def ZiK:Stmt:=(Zt Zk).getD 11 (.Pass ⟨0,0,0,0⟩)
def Zks:Stmt:=(Zt Zk).getD 12 (.Pass ⟨0,0,0,0⟩)
def Zky:Stmt:=(Zt Zk).getD 13 (.Pass ⟨0,0,0,0⟩)
def Zkf:Stmt:=(Zt Zk).getD 14 (.Pass ⟨0,0,0,0⟩)
def Zhu:Stmt:=(Zt Zk).getD 15 (.Pass ⟨0,0,0,0⟩)
def Zis:Stmt:=(Zt Zk).getD 16 (.Pass ⟨0,0,0,0⟩)
def ZiZ:Stmt:=(Zt Zk).getD 17 (.Pass ⟨0,0,0,0⟩)
def Ziz:Stmt:=(Zt Zk).getD 18 (.Pass ⟨0,0,0,0⟩)
def ZhJ:Stmt:=(Zt Zk).getD 19 (.Pass ⟨0,0,0,0⟩)
def ZhQ:Stmt:=(Zt Zk).getD 20 (.Pass ⟨0,0,0,0⟩)
def Zfn:DS:=(ZE 1 (Zl Zbt (Zc (Za 0) (Zc (dC (.int 0)) Zi))))
def ZfM:DS:=(ZE 2 (Zl Zbt (Zc (Za 0) (Zc (dC (.int 100)) Zi))))
def Zfv:DS:=(ZE 3 (Zl ZaJ (Zc (Za 1) Zi)))
def Zex:DS:=(sIf (dOr (dB (Zm neD (dF (dSl ZZ (Za 3) Zaw (Zav (dC (.int 1))))) (dF (dSl ZZ (Za 1) Zaw (Zav (dC (.int 1))))))) (dOr (dB (Zm neD (dF (dSl ZZ (Za 3) (Zav (Zcu (dC (.int 1)))) Zaw)) (dF (dSl ZZ (Za 1) (Zav (Zcu (dC (.int 1)))) Zaw)))) (dOr (dB (Zm neD (Zl Zdj (Zc (Za 3) Zi)) (Zl ZR (Zc (Za 3) Zi)))) (dB (Zm neD (Zl ZaJ (Zc (Za 3) Zi)) (Za 3)))))) (ZN (dC (.bl false))) ZaI)
def ZgJ:DE:=(Za 0)
def ZfT:DT:=(dB (Zm ZdH (Za 0) (Za 1)))
def ZeE:DS:=(sIf (dOr (dB (Zm neD (Zl ZaJ (Zc (dF (ZbW Zat (Za 1) (Za 2))) Zi)) (Zl ZaJ (Zc (dF (ZbW Zat (Za 3) (Za 2))) Zi)))) (dB (Zm neD (dF (ZaB [1] 1 (Zag (Za 3)) (Zz 0) ZfT ZgJ)) (dF (Zbv Zi))))) (ZN (dC (.bl false))) ZaI)
def Zgo:DS:=(ZE 4 (Zl Zao (Zc (Za 1) Zi)))
def Zd1:DS:=(sIf (dOr (dB (Zm neD (Zeq (Za 4)) (Zl ZR (Zc (Za 1) Zi)))) (dB (Zm neD (dF (Zl ZbE (Zc (Za 4) Zi))) (dF (Zl Zds (Zc (Za 1) Zi)))))) (ZN (dC (.bl false))) ZaI)
def Zgn:DS:=(ZE 5 (Zl Zao (Zc (dF (ZbW Zat (Za 1) (Za 2))) Zi)))
def ZeA:DS:=(sIf (dB (Zm neD (Zci (Za 5) (Za 6)) (Zm ZQ (Zar (Za 4) (Za 6) (dC (.int 0))) (Zar (Zl Zao (Zc (Za 2) Zi)) (Za 6) (dC (.int 0)))))) (ZN (dC (.bl false))) ZaI)
def ZeV:DS:=(Ze1 (Za 5) (Zz 6) ZeA)
def ZfY:DS:=(ZE 7 (Zl ZaV (Zc (Za 1) (Zc (dC (.int 99)) Zi))))
def Zed:DS:=(sIf (dOr (dB (Zm neD (dF (Zl Zb8 (Zc (Za 7) Zi))) (dF (Zl ZbE (Zc (Za 4) Zi))))) (dOr (dB (Zm neD (dF (dSl ZZ (Za 7) Zaw (Zav (dC (.int 1))))) (dF (dSl ZZ (Za 1) (Zav (Zcu (dC (.int 1)))) Zaw)))) (dB (Zm neD (Zl ZaV (Zc (Za 1) (Zc (dC (.int 0)) Zi))) (dF (Zbv Zi)))))) (ZN (dC (.bl false))) ZaI)
def Zgs(cv:Nat->Addr):DS:=(ZE 8 (Zl (Zb4 cv) (Zc (Za 1) (Zc (dC (.int 99)) Zi))))
def Ze2:DE:=(Zci (Za 1) (Za 0))
def ZeD:DS:=(sIf (dOr (dB (Zm neD (dF (Zl Zb8 (Zc (Za 8) Zi))) (dF (Zl Zb8 (Zc (Za 7) Zi))))) (dB (Zm neD (dF (ZaB [4] 1 (Zag (Za 8)) (Zz 0) Zae Ze2)) (dF (Ze7 (dF (ZdN (Za 4))) (Zcu (dC (.int 1)))))))) (ZN (dC (.bl false))) ZaI)
def Zeg:DS:=(sIf (dB (Zm neD (Zl ZaS (Zc (Za 1) (Zc (Zdx Zi) Zi))) (Zl ZR (Zc (Za 1) Zi)))) (ZN (dC (.bl false))) ZaI)
def ZgB:DS:=(ZE 9 (dSl ZcL (Zl Zbk (Zc (Za 0) (Zc (dC (.int 50)) Zi))) Zaw (Zav (dC (.int 1)))))
def Zff:DS:=(ZE 10 (Zl Zch (Zc (Za 1) (Zc (Za 9) Zi))))
def ZgF:DE:=(Za 1)
def Zd5:DS:=(sIf (dB (Zm neD (Zl Zdf (Zc (dF (ZaB [] 2 (Zag (Za 10)) (Za7 [0,1]) Zae ZgF)) Zi)) (Zm ZdJ (Zl ZaS (Zc (Za 1) (Zc (Za 9) Zi))) (Zar (Za 4) (Za 9) (dC (.int 0)))))) (ZN (dC (.bl false))) ZaI)
def Zd7:DS:=(sIf (dB (Zm neD (Zl ZaS (Zc (Za 1) (Zc (Zm ZQ (Za 9) (Zdx (Zc (Za 11) Zi))) Zi))) (Za 12))) (ZN (dC (.bl false))) ZaI)
def Zem:DS:=(ZbN (Zag (Za 10)) (Za7 [11,12]) Zd7)
def Zf4:DE:=(Zm Zal (dC (.int 3)) (Za 0))
def Zfe:DS:=(ZE 13 (dF (ZaB [] 1 (ZbB (Zc (Zl ZR (Zc (Za 1) Zi)) Zi)) (Zz 0) Zae Zf4)))
def ZfD:DS:=(ZE 14 (Zl ZcH (Zc (Za 1) (Zc (Za 13) (Zc (Zm Zal (dC (.int 3)) (Zl ZR (Zc (Za 1) Zi))) Zi)))))
def Zf8:DE:=(Zdx (Zc (Za 0) (Zc (Zm Zal (dC (.int 3)) (Zci (Za 1) (Za 0))) Zi)))
def Zd2:DS:=(ZN (Zm ZdL (Za 14) (Zl ZdA (Zc (dF (Zey [4] 1 (Za 4) (Zz 0) Zae Zf8)) Zi))))
def Zfb(cv:Nat->Addr):DS:=(Zu Zfn (Zu ZfM (Zu Zfv (Zu Zex (Zu ZeE (Zu Zgo (Zu Zd1 (Zu Zgn (Zu ZeV (Zu ZfY (Zu Zed (Zu (Zgs cv) (Zu ZeD (Zu Zeg (Zu ZgB (Zu Zff (Zu Zd5 (Zu Zem (Zu Zfe (Zu ZfD Zd2))))))))))))))))))))
def ZdK(cv:Nat->Addr):FD:=ZL 15 1 (Zfb cv)
section
variable{P:P7}{w:World}{K:P5}{mg:Str->Option P9}{base:Heap}{cv:Nat->Addr}
theorem ZoX{f:Addr}{fd:P8}(F:Fun K "_law_cell" "_law_cell" ZcI f fd)(hm:mg "_law_cell" = some (.ref f))(hb:Binds K fd ["_law_script", "_law_k"] [])(b_len:mg "len" = none):FnAt P w K mg base "_law_cell" 1 Zcx :=
 fnAt (k:=0) F ZnO hm hb fun cdv A outer s H E hr=>(Zy (ZaR (Z5 (Zi3 hr.units) (Zb 0) (ZA (Zdb Zn))) (ZD (ZP (Zw Za8 Zr (Zb 1)))) Zbd) (ZD (ZP (Zw Zai (Zea (Zb 0) (Zw Zcv (Zb 1) (ZaD ZaM rfl b_len WD (Zf (Zb 0) Zn)))) (Zw Za8 Zr (Zw ZeF (Zb 1) (ZaD ZaM rfl b_len WD (Zf (Zb 0) Zn))))))))
theorem Zp7{f:Addr}{fd:P8}(F:Fun K "_law_drawn" "_law_drawn" ZcB f fd)(hm:mg "_law_drawn" = some (.ref f))(hb:Binds K fd ["_law_script", "_law_k", "_law_many"] [])(hz_law_cell:FnAt P w K mg base "_law_cell" 1 Zcx):FnAt P w K mg base "_law_drawn" 2 Za2 :=
 fnAt (k:=1) F scz_law_drawn hm hb fun cdv A outer s H E hr=>(Zy (Z6 3 scz_law_drawn.nd rfl (by first | exact Or.inl rfl | exact Or.inr rfl) (Zw Zcv (Zw Zai (Zw Za8 (Zw Zcv (ZF hz_law_cell hr (by decide) rfl (Zf (Zb 0) (Zf (Zb 1) Zn))) Zr) Zr) (Zw Za8 Zr (Zw Zai (Zb 1) Zr))) Zr)) (Zy (Z6 3 scz_law_drawn.nd rfl (by first | exact Or.inl rfl | exact Or.inr rfl) (Zw Zcv (Zw Zai (Zw Za8 (Zb 3) (Zb 3)) (Zw ZeF (Zb 3) Zr)) Zr)) (ZD (ZP (Zw Zcv (Zw ZeF (Zw Zcv (Zw Zai (Zw Za8 (Zb 3) (Zb 3)) (Zw ZeF (Zb 3) Zr)) Zr) Zr) (Zb 2))))))
theorem ZmD{f:Addr}{fd:P8}(F:Fun K "_law_place" "_law_place" Zce f fd)(hm:mg "_law_place" = some (.ref f))(hb:Binds K fd ["_law_script", "_law_at"] [])(b_range:mg "range" = none)(b_tuple:mg "tuple" = none)(hz_law_drawn:FnAt P w K mg base "_law_drawn" 2 Za2):FnAt P w K mg base "_law_place" 3 Zbk :=
 fnAt (k:=2) F ZoR hm hb fun cdv A outer s H E hr=>(ZD (ZP (Zkb Zo7 rfl b_tuple PyProof.Rows.boot_tuple (Zf (ZA (Zb0 rfl ⟨Blk.of (N:=["_law_k", "_law_script", "_law_at"]) (caps:=[0,1]) (nT:=1) (by show ZaQ (Ze Zce) _ ["_law_script", "_law_at"] _ _ _=true; decide +kernel),fun _ _ _ _=>(Zax 0 (by show (["_law_k", "_law_script", "_law_at"]:List Str).Nodup; decide +kernel) rfl (by first | exact Or.inl rfl | exact Or.inr rfl)),fun _ _ _ _=>Zcc,fun _ _ _ _=>(Zea ZpQ (ZF hz_law_drawn hr (by decide) rfl (Zf (Zb 1) (Zf (Zw Zai (Zw Zai (Zb 2) Zr) (Zb 0)) (Zf Zr Zn)))))⟩ (ZeH rfl b_range (Zf (ZF hz_law_drawn hr (by decide) rfl (Zf (Zb 0) (Zf (Zb 1) (Zf Zr Zn)))) Zn)))) Zn))))
theorem ZmV{f:Addr}{fd:P8}(F:Fun K "_law_places" "_law_places" ZbD f fd)(hm:mg "_law_places" = some (.ref f))(hb:Binds K fd ["_law_script", "_law_at"] [])(b_range:mg "range" = none)(hz_law_drawn:FnAt P w K mg base "_law_drawn" 2 Za2)(hz_law_place:FnAt P w K mg base "_law_place" 3 Zbk):FnAt P w K mg base "_law_places" 4 Zbt :=
 fnAt (k:=3) F scz_law_places hm hb fun cdv A outer s H E hr=>(Zy (Z6 2 scz_law_places.nd rfl (.inr rfl) (ZA (Zb0 rfl ⟨Blk.of (N:=["_law_k", "_law_script", "_law_at"]) (caps:=[0,1]) (nT:=1) (by show ZaQ (Ze ZbD) _ ["_law_script", "_law_at", "_law_some"] _ _ _=true; decide +kernel),fun _ _ _ _=>(Zax 0 (by show (["_law_k", "_law_script", "_law_at"]:List Str).Nodup; decide +kernel) rfl (by first | exact Or.inl rfl | exact Or.inr rfl)),fun _ _ _ _=>Zcc,fun _ _ _ _=>(ZF hz_law_place hr (by decide) rfl (Zf (Zb 1) (Zf (Zw Zai (Zw Zai (Zb 2) Zr) (Zw Za8 Zr (Zb 0))) Zn)))⟩ (ZeH rfl b_range (Zf Zr Zn))))) (ZD (ZP (ZA (Zb0 rfl ⟨Blk.of (N:=["_law_k", "_law_some", "_law_script", "_law_at"]) (caps:=[2,0,1]) (nT:=1) (by show ZaQ (Ze ZbD) _ ["_law_script", "_law_at", "_law_some"] _ _ _=true; decide +kernel),fun _ _ _ _=>(Zax 0 (by show (["_law_k", "_law_some", "_law_script", "_law_at"]:List Str).Nodup; decide +kernel) rfl (by first | exact Or.inl rfl | exact Or.inr rfl)),fun _ _ _ _=>Zcc,fun _ _ _ _=>(Zea (Zb 1) (ZF hz_law_drawn hr (by decide) rfl (Zf (Zb 2) (Zf (Zw Zai (Zw Zai (Zb 3) Zr) (Zb 0)) (Zf Zr Zn)))))⟩ (ZeH rfl b_range (Zf (ZF hz_law_drawn hr (by decide) rfl (Zf (Zb 0) (Zf (Zb 1) (Zf Zr Zn)))) Zn)))))))
theorem Zlb{f:Addr}{fd:P8}(F:Fun K "trail" "trail" ZcJ f fd)(hm:mg "trail" = some (.ref f))(hb:Binds K fd ["places"] [])  : FnAt P w K mg base "trail" 1 ZaJ :=
 fnAt (k:=0) F scztrail hm hb fun cdv A outer s H E hr=>(Zy (ZhI 1 scztrail.nd rfl (by first | exact Or.inl rfl | exact Or.inr rfl) (Zdb Zn)) (Zy (Zc4 QD rfl (Zbi (Zb 0)) (Zax 2 scztrail.nd rfl (by first | exact Or.inl rfl | exact Or.inr rfl)) (ZD (ZaR (Z5 (ZrQ hr.units) (Zb 2) (Zb 1)) (ZD (ZhI 1 scztrail.nd rfl (by first | exact Or.inl rfl | exact Or.inr rfl) (Zbs Zbh (Zb 1) ZaU (ZaW (Zw Zai (ZrX PySem.F.slot_list_index PySem.F.type_list_index (ZrF hr.units) (Zb 1) (Zf (Zb 2) Zn)) Zr))))) (ZD (ZlF (Zni (Zb 1) (Zb 2))))))) (ZD (ZP (Zb 1)))))
theorem Zom{f:Addr}{fd:P8}(F:Fun K "counts" "counts" Zcy f fd)(hm:mg "counts" = some (.ref f))(hb:Binds K fd ["places"] [])  : FnAt P w K mg base "counts" 1 Zao :=
 fnAt (k:=0) F sczcounts hm hb fun cdv A outer s H E hr=>(Zy (Z6 1 sczcounts.nd rfl (by first | exact Or.inl rfl | exact Or.inr rfl) ZgS) (Zy (Zc4 QD rfl (Zbi (Zb 0)) (Zax 2 sczcounts.nd rfl (by first | exact Or.inl rfl | exact Or.inr rfl)) (ZD (ZeP hr.units (Zb 1) (Zb 2) (Zw Zai (ZcU hr.units (Zb 1) (Zb 2) Zr) Zr)))) (ZD (ZP (Zb 1)))))
theorem ZoY{f:Addr}{fd:P8}(F:Fun K "last_first" "last_first" ZcO f fd)(hm:mg "last_first" = some (.ref f))(hb:Binds K fd ["places"] [])(b_list:mg "list" = none)(b_reversed:mg "reversed" = none):FnAt P w K mg base "last_first" 1 Zbn :=
 fnAt (k:=0) F sczlast_first hm hb fun cdv A outer s H E hr=>(Zy (Z6 1 sczlast_first.nd rfl (by first | exact Or.inl rfl | exact Or.inr rfl) ZgS) (Zy (Zc4 QD rfl (Zra rfl b_reversed (Zb 0)) (Zax 2 sczlast_first.nd rfl (by first | exact Or.inl rfl | exact Or.inr rfl)) (ZD (ZeP hr.units (Zb 1) (Zb 2) ZaX))) (ZD (ZP (ZA (Zkk (Zre rfl) rfl b_list PyProof.Rows.boot_list (Zf (Zb 1) Zn)))))))
theorem Zrs{f:Addr}{fd:P8}(F:Fun K "at_most" "at_most" Zc9 f fd)(hm:mg "at_most" = some (.ref f))(hb:Binds K fd ["places", "most"] [])(b_max:mg "max" = none):FnAt P w K mg base "at_most" 1 ZbL :=
 fnAt (k:=0) F ZpB hm hb fun cdv A outer s H E hr=>(ZD (ZP (ZA (Zbs Zbh (Zb 0) ZaU (ZaW (ZaD (ZrR rfl) rfl b_max PyProof.Rows.boot_max (Zf (Zb 1) (Zf Zr Zn))))))))
theorem ZpI{f:Addr}{fd:P8}(F:Fun K "recent" "recent" ZcX f fd)(hm:mg "recent" = some (.ref f))(hb:Binds K fd ["places", "most"] [])(hzat_most:FnAt P w K mg base "at_most" 1 ZbL)(hzlast_first:FnAt P w K mg base "last_first" 1 Zbn):FnAt P w K mg base "recent" 2 ZaV :=
 fnAt (k:=1) F Zsj hm hb fun cdv A outer s H E hr=>(ZD (ZP (ZF hzat_most hr (by decide) rfl (Zf (ZF hzlast_first hr (by decide) rfl (Zf (Zb 0) Zn)) (Zf (Zb 1) Zn)))))
theorem ZoC{f:Addr}{fd:P8}(F:Fun K "oftenest" "oftenest" ZcY f fd)(hm:mg "oftenest" = some (.ref f))(hb:Binds K fd ["places", "most"] []){c:Addr}(tbc:fd.code = .ref c)(tbh:PySem.W.codeHdIn K c (cv 90)=true)(tba:base.BuiltinsAt mg (cv 90))(b_sorted:mg "sorted" = none)(hzat_most:FnAt P w K mg base "at_most" 1 ZbL)(hzcounts:FnAt P w K mg base "counts" 1 Zao)(hzlast_first:FnAt P w K mg base "last_first" 1 Zbn):FnAt P w K mg base "oftenest" 2 (Zb4 cv) :=
 ZlZ (k:=1) F sczoftenest hm hb tbc fun A outer s H E hr=>(Zy (Z6 2 sczoftenest.nd rfl (by first | exact Or.inl rfl | exact Or.inr rfl) (ZF hzcounts hr (by decide) rfl (Zf (Zb 0) Zn))) (ZD (ZP (ZF hzat_most hr (by decide) rfl (Zf (ZA (Zq5 2 hr rfl b_sorted rfl tbh tba (ZF hzlast_first hr (by decide) rfl (Zf (Zb 0) Zn)))) (Zf (Zb 1) Zn))))))
theorem Zk3{f:Addr}{fd:P8}(F:Fun K "is_under" "is_under" ZcT f fd)(hm:mg "is_under" = some (.ref f))(hb:Binds K fd ["place", "other"] [])(b_len:mg "len" = none):FnAt P w K mg base "is_under" 1 ZbC :=
 fnAt (k:=0) F Zrd hm hb fun cdv A outer s H E hr=>(ZD (ZP (Zih (Zi3 hr.units) (ZiY Zjl (Zb 0) ZaU (ZaW (ZaD ZaM rfl b_len WD (Zf (Zb 1) Zn)))) (Zb 1))))
theorem ZqR{f:Addr}{fd:P8}(F:Fun K "under" "under" Zcg f fd)(hm:mg "under" = some (.ref f))(hb:Binds K fd ["places", "other"] [])(b_len:mg "len" = none)(hzis_under:FnAt P w K mg base "is_under" 1 ZbC):FnAt P w K mg base "under" 2 ZaS :=
 fnAt (k:=1) F Znq hm hb fun cdv A outer s H E hr=>(ZD (ZP (ZaD ZaM rfl b_len WD (Zf (ZA (Zb0 rfl ⟨Blk.of (N:=["place", "other"]) (caps:=[1]) (nT:=1) (by show ZaQ (Ze Zcg) _ ["places", "other"] _ _ _=true; decide +kernel),fun _ _ _ _=>(Zax 0 (by show (["place", "other"]:List Str).Nodup; decide +kernel) rfl (by first | exact Or.inl rfl | exact Or.inr rfl)),fun _ _ _ _=>ZeZ (Zkg (ZF hzis_under hr (by decide) rfl (Zf (Zb 0) (Zf (Zb 1) Zn)))),fun _ _ _ _=>(Zb 0)⟩ (Zbi (Zb 0)))) Zn))))
theorem Zln{f:Addr}{fd:P8}(F:Fun K "counts" "counts" Zc2 f fd)(hm:mg "counts" = some (.ref f))(hb:Binds K fd ["places"] [])  : FnAt P w K mg base "counts" 1 Zcb :=
 fnAt (k:=0) F sczcounts_on_K hm hb fun cdv A outer s H E hr=>(Zy (Z6 1 sczcounts_on_K.nd rfl (by first | exact Or.inl rfl | exact Or.inr rfl) ZpO) (Zy (Zc4 QD rfl (Zbi (Zb 0)) (Zax 2 sczcounts_on_K.nd rfl (by first | exact Or.inl rfl | exact Or.inr rfl)) (ZD (ZeP hr.units (Zb 1) (Zb 2) (Zw Zai (ZcU hr.units (Zb 1) (Zb 2) Zr) Zr)))) (ZD (ZP (Zb 1)))))
theorem Zps{f:Addr}{fd:P8}(F:Fun K "branches" "branches" Zcd f fd)(hm:mg "branches" = some (.ref f))(hb:Binds K fd ["places", "other"] [])(b_len:mg "len" = none)(b_sorted:mg "sorted" = none)(hzcounts_on_K:FnAt P w K mg base "counts" 1 Zcb)(hzis_under:FnAt P w K mg base "is_under" 1 ZbC):FnAt P w K mg base "branches" 2 Zch :=
 fnAt (k:=1) F sczbranches hm hb fun cdv A outer s H E hr=>(Zy (Z6 2 sczbranches.nd rfl (by first | exact Or.inl rfl | exact Or.inr rfl) (ZaD ZaM rfl b_len WD (Zf (Zb 1) Zn))) (Zy (Zkc 3 rfl ⟨Blk.of (N:=["place", "length", "other"]) (caps:=[2,1]) (nT:=1) (by show ZaQ (Ze Zcd) _ ["places", "other", "length", "words"] _ _ _=true; decide +kernel),fun _ _ _ _=>(Zax 0 (by show (["place", "length", "other"]:List Str).Nodup; decide +kernel) rfl (by first | exact Or.inl rfl | exact Or.inr rfl)),fun _ _ _ _=>ZeZ (PDW.pt (Zq1 (Zkg (ZF hzis_under hr (by decide) rfl (Zf (Zb 0) (Zf (Zb 2) Zn)))) (Znk (Z5 Zpl (ZaD ZaM rfl b_len WD (Zf (Zb 0) Zn)) (Zb 1))))),fun _ _ _ _=>(Zea (Zb 0) (Zb 1))⟩ (Zbi (Zb 0)) sczbranches.nd rfl (by first | exact Or.inl rfl | exact Or.inr rfl)) (ZD (ZP (ZA (Zm5 rfl hr.units rfl b_sorted Wl (ZF hzcounts_on_K hr (by decide) rfl (Zf (Zb 3) Zn))))))))
theorem ZnE{f:Addr}{fd:P8}(F:Fun K "stays" "stays" ZcA f fd)(hm:mg "stays" = some (.ref f))(hb:Binds K fd ["places", "moments", "end"] [])(b_list:mg "list" = none)(b_zip:mg "zip" = none):FnAt P w K mg base "stays" 1 ZcH :=
 fnAt (k:=0) F sczstays hm hb fun cdv A outer s H E hr=>(Zy (Z6 3 sczstays.nd rfl (by first | exact Or.inl rfl | exact Or.inr rfl) ZgS) (Zy (Z6 4 sczstays.nd rfl (by first | exact Or.inl rfl | exact Or.inr rfl) (ZA (Zel ZdP (ZA (Zkk Zlz rfl b_list PyProof.Rows.boot_list (Zf (ZA (Zbs Zbh (Zb 1) (ZaW Zr) ZaU)) Zn))) (ZA (Zdb (Zf (Zb 2) Zn)))))) (Zy (Zc4 QD rfl (ZlU rfl b_zip (Zf (Zb 0) (Zf (Zb 1) (Zf (Zb 4) Zn)))) (Zfg rfl (ZbZ 5 sczstays.nd rfl (by first | exact Or.inl rfl | exact Or.inr rfl) (ZbZ 6 sczstays.nd rfl (by first | exact Or.inl rfl | exact Or.inr rfl) (ZbZ 7 sczstays.nd rfl (by first | exact Or.inl rfl | exact Or.inr rfl) Zfu)))) (ZD (ZeP hr.units (Zb 3) (Zb 5) (Zw ZiB (Zw Zai (ZcU hr.units (Zb 3) (Zb 5) Zr) (Zb 7)) (Zb 6))))) (ZD (ZP (Zb 3))))))
noncomputable abbrev Nzlaw:List Str:=["_law_script", "_law_places_here", "_law_more", "_law_row", "_law_every", "_law_both", "_law_place_here", "_law_last", "_law_tops", "_law_other", "_law_some", "_law_word", "_law_many", "_law_moments", "_law_told"]
theorem ZqB(hz_law_places:FnAt P w K mg base "_law_places" 4 Zbt)(fA:Addr)(cdv:P9)(A:P6)(outer:List Env)(s:P1)(H:Hp)(E:XK)(hr:Room 4 (A.deeper (PyProof.Rows.envOfC "law" (Ze Zk) s.heap.objs.size fA cdv))):PDs (ZJ CX0 P w K mg base Nzlaw "law" (Ze Zk) fA cdv A outer s H E).nox EX0 Zh2 Zfn:=(Z6 1 sczlaw.nd rfl (by first | exact Or.inl rfl | exact Or.inr rfl) (ZF hz_law_places hr (by decide) rfl (Zf (Zb 0) (Zf Zr Zn))))
theorem Zlv(hz_law_places:FnAt P w K mg base "_law_places" 4 Zbt)(fA:Addr)(cdv:P9)(A:P6)(outer:List Env)(s:P1)(H:Hp)(E:XK)(hr:Room 4 (A.deeper (PyProof.Rows.envOfC "law" (Ze Zk) s.heap.objs.size fA cdv))):PDs (ZJ CX0 P w K mg base Nzlaw "law" (Ze Zk) fA cdv A outer s H E).nox EX0 ZkV ZfM:=(Z6 2 sczlaw.nd rfl (by first | exact Or.inl rfl | exact Or.inr rfl) (ZF hz_law_places hr (by decide) rfl (Zf (Zb 0) (Zf Zr Zn))))
theorem Zqh(hztrail:FnAt P w K mg base "trail" 1 ZaJ)(fA:Addr)(cdv:P9)(A:P6)(outer:List Env)(s:P1)(H:Hp)(E:XK)(hr:Room 4 (A.deeper (PyProof.Rows.envOfC "law" (Ze Zk) s.heap.objs.size fA cdv))):PDs (ZJ CX0 P w K mg base Nzlaw "law" (Ze Zk) fA cdv A outer s H E).nox EX0 Zhb Zfv:=(Z6 3 sczlaw.nd rfl (by first | exact Or.inl rfl | exact Or.inr rfl) (ZF hztrail hr (by decide) rfl (Zf (Zb 1) Zn)))
theorem ZqA(b_len:mg "len" = none)(b_set:mg "set" = none)(hztrail:FnAt P w K mg base "trail" 1 ZaJ)(fA:Addr)(cdv:P9)(A:P6)(outer:List Env)(s:P1)(H:Hp)(E:XK)(hr:Room 4 (A.deeper (PyProof.Rows.envOfC "law" (Ze Zk) s.heap.objs.size fA cdv))):PDs (ZJ CX0 P w K mg base Nzlaw "law" (Ze Zk) fA cdv A outer s H E).nox EX0 Zkx Zex:=(ZaR (PDW.pt (ZbT (Z5 (Zah hr.units) (ZA (Zbs Zbh (Zb 3) ZaU (ZaW Zr))) (ZA (Zbs Zbh (Zb 1) ZaU (ZaW Zr)))) (ZbT (Z5 (Zah hr.units) (ZA (Zbs Zbh (Zb 3) (ZaW (Zei Zr)) ZaU)) (ZA (Zbs Zbh (Zb 1) (ZaW (Zei Zr)) ZaU))) (ZbT (Z5 (Zah hr.units) (Zlj rfl hr.units rfl b_len WD rfl b_set PyProof.Rows.boot_set (Zf (Zb 3) Zn)) (ZaD ZaM rfl b_len WD (Zf (Zb 3) Zn))) (ZdC (Z5 (Zah hr.units) (ZF hztrail hr (by decide) rfl (Zf (Zb 3) Zn)) (Zb 3))))))) (ZD (ZP ZaX)) Zbd)
theorem ZlI(hztrail:FnAt P w K mg base "trail" 1 ZaJ)(fA:Addr)(cdv:P9)(A:P6)(outer:List Env)(s:P1)(H:Hp)(E:XK)(hr:Room 4 (A.deeper (PyProof.Rows.envOfC "law" (Ze Zk) s.heap.objs.size fA cdv))):PDs (ZJ CX0 P w K mg base Nzlaw "law" (Ze Zk) fA cdv A outer s H E).nox EX0 Zik ZeE:=(ZaR (PDW.pt (ZbT (Z5 (Zah hr.units) (ZF hztrail hr (by decide) rfl (Zf (ZA (Zel ZdP (Zb 1) (Zb 2))) Zn)) (ZF hztrail hr (by decide) rfl (Zf (ZA (Zel ZdP (Zb 3) (Zb 2))) Zn))) (ZdC (Z5 (Zah hr.units) (ZA (Zb0 rfl ⟨Blk.of (N:=["_law_place_here", "_law_places_here"]) (caps:=[1]) (nT:=1) (by show ZaQ (Ze Zk) _ Nzlaw _ _ _=true; decide +kernel),fun _ _ _ _=>(Zax 0 (by show (["_law_place_here", "_law_places_here"]:List Str).Nodup; decide +kernel) rfl (by first | exact Or.inl rfl | exact Or.inr rfl)),fun _ _ _ _=>ZeZ (Z5 (ZqQ hr.units) (Zb 0) (Zb 1)),fun _ _ _ _=>(Zb 0)⟩ (Zbi (Zb 3)))) (ZA (Zdb Zn)))))) (ZD (ZP ZaX)) Zbd)
theorem ZmL(hzcounts:FnAt P w K mg base "counts" 1 Zao)(fA:Addr)(cdv:P9)(A:P6)(outer:List Env)(s:P1)(H:Hp)(E:XK)(hr:Room 4 (A.deeper (PyProof.Rows.envOfC "law" (Ze Zk) s.heap.objs.size fA cdv))):PDs (ZJ CX0 P w K mg base Nzlaw "law" (Ze Zk) fA cdv A outer s H E).nox EX0 Zjq Zgo:=(Z6 4 sczlaw.nd rfl (by first | exact Or.inl rfl | exact Or.inr rfl) (ZF hzcounts hr (by decide) rfl (Zf (Zb 1) Zn)))
theorem Zm1(b_len:mg "len" = none)(b_set:mg "set" = none)(b_sorted:mg "sorted" = none)(b_sum:mg "sum" = none)(fA:Addr)(cdv:P9)(A:P6)(outer:List Env)(s:P1)(H:Hp)(E:XK)(hr:Room 4 (A.deeper (PyProof.Rows.envOfC "law" (Ze Zk) s.heap.objs.size fA cdv))):PDs (ZJ CX0 P w K mg base Nzlaw "law" (Ze Zk) fA cdv A outer s H E).nox EX0 Zg1 Zd1:=(ZaR (PDW.pt (ZbT (Z5 (Zah hr.units) (Zro rfl rfl b_sum PyProof.Rows.boot_sum (Zb 4)) (ZaD ZaM rfl b_len WD (Zf (Zb 1) Zn))) (ZdC (Z5 (Zah hr.units) (ZA (ZdE (ZhW rfl (ZdI hr.units)) rfl b_sorted Wl (Zf (Zb 4) Zn))) (ZA (ZpT rfl hr.units rfl b_sorted Wl rfl b_set PyProof.Rows.boot_set (Zf (Zb 1) Zn))))))) (ZD (ZP ZaX)) Zbd)
theorem ZnY(hzcounts:FnAt P w K mg base "counts" 1 Zao)(fA:Addr)(cdv:P9)(A:P6)(outer:List Env)(s:P1)(H:Hp)(E:XK)(hr:Room 4 (A.deeper (PyProof.Rows.envOfC "law" (Ze Zk) s.heap.objs.size fA cdv))):PDs (ZJ CX0 P w K mg base Nzlaw "law" (Ze Zk) fA cdv A outer s H E).nox EX0 ZkC Zgn:=(Z6 5 sczlaw.nd rfl (by first | exact Or.inl rfl | exact Or.inr rfl) (ZF hzcounts hr (by decide) rfl (Zf (ZA (Zel ZdP (Zb 1) (Zb 2))) Zn)))
theorem ZlT(hzcounts:FnAt P w K mg base "counts" 1 Zao)(fA:Addr)(cdv:P9)(A:P6)(outer:List Env)(s:P1)(H:Hp)(E:XK)(hr:Room 4 (A.deeper (PyProof.Rows.envOfC "law" (Ze Zk) s.heap.objs.size fA cdv))):PDs (ZJ CX0 P w K mg base Nzlaw "law" (Ze Zk) fA cdv A outer s H E).nox EX0 ZiQ ZeV:=(Zrv QD rfl (Zb 5) (Zax 6 sczlaw.nd rfl (by first | exact Or.inl rfl | exact Or.inr rfl)) (ZD (ZaR (Z5 (Zah hr.units) (Zf7 hr.units (Zb 5) (Zb 6)) (Zw Zai (ZcU hr.units (Zb 4) (Zb 6) Zr) (ZcU hr.units (ZF hzcounts hr (by decide) rfl (Zf (Zb 2) Zn)) (Zb 6) Zr))) (ZD (ZP ZaX)) Zbd)))
theorem ZnN(hzrecent:FnAt P w K mg base "recent" 2 ZaV)(fA:Addr)(cdv:P9)(A:P6)(outer:List Env)(s:P1)(H:Hp)(E:XK)(hr:Room 4 (A.deeper (PyProof.Rows.envOfC "law" (Ze Zk) s.heap.objs.size fA cdv))):PDs (ZJ CX0 P w K mg base Nzlaw "law" (Ze Zk) fA cdv A outer s H E).nox EX0 ZiW ZfY:=(Z6 7 sczlaw.nd rfl (by first | exact Or.inl rfl | exact Or.inr rfl) (ZF hzrecent hr (by decide) rfl (Zf (Zb 1) (Zf Zr Zn))))
theorem Zmp(b_sorted:mg "sorted" = none)(hzrecent:FnAt P w K mg base "recent" 2 ZaV)(fA:Addr)(cdv:P9)(A:P6)(outer:List Env)(s:P1)(H:Hp)(E:XK)(hr:Room 4 (A.deeper (PyProof.Rows.envOfC "law" (Ze Zk) s.heap.objs.size fA cdv))):PDs (ZJ CX0 P w K mg base Nzlaw "law" (Ze Zk) fA cdv A outer s H E).nox EX0 Zj7 Zed:=(ZaR (PDW.pt (ZbT (Z5 (Zah hr.units) (ZA (ZdE (Zfw (ZdI hr.units)) rfl b_sorted Wl (Zf (Zb 7) Zn))) (ZA (ZdE (ZhW rfl (ZdI hr.units)) rfl b_sorted Wl (Zf (Zb 4) Zn)))) (ZbT (Z5 (Zah hr.units) (ZA (Zbs Zbh (Zb 7) ZaU (ZaW Zr))) (ZA (Zbs Zbh (Zb 1) (ZaW (Zei Zr)) ZaU))) (ZdC (Z5 (Zah hr.units) (ZF hzrecent hr (by decide) rfl (Zf (Zb 1) (Zf Zr Zn))) (ZA (Zdb Zn))))))) (ZD (ZP ZaX)) Zbd)
theorem Zog(hzoftenest:FnAt P w K mg base "oftenest" 2 (Zb4 cv))(fA:Addr)(cdv:P9)(A:P6)(outer:List Env)(s:P1)(H:Hp)(E:XK)(hr:Room 4 (A.deeper (PyProof.Rows.envOfC "law" (Ze Zk) s.heap.objs.size fA cdv))):PDs (ZJ CX0 P w K mg base Nzlaw "law" (Ze Zk) fA cdv A outer s H E).nox EX0 ZiK (Zgs cv):=(Z6 8 sczlaw.nd rfl (by first | exact Or.inl rfl | exact Or.inr rfl) (ZF hzoftenest hr (by decide) rfl (Zf (Zb 1) (Zf Zr Zn))))
theorem ZnM(b_sorted:mg "sorted" = none)(fA:Addr)(cdv:P9)(A:P6)(outer:List Env)(s:P1)(H:Hp)(E:XK)(hr:Room 4 (A.deeper (PyProof.Rows.envOfC "law" (Ze Zk) s.heap.objs.size fA cdv))):PDs (ZJ CX0 P w K mg base Nzlaw "law" (Ze Zk) fA cdv A outer s H E).nox EX0 Zks ZeD:=(ZaR (PDW.pt (ZbT (Z5 (Zah hr.units) (ZA (ZdE (Zfw (ZdI hr.units)) rfl b_sorted Wl (Zf (Zb 8) Zn))) (ZA (ZdE (Zfw (ZdI hr.units)) rfl b_sorted Wl (Zf (Zb 7) Zn)))) (ZdC (Z5 (Zah hr.units) (ZA (Zb0 rfl ⟨Blk.of (N:=["_law_place_here", "_law_every"]) (caps:=[4]) (nT:=1) (by show ZaQ (Ze Zk) _ Nzlaw _ _ _=true; decide +kernel),fun _ _ _ _=>(Zax 0 (by show (["_law_place_here", "_law_every"]:List Str).Nodup; decide +kernel) rfl (by first | exact Or.inl rfl | exact Or.inr rfl)),fun _ _ _ _=>Zcc,fun _ _ _ _=>(Zf7 hr.units (Zb 1) (Zb 0))⟩ (Zbi (Zb 8)))) (ZA (Zol (ZA (ZqI rfl rfl b_sorted Wl (Zb 4))) (Zei Zr))))))) (ZD (ZP ZaX)) Zbd)
theorem ZrW(b_len:mg "len" = none)(hzunder:FnAt P w K mg base "under" 2 ZaS)(fA:Addr)(cdv:P9)(A:P6)(outer:List Env)(s:P1)(H:Hp)(E:XK)(hr:Room 4 (A.deeper (PyProof.Rows.envOfC "law" (Ze Zk) s.heap.objs.size fA cdv))):PDs (ZJ CX0 P w K mg base Nzlaw "law" (Ze Zk) fA cdv A outer s H E).nox EX0 Zky Zeg:=(ZaR (Z5 (Zah hr.units) (ZF hzunder hr (by decide) rfl (Zf (Zb 1) (Zf (ZgR Zn) Zn))) (ZaD ZaM rfl b_len WD (Zf (Zb 1) Zn))) (ZD (ZP ZaX)) Zbd)
theorem Zph(hz_law_place:FnAt P w K mg base "_law_place" 3 Zbk)(fA:Addr)(cdv:P9)(A:P6)(outer:List Env)(s:P1)(H:Hp)(E:XK)(hr:Room 4 (A.deeper (PyProof.Rows.envOfC "law" (Ze Zk) s.heap.objs.size fA cdv))):PDs (ZJ CX0 P w K mg base Nzlaw "law" (Ze Zk) fA cdv A outer s H E).nox EX0 Zkf ZgB:=(Z6 9 sczlaw.nd rfl (by first | exact Or.inl rfl | exact Or.inr rfl) (ZiY Zjl (ZF hz_law_place hr (by decide) rfl (Zf (Zb 0) (Zf Zr Zn))) ZaU (ZaW Zr)))
theorem Zos(hzbranches:FnAt P w K mg base "branches" 2 Zch)(fA:Addr)(cdv:P9)(A:P6)(outer:List Env)(s:P1)(H:Hp)(E:XK)(hr:Room 4 (A.deeper (PyProof.Rows.envOfC "law" (Ze Zk) s.heap.objs.size fA cdv))):PDs (ZJ CX0 P w K mg base Nzlaw "law" (Ze Zk) fA cdv A outer s H E).nox EX0 Zhu Zff:=(Z6 10 sczlaw.nd rfl (by first | exact Or.inl rfl | exact Or.inr rfl) (ZF hzbranches hr (by decide) rfl (Zf (Zb 1) (Zf (Zb 9) Zn))))
theorem Znm(b_sum:mg "sum" = none)(hzunder:FnAt P w K mg base "under" 2 ZaS)(fA:Addr)(cdv:P9)(A:P6)(outer:List Env)(s:P1)(H:Hp)(E:XK)(hr:Room 4 (A.deeper (PyProof.Rows.envOfC "law" (Ze Zk) s.heap.objs.size fA cdv))):PDs (ZJ CX0 P w K mg base Nzlaw "law" (Ze Zk) fA cdv A outer s H E).nox EX0 Zis Zd5:=(ZaR (Z5 (Zah hr.units) (ZaD (Zo8 rfl) rfl b_sum PyProof.Rows.boot_sum (Zf (ZA (Zb0 rfl ⟨Blk.of (N:=["_law_word", "_law_many"]) (caps:=[]) (nT:=2) (by show ZaQ (Ze Zk) _ Nzlaw _ _ _=true; decide +kernel),fun _ _ _ _=>(Zfg rfl (ZbZ 0 (by show (["_law_word", "_law_many"]:List Str).Nodup; decide +kernel) rfl (by first | exact Or.inl rfl | exact Or.inr rfl) (ZbZ 1 (by show (["_law_word", "_law_many"]:List Str).Nodup; decide +kernel) rfl (by first | exact Or.inl rfl | exact Or.inr rfl) Zfu))),fun _ _ _ _=>Zcc,fun _ _ _ _=>(Zb 1)⟩ (Zbi (Zb 10)))) Zn)) (Zw ZiB (ZF hzunder hr (by decide) rfl (Zf (Zb 1) (Zf (Zb 9) Zn))) (ZcU hr.units (Zb 4) (Zb 9) Zr))) (ZD (ZP ZaX)) Zbd)
theorem Zrt(hzunder:FnAt P w K mg base "under" 2 ZaS)(fA:Addr)(cdv:P9)(A:P6)(outer:List Env)(s:P1)(H:Hp)(E:XK)(hr:Room 4 (A.deeper (PyProof.Rows.envOfC "law" (Ze Zk) s.heap.objs.size fA cdv))):PDs (ZJ CX0 P w K mg base Nzlaw "law" (Ze Zk) fA cdv A outer s H E).nox EX0 ZiZ Zem:=(Zc4 QD rfl (Zbi (Zb 10)) (Zfg rfl (ZbZ 11 sczlaw.nd rfl (by first | exact Or.inl rfl | exact Or.inr rfl) (ZbZ 12 sczlaw.nd rfl (by first | exact Or.inl rfl | exact Or.inr rfl) Zfu))) (ZD (ZaR (Z5 (Zah hr.units) (ZF hzunder hr (by decide) rfl (Zf (Zb 1) (Zf (Zw Zai (Zb 9) (ZgR (Zf (Zb 11) Zn))) Zn))) (Zb 12)) (ZD (ZP ZaX)) Zbd)))
theorem ZlE(b_len:mg "len" = none)(b_range:mg "range" = none)(fA:Addr)(cdv:P9)(A:P6)(outer:List Env)(s:P1)(H:Hp)(E:XK)(hr:Room 4 (A.deeper (PyProof.Rows.envOfC "law" (Ze Zk) s.heap.objs.size fA cdv))):PDs (ZJ CX0 P w K mg base Nzlaw "law" (Ze Zk) fA cdv A outer s H E).nox EX0 Ziz Zfe:=(Zkc 13 rfl ⟨Blk.of (N:=["_law_at"]) (caps:=[]) (nT:=1) (by show ZaQ (Ze Zk) _ Nzlaw _ _ _=true; decide +kernel),fun _ _ _ _=>(Zax 0 (by show (["_law_at"]:List Str).Nodup; decide +kernel) rfl (by first | exact Or.inl rfl | exact Or.inr rfl)),fun _ _ _ _=>Zcc,fun _ _ _ _=>(Zw Za8 Zr (Zb 0))⟩ (ZeH rfl b_range (Zf (ZaD ZaM rfl b_len WD (Zf (Zb 1) Zn)) Zn)) sczlaw.nd rfl (by first | exact Or.inl rfl | exact Or.inr rfl))
theorem ZmB(b_len:mg "len" = none)(hzstays:FnAt P w K mg base "stays" 1 ZcH)(fA:Addr)(cdv:P9)(A:P6)(outer:List Env)(s:P1)(H:Hp)(E:XK)(hr:Room 4 (A.deeper (PyProof.Rows.envOfC "law" (Ze Zk) s.heap.objs.size fA cdv))):PDs (ZJ CX0 P w K mg base Nzlaw "law" (Ze Zk) fA cdv A outer s H E).nox EX0 ZhJ ZfD:=(Z6 14 sczlaw.nd rfl (by first | exact Or.inl rfl | exact Or.inr rfl) (ZF hzstays hr (by decide) rfl (Zf (Zb 1) (Zf (Zb 13) (Zf (Zw Za8 Zr (ZaD ZaM rfl b_len WD (Zf (Zb 1) Zn))) Zn)))))
theorem ZpG(b_dict:mg "dict" = none)(fA:Addr)(cdv:P9)(A:P6)(outer:List Env)(s:P1)(H:Hp)(E:XK)(hr:Room 4 (A.deeper (PyProof.Rows.envOfC "law" (Ze Zk) s.heap.objs.size fA cdv))):PDs (ZJ CX0 P w K mg base Nzlaw "law" (Ze Zk) fA cdv A outer s H E).nox EX0 ZhQ Zd2:=(ZP (Zih (ZlQ hr.units) (Zb 14) (Zkb (Zmh rfl hr.units) rfl b_dict PyProof.Rows.boot_dict (Zf (ZA (Zjs rfl ⟨Blk.of (N:=["_law_place_here", "_law_every"]) (caps:=[4]) (nT:=1) (by show ZaQ (Ze Zk) _ Nzlaw _ _ _=true; decide +kernel),fun _ _ _ _=>(Zax 0 (by show (["_law_place_here", "_law_every"]:List Str).Nodup; decide +kernel) rfl (by first | exact Or.inl rfl | exact Or.inr rfl)),fun _ _ _ _=>Zcc,fun _ _ _ _=>(ZgR (Zf (Zb 0) (Zf (Zw Za8 Zr (Zf7 hr.units (Zb 1) (Zb 0))) Zn)))⟩ (Zp4 (Zb 4)))) Zn))))
theorem Zm8{f:Addr}{fd:P8}(F:Fun K "law" "law" Zk f fd)(b_dict:mg "dict" = none)(b_len:mg "len" = none)(b_range:mg "range" = none)(b_set:mg "set" = none)(b_sorted:mg "sorted" = none)(b_sum:mg "sum" = none)(hz_law_place:FnAt P w K mg base "_law_place" 3 Zbk)(hz_law_places:FnAt P w K mg base "_law_places" 4 Zbt)(hzbranches:FnAt P w K mg base "branches" 2 Zch)(hzcounts:FnAt P w K mg base "counts" 1 Zao)(hzoftenest:FnAt P w K mg base "oftenest" 2 (Zb4 cv))(hzrecent:FnAt P w K mg base "recent" 2 ZaV)(hzstays:FnAt P w K mg base "stays" 1 ZcH)(hztrail:FnAt P w K mg base "trail" 1 ZaJ)(hzunder:FnAt P w K mg base "under" 2 ZaS):FnOk P w K mg base CX0 5 f fd ["_law_script"] (spD K (ZdK cv)) :=
 fnD (k:=4) F sczlaw fun cdv A outer s H E hr=>(show PDS _ _ [Zh2,ZkV,Zhb,Zkx,Zik,Zjq,Zg1,ZkC,ZiQ,ZiW,Zj7,ZiK,Zks,Zky,Zkf,Zhu,Zis,ZiZ,Ziz,ZhJ,ZhQ] _ from (Zy (ZqB hz_law_places f cdv A outer s H E hr) (Zy (Zlv hz_law_places f cdv A outer s H E hr) (Zy (Zqh hztrail f cdv A outer s H E hr) (Zy (ZqA b_len b_set hztrail f cdv A outer s H E hr) (Zy (ZlI hztrail f cdv A outer s H E hr) (Zy (ZmL hzcounts f cdv A outer s H E hr) (Zy (Zm1 b_len b_set b_sorted b_sum f cdv A outer s H E hr) (Zy (ZnY hzcounts f cdv A outer s H E hr) (Zy (ZlT hzcounts f cdv A outer s H E hr) (Zy (ZnN hzrecent f cdv A outer s H E hr) (Zy (Zmp b_sorted hzrecent f cdv A outer s H E hr) (Zy (Zog hzoftenest f cdv A outer s H E hr) (Zy (ZnM b_sorted f cdv A outer s H E hr) (Zy (ZrW b_len hzunder f cdv A outer s H E hr) (Zy (Zph hz_law_place f cdv A outer s H E hr) (Zy (Zos hzbranches f cdv A outer s H E hr) (Zy (Znm b_sum hzunder f cdv A outer s H E hr) (Zy (Zrt hzunder f cdv A outer s H E hr) (Zy (ZlE b_len b_range f cdv A outer s H E hr) (Zy (ZmB b_len hzstays f cdv A outer s H E hr) (ZD (ZpG b_dict f cdv A outer s H E hr)))))))))))))))))))))))
end
end K61
end
section
namespace K61
open PySem L2 DL
theorem Za4(i j:Int)(st:Sto)(h:Zb5 i j=true):Zal (.int i) (.int j) st = .ok (.int (i * j)) st:=by
 simp[Zal,intOp,h]
def ZS(ns:List Int)(k:Int):Int:=if ns=[] then 7 * k else ns.getD (k % ns.length).toNat 0+6553 * (k / ns.length)
theorem ZhH(xs:List D)(st:Sto):eqD (.scr xs) (.lst []) st = .ok (.bl xs.isEmpty) st:=by
 cases xs <;> rfl
theorem ZqU(xs:List D)(st:Sto):ZR [.scr xs] st = .ok (.int xs.length) st:=rfl
theorem Zlc(ns:List Int)(k:Int)(st:Sto)(h0:0<=k)(h1:k<ns.length):ixD (.scr (ns.map .int)) (.int k) st = .ok (.int (ns.getD k.toNat 0)) st:=by
 have e:L2.atI (ns.map D.int) k=some (.int (ns.getD k.toNat 0)):=by
  unfold L2.atI L2.ixN;rw[Yf h0,Yf (by rw[Ym]; exact h1)];have hk:k.toNat<ns.length:=by omega
  simp[Yz,Yd hk]
 simp[ixD,itemsOf,Zp,e]
theorem Zqx(ns:List Int)(hl:ns.length<=63)(k:Int)(st:Sto):Zcx [.scr (ns.map .int),.int k] st = .ok (.int (ZS ns k)) st:=by
 unfold Zcx ZkH ZS;by_cases h:ns=[]
 ·subst h;have e1:=Za4 _ _ st (Zbx 7 k (by decide) (by decide));have e2:=ZhH [] st;simp[e1,e2]
 ·have hp:0<ns.length:=List.length_pos_iff.mpr h;have h1:(0:Int)<(ns.length:Int):=by omega
  have h2:0<=k % (ns.length:Int):=QW _ (by omega);have h3:k % (ns.length:Int)<ns.length:=Qw _ h1;have e0:=ZhH (ns.map .int) st;have e1:=ZqU (ns.map .int) st;have e2:=mod_int k _ st h1;have e3:=ZeJ k _ st h1 (by omega:(ns.length:Int)<1073741824);have e4:=Zlc ns _ st h2 h3;have e5:=Za4 _ _ st (Zbx 6553 (k / ns.length) (by decide) (by decide));rw[Ym] at e1;simp[e0,e1,e2,e3,e4,e5,h]
def Zac(c k:Int):Int:=(c % 2147483563 * 69069+104723 * (k+1)) % 2147483563
def ZbS(a:Int):Int:=(a * a+a / 3) % 2147483399
def Zlu(b m:Int):Int:=(b * b+b / 7) % 2147483647 / 11 % m
def Zaa(ns:List Int)(k m:Int):Int:=Zlu (ZbS (Zac (ZS ns k) k)) m
theorem ZeQ(ns:List Int)(hl:ns.length<=63)(k m:Int)(hm:0<m)(st:Sto):Za2 [.scr (ns.map .int),.int k,.int m] st = .ok (.int (Zaa ns k m)) st:=by
 have a1:0<=Zac (ZS ns k) k:=QW _ (by decide);have a2:Zac (ZS ns k) k<2147483563:=Qw _ (by decide);have b1:0<=ZbS (Zac (ZS ns k) k):=QW _ (by decide);have b2:ZbS (Zac (ZS ns k) k)<2147483399:=Qw _ (by decide);have c0:0<=ZS ns k % 2147483563:=QW _ (by decide);have c1:ZS ns k % 2147483563<2147483563:=Qw _ (by decide);have e1:Zal (.int (ZS ns k % 2147483563)) (.int 69069) st = .ok (.int (ZS ns k % 2147483563 * 69069)) st:=Za4 _ _ _ (ZpX _ _ (by decide) (by decide));have e2:Zal (.int 104723) (.int (k+1)) st = .ok (.int (104723 * (k+1))) st:=Za4 _ _ _ (Zbx _ _ (by decide) (by decide));have e3:Zal (.int (Zac (ZS ns k) k)) (.int (Zac (ZS ns k) k)) st = .ok (.int (Zac (ZS ns k) k * Zac (ZS ns k) k)) st:=Za4 _ _ _ (Zbx _ _ (by omega) (by omega));have e4:Zal (.int (ZbS (Zac (ZS ns k) k))) (.int (ZbS (Zac (ZS ns k) k))) st = .ok (.int (ZbS (Zac (ZS ns k) k) * ZbS (Zac (ZS ns k) k))) st:=Za4 _ _ _ (Zbx _ _ (by omega) (by omega));have hA:(ZS ns k % 2147483563 * 69069+104723 * (k+1)) % 2147483563=Zac (ZS ns k) k:=rfl;have hB:(Zac (ZS ns k) k * Zac (ZS ns k) k+Zac (ZS ns k) k / 3) % 2147483399=ZbS (Zac (ZS ns k) k):=rfl;have e0:=Zqx ns hl k st;have m1:=fun i=>mod_int i 2147483563 st (by decide);have m2:=fun i=>mod_int i 2147483399 st (by decide);have m3:=fun i=>mod_int i 2147483647 st (by decide);have m4:=fun i=>mod_int i m st hm;have d1:=fun i=>ZeJ i 3 st (by decide) (by decide);have d2:=fun i=>ZeJ i 7 st (by decide) (by decide);have d3:=fun i=>ZeJ i 11 st (by decide) (by decide);unfold Za2 Zh8;simp[e0,e1,e2,e3,e4,m1,m2,m3,m4,d1,d2,d3,hA,hB];rfl
theorem Zdw(ns:List Int)(k m:Int)(hm:0<m):0<=Zaa ns k m:=QW _ (by omega)
theorem Zc8(ns:List Int)(k m:Int)(hm:0<m):Zaa ns k m<m:=Qw _ hm
def ZgA(i:Nat):Str:=⟨#[97+i]⟩
theorem Zpu(i:Int)(st:Sto)(h0:0<=i)(h1:i<3):ixD (.str "abc") (.int i) st = .ok (.str (ZgA i.toNat)) st:=by
 have:i=0\/i=1\/i=2:=by omega
 rcases this with rfl | rfl | rfl <;> rfl
def Zbm(ns:List Int)(at_:Int):List Str:=(List.range (Zaa ns at_ 4).toNat).map fun (i:Nat)=>ZgA (Zaa ns (at_+1+(i:Int)) 3).toNat
theorem Zhe(ns:List Int)(hl:ns.length<=63)(at_:Int)(st:Sto):Zbk [.scr (ns.map .int),.int at_] st = .ok (pl (Zbm ns at_)) st:=by
 have e1:=ZeQ ns hl at_ 4 (by decide) st;have h1:=Zdw ns at_ 4 (by decide);have h2:=Zc8 ns at_ 4 (by decide);have e2:ZK (fun _=>True) (Zz 0) Zae ZfC
   ((List.range (Zaa ns at_ 4).toNat).map (fun (i:Nat)=>D.int (0+i))) [none,some (.scr (ns.map .int)),some (.int at_)] st [] = .ok ((Zbm ns at_).map .str) st:=by
  rw[ZhU (fun ρ => ∃a,ρ=[a,some (.scr (ns.map .int)),some (.int at_)]) (fun d=>match d with | .int i => .str (ZgA (Zaa ns (at_+1+i) 3).toNat) | _ => .non) trivial _ _ _ ⟨_,rfl⟩ (by simp[small]; omega)]
  ·simp[Zbm,YQ,QY]
  ·rintro x hx ρ ⟨a,rfl⟩;obtain⟨i,_,rfl⟩:=YZ.mp hx;refine⟨_,rfl,⟨_,rfl⟩,?_⟩;have e3:=ZeQ ns hl (at_+1+(0+(i:Int))) 3 (by decide) st;have e4:=Zpu (Zaa ns (at_+1+(0+(i:Int))) 3) st (Zdw _ _ _ (by decide)) (Zc8 _ _ _ (by decide));simp only[Int.zero_add] at e3 e4;unfold ZfC;simp[e3,e4]
 have h3:Zbl (Zaa ns at_ 4)=true:=ZdV (by omega) (by omega);unfold Zbk Ziq;simp only[Int.zero_add] at e2;simp[e1,e2,h3,Z1,Zk7,ZbB];rfl
def up:Str:=".."
def stay:Str:="."
theorem getL{st:Sto}{xs:List D}{i:Nat}(h:st[i]?=some (.lst xs)):itemsOf st (.res i)=some xs:=by simp[itemsOf,Zp,h]
theorem ZoK{st:Sto}{xs:List D}{i:Nat}(h:st[i]?=some (.lst xs)):ZR [.res i] st = .ok (.int xs.length) st:=by simp[ZR,getL h]
theorem ZpY{ρ:Ev}{st:Sto}{j i:Nat}{xs:List D}{f:DE}{d:D}(hj:ρ[j]?=some (some (.res i)))(h:st[i]?=some (.lst xs))(hf:f ρ st = .ok d st)(hx:xs.length<small):Zet (Za j) f ρ st = .ok .non (st.set i (.lst (xs++[d]))):=by
 unfold Zet;simp only[Zaj,hj,Z9,h,hf,Yf hx]
theorem ZbY{st:Sto}{i:Nat}{s s':S}(h:st[i]?=some s):(st.set i s')[i]?=some s':=by
 rw[Qa (Yk.mp h).1]
theorem ZaT(st:Sto)(s:S):(st++[s])[st.length]?=some s:=by simp
theorem Zau{g g':DS}{ρ ρ':Ev}{st st':Sto}(h:g ρ st = .nx ρ' st'):Zu g g' ρ st=g' ρ' st':=by simp[h]
theorem Zgy(xs:List D)(st:Sto):ZR [.lst xs] st = .ok (.int xs.length) st:=rfl
theorem Zct(x y:Int)(st:Sto):neD (.int x) (.int y) st = .ok (.bl (!decide (x=y))) st:=by
 rw[Zit rfl rfl];congr 3;exact decide_eq_decide.mpr (by rw[D.int.injEq])
theorem Zc0{α:Type}(g:α->D)(p:α->Bool)(h:α->D){chk:Sto->Prop}{t:TgD}{cond:DT}{fe:DE}{st:Sto}(IE:Ev->Prop)(hc:chk st):∀(xs:List α) (ρ:Ev) (acc:List D),IE ρ->acc.length+xs.length<=small ->
  (∀x∈xs,∀ρ,IE ρ->∃ρ1,t (g x) ρ=some ρ1/\IE ρ1/\cond ρ1 st = .ok (p x) st/\(p x=true->fe ρ1 st = .ok (h x) st))->ZK chk t cond fe (xs.map g) ρ st acc = .ok (acc++(xs.filter p).map h) st
 | [],ρ,acc,_,_,_=>by simp[ZK,hc]
 | x :: xs,ρ,acc,hI,hl,hx=>by
  obtain⟨ρ1,e1,h1,e2,e3⟩:=hx x Yv ρ hI;rw[Yn];unfold ZK;rw[Yf ⟨hc,by simp at hl; omega⟩,e1];dsimp only;rw[e2];cases hp:p x with
  | true =>
   dsimp only;rw[e3 hp];dsimp only;rw[Zc0 g p h IE hc xs ρ1 (acc++[h x]) h1 (by simp at hl ⊢; omega) fun y hy=>hx y (Yo _ hy)];simp[hp]
  | false =>
   dsimp only;rw[Zc0 g p h IE hc xs ρ1 acc h1 (by simp at hl ⊢; omega) fun y hy=>hx y (Yo _ hy)];simp[hp]
theorem ZcR{α:Type}(g:α->D)(h:α->D){chk:Sto->Prop}{t:TgD}{fe:DE}{st:Sto}(IE:Ev->Prop)(hc:chk st)(xs:List α)(ρ:Ev)(acc:List D)(hI:IE ρ)(hl:acc.length+xs.length<=small)
  (hx:∀x∈xs,∀ρ,IE ρ->∃ρ1,t (g x) ρ=some ρ1/\IE ρ1/\fe ρ1 st = .ok (h x) st):ZK chk t Zae fe (xs.map g) ρ st acc = .ok (acc++xs.map h) st:=by
 rw[Zc0 g (fun _=>true) h IE hc xs ρ acc hI hl fun x hm ρ hi => ?_]
 ·rw[List.filter_eq_self.mpr fun _ _=>rfl]
 ·obtain⟨ρ1,e1,e2,e3⟩:=hx x hm ρ hi;exact⟨ρ1,e1,e2,rfl,fun _=>e3⟩
structure StoK(st st':Sto):Prop where
 fr:∀(j:Nat) (x:S),st[j]?=some x->st'[j]?=some x
 le:st.length<=st'.length
theorem StoK.refl(st:Sto):StoK st st:=⟨fun _ _ h=>h,Yj _⟩
theorem StoK.trans{a b c:Sto}(x:StoK a b)(y:StoK b c):StoK a c:=⟨fun j z h=>y.fr j z (x.fr j z h),YL x.le y.le⟩
theorem StoK.app(st t:Sto):StoK st (st++t):=⟨fun j x h=>by rw[Wf (Yk.mp h).1]; exact h,by simp⟩
theorem StoK.set{a b:Sto}(x:StoK a b){r:Nat}(hr:a.length<=r)(y:S):StoK a (b.set r y):=⟨fun j z h=>by
 have hj:j<a.length:=(Yk.mp h).1;rw[WJ (by omega)];exact x.fr j z h,by rw[Qy]; exact x.le⟩
theorem Z7{g g':DS}{ρ ρ':Ev}{st st':Sto}(h:g ρ st = .nx ρ' st')(h2:∃st2,g' ρ' st' = .rt (.bl true) st2):∃st2,Zu g g' ρ st = .rt (.bl true) st2:=by
 obtain⟨st2,e⟩:=h2;exact⟨st2,(Zau h).trans e⟩
theorem Zby{t:DT}{g:DS}{ρ:Ev}{st st':Sto}(h:t ρ st = .ok false st'):sIf t g ZaI ρ st = .nx ρ st':=by simp[h]
theorem Zbz{a:D}(h:nice depth a=true)(st:Sto):neD a a st = .ok (.bl false) st:=by
 rw[Zit h h];simp
theorem ZbX{t t':DT}{ρ:Ev}{st st1 st2:Sto}(h:t ρ st = .ok false st1)(h':t' ρ st1 = .ok false st2):dOr t t' ρ st = .ok false st2:=by simp[h,h']
theorem ZbQ{N n:Nat}{g:DS}{ds:List D}{st st':Sto}{d:D}(hl:ds.length=n)(h:g (ds.map some++List.replicate (N - n) none) st = .rt d st'):ZL N n g ds st = .ok d st':=by
 rw[ZnJ,Yf hl,h]
theorem Zek(p:List Str):nice depth (pl p)=true:=Zef 48 p
theorem Zbw(p:List Str):Zo (pl p)=some (p.map Sum.inr):=by
 show Za5 (p.map D.str)=_
 induction p with
 | nil=>rfl
 | cons x p ih =>
  show (match Zx (.str x),Za5 (p.map D.str) with | some k,some ks=>some (k :: ks) | _,_=>none)=_;rw[ih];rfl
theorem keyT_inj{p q:List Str}:Zo (pl p)=Zo (pl q) ↔ p=q:=by
 rw[Zbw,Zbw,Yx];constructor
 ·intro h
  induction p generalizing q with
  | nil =>
   cases q with
   | nil=>rfl
   | cons y q=>cases h
  | cons x p ih =>
   cases q with
   | nil=>cases h
   | cons y q =>
    rw[Yn,Yn] at h;injection h with h1 h2;injection h1 with h1;rw[h1,ih h2]
 ·intro h; rw[h]
def dpl(f:List Str->D)(ks:List (List Str)):List (D×D):=ks.map fun p=>(pl p,f p)
theorem Zc7(f:List Str->D)(p:List Str):∀ks:List (List Str),ZI Zo (dpl f ks) (pl p)=if p∈ks then some (f p) else none
 | []=>by simp[dpl,ZI]
 | k :: ks=>by
  show (if Zo (pl k)=Zo (pl p) then some (f k) else ZI Zo (dpl f ks) (pl p))=_;rw[Zc7 f p ks];by_cases h:k=p
  ·subst h;simp
  ·rw[Yh (fun z=>h (keyT_inj.mp z))];have h':¬ p=k:=fun z=>h z.symm;simp[h']
theorem Zot(f:List Str->D)(ks:List (List Str))(p:List Str):hasD Zo (dpl f ks) (pl p)=decide (p∈ks):=by
 unfold hasD dpl;rw[List.any_map]
 induction ks with
 | nil=>simp
 | cons k ks ih =>
  rw[QS,ih];by_cases h:k=p
  ·subst h;simp
  ·have h':¬ p=k:=fun z=>h z.symm;have h2:¬ Zo (pl k)=Zo (pl p):=fun z=>h (keyT_inj.mp z);simp[h',h2]
theorem ZgO(f:List Str->D)(ks:List (List Str))(p:List Str)(v:D):putD Zo (dpl f ks) (pl p) v=dpl (fun q=>if q=p then v else f q) (if p∈ks then ks else ks++[p]):=by
 unfold putD;rw[Zot];by_cases h:p∈ks
 ·rw[Yf (YN h),Yf h];unfold dpl;rw[YQ];refine Y6 fun q _ => ?_;show (if Zo (pl q)=Zo (pl p) then (pl q,v) else (pl q,f q))=(pl q,if q=p then v else f q);by_cases e:q=p
  ·rw[Yf (keyT_inj.mpr e),Yf e]
  ·rw[Yh (fun z=>e (keyT_inj.mp z)),Yh e]
 ·rw[Yh (by simpa using h),Yh h];unfold dpl;rw[WE];congr 1
  ·refine Y6 fun q hq => ?_;have:¬ q=p:=fun z=>h (z ▸ hq);show (pl q,f q)=(pl q,if q=p then v else f q);rw[Yh this]
  ·show [(pl p,v)]=[(pl p,if p=p then v else f p)];rw[Yf rfl]
def Zd:List (List Str)->List (List Str)->List (List Str)
 | acc,[]=>acc
 | acc,p :: ps=>Zd (if p∈acc then acc else acc++[p]) ps
theorem ZjI:∀(ps acc:List (List Str)),(Zd acc ps).length<=acc.length+ps.length
 | [],acc=>Yj _
 | p :: ps,acc=>by
  unfold Zd;have:=ZjI ps (if p∈acc then acc else acc++[p]);have h2:(if p∈acc then acc else acc++[p]).length<=acc.length+1:=by split <;> simp
  simp only[Yw];omega
theorem Zhs{chk:Sto->Prop}(hchk:∀st,chk st)(c0:Option D)(r:Nat)(st0:Sto)(hr:st0.length<=r):∀(ps:List (List Str)) (e:Option D) (acc:List (List Str)) (f:List Str->D) (st:Sto),(∀p∈acc,f p = .bl true)->acc.length+ps.length<=100->st[r]?=some (.dtt (dpl f acc))->StoK st0 st ->
  ∃e' f' st',ZO chk (Zz 2) ZeS (ps.map pl) [c0,some (.res r),e] st = .nx [c0,some (.res r),e'] st'/\st'[r]?=some (.dtt (dpl f' (Zd acc ps)))/\StoK st0 st'
 | [],e,acc,f,st,_,_,h,hk=>⟨e,f,st,ZbG (hchk st),h,hk⟩
 | p :: ps,e,acc,f,st,hf,hl,h,hk=>by
  have ht:Zz 2 (pl p) [c0,some (.res r),e]=some [c0,some (.res r),some (pl p)]:=rfl;have hput:Zbc st (.res r) (pl p) (.bl true)=some (st.set r (.dtt (dpl (fun q=>if q=p then .bl true else f q) (if p∈acc then acc else acc++[p])))):=by
   have hs:(dpl f acc).length<small:=by
    unfold dpl;rw[Ym];exact Yy (by simp at hl; omega) (Zad (n:=100) (by omega))
   unfold Zbc;simp only[h];rw[Yf ⟨by rw[Zbw]; rfl,hs⟩,ZgO]
  have hb:ZeS [c0,some (.res r),some (pl p)] st = .nx [c0,some (.res r),some (pl p)] (st.set r (.dtt (dpl (fun q=>if q=p then .bl true else f q) (if p∈acc then acc else acc++[p])))):=by
   unfold ZeS;rw[Zdo];simp[hput]
  have hlen:(if p∈acc then acc else acc++[p]).length<=acc.length+1:=by split <;> simp
  obtain⟨e',f',st',e1,e2,e3⟩:=Zhs hchk c0 r st0 hr ps (some (pl p)) (if p∈acc then acc else acc++[p]) (fun q=>if q=p then .bl true else f q) _ (fun q hq=>by
   by_cases z:q=p
   ·rw[Yf z]
   ·rw[Yh z];refine hf q ?_;split at hq
    ·exact hq
    ·rcases Wu.mp hq with hq | hq
     ·exact hq
     ·exact absurd (YC.mp hq) z) (by simp only[Yw] at hl; omega) (ZbY h) (hk.set hr _)
  refine⟨e',f',st',?_,e2,e3⟩;rw[Yn,ZbM (hchk st) ht hb];exact e1
theorem ZiG(ps:List (List Str))(hl:ps.length<=100)(st:Sto):∃st',Zbn [.lst (ps.map pl)] st = .ok (.lst ((Zd [] ps.reverse).map pl)) st'/\StoK st st':=by
 obtain⟨e',f',st',e1,e2,e3⟩:=Zhs (chk:=fun st=>Zp st (.lst (ps.map pl))=some (ps.map pl)) (fun _=>rfl) (some (.lst (ps.map pl))) st.length st (Yj _) ps.reverse none [] (fun _ => .non) (st++[.dtt []]) (fun p hp=>by cases hp) (by simp; omega) (ZaT _ _) (StoK.app _ _);refine⟨st',?_,e3⟩;have hsq:∀st:Sto,Zp st (.lst (ps.map pl))=some (ps.map pl):=fun _=>rfl;have hk:(dpl f' (Zd [] ps.reverse)).map (·.1)=(Zd [] ps.reverse).map pl:=by
  unfold dpl;rw[YQ];rfl
 have hlist:ZdM [.res st.length] st' = .ok ((Zd [] ps.reverse).map pl) st':=by
  unfold ZdM;dsimp only;rw[e2];dsimp only;rw[hk]
 rw[List.map_reverse] at e1;have hd:Zfj (Za 0) [some (.lst (ps.map pl)),some (.res st.length),none] (st++[.dtt []]) = .ok ((ps.map pl).reverse,fun st=>Zp st (.lst (ps.map pl))=some (ps.map pl)) (st++[.dtt []]):=rfl;refine ZbQ rfl ?_;show Zgx [some (.lst (ps.map pl)),none,none] st=_;unfold Zgx;have h0:ZE 1 Zbo [some (.lst (ps.map pl)),none,none] st = .nx [some (.lst (ps.map pl)),some (.res st.length),none] (st++[.dtt []]):=rfl;rw[Zau h0];rw[Zau (ρ':=[some (.lst (ps.map pl)),some (.res st.length),e']) (st':=st') (by rw[Zb7,hd,ZbP]; exact e1)];generalize (Zd [] ps.reverse).map pl=L at *;simp[hlist]
theorem ZcK:∀(ps acc:List (List Str)) (p:List Str),p∈Zd acc ps ↔ p∈acc\/p∈ps
 | [],acc,p=>by simp[Zd]
 | q :: ps,acc,p=>by
  unfold Zd;rw[ZcK ps];by_cases h:q∈acc
  ·rw[Yf h,Yl];constructor
   ·rintro (h1 | h1)
    ·exact .inl h1
    ·exact .inr (.inr h1)
   ·rintro (h1 | h1 | h1)
    ·exact .inl h1
    ·exact .inl (h1 ▸ h)
    ·exact .inr h1
  ·rw[Yh h,Wu,YC,Yl];constructor
   ·rintro ((h1 | h1) | h1)
    ·exact .inl h1
    ·exact .inr (.inl h1)
    ·exact .inr (.inr h1)
   ·rintro (h1 | h1 | h1)
    ·exact .inl (.inl h1)
    ·exact .inl (.inr h1)
    ·exact .inr h1
theorem Zf1:∀(ps acc:List (List Str)),acc.Nodup->(Zd acc ps).Nodup
 | [],acc,h=>h
 | q :: ps,acc,h=>by
  unfold Zd;refine Zf1 ps _ ?_;split
  ·exact h
  ·rename_i hq;refine Qq.mpr ⟨h,by simp,fun u hu v hv e=>hq ?_⟩;rw[<-YC.mp hv,<-e];exact hu
theorem Zge(st:Sto)(b:List Str):∀gs:List (List Str),inN st depth (pl b) (gs.map pl)=some (decide (b∈gs))
 | []=>by simp[inN]
 | g :: gs=>by
  rw[Yn];unfold inN;rw[Zge st b gs,Zb9 st depth _ _ (Zek g) (Zek b)];have e:pl g=pl b->g=b:=fun h=>by
   have h':g.map D.str=b.map D.str:=by
    have:=congrArg (fun d=>match d with | D.tup xs=>xs | _=>[]) h;exact this
   exact str_inj.mp h'
  by_cases h1:g=b
  ·subst h1;simp
  ·have h2:¬ b=g:=fun h=>h1 h.symm;simp[h2];exact fun h=>absurd (e h) h1
open Classical in
theorem ZiO(st:Sto)(b:List Str):∀gs:List (List Str),Za6 st (pl b) (gs.map pl)=some (gs.map fun g=>decide (g=b))
 | []=>rfl
 | g :: gs=>by
  rw[Yn];unfold Za6;rw[ZiO st b gs,Zb9 st depth _ _ (Zek g) (Zek b)];have e:(pl g=pl b)=(g=b):=propext ⟨fun h=>by
   have h':g.map D.str=b.map D.str:=by
    have:=congrArg (fun d=>match d with | D.tup xs=>xs | _=>[]) h;exact this
   exact str_inj.mp h',fun h=>by rw[h]⟩
  simp only[e,Yn]
theorem Zeo(b:List Str):∀gs:List (List Str),b∈gs->(gs.map fun g=>decide (g=b)).idxOf true<gs.length/\gs[(gs.map fun g=>decide (g=b)).idxOf true]?=some b
 | [],h=>by cases h
 | g :: gs,h=>by
  by_cases e:g=b
  ·subst e;simp
  ·have hm:b∈gs:=by
    rcases Yl.mp h with h | h
    ·exact absurd h.symm e
    ·exact h
   obtain⟨h1,h2⟩:=Zeo b gs hm;rw[Yn,List.idxOf_cons,YS e];simp only[show (false == true)=false from rfl,cond_false,Yw];exact⟨by omega,by simpa using h2⟩
theorem Zjf(a b:List Str)(st:Sto):ZbC [pl a,pl b] st = .ok (.bl (decide (a.take b.length=b))) st:=by
 have e1:=Zfh b st;have e2:=Zi5 a none (some (b.length:Int)) st;rw[Zdc] at e2;have e3:=Zo4 (a.take b.length) b st;unfold ZbC ZhR;simp[e1,e2,e3]
def Za0(ps:List (List Str))(o:List Str):Nat:=(ps.filter fun p=>decide (p.take o.length=o)).length
theorem ZfO(ps:List (List Str))(hl:ps.length<=100)(o:List Str)(st:Sto):ZaS [.lst (ps.map pl),pl o] st = .ok (.int (Za0 ps o)) st:=by
 have e1:ZK (fun _=>True) (Zz 0) Zfr Zfd (ps.map pl) [none,some (pl o)] st [] = .ok ((ps.filter fun p=>decide (p.take o.length=o)).map pl) st:=by
  rw[Zc0 pl (fun p=>decide (p.take o.length=o)) pl (fun ρ => ∃a,ρ=[a,some (pl o)]) trivial ps _ [] ⟨_,rfl⟩ (by simp; exact Zad (by omega))]
  ·simp
  ·rintro p hm ρ ⟨a,rfl⟩;refine⟨_,rfl,⟨_,rfl⟩,?_,fun _ => ?_⟩
   ·have q:=Zjf p o st;unfold Zfr;simp[q]
   ·unfold Zfd;simp
 have e2:ZR [.lst ((ps.filter fun p=>decide (p.take o.length=o)).map pl)] st = .ok (.int (Za0 ps o)) st:=by
  simp[ZR,itemsOf,Zp,Za0]
 have hi:∀st:Sto,itemsOf st (.lst (ps.map pl))=some (ps.map pl):=fun _=>rfl;generalize hG:(ps.filter fun p=>decide (p.take o.length=o)).map pl=G at *;unfold ZaS Zh7;generalize ps.map pl=L at *;simp[hi,Z1,e1,e2]
theorem Zpk{R:List D}{j:Nat}{z:Int}{s:D}(hz:z=j)(hs:R[j]?=some s)(st:Sto):ixD (.lst R) (.int z) st = .ok s st:=by
 subst hz;have hx:L2.atI R (j:Int)=some s:=ZhP hs;have hi:itemsOf st (.lst R)=some R:=rfl;simp only[ixD,hi,hx]
def Zak(ns:List Int)(at_:Int):List (List Str):=(List.range 4).map fun (k:Nat)=>Zbm ns (at_+1+5 * (k:Int))
def ZaP(ns:List Int)(at_:Int):List (List Str):=(List.range (Zaa ns at_ 10).toNat).map fun (k:Nat)=>(Zak ns at_).getD (Zaa ns (at_+30+(k:Int)) 4).toNat []
theorem ZiJ(ns:List Int)(at_:Int):(ZaP ns at_).length<=9:=by
 unfold ZaP;rw[Ym,Wa];have:=Zc8 ns at_ 10 (by decide);omega
theorem ZlB{ns:List Int}{at_:Int}{p:List Str}(h:p∈ZaP ns at_):p∈Zak ns at_:=by
 unfold ZaP at h;obtain⟨k,_,rfl⟩:=YZ.mp h;have h1:=Zdw ns (at_+30+(k:Int)) 4 (by decide);have h2:=Zc8 ns (at_+30+(k:Int)) 4 (by decide);have hl:(Zaa ns (at_+30+(k:Int)) 4).toNat<(Zak ns at_).length:=by simp[Zak]; omega
 rw[Ye,Yd hl];exact Vd hl
theorem places_eq(ns:List Int)(hl:ns.length<=63)(at_:Int)(st:Sto):Zbt [.scr (ns.map .int),.int at_] st = .ok (.lst ((ZaP ns at_).map pl)) st:=by
 have e1:=ZeQ ns hl at_ 10 (by decide) st;have h1:=Zdw ns at_ 10 (by decide);have h2:=Zc8 ns at_ 10 (by decide);have e2:ZK (fun _=>True) (Zz 0) Zae Zfk ((List.range 4).map (fun (i:Nat)=>D.int (0+i))) [none,some (.scr (ns.map .int)),some (.int at_)] st [] = .ok ((Zak ns at_).map pl) st:=by
  rw[ZcR (fun (i:Nat)=>D.int (0+i)) (fun (k:Nat)=>pl (Zbm ns (at_+1+5 * (k:Int)))) (fun ρ => ∃a,ρ=[a,some (.scr (ns.map .int)),some (.int at_)]) trivial _ _ _ ⟨_,rfl⟩ (by simp only[Wq,Wa,Wx]; exact Zad (by omega))]
  ·simp only[Zak,YQ,QY,W9]
  ·rintro i _ ρ ⟨a,rfl⟩;refine⟨_,rfl,⟨_,rfl⟩,?_⟩;have e3:=Zhe ns hl (at_+1+5 * (i:Int)) st;have e4:=Za4 5 (i:Int) st (Zbx _ _ (by decide) (by decide));unfold Zfk;simp[e3,e4,ZbA]
 have e5:ZK (fun _=>True) (Zz 0) Zae ZgX ((List.range (Zaa ns at_ 10).toNat).map (fun (i:Nat)=>D.int (0+i))) [none,some (.lst ((Zak ns at_).map pl)),some (.scr (ns.map .int)),some (.int at_)] st [] = .ok ((ZaP ns at_).map pl) st:=by
  rw[ZcR (fun (i:Nat)=>D.int (0+i)) (fun (k:Nat)=>pl ((Zak ns at_).getD (Zaa ns (at_+30+(k:Int)) 4).toNat [])) (fun ρ => ∃a,ρ=[a,some (.lst ((Zak ns at_).map pl)),some (.scr (ns.map .int)),some (.int at_)]) trivial _ _ _ ⟨_,rfl⟩ (by simp only[Wq,Wa,Wx]; exact Zad (by omega))]
  ·simp only[ZaP,YQ,QY,W9]
  ·rintro i _ ρ ⟨a,rfl⟩;refine⟨_,rfl,⟨_,rfl⟩,?_⟩;have e3:=ZeQ ns hl (at_+30+(i:Int)) 4 (by decide) st;have g1:=Zdw ns (at_+30+(i:Int)) 4 (by decide);have g2:=Zc8 ns (at_+30+(i:Int)) 4 (by decide);have e4:ixD (.lst ((Zak ns at_).map pl)) (.int (Zaa ns (at_+30+(i:Int)) 4)) st = .ok (pl ((Zak ns at_).getD (Zaa ns (at_+30+(i:Int)) 4).toNat [])) st:=by
    have hk4:(Zaa ns (at_+30+(i:Int)) 4).toNat<(Zak ns at_).length:=by simp[Zak]; omega
    refine Zpk (j:=(Zaa ns (at_+30+(i:Int)) 4).toNat) (by omega) ?_ st;rw[Yz,Ye,Yd hk4];rfl
   unfold ZgX;generalize (Zak ns at_).map pl=SS at *;simp[e3,e4,ZbA]
 have h3:Zbl (Zaa ns at_ 10)=true:=ZdV (by omega) (by omega);have h4:Zbl 4=true:=ZdV (by omega) (by omega);unfold Zbt Zko;simp only[Int.zero_add] at e2 e5;generalize (ZaP ns at_).map pl=PP at *;generalize (Zak ns at_).map pl=SS at *;have e6:List.range (Int.toNat 4)=List.range 4:=rfl;simp[e1,e2,e5,h3,h4,Z1,ZbB,ZbA,e6]
def ixV(T:List (List Str))(p:List Str):Nat:=(T.map fun g=>decide (g=p)).idxOf true
def ZW(T:List (List Str))(p:List Str):List (List Str):=if p∈T then T.take (ixV T p+1) else T++[p]
def Zv:List (List Str)->List (List Str)->List (List Str)
 | T,[]=>T
 | T,p :: ps=>Zv (ZW T p) ps
theorem ZjW(T:List (List Str))(p:List Str):(ZW T p).length<=T.length+1:=by
 unfold ZW;split
 ·rw[Y8]; omega
 ·simp
theorem Zf0:∀(ps T:List (List Str)),(Zv T ps).length<=T.length+ps.length
 | [],T=>Yj _
 | p :: ps,T=>by
  unfold Zv;have:=Zf0 ps (ZW T p);have:=ZjW T p;simp only[Yw];omega
theorem ZqY(R:List (List Str))(p:List Str):R.take (ixV (R++[p]) p)++[p]=ZW R p/\ixV (R++[p]) p<(R++[p]).length:=by
 unfold ZW;have hm:p∈R++[p]:=by simp
 refine⟨?_,(Zeo p _ hm).1⟩;by_cases h:p∈R
 ·rw[Yf h];have e:ixV (R++[p]) p=ixV R p:=by
   unfold ixV;rw[WE,List.idxOf_append,Yf];exact YZ.mpr ⟨p,h,by simp⟩
  rw[e];obtain⟨h1,h2⟩:=Zeo p R h;rw[QH];have h3:R[ixV R p]?=some p:=h2;rw[h3];rfl
 ·rw[Yh h];have e:ixV (R++[p]) p=R.length:=by
   unfold ixV;rw[WE,List.idxOf_append,Yh]
   ·simp
   ·intro z;obtain⟨q,h1,h2⟩:=YZ.mp z;exact h (by rw[<-Wg h2]; exact h1)
  rw[e,Qt]
theorem ZmX{st:Sto}{d:D}{T:List (List Str)}(h:Zp st d=some (T.map pl)){p:List Str}(hi:ixV T p<T.length):Zdv d [pl p] st = .ok (.int (ixV T p:Nat)) st:=by
 unfold Zdv;simp only[h];rw[show Za6 st (pl p) (T.map pl)=some (T.map fun g=>decide (g=p)) by rw[ZiO]];dsimp only;rw[Yf (by rw[Ym]; exact hi)];rfl
theorem Zi9{chk:Sto->Prop}(c0:Option D)(st0:Sto)(hchk:∀st,StoK st0 st->chk st):∀(ps:List (List Str)) (r:Nat) (e:Option D) (T:List (List Str)) (st:Sto),st0.length<=r->T.length+ps.length<=100->st[r]?=some (.lst (T.map pl))->StoK st0 st ->
  ∃(r':Nat) (e':Option D) (st':Sto),ZO chk (Zz 2) Zdr (ps.map pl) [c0,some (.res r),e] st = .nx [c0,some (.res r'),e'] st'/\st'[r']?=some (.lst ((Zv T ps).map pl))/\st0.length<=r'/\StoK st0 st'
 | [],r,e,T,st,hr,_,h,hk=>⟨r,e,st,ZbG (hchk st hk),h,hr,hk⟩
 | p :: ps,r,e,T,st,hr,hl,h,hk=>by
  have ht:Zz 2 (pl p) [c0,some (.res r),e]=some [c0,some (.res r),some (pl p)]:=rfl;have hit:=getL h;have hin:inD (pl p) (.res r) st = .ok (.bl (decide (p∈T))) st:=by
   unfold inD;rw[hit];dsimp only;rw[Zge]
  have hs:Zp st (.res r)=some (T.map pl):=by simp[Zp,h]
  have step:∃(r1:Nat) (st1:Sto),Zdr [c0,some (.res r),some (pl p)] st = .nx [c0,some (.res r1),some (pl p)] st1/\st1[r1]?=some (.lst ((ZW T p).map pl))/\st0.length<=r1/\StoK st0 st1:=by
   unfold ZW;by_cases hm:p∈T
   ·rw[YN hm] at hin;rw[Yf hm];obtain⟨h1,h2⟩:=Zeo p T hm;have hix:=ZmX hs (p:=p) h1;generalize ixV T p=k at hix;have hcut:ZZ (.res r) none (some ((k:Int)+1)) st = .ok ((T.take (k+1)).map pl) st:=by
     have e:((k:Int)+1)=((k+1:Nat):Int):=by omega
     rw[e];simp only[ZZ,Zp,h,Zdc,UY]
    refine⟨st.length,st++[.lst ((T.take (k+1)).map pl)],?_,ZaT _ _,hk.le,hk.trans (StoK.app _ _)⟩;generalize (T.take (k+1)).map pl=TT at *;unfold Zdr;simp[hin,hs,hix,ZbA,hcut]
   ·rw[YS hm] at hin;rw[Yh hm];have ha:=ZpY (ρ:=[c0,some (.res r),some (pl p)]) (j:=1) (f:=Za 2) (d:=pl p) rfl h rfl (by rw[Ym]; exact Yy (by simp at hl; omega) (Zad (n:=100) (by omega)));refine⟨r,st.set r (.lst (T.map pl++[pl p])),?_,?_,hr,hk.set hr _⟩
    ·unfold Zdr;simp[hin,ha]
    ·rw[ZbY h,WE];rfl
  obtain⟨r1,st1,hb,g1,g2,g3⟩:=step;have:=ZjW T p;obtain⟨r',e',st',e1,e2,e3⟩:=Zi9 c0 st0 hchk ps r1 (some (pl p)) (ZW T p) st1 g2 (by simp only[Yw] at hl; omega) g1 g3;refine⟨r',e',st',?_,e2,e3⟩;rw[Yn,ZbM (hchk st hk) ht hb];exact e1
theorem Zh9(ps:List (List Str))(hl:ps.length<=100){d:D}(st:Sto)(hd:∀st',StoK st st'->itemsOf st' d=some (ps.map pl)):∃(st':Sto) (r:Nat),ZaJ [d] st = .ok (.res r) st'/\st'[r]?=some (.lst ((Zv [] ps).map pl))/\st.length<=r/\StoK st st':=by
 obtain⟨r',e',st',e1,e2,e3,e5⟩:=Zi9 (chk:=fun st=>itemsOf st d=some (ps.map pl)) (some d) st hd ps st.length none [] (st++[.lst []]) (Yj _) (by simp; omega) (ZaT _ _) (StoK.app _ _);refine⟨st',r',?_,e2,e3,e5⟩;refine ZbQ rfl ?_;show ZfP [some d,none,none] st=_;unfold ZfP;have q0:(0:Nat)<=small:=by decide
 have h1:Zdg 1 (Zbv Zi) [some d,none,none] st = .nx [some d,some (.res st.length),none] (st++[.lst []]):=by
  simp[q0]
 have hs:Zag (Za 0) [some d,some (.res st.length),none] (st++[.lst []]) = .ok (ps.map pl,fun st=>itemsOf st d=some (ps.map pl)) (st++[.lst []]):=by
  unfold Zag;have:=hd _ (StoK.app st [.lst []]);simp only[Zaj,Yu,Z9,this]
 rw[Zau h1,Zau (ρ':=[some d,some (.res r'),e']) (st':=st') (by rw[Zb7,hs,ZbP]; exact e1)];simp
theorem Zfz(ps:List (List Str))(hl:ps.length<=100)(st:Sto):∃(st':Sto) (r:Nat),ZaJ [.lst (ps.map pl)] st = .ok (.res r) st'/\st'[r]?=some (.lst ((Zv [] ps).map pl))/\st.length<=r/\StoK st st' :=
 Zh9 ps hl st fun _ _=>rfl
def dpi(f:List Str->Int)(ks:List (List Str)):List (D×D):=dpl (fun p => .int (f p)) ks
def ZaA(f:List Str->Int)(p:List Str)(x:Int):List Str->Int:=fun q=>if q=p then f p+x else f q
def ZaF:List (List Str×Int)->(List Str->Int)->List Str->Int
 | [],f=>f
 | (p,x) :: r,f=>ZaF r (ZaA f p x)
def Zero(f:List Str->Int)(acc:List (List Str)):Prop:=∀q,q ∉ acc->f q=0
theorem Zero.add{f:List Str->Int}{acc:List (List Str)}(h:Zero f acc)(p:List Str)(x:Int):Zero (ZaA f p x) (if p∈acc then acc else acc++[p]):=fun q hq=>by
 unfold ZaA;by_cases e:q=p
 ·subst e;split at hq
  ·exact absurd ‹_› hq
  ·exact absurd (by simp) hq
 ·rw[Yh e];refine h q fun z=>hq ?_;split
  ·exact z
  ·exact WI _ z
theorem ZcM{st:Sto}{r:Nat}{f:List Str->Int}{acc:List (List Str)}(h:st[r]?=some (.dtt (dpi f acc)))(z:Zero f acc)(p:List Str):Zbj st (.res r)=true/\∃o,dAt st (.res r) (pl p)=some o/\o.getD (.int 0) = .int (f p):=by
 refine⟨by unfold Zbj; simp only[h],(if p∈acc then some (.int (f p)) else none),?_,?_⟩
 ·unfold dAt;simp only[h];rw[Yf (by rw[Zbw]; rfl)];unfold dpi;rw[Zc7]
 ·by_cases hp:p∈acc
  ·rw[Yf hp]; rfl
  ·rw[Yh hp,z p hp]; rfl
theorem Zgr{st:Sto}{r:Nat}{f:List Str->Int}{acc:List (List Str)}(h:st[r]?=some (.dtt (dpi f acc)))(hl:acc.length<100)(p:List Str)(v:Int):Zbc st (.res r) (pl p) (.int v)=some (st.set r (.dtt (dpi (fun q=>if q=p then v else f q) (if p∈acc then acc else acc++[p])))):=by
 have hs:(dpi f acc).length<small:=by
  unfold dpi dpl;rw[Ym];exact Yy hl (Zad (n:=100) (by omega))
 unfold Zbc;simp only[h];rw[Yf ⟨by rw[Zbw]; rfl,hs⟩];unfold dpi;rw[ZgO];have:(fun q=>if q=p then D.int v else D.int (f q))=fun q=>D.int (if q=p then v else f q):=by
  funext q;split <;> rfl
 rw[this]
theorem ZgZ{acc:List (List Str)}{p:List Str}:(if p∈acc then acc else acc++[p]).length<=acc.length+1:=by split <;> simp
theorem Zj2{chk:Sto->Prop}(hchk:∀st,chk st)(c0:Option D)(r:Nat)(st0:Sto)(hr:st0.length<=r):∀(ps:List (List Str)) (e:Option D) (acc:List (List Str)) (f:List Str->Int) (st:Sto),Zero f acc->acc.length+ps.length<=100->st[r]?=some (.dtt (dpi f acc))->StoK st0 st ->
  ∃(e':Option D) (st':Sto),ZO chk (Zz 2) Zca (ps.map pl) [c0,some (.res r),e] st = .nx [c0,some (.res r),e'] st'/\st'[r]?=some (.dtt (dpi (ZaF (ps.map fun p=>(p,1)) f) (Zd acc ps)))/\StoK st0 st'
 | [],e,acc,f,st,hf,_,h,hk=>⟨e,st,ZbG (hchk st),h,hk⟩
 | p :: ps,e,acc,f,st,hf,hl,h,hk=>by
  have ht:Zz 2 (pl p) [c0,some (.res r),e]=some [c0,some (.res r),some (pl p)]:=rfl;obtain⟨hisd,o,hat,hn⟩:=ZcM h hf p;simp only[Yw] at hl;have hput:=Zgr h (by omega) p (f p+1);have hget:Zar (Za 1) (Za 2) (dC (.int 0)) [c0,some (.res r),some (pl p)] st = .ok (.int (f p)) st:=by
   rw[Zb3];simp only[Zaj,z_C,Yu,YA,Z9,hisd,Y9,hat];rw[hn]
  have hb:Zca [c0,some (.res r),some (pl p)] st = .nx [c0,some (.res r),some (pl p)] (st.set r (.dtt (dpi (ZaA f p 1) (if p∈acc then acc else acc++[p])))):=by
   unfold Zca;rw[Zdo];simp[hget,ZbA,hput];rfl
  have hlen:=ZgZ (acc:=acc) (p:=p);obtain⟨e',st',e1,e2,e3⟩:=Zj2 hchk c0 r st0 hr ps (some (pl p)) (if p∈acc then acc else acc++[p]) (ZaA f p 1) _ (hf.add p 1) (by omega) (ZbY h) (hk.set hr _);refine⟨e',st',?_,e2,e3⟩;rw[Yn,ZbM (hchk st) ht hb];exact e1
def Zj(ps:List (List Str))(p:List Str):Nat:=(ps.filter fun o=>decide (o=p)).length
theorem ZeW(q:List Str):∀(ps:List (List Str)) (f:List Str->Int),ZaF (ps.map fun p=>(p,1)) f q=f q+(Zj ps q:Int)
 | [],f=>by simp[ZaF,Zj]
 | p :: ps,f=>by
  rw[Yn];unfold ZaF;rw[ZeW q ps];unfold ZaA Zj;rw[Y1];by_cases e:q=p
  ·subst e;simp;omega
  ·rw[Yh e,Yh (by simpa using fun z=>e z.symm)]
theorem ZkY(ps:List (List Str))(hl:ps.length<=100)(st:Sto):∃(st':Sto) (r:Nat),Zao [.lst (ps.map pl)] st = .ok (.res r) st'/\st'[r]?=some (.dtt (dpi (fun p=>(Zj ps p:Int)) (Zd [] ps)))/\st.length<=r/\StoK st st':=by
 obtain⟨e',st',e1,e2,e4⟩:=Zj2 (chk:=fun st=>itemsOf st (.lst (ps.map pl))=some (ps.map pl)) (fun _=>rfl) (some (.lst (ps.map pl))) st.length st (Yj _) ps none [] (fun _=>0) (st++[.dtt []]) (fun _ _=>rfl) (by simp; omega) (ZaT _ _) (StoK.app _ _);have ef:ZaF (ps.map fun p=>(p,1)) (fun _=>0)=fun p=>(Zj ps p:Int):=by
  funext q;rw[ZeW];omega
 rw[ef] at e2;refine⟨st',st.length,?_,e2,Yj _,e4⟩;refine ZbQ rfl ?_;show Zdz [some (.lst (ps.map pl)),none,none] st=_;unfold Zdz;have h0:ZE 1 Zbo [some (.lst (ps.map pl)),none,none] st = .nx [some (.lst (ps.map pl)),some (.res st.length),none] (st++[.dtt []]):=rfl;have hd:Zag (Za 0) [some (.lst (ps.map pl)),some (.res st.length),none] (st++[.dtt []]) = .ok (ps.map pl,fun st=>itemsOf st (.lst (ps.map pl))=some (ps.map pl)) (st++[.dtt []]):=rfl;rw[Zau h0,Zau (ρ':=[some (.lst (ps.map pl)),some (.res st.length),e']) (st':=st') (by rw[Zb7,hd,ZbP]; exact e1)];simp
theorem ZeC(f:List Str->Int)(ks:List (List Str)):ZV (dpi f ks)=true:=by
 unfold ZV dpi dpl;rw[List.all_map,YH];intro p _;rfl
theorem Zmj{f g:List Str->Int}{ks:List (List Str)}(h:∀p∈ks,f p=g p):Zdq (dpi f ks) (dpi g ks)=true:=by
 unfold Zdq;rw[YJ];refine⟨by simp[dpi,dpl],YH.mpr fun x hx => ?_⟩;unfold dpi dpl at hx;obtain⟨p,hp,rfl⟩:=YZ.mp hx;unfold Zdu;show (match D.int (f p),ZI Zo (dpi g ks) (pl p) with
  | .int j,some (.int i)=>j == i
  | _,_=>false)=true
 unfold dpi;rw[Zc7,Yf hp];simp[h p hp]
theorem ZpK{st:Sto}{i j:Nat}{f g:List Str->Int}{ks:List (List Str)}(h1:st[i]?=some (.dtt (dpi f ks)))(h2:st[j]?=some (.dtt (dpi g ks)))(h:∀p∈ks,f p=g p):ZdL (.res i) (.res j) st = .ok (.bl true) st/\ZkI (.res i) (.res j) st = .ok (.bl false) st:=by
 have hs:=Zmj h;constructor
 ·unfold ZdL;simp only[h1,h2];rw[Yf ⟨ZeC _ _,ZeC _ _⟩,hs]
 ·unfold ZkI;simp only[h1,h2];rw[Yf ⟨ZeC _ _,ZeC _ _⟩,hs];rfl
theorem ZjC{α:Type}(f:α->D)(h:∀x,nice 49 (f x)=true)(L:List α):nice depth (.lst (L.map f))=true:=by
 show nice (49+1) _=true;unfold nice;rw[Zcp];intro y hy;obtain⟨x,_,rfl⟩:=YZ.mp hy;exact h x
theorem ZcF(L:List (List Str)):nice depth (.lst (L.map pl))=true:=ZjC pl (fun p=>Zef 47 p) L
theorem Zrp{st:Sto}(r:List Str)(E:List (List Str)):ZdH (pl r) (.lst (E.map pl)) st = .ok (.bl (!decide (r∈E))) st:=by
 unfold ZdH;show (match inN st depth (pl r) (E.map pl) with | some b=>_ | none=>_)=_;rw[Zge]
theorem Zkw:∀{l S:List (List Str)},l.Nodup->(∀x∈l,x∈S)->l.length<=S.length
 | [],S,_,_=>YU _
 | x :: l,S,hn,h=>by
  rw[Wd] at hn;have hx:=h x Yv;have:=Zkw (l:=l) (S:=S.erase x) hn.2 fun y hy=>(List.mem_erase_of_ne (show y≠x from fun e=>hn.1 (e ▸ hy))).mpr (h y (Yo _ hy));rw[UQ hx] at this;have h0:0<S.length:=List.length_pos_of_mem hx;simp only[Yw];omega
theorem Zmn:∀{ps:List (List Str)} {S:List (List Str)},(∀p∈ps,p∈S)->(Zd [] ps).length<=S.length:=fun {ps S} h=>by
 refine Zkw (Zf1 ps [] WO) fun p hp => ?_;rcases (ZcK ps [] p).mp hp with z | z
 ·cases z
 ·exact h p z
theorem ZjP(X:List (List Str))(m:Nat)(st:Sto):ZbL [.lst (X.map pl),.int (m:Int)] st = .ok (.lst ((X.take m).map pl)) st:=by
 have em:Zdm [.int (m:Int),.int 0] st = .ok (.int (m:Int)) st:=by
  simp only[Zdm];congr 2
 have ec:ZZ (.lst (X.map pl)) none (some (m:Int)) st = .ok ((X.take m).map pl) st:=by simp only[ZZ,Zp,Zdc,UY]
 generalize (X.take m).map pl=Y at *;generalize X.map pl=Z at *;unfold ZbL Zj5;simp[em,ec]
theorem Zhg(ps:List (List Str))(hl:ps.length<=100)(m:Nat)(st:Sto):∃st',ZaV [.lst (ps.map pl),.int (m:Int)] st = .ok (.lst (((Zd [] ps.reverse).take m).map pl)) st'/\StoK st st':=by
 obtain⟨st',e,k⟩:=ZiG ps hl st;refine⟨st',?_,k⟩;have ea:=ZjP (Zd [] ps.reverse) m st';generalize ((Zd [] ps.reverse).take m).map pl=L at *;generalize (Zd [] ps.reverse).map pl=L2 at *;generalize ps.map pl=M at *;unfold ZaV Zjm;simp[e,ea]
def Zba(ps L:List (List Str)):List (Int×Int):=(List.range L.length).map fun (j:Nat)=>(-(Zj ps (L.getD j []):Int),(j:Int))
theorem ZnS{ps L:List (List Str)}{q:Int×Int}(h:q∈ZbO (Zba ps L)):∃j:Nat,j<L.length/\q.2=(j:Int):=by
 have h1:=(ZdR _).mem_iff.mp h;unfold Zba at h1;obtain⟨j,h2,rfl⟩:=YZ.mp h1;exact⟨j,by simpa using h2,rfl⟩
def ZT(ps L:List (List Str)):List (List Str):=(ZbO (Zba ps L)).map fun q=>L.getD q.2.toNat []
theorem Zjy{ks:List (List Str)}{f:List Str->Int}:∀{L:List (List Str)},(∀p∈L,p∈ks)->Zcf (dpi f ks) (L.map pl)=some (L.map fun p => -(f p))
 | [],_=>rfl
 | p :: L,h=>by
  rw[Yn];unfold Zcf;rw[Zjy fun q hq=>h q (Yo _ hq),Zbw];have:ZI Zo (dpi f ks) (pl p)=some (.int (f p)):=by
   unfold dpi;rw[Zc7,Yf (h p Yv)]
  rw[this];rfl
theorem Zri(ps L:List (List Str)):Zcm (L.map fun p => -(Zj ps p:Int)) (L.map pl)=(ZT ps L).map pl:=by
 have e:(List.range (L.map fun p => -(Zj ps p:Int)).length).map (fun (i:Nat)=>((L.map fun p => -(Zj ps p:Int)).getD i 0,(i:Int)))=Zba ps L:=by
  unfold Zba;rw[Ym];refine Y6 fun i hi => ?_;have hl:i<L.length:=by simpa using hi
  rw[Ye,Yz,Ye,Yd hl];rfl
 unfold Zcm ZT;rw[e,YQ];refine Y6 fun q hq => ?_;obtain⟨j,hj,hj2⟩:=ZnS hq;show (L.map pl).getD q.2.toNat .non=pl (L.getD q.2.toNat []);rw[hj2,Y4,Ye,Yz,Ye,Yd hj];rfl
structure StoT(st st':Sto):Prop where
 fr:∀(j:Nat) (x:S),j≠0->st[j]?=some x->st'[j]?=some x
 le:st.length<=st'.length
theorem ZnZ{cv:Nat->Addr}(ps:List (List Str))(hl:ps.length<=100)(h4:(Zd [] ps.reverse).length<=4)(m:Nat)(st:Sto)(h0:st[0]?=some (.tab (cv 90) false)) :
  ∃st',Zb4 cv [.lst (ps.map pl),.int (m:Int)] st = .ok (.lst (((ZT ps (Zd [] ps.reverse)).take m).map pl)) st'/\StoT st st':=by
 obtain⟨st1,r,e1,e2,e3,k1⟩:=ZkY ps hl st;obtain⟨st2,f1,k2⟩:=ZiG ps hl st1;have hs:0<st.length:=(Yk.mp h0).1;have g0:=k2.fr _ _ (k1.fr _ _ h0);have g2:=k2.fr _ _ e2;have hlam:Zes (cv 90) 2 (Zl Zbn (Zc (Za 0) Zi)) [some (.lst (ps.map pl)),some (.int (m:Int)),some (.res r)] st1 = .ok ((ZT ps (Zd [] ps.reverse)).map pl) (st2.set 0 (.tab (cv 90) true)):=by
  have hk:=Zjy (ks:=Zd [] ps) (f:=fun p=>(Zj ps p:Int)) (L:=Zd [] ps.reverse) fun p hp=>by
   rcases (ZcK _ _ _).mp hp with z | z
   ·cases z
   ·exact (ZcK _ _ _).mpr (.inr (by simpa using z))
  have hc:Zl Zbn (Zc (Za 0) Zi) [some (.lst (ps.map pl)),some (.int (m:Int)),some (.res r)] st1 = .ok (.lst ((Zd [] ps.reverse).map pl)) st2:=by
   generalize (Zd [] ps.reverse).map pl=Z at *;generalize ps.map pl=Y at *;simp[f1]
  unfold Zes;rw[hc,Z9];simp only[YA,Yu,g0,g2,hk];rw[Yf ⟨trivial,by rw[Ym]; exact h4⟩,Zri]
 have ea:=ZjP (ZT ps (Zd [] ps.reverse)) m (st2.set 0 (.tab (cv 90) true));refine⟨st2.set 0 (.tab (cv 90) true),?_,⟨fun j x hj h => ?_,by rw[Qy]; exact YL k1.le k2.le⟩⟩
 ·refine ZbQ rfl ?_;show ZgK cv [some (.lst (ps.map pl)),some (.int (m:Int)),none] st=_;unfold ZgK;have hs1:ZE 2 (Zl Zao (Zc (Za 0) Zi)) [some (.lst (ps.map pl)),some (.int (m:Int)),none] st = .nx [some (.lst (ps.map pl)),some (.int (m:Int)),some (.res r)] st1:=by
   generalize ps.map pl=Y at *;simp[e1]
  rw[Zau hs1];generalize ((ZT ps (Zd [] ps.reverse)).take m).map pl=Z at *;generalize (ZT ps (Zd [] ps.reverse)).map pl=Z2 at *;generalize ps.map pl=Y at *;simp[hlam,ea]
 ·rw[WJ (by omega)];exact k2.fr _ _ (k1.fr _ _ h)
theorem Zje(w:Str):Zx (.str w)=some (Sum.inr w):=rfl
theorem keyD_inj{p q:Str}:Zx (D.str p)=Zx (D.str q) ↔ p=q:=⟨fun h=>by
 have h':some (Sum.inr p:L2.Key)=some (Sum.inr q):=h;exact Sum.inr.inj (Option.some.inj h'),fun h=>by rw[h]⟩
def dsl(f:Str->D)(ks:List Str):List (D×D):=ks.map fun p=>(D.str p,f p)
theorem Zgk(f:Str->D)(p:Str):∀ks:List Str,ZI Zx (dsl f ks) (D.str p)=if p∈ks then some (f p) else none
 | []=>by simp[dsl,ZI]
 | k :: ks=>by
  show (if Zx (D.str k)=Zx (D.str p) then some (f k) else ZI Zx (dsl f ks) (D.str p))=_;rw[Zgk f p ks];by_cases h:k=p
  ·subst h;simp
  ·rw[Yh (fun z=>h (keyD_inj.mp z))];have h':¬ p=k:=fun z=>h z.symm;simp[h']
theorem ZmU(f:Str->D)(ks:List Str)(p:Str):hasD Zx (dsl f ks) (D.str p)=decide (p∈ks):=by
 unfold hasD dsl;rw[List.any_map]
 induction ks with
 | nil=>simp
 | cons k ks ih =>
  rw[QS,ih];by_cases h:k=p
  ·subst h;simp
  ·have h':¬ p=k:=fun z=>h z.symm;have h2:¬ Zx (D.str k)=Zx (D.str p):=fun z=>h (keyD_inj.mp z);simp[h',h2]
theorem Zoc(f:Str->D)(ks:List Str)(p:Str)(v:D):putD Zx (dsl f ks) (D.str p) v=dsl (fun q=>if q=p then v else f q) (if p∈ks then ks else ks++[p]):=by
 unfold putD;rw[ZmU];by_cases h:p∈ks
 ·rw[Yf (YN h),Yf h];unfold dsl;rw[YQ];refine Y6 fun q _ => ?_;show (if Zx (D.str q)=Zx (D.str p) then (D.str q,v) else (D.str q,f q))=(D.str q,if q=p then v else f q);by_cases e:q=p
  ·rw[Yf (keyD_inj.mpr e),Yf e]
  ·rw[Yh (fun z=>e (keyD_inj.mp z)),Yh e]
 ·rw[Yh (by simpa using h),Yh h];unfold dsl;rw[WE];congr 1
  ·refine Y6 fun q hq => ?_;have:¬ q=p:=fun z=>h (z ▸ hq);show (D.str q,f q)=(D.str q,if q=p then v else f q);rw[Yh this]
  ·show [(D.str p,v)]=[(D.str p,if p=p then v else f p)];rw[Yf rfl]
def Zs:List Str->List Str->List Str
 | acc,[]=>acc
 | acc,p :: ps=>Zs (if p∈acc then acc else acc++[p]) ps
theorem ZgM:∀(ps acc:List Str) (p:Str),p∈Zs acc ps ↔ p∈acc\/p∈ps
 | [],acc,p=>by simp[Zs]
 | q :: ps,acc,p=>by
  unfold Zs;rw[ZgM ps];by_cases h:q∈acc
  ·rw[Yf h,Yl];constructor
   ·rintro (h1 | h1)
    ·exact .inl h1
    ·exact .inr (.inr h1)
   ·rintro (h1 | h1 | h1)
    ·exact .inl h1
    ·exact .inl (h1 ▸ h)
    ·exact .inr h1
  ·rw[Yh h,Wu,YC,Yl];constructor
   ·rintro ((h1 | h1) | h1)
    ·exact .inl h1
    ·exact .inr (.inl h1)
    ·exact .inr (.inr h1)
   ·rintro (h1 | h1 | h1)
    ·exact .inl (.inl h1)
    ·exact .inl (.inr h1)
    ·exact .inr h1
theorem ZfL:∀(ps acc:List Str),acc.Nodup->(Zs acc ps).Nodup
 | [],acc,h=>h
 | q :: ps,acc,h=>by
  unfold Zs;refine ZfL ps _ ?_;split
  ·exact h
  ·rename_i hq;refine Qq.mpr ⟨h,by simp,fun u hu v hv e=>hq ?_⟩;rw[<-YC.mp hv,<-e];exact hu
def dsi(f:Str->Int)(ks:List Str):List (D×D):=dsl (fun p => .int (f p)) ks
def ZcD(f:Str->Int)(p:Str)(x:Int):Str->Int:=fun q=>if q=p then f p+x else f q
def Zcr:List (Str×Int)->(Str->Int)->Str->Int
 | [],f=>f
 | (p,x) :: r,f=>Zcr r (ZcD f p x)
def ZeroS(f:Str->Int)(acc:List Str):Prop:=∀q,q ∉ acc->f q=0
theorem ZeroS.add{f:Str->Int}{acc:List Str}(h:ZeroS f acc)(p:Str)(x:Int):ZeroS (ZcD f p x) (if p∈acc then acc else acc++[p]):=fun q hq=>by
 unfold ZcD;by_cases e:q=p
 ·subst e;split at hq
  ·exact absurd ‹_› hq
  ·exact absurd (by simp) hq
 ·rw[Yh e];refine h q fun z=>hq ?_;split
  ·exact z
  ·exact WI _ z
theorem Zn0{st:Sto}{r:Nat}{f:Str->Int}{acc:List Str}(h:st[r]?=some (.dct (dsi f acc)))(z:ZeroS f acc)(p:Str):Zbj st (.res r)=true/\∃o,dAt st (.res r) (D.str p)=some o/\o.getD (.int 0) = .int (f p):=by
 refine⟨by unfold Zbj; simp only[h],(if p∈acc then some (.int (f p)) else none),?_,?_⟩
 ·unfold dAt;simp only[h];rw[Yf (by rw[Zje]; rfl)];unfold dsi;rw[Zgk]
 ·by_cases hp:p∈acc
  ·rw[Yf hp]; rfl
  ·rw[Yh hp,z p hp]; rfl
theorem ZnC{st:Sto}{r:Nat}{f:Str->Int}{acc:List Str}(h:st[r]?=some (.dct (dsi f acc)))(hl:acc.length<100)(p:Str)(v:Int):Zbc st (.res r) (D.str p) (.int v)=some (st.set r (.dct (dsi (fun q=>if q=p then v else f q) (if p∈acc then acc else acc++[p])))):=by
 have hs:(dsi f acc).length<small:=by
  unfold dsi dsl;rw[Ym];exact Yy hl (Zad (n:=100) (by omega))
 unfold Zbc;simp only[h];rw[Yf ⟨by rw[Zje]; rfl,hs⟩];unfold dsi;rw[Zoc];have:(fun q=>if q=p then D.int v else D.int (f q))=fun q=>D.int (if q=p then v else f q):=by
  funext q;split <;> rfl
 rw[this]
theorem Zpg{acc:List Str}{p:Str}:(if p∈acc then acc else acc++[p]).length<=acc.length+1:=by split <;> simp
theorem Zhi{chk:Sto->Prop}(hchk:∀st,chk st)(c0:Option D)(r:Nat)(st0:Sto)(hr:st0.length<=r):∀(ps:List Str) (e:Option D) (acc:List Str) (f:Str->Int) (st:Sto),ZeroS f acc->acc.length+ps.length<=100->st[r]?=some (.dct (dsi f acc))->StoK st0 st ->
  ∃(e':Option D) (st':Sto),ZO chk (Zz 2) ZeL (ps.map D.str) [c0,some (.res r),e] st = .nx [c0,some (.res r),e'] st'/\st'[r]?=some (.dct (dsi (Zcr (ps.map fun p=>(p,1)) f) (Zs acc ps)))/\StoK st0 st'
 | [],e,acc,f,st,hf,_,h,hk=>⟨e,st,ZbG (hchk st),h,hk⟩
 | p :: ps,e,acc,f,st,hf,hl,h,hk=>by
  have ht:Zz 2 (D.str p) [c0,some (.res r),e]=some [c0,some (.res r),some (D.str p)]:=rfl;obtain⟨hisd,o,hat,hn⟩:=Zn0 h hf p;simp only[Yw] at hl;have hput:=ZnC h (by omega) p (f p+1);have hget:Zar (Za 1) (Za 2) (dC (.int 0)) [c0,some (.res r),some (D.str p)] st = .ok (.int (f p)) st:=by
   rw[Zb3];simp only[Zaj,z_C,Yu,YA,Z9,hisd,Y9,hat];rw[hn]
  have hb:ZeL [c0,some (.res r),some (D.str p)] st = .nx [c0,some (.res r),some (D.str p)] (st.set r (.dct (dsi (ZcD f p 1) (if p∈acc then acc else acc++[p])))):=by
   unfold ZeL;rw[Zdo];simp[hget,ZbA,hput];rfl
  have hlen:=Zpg (acc:=acc) (p:=p);obtain⟨e',st',e1,e2,e3⟩:=Zhi hchk c0 r st0 hr ps (some (D.str p)) (if p∈acc then acc else acc++[p]) (ZcD f p 1) _ (hf.add p 1) (by omega) (ZbY h) (hk.set hr _);refine⟨e',st',?_,e2,e3⟩;rw[Yn,ZbM (hchk st) ht hb];exact e1
def ZM(ps:List Str)(p:Str):Nat:=(ps.filter fun o=>decide (o=p)).length
theorem ZiU(q:Str):∀(ps:List Str) (f:Str->Int),Zcr (ps.map fun p=>(p,1)) f q=f q+(ZM ps q:Int)
 | [],f=>by simp[Zcr,ZM]
 | p :: ps,f=>by
  rw[Yn];unfold Zcr;rw[ZiU q ps];unfold ZcD ZM;rw[Y1];by_cases e:q=p
  ·subst e;simp;omega
  ·rw[Yh e,Yh (by simpa using fun z=>e z.symm)]
theorem Zm7(ps:List Str)(hl:ps.length<=100)(st:Sto):∃(st':Sto) (r:Nat),Zcb [.lst (ps.map D.str)] st = .ok (.res r) st'/\st'[r]?=some (.dct (dsi (fun p=>(ZM ps p:Int)) (Zs [] ps)))/\st.length<=r/\StoK st st':=by
 obtain⟨e',st',e1,e2,e4⟩:=Zhi (chk:=fun st=>itemsOf st (.lst (ps.map D.str))=some (ps.map D.str)) (fun _=>rfl) (some (.lst (ps.map D.str))) st.length st (Yj _) ps none [] (fun _=>0) (st++[.dct []]) (fun _ _=>rfl) (by simp; omega) (ZaT _ _) (StoK.app _ _);have ef:Zcr (ps.map fun p=>(p,1)) (fun _=>0)=fun p=>(ZM ps p:Int):=by
  funext q;rw[ZiU];omega
 rw[ef] at e2;refine⟨st',st.length,?_,e2,Yj _,e4⟩;refine ZbQ rfl ?_;show ZfV [some (.lst (ps.map D.str)),none,none] st=_;unfold ZfV;have h0:ZE 1 ZdU [some (.lst (ps.map D.str)),none,none] st = .nx [some (.lst (ps.map D.str)),some (.res st.length),none] (st++[.dct []]):=rfl;have hd:Zag (Za 0) [some (.lst (ps.map D.str)),some (.res st.length),none] (st++[.dct []]) = .ok (ps.map D.str,fun st=>itemsOf st (.lst (ps.map D.str))=some (ps.map D.str)) (st++[.dct []]):=rfl;rw[Zau h0,Zau (ρ':=[some (.lst (ps.map D.str)),some (.res st.length),e']) (st':=st') (by rw[Zb7,hd,ZbP]; exact e1)];simp
def Zg(ps:List (List Str))(o:List Str):List Str:=(ps.filter fun p=>decide (p.take o.length=o) && decide (o.length<p.length)).map fun p=>p.getD o.length ""
theorem ZkM(ps:List (List Str))(o:List Str):(Zg ps o).length<=ps.length:=by
 unfold Zg;rw[Ym];exact List.length_filter_le _ _
theorem Zr6{p:List Str}{k:Nat}(h:k<p.length)(st:Sto):ixD (pl p) (.int (k:Int)) st = .ok (.str (p.getD k "")) st:=by
 have hx:L2.atI (p.map D.str) (k:Int)=some (.str (p.getD k "")):=ZhP (by rw[Yz,Ye,Yd h]; rfl);have hi:itemsOf st (pl p)=some (p.map D.str):=rfl;unfold ixD;simp only[pl] at hi ⊢;rw[hi];simp only[hx]
theorem gt_int(a b:Int)(st:Sto):gtD (.int a) (.int b) st = .ok (.bl (decide (b<a))) st:=rfl
def itV(W:List Str)(w:Str):D:=.tup [.str w,.int (ZM W w:Int)]
theorem Zpv(ps:List (List Str))(hl:ps.length<=50)(o:List Str)(st:Sto):∃st',Zch [.lst (ps.map pl),pl o] st = .ok (.lst ((SO.srtS (Zs [] (Zg ps o))).map (itV (Zg ps o)))) st'/\StoK st st':=by
 have e0:=Zfh o st;have e1:ZK (fun _=>True) (Zz 0) Zfx ZgI (ps.map pl) [none,some (.int (o.length:Int)),some (pl o)] st [] = .ok ((Zg ps o).map .str) st:=by
  rw[Zc0 pl (fun p=>decide (p.take o.length=o) && decide (o.length<p.length)) (fun p=>D.str (p.getD o.length "")) (fun ρ => ∃a,ρ=[a,some (.int (o.length:Int)),some (pl o)]) trivial ps _ [] ⟨_,rfl⟩ (by simp; exact Zad (by omega))]
  ·unfold Zg;rw[YQ];rfl
  ·rintro p hm ρ ⟨a,rfl⟩;refine⟨[some (pl p),some (.int (o.length:Int)),some (pl o)],rfl,⟨_,rfl⟩,?_,fun h => ?_⟩
   ·have q1:=Zjf p o st;have q2:=Zfh p st;have q3:=gt_int (p.length:Int) (o.length:Int) st;have q4:decide ((o.length:Int)<(p.length:Int))=decide (o.length<p.length):=by
     by_cases z:o.length<p.length
     ·rw[YN z,YN (by omega)]
     ·rw[YS z,YS (by omega)]
    rw[q4] at q3;unfold Zfx;cases h1:decide (p.take o.length=o) with
    | true=>rw[h1] at q1; simp[q1,q2,q3]
    | false=>rw[h1] at q1; simp[q1]
   ·rw[YJ,YR,YR] at h;have q:=Zr6 h.2 st;unfold ZgI;generalize p.getD o.length "" = W at *;simp[q]
 have hwl:=ZkM ps o;obtain⟨st',r,f1,f2,f3,k⟩:=Zm7 (Zg ps o) (by omega) st;refine⟨st',?_,k⟩;have hnd:(Zs [] (Zg ps o)).Nodup:=ZfL _ _ WO;have hlen:(Zs [] (Zg ps o)).length<64:=by
  have:(Zs [] (Zg ps o)).length<=(Zg ps o).length:=by
   have:∀(ws acc:List Str),(Zs acc ws).length<=acc.length+ws.length:=by
    intro ws
    induction ws with
    | nil=>exact fun acc=>Yj _
    | cons w ws ih =>
     intro acc;have h1:=ih (if w∈acc then acc else acc++[w]);have h2:(if w∈acc then acc else acc++[w]).length<=acc.length+1:=by split <;> simp
     show (Zs (if w∈acc then acc else acc++[w]) ws).length<=_;simp only[Yw];omega
   simpa using this (Zg ps o) []
  omega
 have hit:∀fo ρ st0,fo ρ st0 = .ok (.res r) st'->ZdQ fo ρ st0 = .ok ((SO.srtS (Zs [] (Zg ps o))).map (itV (Zg ps o))) st':=fun fo ρ st0 hfo=>by
  unfold ZdQ;rw[hfo,Z9];simp only[f2];have hk:(dsi (fun p=>(ZM (Zg ps o) p:Int)) (Zs [] (Zg ps o))).map (·.1)=(Zs [] (Zg ps o)).map D.str:=by
   unfold dsi dsl;rw[YQ];rfl
  have hin:ZV (dsi (fun p=>(ZM (Zg ps o) p:Int)) (Zs [] (Zg ps o)))=true:=by
   unfold ZV dsi dsl;rw[List.all_map,YH];intro p _;rfl
  rw[hk,ZgW];dsimp only;rw[Yf ⟨hin,hnd,hlen⟩];congr 1;refine Y6 fun w hw => ?_;unfold Zcw itV dsi;rw[Zgk,Yf ((SO.srtS_perm _).mem_iff.mp hw)];rfl
 have hi:∀st:Sto,itemsOf st (.lst (ps.map pl))=some (ps.map pl):=fun _=>rfl;generalize (SO.srtS (Zs [] (Zg ps o))).map (itV (Zg ps o))=G1 at *;have hc:∀a b c:Option D,Zl Zcb (Zc (Za 3) Zi) [a,b,c,some (.lst ((Zg ps o).map .str))] st = .ok (.res r) st':=fun a b c=>by
  generalize (Zg ps o).map D.str=G2 at *;simp[f1]
 have hit2:=fun a b c=>hit (Zl Zcb (Zc (Za 3) Zi)) [a,b,c,some (.lst ((Zg ps o).map .str))] st (hc a b c);clear hit hc;generalize (Zg ps o).map D.str=G2 at *;generalize ps.map pl=G3 at *;unfold Zch Zh5;simp[e0,hi,Z1,e1,hit2]
def zlV:List (List Str)->List Int->List Int->List (List Str×Int)
 | p :: r,m :: ms,u :: us=>(p,u - m) :: zlV r ms us
 | _,_,_=>[]
theorem ZjR{c0 c1 c2 c4:Option D}{chk:Sto->Prop}(r:Nat)(st0:Sto)(hchk:∀st,StoK st0 st->chk st)(hr:st0.length<=r):∀(qs:List (List Str)) (Ms Us:List Int) (e5 e6 e7:Option D) (acc:List (List Str)) (f:List Str->Int) (st:Sto),Zero f acc->acc.length+qs.length<=100->qs.length<=Ms.length->qs.length<=Us.length->st[r]?=some (.dtt (dpi f acc))->StoK st0 st ->
  ∃(e' e'' e3:Option D) (st':Sto),ZO chk (Za7 [5,6,7]) ZdY (Zaf (qs.map pl) (Ms.map D.int) (Us.map D.int)) [c0,c1,c2,some (.res r),c4,e5,e6,e7] st = .nx [c0,c1,c2,some (.res r),c4,e',e'',e3] st'/\st'[r]?=some (.dtt (dpi (ZaF (zlV qs Ms Us) f) (Zd acc qs)))/\StoK st0 st'
 | [],Ms,Us,e5,e6,e7,acc,f,st,_,_,_,_,h,hk=>⟨e5,e6,e7,st,by rw[show Zaf (([]:List (List Str)).map pl) (Ms.map D.int) (Us.map D.int)=[] by unfold Zaf; rfl]; exact ZbG (hchk st hk),by rw[show zlV [] Ms Us=[] by unfold zlV; rfl]; exact h,hk⟩
 | p :: qs,[],_,_,_,_,_,_,_,_,_,h1,_,_,_=>by simp at h1
 | p :: qs,_ :: _,[],_,_,_,_,_,_,_,_,_,h1,_,_=>by simp at h1
 | p :: qs,m :: Ms,u :: Us,e5,e6,e7,acc,f,st,hf,hl,h1,h2,h,hk=>by
  have hz:Zaf ((p :: qs).map pl) ((m :: Ms).map D.int) ((u :: Us).map D.int)=D.tup [pl p,.int m,.int u] :: Zaf (qs.map pl) (Ms.map D.int) (Us.map D.int):=rfl;have hz2:zlV (p :: qs) (m :: Ms) (u :: Us)=(p,u - m) :: zlV qs Ms Us:=rfl;have ht:Za7 [5,6,7] (D.tup [pl p,.int m,.int u]) [c0,c1,c2,some (.res r),c4,e5,e6,e7]=some [c0,c1,c2,some (.res r),c4,some (pl p),some (.int m),some (.int u)]:=rfl;simp only[Yw] at hl h1 h2;obtain⟨hisd,o,hat,hn⟩:=ZcM h hf p;have hput:=Zgr h (by omega) p (f p+u - m);have hget:Zar (Za 3) (Za 5) (dC (.int 0)) [c0,c1,c2,some (.res r),c4,some (pl p),some (.int m),some (.int u)] st = .ok (.int (f p)) st:=by
   rw[Zb3];simp only[Zaj,z_C,Yu,YA,Z9,hisd,Y9,hat];rw[hn]
  have hb:ZdY [c0,c1,c2,some (.res r),c4,some (pl p),some (.int m),some (.int u)] st = .nx [c0,c1,c2,some (.res r),c4,some (pl p),some (.int m),some (.int u)] (st.set r (.dtt (dpi (ZaA f p (u - m)) (if p∈acc then acc else acc++[p])))):=by
   have ea:(fun q=>if q=p then f p+u - m else f q)=ZaA f p (u - m):=by
    funext q;unfold ZaA;split <;> omega
   rw[ea] at hput;unfold ZdY;rw[Zdo];simp[hget,ZbA,ZiX,hput]
  have hlen:=ZgZ (acc:=acc) (p:=p);obtain⟨e',e'',e3,st',g1,g2,g3⟩:=ZjR r st0 hchk hr qs Ms Us (some (pl p)) (some (.int m)) (some (.int u)) (if p∈acc then acc else acc++[p]) (ZaA f p (u - m)) _ (hf.add p _) (by omega) (by omega) (by omega) (ZbY h) (hk.set hr _);refine⟨e',e'',e3,st',?_,g2,g3⟩;rw[hz,ZbM (hchk st hk) ht hb];exact g1
theorem Zcq{f:D->D->Option Bool}:∀xs:List D,(∀x∈xs,f x x=some true)->ZY f xs xs=some true
 | [],_=>rfl
 | x :: xs,h=>by rw[ZY,h x Yv,Zcq xs fun y hy=>h y (Yo _ hy)]; rfl
theorem Zox{n:Nat}{st:Sto}{a b:D}{X:List D}(ha:kd st a = .lst X)(hb:kd st b = .lst X)(hn:∀x∈X,nice n x=true):eqN st (n+1) a b=some true:=by
 unfold eqN;rw[ha,hb];exact Zcq X fun x hx=>by rw[Zb9 st n x x (hn x hx) (hn x hx)]; simp
theorem ZfN:∀(xs ys T:List (List Str)),Zv T (xs++ys)=Zv (Zv T xs) ys
 | [],ys,T=>rfl
 | x :: xs,ys,T=>ZfN xs ys (ZW T x)
theorem Znp{T:List (List Str)}(p:List Str)(h:T.Nodup):(ZW T p).Nodup:=by
 unfold ZW;split
 ·exact h.sublist (VO _ _)
 ·rename_i hp;rw[Qq];refine⟨h,by simp,fun a ha b hb e => ?_⟩;rw[YC.mp hb] at e;exact hp (e ▸ ha)
theorem ZfK:∀(ps T:List (List Str)),T.Nodup->(Zv T ps).Nodup
 | [],T,h=>h
 | p :: ps,T,h=>ZfK ps _ (Znp p h)
theorem Zgj:∀(xs T:List (List Str)),(T++xs).Nodup->Zv T xs=T++xs
 | [],T,_=>by simp[Zv]
 | x :: xs,T,h=>by
  have hx:x ∉ T:=fun z=>by
   rw[Qq] at h;exact h.2.2 x z x Yv rfl
  show Zv (ZW T x) xs=_;unfold ZW;rw[Yh hx,Zgj xs (T++[x]) (by simpa using h)];simp
theorem ZqX(T:List (List Str))(p:List Str):(ZW T p).getLast?=some p:=by
 obtain⟨e,_⟩:=ZqY T p;rw[<-e,List.getLast?_append];simp
theorem Zjn:∀(ps T:List (List Str)),ps≠[]->(Zv T ps).getLast?=ps.getLast?
 | [p],T,_=>ZqX T p
 | p :: q :: ps,T,_=>by
  show (Zv (ZW T p) (q :: ps)).getLast?=_;rw[Zjn (q :: ps) _ (by simp)];simp[List.getLast?_cons_cons]
 | [],_,h=>absurd rfl h
theorem Zov(T:List (List Str))(p:List Str):(ZW T p).head?=(T++[p]).head?:=by
 unfold ZW;split
 ·cases T with
  | nil=>rename_i h; cases h
  | cons x T=>rfl
 ·rfl
theorem Zif:∀(ps T:List (List Str)),(Zv T ps).head?=(T++ps).head?
 | [],T=>by simp[Zv]
 | p :: ps,T=>by
  show (Zv (ZW T p) ps).head?=_;rw[Zif ps];have:=Zov T p;rw[List.head?_append,this,<-List.head?_append];simp
theorem Znb{T:List (List Str)}{p q:List Str}(h:q∈ZW T p):q∈T\/q=p:=by
 unfold ZW at h;split at h
 ·exact .inl (Uc h)
 ·rcases Wu.mp h with h | h
  ·exact .inl h
  ·exact .inr (YC.mp h)
theorem Zg2:∀(ps T:List (List Str)) {q:List Str},q∈Zv T ps->q∈T\/q∈ps
 | [],T,q,h => .inl h
 | p :: ps,T,q,h=>by
  rcases Zg2 ps (ZW T p) h with h | h
  ·rcases Znb h with h | h
   ·exact .inl h
   ·exact .inr (h ▸ Yv)
  ·exact .inr (Yo _ h)
theorem take1{a b:List (List Str)}(h:a.head?=b.head?):a.take 1=b.take 1:=by
 cases a <;> cases b <;> simp_all
theorem ZlC(L:List (List Str)):Zab L (some (-1)) none=L.getLast?.toList:=by
 unfold Zab HT.sIx;simp only[show (-1:Int)<0 by decide,Y9];rw[WA (by simp)];rcases List.eq_nil_or_concat L with rfl | ⟨X,x,rfl⟩
 ·rfl
 ·rw[List.concat_eq_append,List.getLast?_append];have e:(-1+((X++[x]).length:Int)).toNat=X.length:=by
   rw[YW];simp;omega
  rw[e];simp
theorem ZhS:∀{T:List (List Str)},T.Nodup->ddP T=T
 | [],_=>rfl
 | x :: T,h=>by
  rw[Wd] at h;unfold ddP;rw[ZhS h.2,Yh h.1]
theorem Zd3(T:List (List Str)):ZaZ (T.map pl)=some T:=ZkP T
theorem ZmT{st:Sto}{d:D}{T:List (List Str)}(h:Zp st d=some (T.map pl))(hn:T.Nodup)(hl:T.length<64):Zdj [d] st = .ok (.int T.length) st:=by
 unfold Zdj;simp only[h,Zd3];rw[Yf hl,ZhS hn]
theorem ZpJ{st:Sto}{a b:D}{X:List D}(ha:kd st a = .lst X)(hb:kd st b = .lst X)(hn:∀x∈X,nice 49 x=true):neD a b st = .ok (.bl false) st:=by
 unfold neD;rw[show eqN st depth a b=some true from Zox (n:=49) ha hb hn];rfl
theorem ZjS{st:Sto}{a b:D}{T:List (List Str)}(ha:kd st a = .lst (T.map pl))(hb:kd st b = .lst (T.map pl)):neD a b st = .ok (.bl false) st:=ZpJ ha hb fun x hx=>by
 obtain⟨p,_,rfl⟩:=YZ.mp hx;exact Zef 47 p
theorem ZdZ{st:Sto}{r:Nat}{X:List D}(h:st[r]?=some (.lst X)):kd st (.res r) = .lst X:=by simp[kd,h]
theorem ZeX{st:Sto}{d:D}{T:List (List Str)}(h:Zp st d=some (T.map pl)):ZZ d none (some 1) st = .ok ((T.take 1).map pl) st:=by
 have:=Zdc T 1;simp only[ZZ,h,Zgw];rw[show (some (1:Int))=some ((1:Nat):Int) from rfl,this]
theorem ZfW{st:Sto}{d:D}{T:List (List Str)}(h:Zp st d=some (T.map pl)):ZZ d (some (-1)) none st = .ok (T.getLast?.toList.map pl) st:=by
 simp only[ZZ,h,Zgw,ZlC]
theorem Znf(ps:List (List Str)):(Zv [] ps).getLast?=ps.getLast?:=by
 by_cases h:ps=[]
 ·subst h; rfl
 ·exact Zjn ps [] h
section
variable{c0 c2 c4 c5 c6 c7 c8 c9 c10 c11 c12 c13 c14:Option D}
theorem Zne{ps:List (List Str)}(hl:ps.length<=50){r:Nat}{st:Sto}(h:st[r]?=some (.lst ((Zv [] ps).map pl))) :
  ∃st',Zex [c0,some (.lst (ps.map pl)),c2,some (.res r),c4,c5,c6,c7,c8,c9,c10,c11,c12,c13,c14] st = .nx [c0,some (.lst (ps.map pl)),c2,some (.res r),c4,c5,c6,c7,c8,c9,c10,c11,c12,c13,c14] st'/\StoK st st':=by
 have hTn:=ZfK ps [] WO;have hTl:=Zf0 ps [];rw[Wq,Wx] at hTl;have hs:Zp st (.res r)=some ((Zv [] ps).map pl):=by simp[Zp,h]
 have hp:Zp st (.lst (ps.map pl))=some (ps.map pl):=rfl;have a1:=ZeX hs;have a2:=ZeX hp;rw[take1 (Zif ps [])] at a1;have b1:=ZfW hs;have b2:=ZfW hp;rw[Znf] at b1;have d1:=ZmT hs hTn (by omega);have d2:=ZoK h;rw[Ym] at d2;obtain⟨st',r',e1,e2,e3,k⟩:=Zh9 (Zv [] ps) (by omega) (d:=.res r) st fun st' k=>getL (k.fr _ _ h);rw[Zgj (Zv [] ps) [] (by simpa using hTn),W9] at e2;have n1:=Zbz (ZcF (ps.take 1)) st;have n2:=Zbz (ZcF ps.getLast?.toList) st;have n3:=Zct ((Zv [] ps).length:Int) ((Zv [] ps).length:Int) st;have n4:neD (.res r') (.res r) st' = .ok (.bl false) st':=ZjS (ZdZ e2) (ZdZ (k.fr _ _ h));refine⟨st',?_,k⟩;unfold Zex;simp only[W9] at a1;generalize (ps.take 1).map pl=G1 at *;generalize ps.getLast?.toList.map pl=G2 at *;generalize ((Zv [] ps).length:Int)=G3 at *;generalize ps.map pl=G4 at *;refine Zby (ZbX (st1:=st) ?_ (ZbX (st1:=st) ?_ (ZbX (st1:=st) ?_ ?_)))
 ·simp[a1,a2,n1]
 ·simp[b1,b2,n2]
 ·simp[d1,d2,n3]
 ·simp[e1,n4]
theorem ZmQ{ps qs:List (List Str)}(hl:ps.length<=50)(hq:qs.length<=50){r:Nat}{st:Sto}(h:st[r]?=some (.lst ((Zv [] ps).map pl))) :
  ∃st',ZeE [c0,some (.lst (ps.map pl)),some (.lst (qs.map pl)),some (.res r),c4,c5,c6,c7,c8,c9,c10,c11,c12,c13,c14] st = .nx [c0,some (.lst (ps.map pl)),some (.lst (qs.map pl)),some (.res r),c4,c5,c6,c7,c8,c9,c10,c11,c12,c13,c14] st'/\StoK st st':=by
 have hTn:=ZfK ps [] WO;have hTl:=Zf0 ps [];rw[Wq,Wx] at hTl;have a1:Zat (.lst (ps.map pl)) (.lst (qs.map pl)) st = .ok ((ps++qs).map pl) st:=by
  have:(ps.map pl).length+(qs.map pl).length<=small:=Zad (by rw[Ym,Ym]; omega);unfold Zat;simp only[ZaG];rw[Yf (by simpa using this),WE]
 obtain⟨st1,r1,e1,e2,e3,k1⟩:=Zfz (ps++qs) (by simp; omega) st;have g1:=k1.fr _ _ h;have a2:Zat (.res r) (.lst (qs.map pl)) st1 = .ok ((Zv [] ps++qs).map pl) st1:=by
  have:((Zv [] ps).map pl).length+(qs.map pl).length<=small:=Zad (by rw[Ym,Ym]; omega);unfold Zat;simp only[ZaG,g1];rw[Yf (by simpa using this),WE]
 obtain⟨st2,r2,f1,f2,f3,k2⟩:=Zfz (Zv [] ps++qs) (by simp; omega) st1;have same:Zv [] (Zv [] ps++qs)=Zv [] (ps++qs):=by
  rw[ZfN,ZfN,Zgj (Zv [] ps) [] (by simpa using hTn),W9]
 rw[same] at f2;have n1:neD (.res r1) (.res r2) st2 = .ok (.bl false) st2:=ZjS (ZdZ (k2.fr _ _ e2)) (ZdZ f2);have g2:=k2.fr _ _ g1;have hi:=getL g2;have e4:ZK (fun st=>itemsOf st (.res r)=some ((Zv [] ps).map pl)) (Zz 0) ZfT ZgJ ((Zv [] ps).map pl) [none,some (.lst (ps.map pl))] st2 [] = .ok [] st2:=by
  rw[Zc0 pl (fun o => !decide (o∈ps)) pl (fun ρ => ∃a,ρ=[a,some (.lst (ps.map pl))]) hi (Zv [] ps) _ [] ⟨_,rfl⟩ (by simp only[Wq,Wx]; exact Zad (by omega))]
  ·have:(Zv [] ps).filter (fun o => !decide (o∈ps))=[]:=by
    rw[List.filter_eq_nil_iff];intro p hp;rcases Zg2 ps [] hp with z | z
    ·cases z
    ·simp[z]
   rw[this];rfl
  ·rintro o hm ρ ⟨a,rfl⟩;refine⟨_,rfl,⟨_,rfl⟩,?_,fun _ => ?_⟩
   ·have q:=Zrp (st:=st2) o ps;unfold ZfT;generalize ps.map pl=Y at *;simp[q]
   ·unfold ZgJ;simp
 have n2:neD (.lst []) (.lst []) st2 = .ok (.bl false) st2:=Zbz rfl st2;have q0:(0:Nat)<=small:=by decide
 refine⟨st2,?_,k1.trans k2⟩;unfold ZeE;generalize (ps++qs).map pl=G1 at *;generalize (Zv [] ps++qs).map pl=G2 at *;generalize (Zv [] ps).map pl=G3 at *;generalize ps.map pl=G4 at *;generalize qs.map pl=G5 at *;refine Zby (ZbX (st1:=st2) ?_ ?_)
 ·simp[a1,e1,a2,f1,n1]
 ·simp[hi,Z1,e4,q0,n2]
end
theorem Zrh(st:Sto)(x y:S):(st++[x]).set st.length y=st++[y]:=by
 rw[List.set_append_right _ _ (Yj _)];simp
theorem Ziu{chk:Sto->Prop}(hchk:∀st,chk st)(c0:Option D)(st0:Sto):∀(ps:List (List Str)) (e:Option D) (acc:List (List Str)) (f:List Str->Int),Zero f acc->acc.length+ps.length<=100 ->
  ∃e':Option D,ZO chk (Zz 2) Zca (ps.map pl) [c0,some (.res st0.length),e] (st0++[.dtt (dpi f acc)]) = .nx [c0,some (.res st0.length),e'] (st0++[.dtt (dpi (ZaF (ps.map fun p=>(p,1)) f) (Zd acc ps))])
 | [],e,acc,f,hf,_=>⟨e,ZbG (hchk _)⟩
 | p :: ps,e,acc,f,hf,hl=>by
  have h:(st0++[S.dtt (dpi f acc)])[st0.length]?=some (.dtt (dpi f acc)):=ZaT _ _;have ht:Zz 2 (pl p) [c0,some (.res st0.length),e]=some [c0,some (.res st0.length),some (pl p)]:=rfl;obtain⟨hisd,o,hat,hn⟩:=ZcM h hf p;simp only[Yw] at hl;have hput:=Zgr h (by omega) p (f p+1);rw[Zrh] at hput;have hget:Zar (Za 1) (Za 2) (dC (.int 0)) [c0,some (.res st0.length),some (pl p)] (st0++[.dtt (dpi f acc)]) = .ok (.int (f p)) (st0++[.dtt (dpi f acc)]):=by
   rw[Zb3];simp only[Zaj,z_C,Yu,YA,Z9,hisd,Y9,hat];rw[hn]
  have hb:Zca [c0,some (.res st0.length),some (pl p)] (st0++[.dtt (dpi f acc)]) = .nx [c0,some (.res st0.length),some (pl p)] (st0++[.dtt (dpi (ZaA f p 1) (if p∈acc then acc else acc++[p]))]):=by
   unfold Zca;rw[Zdo];simp[hget,ZbA,hput];rfl
  have hlen:=ZgZ (acc:=acc) (p:=p);obtain⟨e',e1⟩:=Ziu hchk c0 st0 ps (some (pl p)) (if p∈acc then acc else acc++[p]) (ZaA f p 1) (hf.add p 1) (by omega);refine⟨e',?_⟩;rw[Yn,ZbM (hchk _) ht hb];exact e1
def ZC(ps:List (List Str)):S:=.dtt (dpi (fun p=>(Zj ps p:Int)) (Zd [] ps))
theorem Zga(ps:List (List Str))(hl:ps.length<=100)(st:Sto):Zao [.lst (ps.map pl)] st = .ok (.res st.length) (st++[ZC ps]):=by
 obtain⟨e',e1⟩:=Ziu (chk:=fun st=>itemsOf st (.lst (ps.map pl))=some (ps.map pl)) (fun _=>rfl) (some (.lst (ps.map pl))) st ps none [] (fun _=>0) (fun _ _=>rfl) (by simp; omega);have ef:ZaF (ps.map fun p=>(p,1)) (fun _=>0)=fun p=>(Zj ps p:Int):=by
  funext q;rw[ZeW];omega
 rw[ef] at e1;refine ZbQ rfl ?_;show Zdz [some (.lst (ps.map pl)),none,none] st=_;unfold Zdz;have h0:ZE 1 Zbo [some (.lst (ps.map pl)),none,none] st = .nx [some (.lst (ps.map pl)),some (.res st.length),none] (st++[.dtt []]):=rfl;have hd:Zag (Za 0) [some (.lst (ps.map pl)),some (.res st.length),none] (st++[.dtt []]) = .ok (ps.map pl,fun st=>itemsOf st (.lst (ps.map pl))=some (ps.map pl)) (st++[.dtt []]):=rfl;rw[Zau h0,Zau (ρ':=[some (.lst (ps.map pl)),some (.res st.length),e']) (st':=st++[ZC ps]) (by rw[Zb7,hd,ZbP]; exact e1)];simp
theorem Zgt(ps:List (List Str)):Zero (fun p=>(Zj ps p:Int)) (Zd [] ps):=fun q hq=>by
 have:q ∉ ps:=fun z=>hq ((ZcK _ _ _).mpr (.inr z));have e:ps.filter (fun o=>decide (o=q))=[]:=by
  rw[List.filter_eq_nil_iff];intro o ho z;exact this (Wg z ▸ ho)
 simp[Zj,e]
theorem Zpt(xs ys:List (List Str))(p:List Str):Zj (xs++ys) p=Zj xs p+Zj ys p:=by simp[Zj]
theorem Zj6:∀{K:List (List Str)} {x:List Str},K.Nodup->x∈K->(K.map fun p=>if x=p then (1:Int) else 0).sum=1
 | k :: K,x,hn,hx=>by
  rw[Wd] at hn;rw[Yn,QG];by_cases e:x=k
  ·subst e;have:∀L:List (List Str),x ∉ L->(L.map fun p=>if x=p then (1:Int) else 0).sum=0:=by
    intro L
    induction L with
    | nil=>intro _; rfl
    | cons y L ih =>
     intro h;rw[Yl,Vf] at h;rw[Yn,QG,Yh h.1,ih h.2];rfl
   rw[Yf rfl,this K hn.1];rfl
  ·rw[Yh e,Zj6 hn.2 ((Yl.mp hx).elim (fun z=>absurd z e) id)];rfl
theorem Zfl{α:Type}(f g:α->Int):∀K:List α,(K.map fun p=>f p+g p).sum=(K.map f).sum+(K.map g).sum
 | []=>rfl
 | x :: K=>by
  simp only[Yn,QG,Zfl f g K];omega
theorem ZhB{K:List (List Str)}(hn:K.Nodup):∀ps:List (List Str),(∀p∈ps,p∈K)->(K.map fun p=>(Zj ps p:Int)).sum=ps.length
 | [],_=>by
  have:∀L:List (List Str),(L.map fun p=>(Zj [] p:Int)).sum=0:=by
   intro L
   induction L with
   | nil=>rfl
   | cons x L ih=>rw[Yn,QG,ih]; rfl
  exact this K
 | x :: ps,h=>by
  have ih:=ZhB hn ps fun p hp=>h p (Yo _ hp);have e:(fun p=>(Zj (x :: ps) p:Int))=fun p=>(if x=p then (1:Int) else 0)+(Zj ps p:Int):=by
   funext p;unfold Zj;rw[Y1];by_cases z:x=p
   ·simp[z]; omega
   ·simp[z]
  rw[e,Zfl,Zj6 hn (h x Yv),ih];simp;omega
theorem Zi2(f:List Str->Int)(ks:List (List Str)):Zay ((dpi f ks).map (·.2))=some (ks.map f):=by
 have:(dpi f ks).map (·.2)=(ks.map f).map D.int:=by simp[dpi,dpl]
 rw[this,ZfH]
theorem Zgm(f:List Str->Int)(ks:List (List Str)):(dpi f ks).map (·.1)=ks.map pl:=by simp[dpi,dpl]
theorem ZfA{a b:List (List Str)}(ha:a.Nodup)(h:a.Perm b):ZU a=ZU b:=by
 refine Zfm ((Zdl a).trans h) ?_;refine List.Pairwise.imp₂ (R:=fun a b=>Za3 a b=true) (S:=fun a b=>a≠b) (fun a b h1 h2 => ?_) (ZeY _) ((Zdl a).nodup_iff.mpr ha);have h3:plB b a=false:=by
  have:(!plB b a)=true:=h1;simpa using this
 exact ZcQ (YX h2) h3
theorem ZjV{a b:List (List Str)}(ha:a.Nodup)(hb:b.Nodup)(h:∀x,x∈a ↔ x∈b):a.Perm b:=(QF ha hb).mpr h
theorem Zjj{st:Sto}{r:Nat}{f:List Str->Int}{ks:List (List Str)}(h:st[r]?=some (.dtt (dpi f ks)))(hn:ks.Nodup)(hl:ks.length<64):ZbE [.res r] st = .ok ((ZU ks).map pl) st:=by
 unfold ZbE;simp only[h,Zgm,Zd3];rw[Yf ⟨hn,hl⟩];rfl
theorem Zgi{st:Sto}{d:D}{ks:List (List Str)}(h:Zp st d=some (ks.map pl))(hn:ks.Nodup)(hl:ks.length<64):Zb8 [d] st = .ok ((ZU ks).map pl) st:=by
 unfold Zb8;simp only[h,Zd3];rw[Yf ⟨hn,hl⟩];rfl
theorem Zl6{st:Sto}{d:D}{ks:List (List Str)}(h:Zp st d=some (ks.map pl))(hl:ks.length<64):Zds [d] st = .ok ((ZU (ddP ks)).map pl) st:=by
 unfold Zds;simp only[h,Zd3];rw[Yf hl];rfl
theorem Zc1(ps:List (List Str)):(Zd [] ps).Nodup/\(∀p,p∈Zd [] ps ↔ p∈ps)/\(Zd [] ps).length<=ps.length:=by
 refine⟨Zf1 ps [] WO,fun p=>by rw[ZcK]; simp,?_⟩;have:=ZjI ps [];simpa using this
section
variable{c0 c2 c3 c5 c6 c7 c8 c9 c10 c11 c12 c13 c14:Option D}
theorem Zoe{ps:List (List Str)}(hl:ps.length<=50){r:Nat}{st:Sto}(h:st[r]?=some (ZC ps)) :
  Zd1 [c0,some (.lst (ps.map pl)),c2,c3,some (.res r),c5,c6,c7,c8,c9,c10,c11,c12,c13,c14] st = .nx [c0,some (.lst (ps.map pl)),c2,c3,some (.res r),c5,c6,c7,c8,c9,c10,c11,c12,c13,c14] st:=by
 obtain⟨o1,o2,o3⟩:=Zc1 ps;have a1:Zeq (Za 4) [c0,some (.lst (ps.map pl)),c2,c3,some (.res r),c5,c6,c7,c8,c9,c10,c11,c12,c13,c14] st = .ok (.int (ps.length:Int)) st:=by
  unfold Zeq;rw[Zaj];unfold ZC at h;simp only[Yu,YA,Z9,h,Zi2];rw[ZhB o1 ps fun p hp=>(o2 p).mpr hp]
 have a2:ZR [.lst (ps.map pl)] st = .ok (.int (ps.length:Int)) st:=by rw[Zgy,Ym]
 have n1:=Zct (ps.length:Int) (ps.length:Int) st;have a3:ZbE [.res r] st = .ok ((ZU (Zd [] ps)).map pl) st:=Zjj h o1 (by omega);have a4:=Zl6 (st:=st) (d:=.lst (ps.map pl)) rfl (by omega);rw[<-ZfA (a:=Zd [] ps) o1 (ZjV o1 (ZcP ps) fun x=>by rw[o2,Zc6])] at a4;have n2:=Zbz (ZcF (ZU (Zd [] ps))) st;unfold Zd1;generalize (ZU (Zd [] ps)).map pl=G1 at *;generalize (ps.length:Int)=G2 at *;generalize ps.map pl=G4 at *;refine Zby (ZbX (st1:=st) ?_ ?_)
 ·simp[a1,a2,n1]
 ·simp[a3,a4,n2]
end
theorem Zhm{st:Sto}{r:Nat}{o:Obj}{f:List Str->Int}{ks:List (List Str)}(h:st[r]?=some (.fdt o (dpi f ks))){p:List Str}(hp:p∈ks):dAt st (.res r) (pl p)=some (some (.int (f p))):=by
 unfold dAt;simp only[h];rw[Yf (by rw[Zbw]; rfl)];unfold dpi;rw[Zc7,Yf hp]
theorem set_same{st:Sto}{r:Nat}{x:S}(h:st[r]?=some x):st.set r x=st:=by
 obtain⟨hl,e⟩:=Yk.mp h;rw[<-e,List.set_getElem_self]
def Zh6(e:Option D)(ks:List (List Str)):Option D:=ks.foldl (fun _ p=>some (pl p)) e
section
variable{c0 c1 c3 c7 c8 c9 c10 c11 c12 c13 c14:Option D}
theorem Zi6{ps qs:List (List Str)}(hq:qs.length<=50){re rb:Nat}{o:Obj}{K:List (List Str)}:∀(ks:List (List Str)) (e6:Option D) (st:Sto),(∀p∈ks,p∈K)->st[rb]?=some (.fdt o (dpi (fun p=>(Zj (ps++qs) p:Int)) K))->st[re]?=some (ZC ps) ->
  ZO (fun st=>st[rb]?=some (.fdt o (dpi (fun p=>(Zj (ps++qs) p:Int)) K))) (Zz 6) ZeA (ks.map pl) [c0,c1,some (.lst (qs.map pl)),c3,some (.res re),some (.res rb),e6,c7,c8,c9,c10,c11,c12,c13,c14] st = .nx [c0,c1,some (.lst (qs.map pl)),c3,some (.res re),some (.res rb),Zh6 e6 ks,c7,c8,c9,c10,c11,c12,c13,c14] (st++List.replicate ks.length (ZC qs))
 | [],e6,st,_,h1,h2=>by
  rw[Q5,ZbG h1,Wq,List.replicate_zero,Qm];rfl
 | p :: ks,e6,st,hk,h1,h2=>by
  have ht:Zz 6 (pl p) [c0,c1,some (.lst (qs.map pl)),c3,some (.res re),some (.res rb),e6,c7,c8,c9,c10,c11,c12,c13,c14]=some [c0,c1,some (.lst (qs.map pl)),c3,some (.res re),some (.res rb),some (pl p),c7,c8,c9,c10,c11,c12,c13,c14]:=rfl;have a1:=Zhm h1 (hk p Yv);obtain⟨b1,ob,b2,b3⟩:=ZcM h2 (Zgt ps) p;have a2:=Zga qs (by omega) st;obtain⟨d1,od,d2,d3⟩:=ZcM (ZaT st (ZC qs)) (Zgt qs) p;have n1:=Zct (Zj (ps++qs) p:Int) ((Zj ps p:Int)+(Zj qs p:Int)) (st++[ZC qs]);have e0:(Zj (ps++qs) p:Int)=(Zj ps p:Int)+(Zj qs p:Int):=by rw[Zpt]; omega
  rw[YN e0] at n1;have hg1:Zci (Za 5) (Za 6) [c0,c1,some (.lst (qs.map pl)),c3,some (.res re),some (.res rb),some (pl p),c7,c8,c9,c10,c11,c12,c13,c14] st = .ok (.int (Zj (ps++qs) p:Int)) st:=by
   rw[Ze3];simp only[Zaj,Yu,YA,Z9,a1]
  have hg2:Zar (Za 4) (Za 6) (dC (.int 0)) [c0,c1,some (.lst (qs.map pl)),c3,some (.res re),some (.res rb),some (pl p),c7,c8,c9,c10,c11,c12,c13,c14] st = .ok (.int (Zj ps p:Int)) st:=by
   rw[Zb3];simp only[Zaj,z_C,Yu,YA,Z9,b1,Y9,b2,b3]
  have hcall:Zl Zao (Zc (Za 2) Zi) [c0,c1,some (.lst (qs.map pl)),c3,some (.res re),some (.res rb),some (pl p),c7,c8,c9,c10,c11,c12,c13,c14] st = .ok (.res st.length) (st++[ZC qs]):=by
   generalize qs.map pl=G at *;simp[a2]
  have hg3:Zar (Zl Zao (Zc (Za 2) Zi)) (Za 6) (dC (.int 0)) [c0,c1,some (.lst (qs.map pl)),c3,some (.res re),some (.res rb),some (pl p),c7,c8,c9,c10,c11,c12,c13,c14] st = .ok (.int (Zj qs p:Int)) (st++[ZC qs]):=by
   rw[Zb3,hcall];simp only[Zaj,z_C,Yu,YA,Z9,d1,Y9,d2,d3]
  have hb:ZeA [c0,c1,some (.lst (qs.map pl)),c3,some (.res re),some (.res rb),some (pl p),c7,c8,c9,c10,c11,c12,c13,c14] st = .nx [c0,c1,some (.lst (qs.map pl)),c3,some (.res re),some (.res rb),some (pl p),c7,c8,c9,c10,c11,c12,c13,c14] (st++[ZC qs]):=by
   unfold ZeA;refine Zby ?_;generalize qs.map pl=G at *;simp[hg1,hg2,hg3,ZbA,n1]
  rw[Yn,ZbM h1 ht hb,Zi6 hq ks (some (pl p)) (st++[ZC qs]) (fun q hq=>hk q (Yo _ hq)) ((StoK.app st _).fr _ _ h1) ((StoK.app st _).fr _ _ h2)];have e1:st++[ZC qs]++List.replicate ks.length (ZC qs)=st++List.replicate (p :: ks).length (ZC qs):=by
   rw[Yw,List.replicate_succ,UC];rfl
  rw[e1];rfl
theorem ZlV{ps qs:List (List Str)}(hq:qs.length<=50){re rb:Nat}{e6:Option D}{st:Sto}(hne:re≠rb)(h1:st[rb]?=some (ZC (ps++qs)))(h2:st[re]?=some (ZC ps)) :
  ∃e' st',ZeV [c0,c1,some (.lst (qs.map pl)),c3,some (.res re),some (.res rb),e6,c7,c8,c9,c10,c11,c12,c13,c14] st = .nx [c0,c1,some (.lst (qs.map pl)),c3,some (.res re),some (.res rb),e',c7,c8,c9,c10,c11,c12,c13,c14] st'/\StoK st st':=by
 obtain⟨K,hK⟩:∃K,K=Zd [] (ps++qs):=⟨_,rfl⟩;unfold ZC at h1;rw[<-hK] at h1;have hlt:rb<st.length:=(Yk.mp h1).1;refine⟨Zh6 e6 K,st++List.replicate K.length (ZC qs),?_,StoK.app _ _⟩;unfold ZeV Ze1;rw[Zaj];simp only[Yu,YA,ZbP,h1,Zgm];refine ZhO fun o => ?_;have g1:(st.set rb (.fdt o (dpi (fun p=>(Zj (ps++qs) p:Int)) K)))[rb]?=some (.fdt o (dpi (fun p=>(Zj (ps++qs) p:Int)) K)):=ZbY h1;have g2:(st.set rb (.fdt o (dpi (fun p=>(Zj (ps++qs) p:Int)) K)))[re]?=some (ZC ps):=by
  rw[WJ (YX hne)];exact h2
 rw[Zi6 hq K e6 _ (fun p hp=>hp) g1 g2];unfold Zc5;dsimp only;rw[(StoK.app _ _).fr _ _ g1];dsimp only;rw[List.set_append_left _ _ (by rw[Qy]; exact hlt),List.set_set,set_same h1]
end
theorem ZkD:∀(xs acc:List (List Str)),(Zd acc xs).head?=(acc++xs).head?
 | [],acc=>by simp[Zd]
 | x :: xs,acc=>by
  show (Zd (if x∈acc then acc else acc++[x]) xs).head?=_;rw[ZkD xs];split
  ·rename_i h;cases acc with
   | nil=>cases h
   | cons a acc=>rfl
  ·simp
theorem ZgE(ps L:List (List Str)):(ZT ps L).Perm L:=by
 unfold ZT;refine ((ZdR (Zba ps L)).map _).trans (Vp ?_);unfold Zba;rw[YQ];refine Vc (by simp) fun i h1 h2 => ?_;simp[Ye,Yd h2]
theorem ZlH(ps L:List (List Str)):(ZT ps L).map (fun p=>(Zj ps p:Int))=(ZbO (Zba ps L)).map fun q => -q.1:=by
 unfold ZT;rw[YQ];refine Y6 fun q hq => ?_;have h1:=(ZdR _).mem_iff.mp hq;unfold Zba at h1;obtain⟨j,h2,rfl⟩:=YZ.mp h1;show (Zj ps (L.getD (Int.toNat (j:Int)) []):Int) = - -(Zj ps (L.getD j []):Int);rw[Y4];omega
theorem ZmF{ps L K:List (List Str)}(h:L.Perm K):(ZT ps L).map (fun p=>(Zj ps p:Int))=(ZaO (K.map fun p=>(Zj ps p:Int))).reverse:=by
 have e:((ZT ps L).map (fun p=>(Zj ps p:Int))).reverse=ZaO (K.map fun p=>(Zj ps p:Int)):=by
  refine ZiA ((QZ _).trans (((ZgE ps L).trans h).map _)) ?_;rw[V5,ZlH,Q2];refine (Zhf (Zba ps L)).imp fun {a b} h => ?_;simp only[ZbH,YR] at h;omega
 rw[<-e,List.reverse_reverse]
section
variable{c0 c2 c3 c5 c6 c7 c8 c9 c10 c11 c12 c13 c14:Option D}
theorem Zgg(ps:List (List Str)):(Zd [] ps.reverse).Nodup/\(Zd [] ps.reverse).Perm (Zd [] ps)/\(Zd [] ps.reverse).length<=ps.length:=by
 obtain⟨a1,a2,a3⟩:=Zc1 ps.reverse;obtain⟨b1,b2,b3⟩:=Zc1 ps;refine⟨a1,ZjV a1 b1 fun x=>by rw[a2,b2]; simp,by simpa using a3⟩
theorem ZrG{ps:List (List Str)}(hl:ps.length<=50){r:Nat}{st:Sto}(h:st[r]?=some (ZC ps)) :
  ∃st',Zed [c0,some (.lst (ps.map pl)),c2,c3,some (.res r),c5,c6,some (.lst ((Zd [] ps.reverse).map pl)),c8,c9,c10,c11,c12,c13,c14] st = .nx [c0,some (.lst (ps.map pl)),c2,c3,some (.res r),c5,c6,some (.lst ((Zd [] ps.reverse).map pl)),c8,c9,c10,c11,c12,c13,c14] st'/\StoK st st':=by
 obtain⟨o1,o2,o3⟩:=Zc1 ps;obtain⟨l1,l2,l3⟩:=Zgg ps;have a1:=Zgi (st:=st) (d:=.lst ((Zd [] ps.reverse).map pl)) rfl l1 (by omega);have a2:ZbE [.res r] st = .ok ((ZU (Zd [] ps)).map pl) st:=Zjj h o1 (by omega);rw[ZfA l1 l2] at a1;have n1:=Zbz (ZcF (ZU (Zd [] ps))) st;have b1:=ZeX (st:=st) (d:=.lst ((Zd [] ps.reverse).map pl)) rfl;have b2:=ZfW (st:=st) (d:=.lst (ps.map pl)) rfl;have e0:(Zd [] ps.reverse).take 1=ps.getLast?.toList:=by
  have h1:=ZkD ps.reverse [];rw[W9,List.head?_reverse] at h1;rw[<-h1];cases Zd [] ps.reverse <;> rfl
 rw[e0] at b1;have n2:=Zbz (ZcF ps.getLast?.toList) st;obtain⟨st',d1,k⟩:=Zhg ps (by omega) 0 st;rw[VC,Q5] at d1;have n3:neD (.lst []) (.lst []) st' = .ok (.bl false) st':=Zbz rfl st';have q0:(0:Nat)<=small:=by decide
 refine⟨st',?_,k⟩;unfold Zed;generalize (ZU (Zd [] ps)).map pl=G1 at *;generalize ps.getLast?.toList.map pl=G2 at *;generalize (Zd [] ps.reverse).map pl=G3 at *;generalize ps.map pl=G4 at *;have d2:ZaV [.lst G4,.int 0] st = .ok (.lst []) st':=d1;refine Zby (ZbX (st1:=st) ?_ (ZbX (st1:=st) ?_ ?_))
 ·simp[a1,a2,n1]
 ·simp[b1,b2,n2]
 ·simp[d2,q0,n3]
theorem Zll{ps:List (List Str)}(hl:ps.length<=50){r:Nat}{st:Sto}(h:st[r]?=some (ZC ps)) :
  ZeD [c0,some (.lst (ps.map pl)),c2,c3,some (.res r),c5,c6,some (.lst ((Zd [] ps.reverse).map pl)),some (.lst ((ZT ps (Zd [] ps.reverse)).map pl)),c9,c10,c11,c12,c13,c14] st = .nx [c0,some (.lst (ps.map pl)),c2,c3,some (.res r),c5,c6,some (.lst ((Zd [] ps.reverse).map pl)),some (.lst ((ZT ps (Zd [] ps.reverse)).map pl)),c9,c10,c11,c12,c13,c14] st:=by
 obtain⟨o1,o2,o3⟩:=Zc1 ps;obtain⟨l1,l2,l3⟩:=Zgg ps;have t1:=ZgE ps (Zd [] ps.reverse);have t2:(ZT ps (Zd [] ps.reverse)).Nodup:=t1.nodup_iff.mpr l1;have t3:=t1.length_eq;have a1:=Zgi (st:=st) (d:=.lst ((Zd [] ps.reverse).map pl)) rfl l1 (by omega);have a2:=Zgi (st:=st) (d:=.lst ((ZT ps (Zd [] ps.reverse)).map pl)) rfl t2 (by omega);rw[ZfA t2 t1] at a2;have n1:=Zbz (ZcF (ZU (Zd [] ps.reverse))) st;have e1:ZK (fun _=>True) (Zz 0) Zae Ze2 ((ZT ps (Zd [] ps.reverse)).map pl) [none,some (.res r)] st [] = .ok (((ZT ps (Zd [] ps.reverse)).map fun p=>(Zj ps p:Int)).map D.int) st:=by
  rw[ZcR pl (fun p=>D.int (Zj ps p:Int)) (fun ρ => ∃a,ρ=[a,some (.res r)]) trivial _ _ [] ⟨_,rfl⟩ (by simp only[Wq,Wx]; exact Zad (by omega))]
  ·rw[YQ];rfl
  ·rintro p hp ρ ⟨a,rfl⟩;refine⟨[some (pl p),some (.res r)],rfl,⟨_,rfl⟩,?_⟩;have hm:p∈Zd [] ps:=l2.mem_iff.mp (t1.mem_iff.mp hp);have hat:dAt st (.res r) (pl p)=some (some (.int (Zj ps p:Int))):=by
    unfold dAt;unfold ZC at h;simp only[h];rw[Yf (by rw[Zbw]; rfl)];unfold dpi;rw[Zc7,Yf hm]
   unfold Ze2;rw[Ze3];simp only[Zaj,Yu,YA,Z9,hat]
 have e2:ZdN (Za 4) [c0,some (.lst (ps.map pl)),c2,c3,some (.res r),c5,c6,some (.lst ((Zd [] ps.reverse).map pl)),some (.lst ((ZT ps (Zd [] ps.reverse)).map pl)),c9,c10,c11,c12,c13,c14] st = .ok ((ZaO ((Zd [] ps).map fun p=>(Zj ps p:Int))).map D.int) st:=by
  unfold ZdN;rw[Zaj];unfold ZC at h;simp only[Yu,YA,Z9,h,Zi2];rw[Yf (by rw[Ym]; omega)]
 rw[ZmF l2] at e1;have n2:neD (.lst ((ZaO ((Zd [] ps).map fun p=>(Zj ps p:Int))).reverse.map D.int)) (.lst ((ZaO ((Zd [] ps).map fun p=>(Zj ps p:Int))).reverse.map D.int)) st = .ok (.bl false) st:=Zbz (ZjC D.int (fun _=>rfl) _) st;have hr:((ZaO ((Zd [] ps).map fun p=>(Zj ps p:Int))).map D.int).reverse=(ZaO ((Zd [] ps).map fun p=>(Zj ps p:Int))).reverse.map D.int:=by rw[List.map_reverse]
 have hi:∀(L:List D) (st:Sto),itemsOf st (.lst L)=some L:=fun _ _=>rfl;have hi2:∀(L:List D) (st:Sto),Zp st (.lst L)=some L:=fun _ _=>rfl;unfold ZeD;generalize (ZaO ((Zd [] ps).map fun p=>(Zj ps p:Int))).reverse.map D.int=G0 at *;generalize (ZaO ((Zd [] ps).map fun p=>(Zj ps p:Int))).map D.int=G1 at *;generalize (ZU (Zd [] ps.reverse)).map pl=G2 at *;generalize (ZT ps (Zd [] ps.reverse)).map pl=G3 at *;generalize (Zd [] ps.reverse).map pl=G4 at *;generalize ps.map pl=G5 at *;refine Zby (ZbX (st1:=st) ?_ ?_)
 ·simp[a1,a2,n1]
 ·simp[hi,Z1,e1,ZnF,e2,hi2,hr,n2]
theorem ZqD{ps:List (List Str)}(hl:ps.length<=50){c4:Option D}(st:Sto) :
  Zeg [c0,some (.lst (ps.map pl)),c2,c3,c4,c5,c6,c7,c8,c9,c10,c11,c12,c13,c14] st = .nx [c0,some (.lst (ps.map pl)),c2,c3,c4,c5,c6,c7,c8,c9,c10,c11,c12,c13,c14] st:=by
 have e1:=ZfO ps (by omega) [] st;have e0:Za0 ps []=ps.length:=by
  unfold Za0;rw[List.filter_eq_self.mpr];intro p _;simp
 rw[e0] at e1;have e2:ZR [.lst (ps.map pl)] st = .ok (.int (ps.length:Int)) st:=by rw[Zgy,Ym]
 have n1:=Zct (ps.length:Int) (ps.length:Int) st;have ep:pl []=D.tup []:=rfl;rw[ep] at e1;have q0:(0:Nat)<=small:=by decide
 unfold Zeg;generalize ps.map pl=G at *;generalize (ps.length:Int)=n at *;refine Zby ?_;simp[e1,e2,n1,q0]
end
theorem ZkE:∀{K:List Str} {x:Str},K.Nodup->x∈K->(K.map fun p=>if x=p then (1:Int) else 0).sum=1
 | k :: K,x,hn,hx=>by
  rw[Wd] at hn;rw[Yn,QG];by_cases e:x=k
  ·subst e;have:∀L:List Str,x ∉ L->(L.map fun p=>if x=p then (1:Int) else 0).sum=0:=by
    intro L
    induction L with
    | nil=>intro _; rfl
    | cons y L ih =>
     intro h;rw[Yl,Vf] at h;rw[Yn,QG,Yh h.1,ih h.2];rfl
   rw[Yf rfl,this K hn.1];rfl
  ·rw[Yh e,ZkE hn.2 ((Yl.mp hx).elim (fun z=>absurd z e) id)];rfl
theorem ZhF{K:List Str}(hn:K.Nodup):∀ps:List Str,(∀p∈ps,p∈K)->(K.map fun p=>(ZM ps p:Int)).sum=ps.length
 | [],_=>by
  have:∀L:List Str,(L.map fun p=>(ZM [] p:Int)).sum=0:=by
   intro L
   induction L with
   | nil=>rfl
   | cons x L ih=>rw[Yn,QG,ih]; rfl
  exact this K
 | x :: ps,h=>by
  have ih:=ZhF hn ps fun p hp=>h p (Yo _ hp);have e:(fun p=>(ZM (x :: ps) p:Int))=fun p=>(if x=p then (1:Int) else 0)+(ZM ps p:Int):=by
   funext p;unfold ZM;rw[Y1];by_cases z:x=p
   ·simp[z]; omega
   ·simp[z]
  rw[e,Zfl,ZkE hn (h x Yv),ih];simp;omega
theorem Zkm(o:List Str):∀ps:List (List Str),Za0 ps o=(Zg ps o).length+Zj ps o
 | []=>rfl
 | p :: ps=>by
  have ih:=Zkm o ps;unfold Za0 Zg Zj at *;simp only[Ym] at *;rw[Y1,Y1,Y1];by_cases h1:p.take o.length=o
  ·by_cases h2:o.length<p.length
   ·have h3:p≠o:=fun e=>by rw[e] at h2; exact YT _ h2
    simp only[h1,h2,h3,Vh,QL,Bool.and_self,Y9,YF,Y3,Yw];omega
   ·have h3:p=o:=by
     rw[WA (by omega)] at h1;exact h1
    simp only[h1,h2,Vh,QL,Bool.and_false,Y9,YF,Y3,Yw];rw[Yf (by simp[h3])];simp only[Yw];omega
  ·have h3:p≠o:=fun e=>h1 (by rw[e,Qt]);simp only[h1,h3,QL,VB,YF,Y3];omega
theorem Zls(o p:List Str)(w:Str):p.take (o++[w]).length=o++[w] ↔ p.take o.length=o/\o.length<p.length/\p.getD o.length "" = w:=by
 rw[YW,V4];constructor
 ·intro h;have hl:o.length<p.length:=by
   have:=congrArg List.length h;rw[Y8,YW,V4] at this;omega
  rw[QH,Yd hl] at h;have h2:=List.append_inj h (by rw[Y8]; omega);refine⟨h2.1,hl,?_⟩;rw[Ye,Yd hl];simpa using h2.2
 ·rintro⟨h1,h2,h3⟩;rw[QH,h1,Yd h2];rw[Ye,Yd h2] at h3;simpa using h3
theorem Zj3(o:List Str)(w:Str):∀ps:List (List Str),Za0 ps (o++[w])=ZM (Zg ps o) w
 | []=>rfl
 | p :: ps=>by
  have ih:=Zj3 o w ps;have hw:=Zls o p w;unfold Za0 Zg ZM at *;rw[Y1,Y1];by_cases h1:p.take o.length=o/\o.length<p.length
  ·rw[Yf (c:=(decide (p.take o.length=o) && decide (o.length<p.length))=true) (by simp[h1]),Yn,Y1];by_cases h2:p.getD o.length "" = w
   ·rw[Yf (by simpa using hw.mpr ⟨h1.1,h1.2,h2⟩),Yf (by simpa using h2),Yw,Yw,ih]
   ·rw[Yh (by simpa using fun z=>h2 (hw.mp (by simpa using z)).2.2),Yh (by simpa using h2),ih]
  ·rw[Yh (c:=(decide (p.take o.length=o) && decide (o.length<p.length))=true) (by simpa using h1),Yh (by simpa using fun z=>h1 ⟨(hw.mp (by simpa using z)).1,(hw.mp (by simpa using z)).2.1⟩),ih]
section
variable{c0 c2 c3 c5 c6 c7 c8 c11 c12 c13 c14:Option D}
theorem Zon(W:List Str):(SO.srtS (Zs [] W)).Nodup/\(∀w,w∈SO.srtS (Zs [] W) ↔ w∈W)/\(SO.srtS (Zs [] W)).length<=W.length:=by
 have hn:(Zs [] W).Nodup:=ZfL _ _ WO;have hp:=SO.srtS_perm (Zs [] W);refine⟨hp.nodup_iff.mpr hn,fun w=>by rw[hp.mem_iff,ZgM]; simp,?_⟩;have hd:=(Zku W);rw[hp.length_eq];have:(Zs [] W).Perm (ddS W):=(QF hn (ZgD W)).mpr fun x=>by rw[ZgM,ZeR]; simp
 rw[this.length_eq];exact hd
theorem Zpp{ps:List (List Str)}(hl:ps.length<=50)(o:List Str){r:Nat}{st:Sto}(h:st[r]?=some (ZC ps)) :
  Zd5 [c0,some (.lst (ps.map pl)),c2,c3,some (.res r),c5,c6,c7,c8,some (pl o),some (.lst ((SO.srtS (Zs [] (Zg ps o))).map (itV (Zg ps o)))),c11,c12,c13,c14] st = .nx [c0,some (.lst (ps.map pl)),c2,c3,some (.res r),c5,c6,c7,c8,some (pl o),some (.lst ((SO.srtS (Zs [] (Zg ps o))).map (itV (Zg ps o)))),c11,c12,c13,c14] st:=by
 obtain⟨w1,w2,w3⟩:=Zon (Zg ps o);have wl:=ZkM ps o;have e1:ZK (fun _=>True) (Za7 [0,1]) Zae ZgF ((SO.srtS (Zs [] (Zg ps o))).map (itV (Zg ps o))) [none,none] st [] = .ok (((SO.srtS (Zs [] (Zg ps o))).map fun w=>(ZM (Zg ps o) w:Int)).map D.int) st:=by
  rw[ZcR (itV (Zg ps o)) (fun w=>D.int (ZM (Zg ps o) w:Int)) (fun ρ => ∃a b,ρ=[a,b]) trivial _ _ [] ⟨_,_,rfl⟩ (by simp only[Wq,Wx]; exact Zad (by omega))]
  ·rw[YQ];rfl
  ·rintro w _ ρ ⟨a,b,rfl⟩;refine⟨[some (.str w),some (.int (ZM (Zg ps o) w:Int))],rfl,⟨_,_,rfl⟩,?_⟩;unfold ZgF;simp
 have e2:Zdf [.lst (((SO.srtS (Zs [] (Zg ps o))).map fun w=>(ZM (Zg ps o) w:Int)).map D.int)] st = .ok (.int ((Zg ps o).length:Int)) st:=by
  unfold Zdf;show (match Zay (((SO.srtS (Zs [] (Zg ps o))).map fun w=>(ZM (Zg ps o) w:Int)).map D.int) with
   | some ns=>Out.ok (D.int ns.sum) st
   | none => .bad)=_
  rw[ZfH];dsimp only;rw[ZhF w1 _ fun p hp=>(w2 p).mpr hp]
 have e3:=ZfO ps (by omega) o st;obtain⟨b1,ob,b2,b3⟩:=ZcM h (Zgt ps) o;have hg:Zar (Za 4) (Za 9) (dC (.int 0)) [c0,some (.lst (ps.map pl)),c2,c3,some (.res r),c5,c6,c7,c8,some (pl o),some (.lst ((SO.srtS (Zs [] (Zg ps o))).map (itV (Zg ps o)))),c11,c12,c13,c14] st = .ok (.int (Zj ps o:Int)) st:=by
  rw[Zb3];simp only[Zaj,z_C,Yu,YA,Z9,b1,Y9,b2,b3]
 have n1:=Zct ((Zg ps o).length:Int) ((Za0 ps o:Int) - (Zj ps o:Int)) st;rw[YN (by rw[Zkm]; omega)] at n1;have hi:∀(L:List D) (st:Sto),itemsOf st (.lst L)=some L:=fun _ _=>rfl;unfold Zd5;generalize ((SO.srtS (Zs [] (Zg ps o))).map fun w=>(ZM (Zg ps o) w:Int)).map D.int=G1 at *;generalize (SO.srtS (Zs [] (Zg ps o))).map (itV (Zg ps o))=G2 at *;generalize ps.map pl=G3 at *;refine Zby ?_;simp[hi,Z1,e1,e2,e3,hg,ZiX,n1]
theorem Zia{ps:List (List Str)}(hl:ps.length<=50){o:List Str}(ho:o.length<=10){c4 c10:Option D}{chk:Sto->Prop}(hchk:∀st,chk st)(st:Sto):∀(W:List Str) (e11 e12:Option D),∃e11' e12':Option D,
  ZO chk (Za7 [11,12]) Zd7 (W.map (itV (Zg ps o))) [c0,some (.lst (ps.map pl)),c2,c3,c4,c5,c6,c7,c8,some (pl o),c10,e11,e12,c13,c14] st = .nx [c0,some (.lst (ps.map pl)),c2,c3,c4,c5,c6,c7,c8,some (pl o),c10,e11',e12',c13,c14] st
 | [],e11,e12=>⟨e11,e12,ZbG (hchk st)⟩
 | w :: W,e11,e12=>by
  have ht:Za7 [11,12] (itV (Zg ps o) w) [c0,some (.lst (ps.map pl)),c2,c3,c4,c5,c6,c7,c8,some (pl o),c10,e11,e12,c13,c14]=some [c0,some (.lst (ps.map pl)),c2,c3,c4,c5,c6,c7,c8,some (pl o),c10,some (.str w),some (.int (ZM (Zg ps o) w:Int)),c13,c14]:=rfl;have a1:ZQ (pl o) (.tup [.str w]) st = .ok (pl (o++[w])) st:=Zn7 o [w] st (Zad (by simp; omega));have a2:=ZfO ps (by omega) (o++[w]) st;rw[Zj3] at a2;have n1:=Zct (ZM (Zg ps o) w:Int) (ZM (Zg ps o) w:Int) st;have q1:(1:Nat)<=small:=by decide
  have hb:Zd7 [c0,some (.lst (ps.map pl)),c2,c3,c4,c5,c6,c7,c8,some (pl o),c10,some (.str w),some (.int (ZM (Zg ps o) w:Int)),c13,c14] st = .nx [c0,some (.lst (ps.map pl)),c2,c3,c4,c5,c6,c7,c8,some (pl o),c10,some (.str w),some (.int (ZM (Zg ps o) w:Int)),c13,c14] st:=by
   unfold Zd7;generalize ps.map pl=G at *;generalize (ZM (Zg ps o) w:Int)=n at *;refine Zby ?_;simp[a1,a2,n1,q1]
  obtain⟨e1,e2,ih⟩:=Zia hl ho hchk st W (some (.str w)) (some (.int (ZM (Zg ps o) w:Int)));refine⟨e1,e2,?_⟩;rw[Yn,ZbM (hchk st) ht hb];exact ih
theorem ZqM{ps:List (List Str)}(hl:ps.length<=50){o:List Str}(ho:o.length<=10){c4:Option D}(st:Sto):∃e11' e12':Option D,
  Zem [c0,some (.lst (ps.map pl)),c2,c3,c4,c5,c6,c7,c8,some (pl o),some (.lst ((SO.srtS (Zs [] (Zg ps o))).map (itV (Zg ps o)))),c11,c12,c13,c14] st = .nx [c0,some (.lst (ps.map pl)),c2,c3,c4,c5,c6,c7,c8,some (pl o),some (.lst ((SO.srtS (Zs [] (Zg ps o))).map (itV (Zg ps o)))),e11',e12',c13,c14] st:=by
 obtain⟨e1,e2,h⟩:=Zia (c0:=c0) (c2:=c2) (c3:=c3) (c5:=c5) (c6:=c6) (c7:=c7) (c8:=c8) (c13:=c13) (c14:=c14) hl ho (c4:=c4) (c10:=some (.lst ((SO.srtS (Zs [] (Zg ps o))).map (itV (Zg ps o))))) (chk:=fun st=>itemsOf st (.lst ((SO.srtS (Zs [] (Zg ps o))).map (itV (Zg ps o))))=some ((SO.srtS (Zs [] (Zg ps o))).map (itV (Zg ps o)))) (fun _=>rfl) st (SO.srtS (Zs [] (Zg ps o))) c11 c12;refine⟨e1,e2,?_⟩;unfold Zem;rw[Zb7];have hs:Zag (Za 10) [c0,some (.lst (ps.map pl)),c2,c3,c4,c5,c6,c7,c8,some (pl o),some (.lst ((SO.srtS (Zs [] (Zg ps o))).map (itV (Zg ps o)))),c11,c12,c13,c14] st = .ok ((SO.srtS (Zs [] (Zg ps o))).map (itV (Zg ps o)),fun st=>itemsOf st (.lst ((SO.srtS (Zs [] (Zg ps o))).map (itV (Zg ps o))))=some ((SO.srtS (Zs [] (Zg ps o))).map (itV (Zg ps o)))) st:=rfl;rw[hs,ZbP];exact h
end
def Zan(n:Nat):List Int:=(List.range n).map fun (j:Nat)=>3 * (j:Int)
theorem Zqo(n:Nat):(Zan n).length=n:=by simp[Zan]
theorem ZkN:∀(ps:List (List Str)) (k:Nat),zlV ps ((List.range ps.length).map fun (j:Nat)=>3 * ((k+j:Nat):Int)) ((List.range ps.length).map fun (j:Nat)=>3 * ((k+1+j:Nat):Int))=ps.map fun p=>(p,3)
 | [],k=>by unfold zlV; rfl
 | p :: ps,k=>by
  have ih:=ZkN ps (k+1);rw[Yw,VU,Yn,Yn,YQ,YQ];show (p,3 * ((k+1+0:Nat):Int) - 3 * ((k+0:Nat):Int)) :: zlV ps _ _=_;have e1:((List.range ps.length).map ((fun (j:Nat)=>3 * ((k+j:Nat):Int)) ∘ Nat.succ))=(List.range ps.length).map fun (j:Nat)=>3 * ((k+1+j:Nat):Int):=Y6 fun j _=>by
   show 3 * ((k+(j+1):Nat):Int)=_;omega
  have e2:((List.range ps.length).map ((fun (j:Nat)=>3 * ((k+1+j:Nat):Int)) ∘ Nat.succ))=(List.range ps.length).map fun (j:Nat)=>3 * ((k+1+1+j:Nat):Int):=Y6 fun j _=>by
   show 3 * ((k+1+(j+1):Nat):Int)=_;omega
  rw[e1,e2,ih,Yn];congr 2;omega
theorem Zsl{n:Nat}(h:0<n):(Zan n).drop 1++[3 * (n:Int)]=((List.range (n+1)).map (fun (j:Nat)=>3 * (j:Int))).drop 1:=by
 unfold Zan;rw[Uh,WE];cases n with
 | zero=>cases h
 | succ n=>rw[List.drop_append_of_le_length (by simp)]; rfl
theorem Zjz(c:Int)(q:List Str):∀(ps:List (List Str)) (f:List Str->Int),ZaF (ps.map fun p=>(p,c)) f q=f q+c * (Zj ps q:Int)
 | [],f=>by simp[ZaF,Zj]
 | p :: ps,f=>by
  rw[Yn];unfold ZaF;rw[Zjz c q ps];unfold ZaA Zj;rw[Y1];by_cases e:q=p
  ·subst e;simp[Int.mul_add];omega
  ·rw[Yh e,Yh (by simpa using fun z=>e z.symm)]
theorem ZqS(ps:List (List Str))(hl:ps.length<=100)(st:Sto) :
  ∃(st':Sto) (r:Nat),ZcH [.lst (ps.map pl),.lst ((Zan ps.length).map D.int),.int (3 * (ps.length:Int))] st = .ok (.res r) st'/\st'[r]?=some (.dtt (dpi (fun p=>3 * (Zj ps p:Int)) (Zd [] ps)))/\StoK st st':=by
 have hk0:StoK st (st++[.dtt []]):=StoK.app _ _;have hM:=Zqo ps.length;obtain⟨E,hE⟩:∃E:Int,E=3 * (ps.length:Int):=⟨_,rfl⟩;have hz:zlV ps (Zan ps.length) ((Zan ps.length).drop 1++[E])=ps.map fun p=>(p,3):=by
  by_cases h0:ps=[]
  ·subst h0; unfold zlV; rfl
  have:=ZkN ps 0;rw[hE,Zsl (List.length_pos_iff.mpr h0)];have e1:Zan ps.length=(List.range ps.length).map fun (j:Nat)=>3 * ((0+j:Nat):Int):=by
   unfold Zan;exact Y6 fun j _=>by rw[Wx]
  have e2:((List.range (ps.length+1)).map (fun (j:Nat)=>3 * (j:Int))).drop 1=(List.range ps.length).map fun (j:Nat)=>3 * ((0+1+j:Nat):Int):=by
   rw[VU,Yn,YQ];show (List.range ps.length).map _=_;refine Y6 fun j _ => ?_;show 3 * ((j+1:Nat):Int)=_;omega
  rw[e1,e2];exact this
 rw[<-hE];generalize Zan ps.length=M at *;have hlz:ps.length<=(M.drop 1++[E]).length:=by simp; omega
 obtain⟨e',e'',e3,st',g1,g2,g3⟩:=ZjR (c0:=some (.lst (ps.map pl))) (c1:=some (.lst (M.map D.int))) (c2:=some (.int E)) (c4:=some (.lst ((M.drop 1++[E]).map D.int))) (chk:=fun st=>Zp st (.lst (ps.map pl))=some (ps.map pl)/\Zp st (.lst (M.map D.int))=some (M.map D.int)/\Zp st (.lst ((M.drop 1++[E]).map D.int))=some ((M.drop 1++[E]).map D.int)) st.length st (fun st' k=>⟨rfl,rfl,rfl⟩) (Yj _) ps M (M.drop 1++[E]) none none none [] (fun _=>0) (st++[.dtt []]) (fun _ _=>rfl) (by simp; omega) (by omega) hlz (ZaT _ _) hk0;have ef:ZaF (ps.map fun p=>(p,3)) (fun _=>0)=fun p=>3 * (Zj ps p:Int):=by
  funext q;rw[Zjz];omega
 rw[hz,ef] at g2;refine⟨st',st.length,?_,g2,g3⟩;refine ZbQ rfl ?_;show ZfQ [some (.lst (ps.map pl)),some (.lst (M.map D.int)),some (.int E),none,none,none,none,none] st=_;unfold ZfQ;have h0:ZE 3 Zbo [some (.lst (ps.map pl)),some (.lst (M.map D.int)),some (.int E),none,none,none,none,none] st = .nx [some (.lst (ps.map pl)),some (.lst (M.map D.int)),some (.int E),some (.res st.length),none,none,none,none] (st++[.dtt []]):=rfl;have hcut:ZZ (.lst (M.map D.int)) (some 1) none (st++[.dtt []]) = .ok ((M.drop 1).map D.int) (st++[.dtt []]):=by
  have:=ZkX (M.map D.int) 1;show Out.ok (Zab (M.map D.int) (some 1) none) _=_;rw[show (some (1:Int))=some ((1:Nat):Int) from rfl,this,List.map_drop]
 have hlist:Zdh [.lst ((M.drop 1).map D.int)] (st++[.dtt []]) = .ok ((M.drop 1).map D.int) (st++[.dtt []]):=rfl;have hcat:Zat (.lst ((M.drop 1).map D.int)) (.lst [.int E]) (st++[.dtt []]) = .ok ((M.drop 1++[E]).map D.int) (st++[.dtt []]):=by
  have:((M.drop 1).map D.int).length+1<=small:=Zad (by rw[Ym,Qf]; omega);unfold Zat;simp only[ZaG];rw[Yf (by simpa using this),WE];rfl
 have q1:(1:Nat)<=small:=by decide
 have h1:ZE 4 (dF (ZbW Zat (dF (Zl Zdh (Zc (dF (dSl ZZ (Za 1) (Zav (dC (.int 1))) Zaw)) Zi))) (dF (Zbv (Zc (Za 2) Zi))))) [some (.lst (ps.map pl)),some (.lst (M.map D.int)),some (.int E),some (.res st.length),none,none,none,none] (st++[.dtt []]) = .nx [some (.lst (ps.map pl)),some (.lst (M.map D.int)),some (.int E),some (.res st.length),some (.lst ((M.drop 1++[E]).map D.int)),none,none,none] (st++[.dtt []]):=by
  generalize (M.drop 1++[E]).map D.int=G1 at *;generalize (M.drop 1).map D.int=G2 at *;generalize M.map D.int=G4 at *;generalize ps.map pl=G3 at *;simp[hcut,hlist,hcat,q1]
 have hd:Zd6 (Zc (Za 0) (Zc (Za 1) (Zc (Za 4) Zi))) [some (.lst (ps.map pl)),some (.lst (M.map D.int)),some (.int E),some (.res st.length),some (.lst ((M.drop 1++[E]).map D.int)),none,none,none] (st++[.dtt []]) = .ok (Zaf (ps.map pl) (M.map D.int) ((M.drop 1++[E]).map D.int),fun st=>Zp st (.lst (ps.map pl))=some (ps.map pl)/\Zp st (.lst (M.map D.int))=some (M.map D.int)/\Zp st (.lst ((M.drop 1++[E]).map D.int))=some ((M.drop 1++[E]).map D.int)) (st++[.dtt []]):=by
  have a1:(ps.map pl).length<=(M.map D.int).length:=by rw[Ym,Ym]; omega
  have a2:(ps.map pl).length<=((M.drop 1++[E]).map D.int).length:=by rw[Ym,Ym]; exact hlz
  unfold Zd6;generalize (M.drop 1++[E]).map D.int=G1 at *;generalize M.map D.int=G2 at *;generalize ps.map pl=G3 at *;have s1:∀(L:List D) (st:Sto),Zp st (.lst L)=some L:=fun _ _=>rfl;simp only[Zo3,ZoH,Zaj,Yu,YA,Z9,s1];rw[Yf ⟨a1,a2⟩]
 rw[Zau h0,Zau h1,Zau (by rw[Zb7,hd,ZbP]; exact g1)];simp
theorem Zjb(f:List Str->Int):∀(ks acc:List (List Str)) (g:List Str->Int),(acc++ks).Nodup->(∀p∈acc,g p=f p)->ZcZ (dpi g acc) (dpi f ks)=dpi f (acc++ks)
 | [],acc,g,_,h=>by
  show dpi g acc=dpi f (acc++[]);rw[Qm];unfold dpi dpl;exact Y6 fun p hp=>by
   show (pl p,D.int (g p))=(pl p,D.int (f p));rw[h p hp]
 | k :: ks,acc,g,hn,h=>by
  have hk:k ∉ acc:=fun z=>by
   rw[Qq] at hn;exact hn.2.2 k z k Yv rfl
  show ZcZ (putD Zo (dpi g acc) (pl k) (.int (f k))) (dpi f ks)=_;have e:putD Zo (dpi g acc) (pl k) (.int (f k))=dpi (fun q=>if q=k then f k else g q) (acc++[k]):=by
   unfold dpi;rw[ZgO,Yh hk];congr 1;funext q;show (if q=k then D.int (f k) else D.int (g q))=D.int (if q=k then f k else g q);split <;> rfl
  rw[e,Zjb f ks (acc++[k]) _ (by simpa using hn) fun p hp => ?_]
  ·simp
  ·by_cases z:p=k
   ·rw[Yf z,z]
   ·rw[Yh z];rcases Wu.mp hp with hp | hp
    ·exact h p hp
    ·exact absurd (YC.mp hp) z
theorem ZjH(f:List Str->Int):∀ks:List (List Str),Zcn (ks.map fun p=>D.tup [pl p,.int (f p)])=some (dpi f ks)
 | []=>rfl
 | k :: ks=>by
  show (Zcn (ks.map fun p=>D.tup [pl p,.int (f p)])).map ((pl k,D.int (f k)) :: ·)=_;rw[ZjH f ks];rfl
theorem Zhp(f:List Str->Int):∀ks:List (List Str),ZbR (dpi f ks)=true
 | []=>rfl
 | k :: ks=>by
  show ((Zo (pl k)).isSome && ZbR (dpi f ks))=true;rw[Zhp f ks,Zbw];rfl
theorem Znc(f:List Str->Int){ks:List (List Str)}(hn:ks.Nodup)(hl:ks.length<=100)(st:Sto):ZdA [.lst (ks.map fun p=>D.tup [pl p,.int (f p)])] st = .ok (.res st.length) (st++[.dtt (dpi f ks)]):=by
 unfold ZdA;show (match Zcn (ks.map fun p=>D.tup [pl p,.int (f p)]) with
  | some kvs=>if ZbR kvs=true/\kvs.length<=500 then Out.ok (D.res st.length) (st++[S.dtt (ZcZ [] kvs)]) else .bad
  | none => .bad)=_
 rw[ZjH];dsimp only;rw[Yf ⟨Zhp f ks,by simp[dpi,dpl]; omega⟩];have:=Zjb f ks [] (fun _=>0) (by simpa using hn) fun p hp=>by cases hp
 rw[W9] at this;exact congrArg (fun z=>Out.ok (D.res st.length) (st++[S.dtt z])) this
section
variable{c0 c1 c2 c3 c5 c6 c7 c8 c9 c10 c11 c12 c13:Option D}
theorem Zqd{ps:List (List Str)}(hl:ps.length<=50){r rt:Nat}{st:Sto}(h:st[r]?=some (ZC ps))(ht:st[rt]?=some (.dtt (dpi (fun p=>3 * (Zj ps p:Int)) (Zd [] ps)))) :
  ∃st',Zd2 [c0,c1,c2,c3,some (.res r),c5,c6,c7,c8,c9,c10,c11,c12,c13,some (.res rt)] st = .rt (.bl true) st':=by
 obtain⟨o1,o2,o3⟩:=Zc1 ps;have hc:Zey [4] 1 (Za 4) (Zz 0) Zae Zf8 [c0,c1,c2,c3,some (.res r),c5,c6,c7,c8,c9,c10,c11,c12,c13,some (.res rt)] st = .ok ((Zd [] ps).map fun p=>D.tup [pl p,.int (3 * (Zj ps p:Int))]) st:=by
  unfold Zey;rw[Zaj];unfold ZC at h;simp only[Yu,YA,Z9,h,Zgm];refine ZhO fun o => ?_;have g1:(st.set r (.fdt o (dpi (fun p=>(Zj ps p:Int)) (Zd [] ps))))[r]?=some (.fdt o (dpi (fun p=>(Zj ps p:Int)) (Zd [] ps))):=ZbY h;have ec:Z1 [c0,c1,c2,c3,some (.res r),c5,c6,c7,c8,c9,c10,c11,c12,c13,some (.res rt)] [4] 1=[none,some (.res r)]:=rfl;rw[ec,ZcR (chk:=fun st=>st[r]?=some (.fdt o (dpi (fun p=>(Zj ps p:Int)) (Zd [] ps)))) pl (fun p=>D.tup [pl p,.int (3 * (Zj ps p:Int))]) (fun ρ => ∃a,ρ=[a,some (.res r)]) g1 (Zd [] ps) _ [] ⟨none,rfl⟩ (by simp only[Wq,Wx]; exact Zad (by omega))]
  ·rw[Z9,g1];dsimp only;rw[W9,List.set_set,set_same h]
  ·rintro p hp ρ ⟨a,rfl⟩;refine⟨[some (pl p),some (.res r)],rfl,⟨_,rfl⟩,?_⟩;have hat:=Zhm g1 hp;have e4:=Za4 3 (Zj ps p:Int) (st.set r (.fdt o (dpi (fun p=>(Zj ps p:Int)) (Zd [] ps)))) (Zbx _ _ (by decide) (by decide));have hg:Zci (Za 1) (Za 0) [some (pl p),some (.res r)] (st.set r (.fdt o (dpi (fun p=>(Zj ps p:Int)) (Zd [] ps)))) = .ok (.int (Zj ps p:Int)) (st.set r (.fdt o (dpi (fun p=>(Zj ps p:Int)) (Zd [] ps)))):=by
    rw[Ze3];simp only[Zaj,Yu,YA,Z9,hat]
   have q2:(2:Nat)<=small:=by decide
   unfold Zf8;generalize st.set r (.fdt o (dpi (fun p=>(Zj ps p:Int)) (Zd [] ps)))=S1 at *;simp[hg,e4,q2]
 have hd:=Znc (fun p=>3 * (Zj ps p:Int)) o1 (by omega) st;have hq:=(ZpK (i:=rt) (j:=st.length) ((StoK.app st [.dtt (dpi (fun p=>3 * (Zj ps p:Int)) (Zd [] ps))]).fr _ _ ht) (ZaT st _) fun _ _=>rfl).1;refine⟨st++[.dtt (dpi (fun p=>3 * (Zj ps p:Int)) (Zd [] ps))],?_⟩;unfold Zd2;generalize ((Zd [] ps).map fun p=>D.tup [pl p,.int (3 * (Zj ps p:Int))])=G at *;simp[hc,hd,hq]
end
theorem law_true(cv:Nat->Addr):∀ns:List Int,ns.length<=63->∃st,ZdK cv [.scr (ns.map .int)] [.tab (cv 90) false] = .ok (.bl true) st:=by
 intro ns hns
 suffices h:∃st,Zfb cv [some (.scr (ns.map .int)),none,none,none,none,none,none,none,none,none,none,none,none,none,none] [.tab (cv 90) false] = .rt (.bl true) st by
  obtain⟨st,h⟩:=h;exact⟨st,ZbQ rfl h⟩
 have hpl:=ZiJ ns 0;have hql:=ZiJ ns 100;have hL4:(Zd [] (ZaP ns 0).reverse).length<=4:=by
  have:=Zmn (ps:=(ZaP ns 0).reverse) (S:=Zak ns 0) fun p hp=>ZlB (by simpa using hp);simpa[Zak] using this
 have e1:=places_eq ns hns 0 [.tab (cv 90) false];have e2:=places_eq ns hns 100 [.tab (cv 90) false];have e3:=fun st=>Zhe ns hns 50 st;have e4:=fun st=>Zi5 (Zbm ns 50) none (some (1:Int)) st;obtain⟨o,ho⟩:∃o:List Str,Zab (Zbm ns 50) none (some (1:Int))=o:=⟨_,rfl⟩;have hol:o.length<=10:=by
  have:=Zdc (Zbm ns 50) 1;rw[<-ho,show (some (1:Int))=some ((1:Nat):Int) from rfl,this,Y8];omega
 rw[ho] at e4;generalize ZaP ns 0=ps at *;generalize ZaP ns 100=qs at *;unfold Zfb;refine Z7 (ρ':=[some (.scr (ns.map .int)),some (.lst (ps.map pl)),none,none,none,none,none,none,none,none,none,none,none,none,none]) (st':=[.tab (cv 90) false]) ?_ ?_
 ·unfold Zfn;generalize ps.map pl=P at *;generalize ns.map D.int=NN at *;simp[e1]
 refine Z7 (ρ':=[some (.scr (ns.map .int)),some (.lst (ps.map pl)),some (.lst (qs.map pl)),none,none,none,none,none,none,none,none,none,none,none,none]) (st':=[.tab (cv 90) false]) ?_ ?_
 ·unfold ZfM;generalize ps.map pl=P at *;generalize qs.map pl=P2 at *;generalize ns.map D.int=NN at *;simp[e2]
 have t0:([.tab (cv 90) false]:Sto)[0]?=some (.tab (cv 90) false):=rfl;generalize ([.tab (cv 90) false]:Sto)=st0 at t0;obtain⟨st1,r1,g1,g2,g3,k1⟩:=Zfz ps (by omega) st0;refine Z7 (ρ':=[some (.scr (ns.map .int)),some (.lst (ps.map pl)),some (.lst (qs.map pl)),some (.res r1),none,none,none,none,none,none,none,none,none,none,none]) (st':=st1) ?_ ?_
 ·unfold Zfv;generalize ps.map pl=P at *;generalize qs.map pl=P2 at *;generalize ns.map D.int=NN at *;simp[g1]
 obtain⟨st2,a2,k2⟩:=Zne (c0:=some (.scr (ns.map .int))) (c2:=some (.lst (qs.map pl))) (c4:=none) (c5:=none) (c6:=none) (c7:=none) (c8:=none) (c9:=none) (c10:=none) (c11:=none) (c12:=none) (c13:=none) (c14:=none) (ps:=ps) (by omega) g2;refine Z7 a2 ?_;obtain⟨st3,a3,k3⟩:=ZmQ (c0:=some (.scr (ns.map .int))) (c4:=none) (c5:=none) (c6:=none) (c7:=none) (c8:=none) (c9:=none) (c10:=none) (c11:=none) (c12:=none) (c13:=none) (c14:=none) (ps:=ps) (qs:=qs) (by omega) (by omega) (k2.fr _ _ g2);refine Z7 a3 ?_;have k03:=k1.trans (k2.trans k3);have t3:=k03.fr _ _ t0;have hp3:0<st3.length:=(Yk.mp t3).1;have e6:=Zga ps (by omega) st3;refine Z7 (ρ':=[some (.scr (ns.map .int)),some (.lst (ps.map pl)),some (.lst (qs.map pl)),some (.res r1),some (.res st3.length),none,none,none,none,none,none,none,none,none,none]) (st':=st3++[ZC ps]) ?_ ?_
 ·unfold Zgo;generalize ps.map pl=P at *;generalize qs.map pl=P2 at *;generalize ns.map D.int=NN at *;simp[e6]
 have i4:=ZaT st3 (ZC ps);have k4:=StoK.app st3 [ZC ps];have hl4:(st3++[ZC ps]).length=st3.length+1:=by simp
 generalize hst4:st3++[ZC ps]=st4 at i4 k4 hl4;obtain⟨re,hre⟩:∃re,re=st3.length:=⟨_,rfl⟩;rw[<-hre] at i4 ⊢;refine Z7 (Zoe (by omega) i4) ?_;have a8:Zat (.lst (ps.map pl)) (.lst (qs.map pl)) st4 = .ok ((ps++qs).map pl) st4:=by
  have:(ps.map pl).length+(qs.map pl).length<=small:=Zad (by rw[Ym,Ym]; omega);unfold Zat;simp only[ZaG];rw[Yf (by simpa using this),WE]
 have e8:=Zga (ps++qs) (by simp; omega) st4;refine Z7 (ρ':=[some (.scr (ns.map .int)),some (.lst (ps.map pl)),some (.lst (qs.map pl)),some (.res r1),some (.res re),some (.res st4.length),none,none,none,none,none,none,none,none,none]) (st':=st4++[ZC (ps++qs)]) ?_ ?_
 ·unfold Zgn;generalize (ps++qs).map pl=P3 at *;generalize ps.map pl=P at *;generalize qs.map pl=P2 at *;generalize ns.map D.int=NN at *;simp[a8,e8]
 have k5:=StoK.app st4 [ZC (ps++qs)];obtain⟨e',st6,a9,k6⟩:=ZlV (c0:=some (.scr (ns.map .int))) (c1:=some (.lst (ps.map pl))) (c3:=some (.res r1)) (e6:=none) (c7:=none) (c8:=none) (c9:=none) (c10:=none) (c11:=none) (c12:=none) (c13:=none) (c14:=none) (ps:=ps) (qs:=qs) (re:=re) (rb:=st4.length) (by omega) (by omega) (ZaT st4 (ZC (ps++qs))) (k5.fr _ _ i4);refine Z7 a9 ?_;have i6:=k6.fr _ _ (k5.fr _ _ i4);have t6:=k6.fr _ _ (k5.fr _ _ (k4.fr _ _ t3));obtain⟨l1,l2,l3⟩:=Zgg ps;obtain⟨st7,a10,k7⟩:=Zhg ps (by omega) 99 st6;rw[WA (by omega)] at a10;refine Z7 (ρ':=[some (.scr (ns.map .int)),some (.lst (ps.map pl)),some (.lst (qs.map pl)),some (.res r1),some (.res re),some (.res st4.length),e',some (.lst ((Zd [] ps.reverse).map pl)),none,none,none,none,none,none,none]) (st':=st7) ?_ ?_
 ·have a10':ZaV [.lst (ps.map pl),.int 99] st6 = .ok (.lst ((Zd [] ps.reverse).map pl)) st7:=a10;unfold ZfY;generalize (Zd [] ps.reverse).map pl=P3 at *;generalize ps.map pl=P at *;generalize qs.map pl=P2 at *;generalize ns.map D.int=NN at *;simp[a10']
 obtain⟨st8,a11,k8⟩:=ZrG (c0:=some (.scr (ns.map .int))) (c2:=some (.lst (qs.map pl))) (c3:=some (.res r1)) (c5:=some (.res st4.length)) (c6:=e') (c8:=none) (c9:=none) (c10:=none) (c11:=none) (c12:=none) (c13:=none) (c14:=none) (ps:=ps) (by omega) (k7.fr _ _ i6);refine Z7 a11 ?_;have i8:=k8.fr _ _ (k7.fr _ _ i6);have t8:=k8.fr _ _ (k7.fr _ _ t6);obtain⟨st9,a12,k9⟩:=ZnZ (cv:=cv) ps (by omega) hL4 99 st8 t8;rw[WA (by rw[(ZgE ps _).length_eq]; omega)] at a12;have i9:=k9.fr _ _ (by omega) i8;refine Z7 (ρ':=[some (.scr (ns.map .int)),some (.lst (ps.map pl)),some (.lst (qs.map pl)),some (.res r1),some (.res re),some (.res st4.length),e',some (.lst ((Zd [] ps.reverse).map pl)),some (.lst ((ZT ps (Zd [] ps.reverse)).map pl)),none,none,none,none,none,none]) (st':=st9) ?_ ?_
 ·have a12':Zb4 cv [.lst (ps.map pl),.int 99] st8 = .ok (.lst ((ZT ps (Zd [] ps.reverse)).map pl)) st9:=a12;unfold Zgs;generalize (ZT ps (Zd [] ps.reverse)).map pl=P4 at *;generalize (Zd [] ps.reverse).map pl=P3 at *;generalize ps.map pl=P at *;generalize qs.map pl=P2 at *;generalize ns.map D.int=NN at *;simp[a12']
 refine Z7 (Zll (by omega) i9) ?_;refine Z7 (ZqD (by omega) st9) ?_;generalize (ZT ps (Zd [] ps.reverse)).map pl=TT;generalize (Zd [] ps.reverse).map pl=LL;refine Z7 (ρ':=[some (.scr (ns.map .int)),some (.lst (ps.map pl)),some (.lst (qs.map pl)),some (.res r1),some (.res re),some (.res st4.length),e',some (.lst LL),some (.lst TT),some (pl o),none,none,none,none,none]) (st':=st9) ?_ ?_
 ·have e3':=e3 st9;have e4':=e4 st9;unfold ZgB;generalize pl (Zbm ns 50)=PP at *;generalize ps.map pl=P at *;generalize qs.map pl=P2 at *;generalize ns.map D.int=NN at *;simp[e3',e4']
 obtain⟨st10,a16,k10⟩:=Zpv ps (by omega) o st9;refine Z7 (ρ':=[some (.scr (ns.map .int)),some (.lst (ps.map pl)),some (.lst (qs.map pl)),some (.res r1),some (.res re),some (.res st4.length),e',some (.lst LL),some (.lst TT),some (pl o),some (.lst ((SO.srtS (Zs [] (Zg ps o))).map (itV (Zg ps o)))),none,none,none,none]) (st':=st10) ?_ ?_
 ·unfold Zff;generalize (SO.srtS (Zs [] (Zg ps o))).map (itV (Zg ps o))=P3 at *;generalize ps.map pl=P at *;generalize qs.map pl=P2 at *;generalize ns.map D.int=NN at *;simp[a16]
 have i10:=k10.fr _ _ i9;refine Z7 (Zpp (by omega) o i10) ?_;obtain⟨e11,e12,a18⟩:=ZqM (c0:=some (.scr (ns.map .int))) (c2:=some (.lst (qs.map pl))) (c3:=some (.res r1)) (c4:=some (.res re)) (c5:=some (.res st4.length)) (c6:=e') (c7:=some (.lst LL)) (c8:=some (.lst TT)) (c11:=none) (c12:=none) (c13:=none) (c14:=none) (ps:=ps) (by omega) hol st10;refine Z7 a18 ?_;generalize (SO.srtS (Zs [] (Zg ps o))).map (itV (Zg ps o))=BB;have a19:ZK (fun _=>True) (Zz 0) Zae Zf4 ((List.range ps.length).map (fun (i:Nat)=>D.int (i:Int))) [none] st10 [] = .ok ((Zan ps.length).map D.int) st10:=by
  rw[ZcR (fun (i:Nat)=>D.int (i:Int)) (fun (i:Nat)=>D.int (3 * (i:Int))) (fun ρ => ∃a,ρ=[a]) trivial _ _ [] ⟨_,rfl⟩ (by simp only[Wq,Wa,Wx]; exact Zad (by omega))]
  ·unfold Zan;rw[YQ];rfl
  ·rintro i _ ρ ⟨a,rfl⟩;refine⟨_,rfl,⟨_,rfl⟩,?_⟩;have e4:=Za4 3 (i:Int) st10 (Zbx _ _ (by decide) (by decide));unfold Zf4;simp[e4]
 have hlen:ZR [.lst (ps.map pl)] st10 = .ok (.int (ps.length:Int)) st10:=by rw[Zgy,Ym]
 refine Z7 (ρ':=[some (.scr (ns.map .int)),some (.lst (ps.map pl)),some (.lst (qs.map pl)),some (.res r1),some (.res re),some (.res st4.length),e',some (.lst LL),some (.lst TT),some (pl o),some (.lst BB),e11,e12,some (.lst ((Zan ps.length).map D.int)),none]) (st':=st10) ?_ ?_
 ·have h3:Zbl (ps.length:Int)=true:=ZdV (by omega) (by omega);unfold Zfe;generalize (Zan ps.length).map D.int=P3 at *;generalize ps.map pl=P at *;generalize qs.map pl=P2 at *;generalize ns.map D.int=NN at *;simp[hlen,ZbB,h3,Z1,a19]
 obtain⟨st11,rt,a20,i11,k11⟩:=ZqS ps (by omega) st10;refine Z7 (ρ':=[some (.scr (ns.map .int)),some (.lst (ps.map pl)),some (.lst (qs.map pl)),some (.res r1),some (.res re),some (.res st4.length),e',some (.lst LL),some (.lst TT),some (pl o),some (.lst BB),e11,e12,some (.lst ((Zan ps.length).map D.int)),some (.res rt)]) (st':=st11) ?_ ?_
 ·have e4:=Za4 3 (ps.length:Int) st10 (Zbx _ _ (by decide) (by decide));unfold ZfD;generalize (Zan ps.length).map D.int=P3 at *;generalize ps.map pl=P at *;generalize qs.map pl=P2 at *;generalize ns.map D.int=NN at *;simp[hlen,e4,a20]
 exact Zqd (by omega) (k11.fr _ _ i10) i11
end K61
end
section
namespace K61
open PySem L2 DL
theorem all_mk{l:PySem.W.OpenLaw}{w:World}{K:P5}{h:Heap}{mg:Str->Option P9}{fa f0 f1 f2 f3 f4 f5 f6 f7 f8 f9 f10 f11 f12 f13 f14 f15  tc tT:Addr}(X:K.In h)(G:h.Ns mainGlobals mg)(hfa:mg "law" = some (.ref fa))
    {od0 an0:Option Addr} {sl0:Array (Option P9)} {oc0 kV0 dc0 pm0 cd0 ct0:P9}
    {od1 an1:Option Addr} {sl1:Array (Option P9)} {oc1 kV1 dc1 pm1 cd1 ct1:P9}
    {od2 an2:Option Addr} {sl2:Array (Option P9)} {oc2 kV2 dc2 pm2 cd2 ct2:P9}
    {od3 an3:Option Addr} {sl3:Array (Option P9)} {oc3 kV3 dc3 pm3 cd3 ct3:P9}
    {od4 an4:Option Addr} {sl4:Array (Option P9)} {oc4 kV4 dc4 pm4 cd4 ct4:P9}
    {od5 an5:Option Addr} {sl5:Array (Option P9)} {oc5 kV5 dc5 pm5 cd5 ct5:P9}
    {od6 an6:Option Addr} {sl6:Array (Option P9)} {oc6 kV6 dc6 pm6 cd6 ct6:P9}
    {od7 an7:Option Addr} {sl7:Array (Option P9)} {oc7 kV7 dc7 pm7 cd7 ct7:P9}
    {od8 an8:Option Addr} {sl8:Array (Option P9)} {oc8 kV8 dc8 pm8 cd8 ct8:P9}
    {od9 an9:Option Addr} {sl9:Array (Option P9)} {oc9 kV9 dc9 pm9 cd9 ct9:P9}
    {od10 an10:Option Addr} {sl10:Array (Option P9)} {oc10 kV10 dc10 pm10 cd10 ct10:P9}
    {od11 an11:Option Addr} {sl11:Array (Option P9)} {oc11 kV11 dc11 pm11 cd11 ct11:P9}
    {od12 an12:Option Addr} {sl12:Array (Option P9)} {oc12 kV12 dc12 pm12 cd12 ct12:P9}
    {od13 an13:Option Addr} {sl13:Array (Option P9)} {oc13 kV13 dc13 pm13 cd13 ct13:P9}
    {od14 an14:Option Addr} {sl14:Array (Option P9)} {oc14 kV14 dc14 pm14 cd14 ct14:P9}
    {od15 an15:Option Addr} {sl15:Array (Option P9)} {oc15 kV15 dc15 pm15 cd15 ct15:P9}
    (a0:PySem.W.nsIn K mainGlobals "_law_cell" = some (some (.ref f0))) (l0:K.lookup f0=some ⟨oc0,od0,.func (PySem.W.fnOf "_law_cell" "_law_cell" (Z4 ZcI) (Zt ZcI) (Ze ZcI) .none kV0 dc0 pm0 an0 cd0 ct0),sl0⟩) (c0:PySem.W.codeIn K cd0 "_law_cell" = true) (k0:PySem.W.keepIn K (.ref f0)=true)
    (a1:PySem.W.nsIn K mainGlobals "_law_drawn" = some (some (.ref f1))) (l1:K.lookup f1=some ⟨oc1,od1,.func (PySem.W.fnOf "_law_drawn" "_law_drawn" (Z4 ZcB) (Zt ZcB) (Ze ZcB) .none kV1 dc1 pm1 an1 cd1 ct1),sl1⟩) (c1:PySem.W.codeIn K cd1 "_law_drawn" = true) (k1:PySem.W.keepIn K (.ref f1)=true)
    (a2:PySem.W.nsIn K mainGlobals "_law_place" = some (some (.ref f2))) (l2:K.lookup f2=some ⟨oc2,od2,.func (PySem.W.fnOf "_law_place" "_law_place" (Z4 Zce) (Zt Zce) (Ze Zce) .none kV2 dc2 pm2 an2 cd2 ct2),sl2⟩) (c2:PySem.W.codeIn K cd2 "_law_place" = true) (k2:PySem.W.keepIn K (.ref f2)=true)
    (a3:PySem.W.nsIn K mainGlobals "_law_places" = some (some (.ref f3))) (l3:K.lookup f3=some ⟨oc3,od3,.func (PySem.W.fnOf "_law_places" "_law_places" (Z4 ZbD) (Zt ZbD) (Ze ZbD) .none kV3 dc3 pm3 an3 cd3 ct3),sl3⟩) (c3:PySem.W.codeIn K cd3 "_law_places" = true) (k3:PySem.W.keepIn K (.ref f3)=true)
    (a4:PySem.W.nsIn K mainGlobals "trail" = some (some (.ref f4))) (l4:K.lookup f4=some ⟨oc4,od4,.func (PySem.W.fnOf "trail" "trail" (Z4 ZcJ) (Zt ZcJ) (Ze ZcJ) .none kV4 dc4 pm4 an4 cd4 ct4),sl4⟩) (c4:PySem.W.codeIn K cd4 "trail" = true) (k4:PySem.W.keepIn K (.ref f4)=true)
    (a5:PySem.W.nsIn K mainGlobals "counts" = some (some (.ref f5))) (l5:K.lookup f5=some ⟨oc5,od5,.func (PySem.W.fnOf "counts" "counts" (Z4 Zcy) (Zt Zcy) (Ze Zcy) .none kV5 dc5 pm5 an5 cd5 ct5),sl5⟩) (c5:PySem.W.codeIn K cd5 "counts" = true) (k5:PySem.W.keepIn K (.ref f5)=true)
    (a6:PySem.W.nsIn K mainGlobals "last_first" = some (some (.ref f6))) (l6:K.lookup f6=some ⟨oc6,od6,.func (PySem.W.fnOf "last_first" "last_first" (Z4 ZcO) (Zt ZcO) (Ze ZcO) .none kV6 dc6 pm6 an6 cd6 ct6),sl6⟩) (c6:PySem.W.codeIn K cd6 "last_first" = true) (k6:PySem.W.keepIn K (.ref f6)=true)
    (a7:PySem.W.nsIn K mainGlobals "at_most" = some (some (.ref f7))) (l7:K.lookup f7=some ⟨oc7,od7,.func (PySem.W.fnOf "at_most" "at_most" (Z4 Zc9) (Zt Zc9) (Ze Zc9) .none kV7 dc7 pm7 an7 cd7 ct7),sl7⟩) (c7:PySem.W.codeIn K cd7 "at_most" = true) (k7:PySem.W.keepIn K (.ref f7)=true)
    (a8:PySem.W.nsIn K mainGlobals "recent" = some (some (.ref f8))) (l8:K.lookup f8=some ⟨oc8,od8,.func (PySem.W.fnOf "recent" "recent" (Z4 ZcX) (Zt ZcX) (Ze ZcX) .none kV8 dc8 pm8 an8 cd8 ct8),sl8⟩) (c8:PySem.W.codeIn K cd8 "recent" = true) (k8:PySem.W.keepIn K (.ref f8)=true)
    (a9:PySem.W.nsIn K mainGlobals "oftenest" = some (some (.ref f9))) (l9:K.lookup f9=some ⟨oc9,od9,.func (PySem.W.fnOf "oftenest" "oftenest" (Z4 ZcY) (Zt ZcY) (Ze ZcY) .none kV9 dc9 pm9 an9 cd9 ct9),sl9⟩) (c9:PySem.W.codeIn K cd9 "oftenest" = true) (k9:PySem.W.keepIn K (.ref f9)=true)
    (a10:PySem.W.nsIn K mainGlobals "is_under" = some (some (.ref f10))) (l10:K.lookup f10=some ⟨oc10,od10,.func (PySem.W.fnOf "is_under" "is_under" (Z4 ZcT) (Zt ZcT) (Ze ZcT) .none kV10 dc10 pm10 an10 cd10 ct10),sl10⟩) (c10:PySem.W.codeIn K cd10 "is_under" = true) (k10:PySem.W.keepIn K (.ref f10)=true)
    (a11:PySem.W.nsIn K mainGlobals "under" = some (some (.ref f11))) (l11:K.lookup f11=some ⟨oc11,od11,.func (PySem.W.fnOf "under" "under" (Z4 Zcg) (Zt Zcg) (Ze Zcg) .none kV11 dc11 pm11 an11 cd11 ct11),sl11⟩) (c11:PySem.W.codeIn K cd11 "under" = true) (k11:PySem.W.keepIn K (.ref f11)=true)
    (a12:PySem.W.nsIn K mainGlobals "counts" = some (some (.ref f12))) (l12:K.lookup f12=some ⟨oc12,od12,.func (PySem.W.fnOf "counts" "counts" (Z4 Zc2) (Zt Zc2) (Ze Zc2) .none kV12 dc12 pm12 an12 cd12 ct12),sl12⟩) (c12:PySem.W.codeIn K cd12 "counts" = true) (k12:PySem.W.keepIn K (.ref f12)=true)
    (a13:PySem.W.nsIn K mainGlobals "branches" = some (some (.ref f13))) (l13:K.lookup f13=some ⟨oc13,od13,.func (PySem.W.fnOf "branches" "branches" (Z4 Zcd) (Zt Zcd) (Ze Zcd) .none kV13 dc13 pm13 an13 cd13 ct13),sl13⟩) (c13:PySem.W.codeIn K cd13 "branches" = true) (k13:PySem.W.keepIn K (.ref f13)=true)
    (a14:PySem.W.nsIn K mainGlobals "stays" = some (some (.ref f14))) (l14:K.lookup f14=some ⟨oc14,od14,.func (PySem.W.fnOf "stays" "stays" (Z4 ZcA) (Zt ZcA) (Ze ZcA) .none kV14 dc14 pm14 an14 cd14 ct14),sl14⟩) (c14:PySem.W.codeIn K cd14 "stays" = true) (k14:PySem.W.keepIn K (.ref f14)=true)
    (a15:PySem.W.nsIn K mainGlobals "law" = some (some (.ref f15))) (l15:K.lookup f15=some ⟨oc15,od15,.func (PySem.W.fnOf "law" "law" (Z4 Zk) (Zt Zk) (Ze Zk) .none kV15 dc15 pm15 an15 cd15 ct15),sl15⟩) (c15:PySem.W.codeIn K cd15 "law" = true) (k15:PySem.W.keepIn K (.ref f15)=true)
    (z_dict:PySem.W.nsIn K mainGlobals "dict" = some none)    (z_len:PySem.W.nsIn K mainGlobals "len" = some none)    (z_list:PySem.W.nsIn K mainGlobals "list" = some none)    (z_max:PySem.W.nsIn K mainGlobals "max" = some none)    (z_range:PySem.W.nsIn K mainGlobals "range" = some none)    (z_reversed:PySem.W.nsIn K mainGlobals "reversed" = some none)    (z_set:PySem.W.nsIn K mainGlobals "set" = some none)    (z_sorted:PySem.W.nsIn K mainGlobals "sorted" = some none)    (z_sum:PySem.W.nsIn K mainGlobals "sum" = some none)    (z_tuple:PySem.W.nsIn K mainGlobals "tuple" = some none)    (z_zip:PySem.W.nsIn K mainGlobals "zip" = some none)    (ht1:cd9 = .ref tc) (ht2:PySem.W.codeHdIn K tc tT=true)
 :
    ∃fd:P8,(∀(s:P1) (v:P9),BindsTo s fd ⟨[v],[]⟩ [("_law_script",v)])/\∀base:Heap,K.In base->base.Ns mainGlobals mg->base.BuiltinsAt mg tT->FnOk l.prog w K mg base CX0 5 fa fd ["_law_script"] (spB K (fun cv=>cv 90=tT) ZdK):=by
  have e:=hfa.symm.trans (Wc X G a15);cases e;obtain⟨cv,rfl⟩:∃cv:Nat->Addr,cv 90=tT:=⟨fun _=>tT,rfl⟩;have b_dict:=Wp X G z_dict;have b_len:=Wp X G z_len;have b_list:=Wp X G z_list;have b_max:=Wp X G z_max;have b_range:=Wp X G z_range;have b_reversed:=Wp X G z_reversed;have b_set:=Wp X G z_set;have b_sorted:=Wp X G z_sorted;have b_sum:=Wp X G z_sum;have b_tuple:=Wp X G z_tuple;have b_zip:=Wp X G z_zip;have F0:=Zaq (st:=ZcI) l0 c0 k0;have b0:=F0.binds (ps:=["_law_script", "_law_k"]) fun _ _ _ _ _ _=>by refine us2 ?_; intros; rfl
  have m0:=Wc X G a0;have F1:=Zaq (st:=ZcB) l1 c1 k1;have b1:=F1.binds (ps:=["_law_script", "_law_k", "_law_many"]) fun _ _ _ _ _ _=>by refine us3 ?_; intros; rfl
  have m1:=Wc X G a1;have F2:=Zaq (st:=Zce) l2 c2 k2;have b2:=F2.binds (ps:=["_law_script", "_law_at"]) fun _ _ _ _ _ _=>by refine us2 ?_; intros; rfl
  have m2:=Wc X G a2;have F3:=Zaq (st:=ZbD) l3 c3 k3;have b3:=F3.binds (ps:=["_law_script", "_law_at"]) fun _ _ _ _ _ _=>by refine us2 ?_; intros; rfl
  have m3:=Wc X G a3;have F4:=Zaq (st:=ZcJ) l4 c4 k4;have b4:=F4.binds (ps:=["places"]) fun _ _ _ _ _ _=>by refine us1 ?_; intros; rfl
  have m4:=Wc X G a4;have F5:=Zaq (st:=Zcy) l5 c5 k5;have b5:=F5.binds (ps:=["places"]) fun _ _ _ _ _ _=>by refine us1 ?_; intros; rfl
  have m5:=Wc X G a5;have F6:=Zaq (st:=ZcO) l6 c6 k6;have b6:=F6.binds (ps:=["places"]) fun _ _ _ _ _ _=>by refine us1 ?_; intros; rfl
  have m6:=Wc X G a6;have F7:=Zaq (st:=Zc9) l7 c7 k7;have b7:=F7.binds (ps:=["places", "most"]) fun _ _ _ _ _ _=>by refine us2 ?_; intros; rfl
  have m7:=Wc X G a7;have F8:=Zaq (st:=ZcX) l8 c8 k8;have b8:=F8.binds (ps:=["places", "most"]) fun _ _ _ _ _ _=>by refine us2 ?_; intros; rfl
  have m8:=Wc X G a8;have F9:=Zaq (st:=ZcY) l9 c9 k9;have b9:=F9.binds (ps:=["places", "most"]) fun _ _ _ _ _ _=>by refine us2 ?_; intros; rfl
  have m9:=Wc X G a9;have F10:=Zaq (st:=ZcT) l10 c10 k10;have b10:=F10.binds (ps:=["place", "other"]) fun _ _ _ _ _ _=>by refine us2 ?_; intros; rfl
  have m10:=Wc X G a10;have F11:=Zaq (st:=Zcg) l11 c11 k11;have b11:=F11.binds (ps:=["places", "other"]) fun _ _ _ _ _ _=>by refine us2 ?_; intros; rfl
  have m11:=Wc X G a11;have F12:=Zaq (st:=Zc2) l12 c12 k12;have b12:=F12.binds (ps:=["places"]) fun _ _ _ _ _ _=>by refine us1 ?_; intros; rfl
  have m12:=Wc X G a12;have F13:=Zaq (st:=Zcd) l13 c13 k13;have b13:=F13.binds (ps:=["places", "other"]) fun _ _ _ _ _ _=>by refine us2 ?_; intros; rfl
  have m13:=Wc X G a13;have F14:=Zaq (st:=ZcA) l14 c14 k14;have b14:=F14.binds (ps:=["places", "moments", "end"]) fun _ _ _ _ _ _=>by refine us3 ?_; intros; rfl
  have m14:=Wc X G a14;have F15:=Zaq (st:=Zk) l15 c15 k15;have b15:=F15.binds (ps:=["_law_script"]) fun _ _ _ _ _ _=>by refine us1 ?_; intros; rfl
  have m15:=Wc X G a15;refine⟨PySem.W.fnOf "law" "law" (Z4 Zk) (Zt Zk) (Ze Zk) .none kV15 dc15 pm15 an15 cd15 ct15,fun s v => .of_eq rfl,fun base _ _ tba => ?_⟩;have h0:FnAt l.prog w K mg base "_law_cell" 1 Zcx:=ZoX F0 m0 b0 b_len;have h1:FnAt l.prog w K mg base "_law_drawn" 2 Za2:=Zp7 F1 m1 b1    h0;have h2:FnAt l.prog w K mg base "_law_place" 3 Zbk:=ZmD F2 m2 b2 b_range b_tuple   h1;have h3:FnAt l.prog w K mg base "_law_places" 4 Zbt:=ZmV F3 m3 b3 b_range   h1 h2;have h4:FnAt l.prog w K mg base "trail" 1 ZaJ:=Zlb F4 m4 b4;have h5:FnAt l.prog w K mg base "counts" 1 Zao:=Zom F5 m5 b5;have h6:FnAt l.prog w K mg base "last_first" 1 Zbn:=ZoY F6 m6 b6 b_list b_reversed;have h7:FnAt l.prog w K mg base "at_most" 1 ZbL:=Zrs F7 m7 b7 b_max;have h8:FnAt l.prog w K mg base "recent" 2 ZaV:=ZpI F8 m8 b8    h7 h6;have h9:FnAt l.prog w K mg base "oftenest" 2 (Zb4 cv):=ZoC F9 m9 b9 ht1 ht2 tba b_sorted   h7 h5 h6;have h10:FnAt l.prog w K mg base "is_under" 1 ZbC:=Zk3 F10 m10 b10 b_len;have h11:FnAt l.prog w K mg base "under" 2 ZaS:=ZqR F11 m11 b11 b_len   h10;have h12:FnAt l.prog w K mg base "counts" 1 Zcb:=Zln F12 m12 b12;have h13:FnAt l.prog w K mg base "branches" 2 Zch:=Zps F13 m13 b13 b_len b_sorted   h12 h10;have h14:FnAt l.prog w K mg base "stays" 1 ZcH:=ZnE F14 m14 b14 b_list b_zip;exact ZnP (cv:=cv) rfl (Zm8 F15 b_dict b_len b_range b_set b_sorted b_sum   h2 h3 h13 h5 h9 h8 h14 h4 h11)
theorem walk{tT:Addr}{l:PySem.W.OpenLaw}{q:P7}{loose:List Str}{XP:(Str->Option P9)->Heap->Prop}{YP:World->Heap->Prop}{d:DefRec}{K:Params->P5}(hn:l.most=some 63)(hdf:d.params.defaults=[])
  (hY:∀(w:World) (h:Heap),YP w h->(K w.params).In h/\h.get? tT=some (PySem.W.tabObj #[])) (hKT:∀w:World,(∃c,PySem.W.codeHdIn (K w.params) c tT=true)/\PySem.W.noTabs (K w.params)=true)
  (F:∀(w:World) (mg:Str->Option P9) (fa:Addr) (h:Heap),(K w.params).In h->h.Ns mainGlobals mg->mg d.name=some (.ref fa) ->
   ∃fd:P8,(∀(s:P1) (u:P9),BindsTo s fd ⟨[u],[]⟩ [("_law_script",u)])/\∀base:Heap,(K w.params).In base->base.Ns mainGlobals mg->base.BuiltinsAt mg tT->FnOk l.prog w (K w.params) mg base CX0 5 fa fd ["_law_script"] (spB (K w.params) (fun cv=>cv 90=tT) ZdK)) :
  PySem.W.WalkO q loose XP YP l.row.toRowW d [] (fun f vs=>PySem.call f vs) :=
 L2.walk_ofT (n:=63) (k:=5) (x:="_law_script") (CX:=fun _=>CX0) (sp:=fun w=>spB (K w.params) (fun cv=>cv 90=tT) ZdK) hn (by decide) hdf ⟨rfl,by decide,by decide⟩ hY hKT F (fun _ H a ns hl ho hT hS cv hcv=>by subst hcv; exact DL.law_spT (law_true cv) H a ns hl ho hT hS) fun _ _ _ _ _ z=>z
end K61
def PySem.W.Fast.tw9363214764283991203:Nat:=0
def PySem.W.Fast.tw305369951867277898:Nat:=0
def PySem.W.Fast.tw3522181947295117560:Nat:=0
def PySem.W.Fast.tw10258873121960336067:Nat:=0
def PySem.W.Fast.tw10368827614151553891:Nat:=0
def PySem.W.Fast.tw861502493610598483:Nat:=0
def PySem.W.Fast.tw13622603851894308203:Nat:=0
def PySem.W.Fast.tw16899829786455025840:Nat:=0
def PySem.W.Fast.tw7774113678449685934:Nat:=0
def PySem.W.Fast.tw8997383693586321770:Nat:=0
open PySem PySem.W PyProof.Rows
open_top hd for PySem.Challenge.rw_cardplaces_k61_whole_visits
theorem PySem.Challenge.cw_cardplaces_k61_whole_visits_holds : PySem.Challenge.rw_cardplaces_k61_whole_visits.Holds := by
 refine hd ?_
 k_fill
 refine' K61.walk (l:=PySem.Challenge.rw_cardplaces_k61_whole_visits) rfl rfl (fun w h Y=>⟨PySem.W.km_in_of Y,PySem.W.km_tabs_of Y _ (.head _)⟩) ?T ?F
 case F =>
  intro w mg fa h KX G hmg;refine' K61.all_mk KX G hmg ?a0 ?l0 ?c0 ?k0 ?a1 ?l1 ?c1 ?k1 ?a2 ?l2 ?c2 ?k2 ?a3 ?l3 ?c3 ?k3 ?a4 ?l4 ?c4 ?k4 ?a5 ?l5 ?c5 ?k5 ?a6 ?l6 ?c6 ?k6 ?a7 ?l7 ?c7 ?k7 ?a8 ?l8 ?c8 ?k8 ?a9 ?l9 ?c9 ?k9 ?a10 ?l10 ?c10 ?k10 ?a11 ?l11 ?c11 ?k11 ?a12 ?l12 ?c12 ?k12 ?a13 ?l13 ?c13 ?k13 ?a14 ?l14 ?c14 ?k14 ?a15 ?l15 ?c15 ?k15 ?z_dict ?z_len ?z_list ?z_max ?z_range ?z_reversed ?z_set ?z_sorted ?z_sum ?z_tuple ?z_zip ?ht1 ?ht2
  (case a0=>k_is)
  (case l0=>k_is)
  (case c0=>k_is)
  (case k0=>k_is)
  (case a1=>k_is)
  (case l1=>k_is)
  (case c1=>k_is)
  (case k1=>k_is)
  (case a2=>k_is)
  (case l2=>k_is)
  (case c2=>k_is)
  (case k2=>k_is)
  (case a3=>k_is)
  (case l3=>k_is)
  (case c3=>k_is)
  (case k3=>k_is)
  (case a4=>k_is)
  (case l4=>k_is)
  (case c4=>k_is)
  (case k4=>k_is)
  (case a5=>k_is)
  (case l5=>k_is)
  (case c5=>k_is)
  (case k5=>k_is)
  (case a6=>k_is)
  (case l6=>k_is)
  (case c6=>k_is)
  (case k6=>k_is)
  (case a7=>k_is)
  (case l7=>k_is)
  (case c7=>k_is)
  (case k7=>k_is)
  (case a8=>k_is)
  (case l8=>k_is)
  (case c8=>k_is)
  (case k8=>k_is)
  (case a9=>k_is)
  (case l9=>k_is)
  (case c9=>k_is)
  (case k9=>k_is)
  (case a10=>k_is)
  (case l10=>k_is)
  (case c10=>k_is)
  (case k10=>k_is)
  (case a11=>k_is)
  (case l11=>k_is)
  (case c11=>k_is)
  (case k11=>k_is)
  (case a12=>k_is)
  (case l12=>k_is)
  (case c12=>k_is)
  (case k12=>k_is)
  (case a13=>k_is)
  (case l13=>k_is)
  (case c13=>k_is)
  (case k13=>k_is)
  (case a14=>k_is)
  (case l14=>k_is)
  (case c14=>k_is)
  (case k14=>k_is)
  (case a15=>k_is)
  (case l15=>k_is)
  (case c15=>k_is)
  (case k15=>k_is)
  (case z_dict=>k_is)
  (case z_len=>k_is)
  (case z_list=>k_is)
  (case z_max=>k_is)
  (case z_range=>k_is)
  (case z_reversed=>k_is)
  (case z_set=>k_is)
  (case z_sorted=>k_is)
  (case z_sum=>k_is)
  (case z_tuple=>k_is)
  (case z_zip=>k_is)
  (case ht1=>rfl)
  (case ht2=>rfl)
 case T=>exact fun w=>⟨by first | exact⟨57,rfl⟩ | exact⟨56,rfl⟩ | exact⟨59,rfl⟩ | exact⟨60,rfl⟩ | exact⟨62,rfl⟩ | exact⟨55,rfl⟩,rfl⟩
end
