import PyProof.Rows.All
import Wide.All
import OpenK.AllK
import Wide.FinOn
import Lean
import PyProof.EqAt
import PyProof.EqKinds
import PyProof.TupleCall
import PySem.Challenge.RW_netfinder_k44_whole_above_in_any_order
set_option Elab.async false
set_option linter.all false
set_option maxRecDepth 100000
set_option compiler.extract_closed false
set_option bootstrap.genMatcherCode false
noncomputable section
theorem Zz{a b:Prop}(x:a)(y:b):a∧b:=⟨x,y⟩
def Th:=@List.getD_eq_getElem?_getD
def Ti:=@PySem.wpAny_bind
def Tj:=@PySem.Heap.get?_push_of_some
def Tn:=@Nat.le_refl
def To:=@List.getElem?_eq_getElem
def Tp:=@List.mem_append_right
def Tq:=@List.mem_cons_self
def Tr:=@List.size_toArray
def Ts:=@Nat.lt_of_lt_of_le
def Tt:=@List.length_map
def Tu:=@List.mem_cons_of_mem
def Tv:=@PySem.wpAny_pure
def Tw:=@if_pos
def Tx:=@List.mem_append_left
def Tz:=@PySem.Heap.lt_size
def TB:=@Bool.false_ne_true
def TC:=@if_neg
def TF:=@List.mem_cons
def TH:=@List.getElem?_eq_some_iff
def TJ:=@PySem.Heap.get?_push_size
def TK:=@Nat.ne_of_lt
def TL:=@Bool.and_eq_true
def TN:=@List.getElem?_map
def TQ:=@List.length_cons
def TR:=@Nat.not_lt_zero
def TU:=@List.length_range
def TV:=@List.map_map
def TY:=@List.map_cons
def TZ:=@Classical.byContradiction
def T1:=@decide_eq_true_eq
def T2:=@Nat.le_trans
def T3:=@List.mem_append
def T4:=@List.lookup_cons
def T5:=@Int.mul_zero
def T6:=@Option.some.inj
def T7:=@List.nodup_append
def T8:=@List.length_take
def T9:=@Nat.lt_succ_self
def Ua:=@decide_eq_false
def Ub:=@List.map_append
def Uc:=@beq_iff_eq
def Ud:=@decide_eq_false_iff_not
def Ue:=@Int.mul_assoc
def Ug:=@beq_eq_false_iff_ne
def Uh:=@List.all_eq_true
def Ui:=@List.append_nil
def Uj:=@List.length_singleton
def Uk:=@Int.toNat_natCast
def Ul:=@List.mem_singleton
def Um:=@Nat.zero_le
def Uo:=@List.map_congr_left
def Up:=@PySem.PassesOwn.never
def Uq:=@Int.mul_eq_zero
def Ur:=@List.getElem_of_mem
def Us:=@Int.mul_comm
def Ut:=@List.eq_nil_of_length_eq_zero
def Uu:=@PySem.wpAny_callSpecial?_slot
def Uv:=@Bool.eq_iff_iff
def Uw:=@PySem.W.mg_none_of
def Ux:=@decide_eq_true
def Uy:=@List.take_of_length_le
def Uz:=@List.length_drop
def UA:=@List.length_set
def UB:=@List.mem_range
def UC:=@List.length_append
def UD:=@Int.natAbs_natCast
def UE:=@PySem.sizeLine_eq
def UG:=@List.nodup_cons
def UH:=@beq_self_eq_true
def UI:=@List.length_nil
def UJ:=@PySem.wpAny_newObj_type
def UK:=@Int.mul_left_comm
def UL:=@List.mem_of_getElem?
def UM:=@Int.zero_mul
def UN:=@congrArg
def UO:=@List.replicate_succ
def UP:=@Int.neg_mul
def UQ:=@PySem.wpAny_call_entry
def UR:=@PySem.Heap.size_push
def US:=@List.append_assoc
def UT:=@Int.one_mul
def UW:=@Nat.lt_of_le_of_lt
def UX:=@Int.add_zero
def UY:=@Option.map_eq_some_iff
def UZ:=@List.drop_eq_getElem_cons
def U0:=@Nat.lt_irrefl
def U1:=@List.not_mem_nil
def U2:=@PySem.mem_of_lookup
def U3:=@List.mem_map
def U4:=@PySem.AutoSeq1.wpAny_loadPart'
def U5:=@PySem.wpAny_pyIter_tuple
def U6:=@PySem.wpAny_field
def U7:=@List.length_zip
def U8:=@List.getElem?_set_self
def U9:=@Array.length_toList
def Va:=@PySem.wpAny_pyIter_list
def Vb:=@PyProof.Rows.slot_tuple_getitem
def Ve:=@List.flatten_cons
def Vf:=@List.getElem?_append_left
def Vg:=@List.mem_filter
def Vh:=@List.mem_iff_getElem?
def Vi:=@Option.isSome_iff_exists
def Vj:=@List.pairwise_cons
def Vk:=@PySem.wpAny_typeNameOfWhole_keyiter
def Vl:=@Nat.mul_le_mul_right
def Vm:=@Nat.pow_le_pow_right
def Vn:=@Ne.symm
def Vo:=@PySem.F.slot_dict_keyiterator_next
def Vp:=@Bool.and_self
def Vq:=@List.filter_cons_of_pos
def Vr:=@List.filter_cons_of_neg
def Vs:=@List.map_nil
def Vt:=@Int.natAbs_mul
def Vu:=@PyProof.Rows.callWith_type1
def Vv:=@Nat.le_succ
def Vx:=@PyProof.Rows.KeyOrd.kle_refl
def Vy:=@PySem.W.kia_one
def Vz:=@List.nil_append
def VA:=@Int.emod_nonneg
def VB:=@PySem.Heap.get?_update_other
def VC:=@Int.mul_nonpos_of_nonneg_of_nonpos
def VD:=@List.getElem?_append_right
def VE:=@PySem.F.slot_tuple_iterator_next
def VF:=@List.getElem_mem
def VG:=@Bool.false_eq_true
def VH:=@PySem.wpAny_setField_rec
def VI:=@List.set_set
def VJ:=@List.length_filter_le
def VL:=@List.getElem?_zip_eq_some
def VM:=@PySem.wpAny_seqItems
def VN:=@List.take_succ_eq_append_getElem
def VO:=@List.mem_of_mem_take
def VP:=@PySem.wpAny_passesOwn
def VQ:=@List.of_mem_zip
def VR:=@PySem.wpAny_comprehension_free
def VS:=@Nat.lt_succ_of_lt
def VT:=@Nat.le_of_lt
def VU:=@List.all_cons
def VV:=@Option.bind_eq_some_iff
def VX:=@List.zipIdx_cons
def VY:=@List.getElem_map
def VZ:=@List.cons_append
def V0:=@List.nodup_nil
def V1:=@List.find?_cons_of_pos
def V2:=@List.find?_cons_of_neg
def V3:=@List.filter_eq_nil_iff
def V4:=@PySem.wpAny_Call_Name_kw
def V5:=@List.getElem_range
def V6:=@Int.emod_lt_of_pos
def V7:=@List.getElem?_take
def V8:=@List.find?_cons
def V9:=@List.all_map
def Wa:=@Nat.mul_comm
def Wb:=@List.getElem?_eq_none
def Wc:=@Nat.pow_succ
def Wd:=@PySem.wpAny_mono
def We:=@PySem.wpAny_truthy_bool
def Wf:=@PySem.wpAny_holding
def Wg:=@Nat.le_of_succ_le
def Wh:=@Bool.eq_false_iff
def Wi:=@Int.mul_lt_mul_of_pos_left
def Wj:=@List.drop_zero
def Wl:=@PySem.Calls.call_function_entry
def Wm:=@Int.natAbs_neg
def Wn:=@List.drop_length
def Wo:=@List.any_eq_true
def Wq:=@if_true
def Wr:=@PySem.Heap.SameBut.update
def Ws:=@PySem.F.args_tuple_add_2
def Wt:=@PySem.wpAny_typeOf
def Wu:=@Nat.succ_pos
def Wv:=@Nat.lt_succ_iff_lt_or_eq
def Wx:=@PySem.F.entry_tuple_add
def Wy:=@List.foldl_cons
def Wz:=@PySem.Obj.data_mapFields
def WA:=@PySem.tupleKind_room_in1
def WB:=@List.zip_cons_cons
def WC:=@Int.eq_ofNat_of_zero_le
def WD:=@PySem.F.slot_tuple_add
def WE:=@PySem.call_meets
def WG:=@PyProof.Rows.KeyOrd.kle_of_klt
def WH:=@List.ext_getElem?
def WI:=@PySem.wpAny_dictEntries
def WJ:=@List.any_eq_false
def WK:=@Bool.and_false
def WL:=@Nat.mul_le_mul
def WM:=@Nat.ne_of_gt
def WN:=@List.length_replicate
def WO:=@PySem.Heap.get?_update_self
def WQ:=@PySem.F.args_dict_keyiterator_next_1
def WR:=@List.any_map
def WS:=@Int.natAbs_dvd_natAbs
def WT:=@Nat.le_add_right
def WU:=@PyProof.Rows.KeyOrd.kle_trans
def WV:=@PySem.F.entry_dict_keyiterator_next
def WW:=@List.getElem_zip
def WX:=@Int.mul_le_mul_of_nonneg_left
def WY:=@List.getElem?_set_ne
def WZ:=@PySem.wpAny_updateSeq_pair
def W2:=@Int.mul_fdiv_cancel'
def W3:=@PySem.Paired.length
def W4:=@PySem.F.args_tuple_iterator_next_1
def W5:=@List.cons.inj
def W6:=@Bool.and_true
def W7:=@Bool.not_true
def W8:=@PySem.typeIs_int
def W9:=@List.filterMap_cons
def Xa:=@PySem.wpAny_execs_nil
def Xb:=@List.range_succ
def Xc:=@List.toList_toArray
def Xd:=@Bool.or_eq_true
def Xe:=@PySem.F.entry_tuple_iterator_next
def Xf:=@PySem.F.slot_zip_next
def Xg:=@Array.getD_eq_getD_getElem?
def Xh:=@PySem.F.slot_int_rmul
def Xi:=@Nat.two_pow_pos
def Xj:=@PySem.Calls.Name_function_global
def Xk:=@if_false
def Xl:=@or_false
def Xm:=@Int.natAbs_eq_zero
def Xn:=@PySem.F.args_tuple_mul_2
def Xo:=@Int.gcd_zero_right
def Xp:=@decide_eq_true_iff
def Xq:=@List.getElem?_eq_none_iff
def Xr:=@PySem.wpAny_setField
def Xs:=@List.pairwise_iff_getElem
def Xt:=@Array.getElem?_eq_getElem
def Xu:=@List.take_zero
def Xv:=@PySem.wpAny_binaryOp_repeat_ref
def Xw:=@List.mem_or_eq_of_mem_set
def Xx:=@PySem.wpAny_assign_Name
def Xy:=@bne_self_eq_false
def Xz:=@Option.isSome_map
def XA:=@of_decide_eq_true
def XB:=@PySem.F.entry_tuple_mul
def XC:=@List.filterMap_cons_none
def XD:=@List.filterMap_cons_some
def XE:=@Bool.not_eq_true'
def XF:=@PySem.wpAny_onRaise
def XG:=@PySem.wpAny_attempt
def XH:=@List.not_lt
def XI:=@List.any_cons
def XJ:=@PySem.F.plainAttrs_list
def XM:=@Int.mul_add
def XN:=@List.pairwise_singleton
def XO:=@PySem.noFill_tuple_add
def XQ:=@Option.getD_none
def XR:=@PySem.F.slot_tuple_mul
def XS:=@Int.neg_fmod_neg
def XT:=@PySem.W.cellsFrom_some
def XY:=@List.Perm.append_right
def X0:=@List.drop_eq_nil_of_le
def X1:=@Nat.div_div_eq_div_mul
def X2:=@Nat.le_mul_of_pos_left
def X4:=@PySem.concat_meets
def X5:=@Nat.succ_mul
def X6:=@Nat.le_of_eq
def X7:=@List.forIn_cons
def Ya:=@PySem.wpAny_dictEpoch
def Yc:=@Array.getElem?_toList
def Yd:=@PySem.pushCells_keeps
def Ye:=@List.Perm.append_left
def Yf:=@List.perm_append_comm
def Yg:=@Classical.choose_spec
def Yh:=@List.all_nil
def Yi:=@Nat.min_eq_left
def Yj:=@Nat.zero_add
def Yk:=@Int.zero_add
def Yl:=@Int.le_of_lt
def Ym:=@PySem.typeIs_str
def Yo:=@List.replicate_succ'
def Yp:=@Nat.div_lt_of_lt_mul
def Yq:=@List.mem_of_mem_drop
def Yr:=@Bool.false_and
def Ys:=@List.forIn_nil
def Yt:=@Int.natAbs_pos
def Yw:=@PySem.wpAny_letGo
def Yx:=@Nat.add_left_cancel
def Yz:=@List.take_succ_cons
def YA:=@List.drop_succ_cons
def YB:=@List.sum_append_int
def YC:=@List.flatten_append
def YD:=@Nat.pow_le_pow_left
def YE:=@Int.le_refl
def YI:=@List.mem_filterMap
def YJ:=@PySem.seq_tuple_add
def YL:=@List.getElem?_drop
def YM:=@PySem.wpAny_standAt
def YN:=@Bool.false_or
def YQ:=@PySem.wpAny_newList
def YR:=@of_decide_eq_false
def YS:=@Option.isSome_some
def YT:=@List.take_nil
def YU:=@List.length_zipIdx
def YV:=@Nat.eq_zero_or_pos
def YW:=@Nat.dvd_trans
def YX:=@Int.lt_or_gt_of_ne
def Y1:=@PySem.wpAny_rule
def Zd:=@Nat.sub_zero
def Ze:=@List.sum_nil
def Zf:=@List.zip_map
def Zg:=@Nat.sub_self
def Zx:=@Eq.trans
def ZG:=@Nat.log2_lt
def ZK:=@Nat.mul_one
def ZL:=@Int.add_mul
def ZM:=@Int.neg_neg
namespace L2
open PySem PySem.Spec PyProof.Rows
def IsTupN(h:Heap)(a:Addr)(items:Array Value):Prop:=∃o,h.get? a=some o/\o.cls=.type "tuple"/\(∃n,o.data=.seq items n)/\o.dict=none
theorem IsTupN.tup{h:Heap}{a:Addr}{items:Array Value}(p:IsTupN h a items):IsTup h a items:=by
 obtain⟨o,e,c,n,_⟩:=p;exact⟨o,e,c,n⟩
theorem IsTupN.new(h:Heap)(items:Array Value):IsTupN (h.push {cls:=.type "tuple",data:=.seq items}) h.objs.size items:=⟨_,TJ _ rfl,rfl,⟨_,rfl⟩,rfl⟩
abbrev Key:=Sum Int Str
def oG:Key->Value->Bool
 | .inl k,v=>Value.isInt k v
 | .inr x,v=>Value.isStrOf x v
def FJ(w:World):Key->Int
 | .inl k=>hashInt k
 | .inr x=>hashStr w x
theorem bQ:∀{k:Key}{v:Value},oG k v=true->(∃i t,k=Sum.inl i/\v=Value.int i t)\/(∃x t,k=Sum.inr x/\v=Value.str x t)
 | .inl i,v,h=>by
  obtain⟨t,e⟩:=Value.isInt_shape (k:=i) (v:=v) h;exact .inl ⟨i,t,rfl,e⟩
 | .inr x,v,h=>by
  obtain⟨t,e⟩:=Value.isStrOf_shape (x:=x) (v:=v) h;exact .inr ⟨x,t,rfl,e⟩
theorem so(i:Int)(t:Tok):oG (.inl i) (.int i t)=true:=by simp[oG,Value.isInt]
theorem sr(x:Str)(t:Tok):oG (.inr x) (.str x t)=true:=by simp[oG,Value.isStrOf]
theorem AW(a b:Int):decide ((Sum.inl a:Key)=Sum.inl b)=(a==b):=by
 by_cases e:a=b
 ·subst e;simp
 ·have h:¬ (Sum.inl a:Key)=Sum.inl b:=fun q=>e (Sum.inl.inj q)
  rw[Ua h];exact(Ug.mpr e).symm
theorem AX(a b:Str):decide ((Sum.inr a:Key)=Sum.inr b)=decide (a=b):=by
 by_cases e:a=b
 ·subst e;simp
 ·have h:¬ (Sum.inr a:Key)=Sum.inr b:=fun q=>e (Sum.inr.inj q)
  rw[Ua h,Ua e]
theorem AY(a:Int)(b:Str):decide ((Sum.inl a:Key)=Sum.inr b)=false:=Ua (fun q=>nomatch q)
theorem AZ(a:Str)(b:Int):decide ((Sum.inr a:Key)=Sum.inl b)=false:=Ua (fun q=>nomatch q)
noncomputable def mixKind(prog:Program)(w:World):PySem.KeyKind prog w Key where
 is:=oG
 hash:=FJ w
 inj:=fun v a b ha hb=>by
  rcases bQ ha with⟨i,t,rfl,rfl⟩|⟨x,t,rfl,rfl⟩
  ·rcases bQ hb with⟨j,u,rfl,e⟩|⟨y,u,rfl,e⟩
   ·injection e with e1 _;rw[e1]
   ·exact nomatch e
  ·rcases bQ hb with⟨j,u,rfl,e⟩|⟨y,u,rfl,e⟩
   ·exact nomatch e
   ·injection e with e1 _;rw[e1]
 byValue:=fun k v h=>by
  rcases bQ h with⟨i,t,rfl,rfl⟩|⟨x,t,rfl,rfl⟩ <;> rfl
 pyHash:=fun hv h=>by
  rcases bQ hv with⟨i,t,rfl,rfl⟩|⟨x,t,rfl,rfl⟩
  ·exact wpAny_pyHash_int h
  ·exact wpAny_pyHash_str h
 eqBool:=fun hu hv h=>by
  rcases bQ hu with⟨i,t,rfl,rfl⟩|⟨x,t,rfl,rfl⟩
  ·rcases bQ hv with⟨j,u,rfl,rfl⟩|⟨y,u,rfl,rfl⟩
   ·rw[AW]at h;exact wpAny_eqBool_int h
   ·rw[AY]at h;exact SeqAt.EqAt.int_str i t y u _ _ _ _ h
  ·rcases bQ hv with⟨j,u,rfl,rfl⟩|⟨y,u,rfl,rfl⟩
   ·rw[AZ]at h;exact SeqAt.EqAt.str_int x t j u _ _ _ _ h
   ·rw[AX]at h;exact wpAny_eqBool_str h
 «strs»:=fun k x t v h=>by
  rcases bQ h with⟨i,u,rfl,e⟩|⟨y,u,rfl,e⟩
  ·exact nomatch e
  ·injection e with e1 _;subst e1;cases v <;> rfl
theorem qW(prog:Program)(w:World)(k:Key)(v:Value):(mixKind prog w).is k v=oG k v:=rfl
theorem oH(prog:Program)(w:World)(i:Int)(t:Tok):(mixKind prog w).is (.inl i) (.int i t)=true:=so i t
theorem oI(prog:Program)(w:World)(x:Str)(t:Tok):(mixKind prog w).is (.inr x) (.str x t)=true:=sr x t
inductive V where
 |non|bl (b:Bool)|int (i:Int)|str (x:Str)|byt (b:Array UInt8)|flt (b:UInt64)|ref (a:Addr)|ty (n:String)
 deriving DecidableEq
noncomputable def RelV:V->Value->Prop
 | .non,u=>u=Value.none
 | .bl b,u=>u=Value.bool b
 | .int i,u=>∃t,u=Value.int i t
 | .str x,u=>∃t,u=Value.str x t
 | .byt b,u=>∃t,u=Value.bytes b t
 | .flt b,u=>∃t,u=Value.float b t
 | .ref a,u=>u=Value.ref a
 | .ty n,u=>u=Value.type n
abbrev Vals:List V->List Value->Prop:=Paired RelV
theorem Vals.length{xs:List V}{us:List Value}(r:Vals xs us):xs.length=us.length:=W3 r
theorem Vals.get:∀{xs:List V}{us:List Value}{i:Nat}{x:V},Vals xs us->xs[i]?=some x->∃u,us[i]?=some u/\RelV x u
 |_,_,_,_,.nil,e=>by simp at e
 |_,_,0,_,.cons r _,e=>by simp at e;subst e;exact⟨_,rfl,r⟩
 |_,_,i+1,x,.cons _ t,e=>by
  obtain⟨u,h1,h2⟩:=Vals.get (i:=i) (x:=x) t (by simpa using e);exact⟨u,by simpa using h1,h2⟩
theorem Vals.set{x:V}{u:Value}(r:RelV x u):∀{xs:List V}{us:List Value}(i:Nat),Vals xs us->Vals (xs.set i x) (us.set i u)
 |_,_,_,.nil=>.nil
 |_,_,0,.cons _ t=>.cons r t
 |_,_,i+1,.cons q t=>.cons q (Vals.set r i t)
theorem Vals.append:∀{xs ys:List V}{us ws:List Value},Vals xs us->Vals ys ws->Vals (xs++ys) (us++ws)
 |_,_,_,_,.nil,s=>s
 |_,_,_,_,.cons r t,s=>.cons r (Vals.append t s)
theorem Vals.take:∀{xs:List V}{us:List Value}(n:Nat),Vals xs us->Vals (xs.take n) (us.take n)
 |_,_,0,_=>.nil
 |_,_,_+1,.nil=>.nil
 |_,_,n+1,.cons r t=>.cons r (Vals.take n t)
theorem Vals.drop:∀{xs:List V}{us:List Value}(n:Nat),Vals xs us->Vals (xs.drop n) (us.drop n)
 |_,_,0,r=>r
 |_,_,_+1,.nil=>.nil
 |_,_,n+1,.cons _ t=>Vals.drop n t
theorem Vals.none_of:∀{xs:List V}{us:List Value}{i:Nat},Vals xs us->xs[i]?=none->us[i]?=none:=fun{xs us i} r e=>by
 have h1:=r.length;have h2:xs.length<=i:=Xq.mp e;exact Xq.mpr (by lia)
def RelO:Option V->Option Value->Prop
 |some v,some u=>RelV v u
 |none,none=>True
 |_,_=>False
def KV{κ:Type}:List (κ×V)->List (κ×Value)->Prop:=Paired fun(p:κ×V) (q:κ×Value)=>p.1=q.1/\RelV p.2 q.2
def kV:Key->V
 | .inl i=>.int i
 | .inr x=>.str x
inductive HO where
 |lst (xs:List V)
 |tup (xs:List V)
 |dK (GU:List (Key×V))|dT (GU:List (List Key×V))
 |set (S:Int->Bool) (n:Nat)
 |ins (C dx:Addr) (fs:List (Str×V))
 |own (x:Addr)
 |xd (fs:List (Str×V))
 |met (f x:Addr)
 |rng (lo hi:Int)
 |frz (o:Obj) (u:HO)
 |tbl (ps:Array Value)
 |ext (φ:Heap->Prop)
abbrev Hp:=Addr->Option HO
def upd(H:Hp)(a:Addr)(o:HO):Hp:=fun b=>if b=a then some o else H b
theorem aD{H:Hp}{a:Addr}{o:HO}:upd H a o a=some o:=by unfold upd;rw[Tw rfl]
theorem ak{H:Hp}{a b:Addr}{o:HO}(h:b≠a):upd H a o b=H b:=by unfold upd;rw[TC h]
theorem DN{H:Hp}{a b:Addr}{o u:HO}(h:H a=some o)(h':H b=some u)(d:o≠u):a≠b:=by
 intro e;subst e;rw[h]at h';exact d (T6 h')
theorem aG{H:Hp}{a b:Addr}{o:HO}(h:H a=some o)(h':H b=none):a≠b:=by
 intro e;subst e;rw[h]at h';cases h'
section
variable(P:Program)(w:World)
noncomputable def ObjOk(H:Hp)(h:Heap)(a:Addr):HO->Prop
 | .lst xs=>xs.length<=sizeLine/\∃(GX:List Value) (n:Nat),Vals xs GX/\h.get? a=some {cls:=.type "list",data:=.seq GX.toArray n}
 | .tup xs=>xs.length<=sizeLine/\∃GX:List Value,Vals xs GX/\IsTupN h a GX.toArray
 | .dK GU=>GU.length<=sizeLine/\(a==sysModules)=false/\∃vs,KV GU vs/\h.DictOf (mixKind P w) a vs
 | .dT GU=>GU.length<=sizeLine/\(a==sysModules)=false/\∃xs:List (List Key×Addr×Value),
   Paired (fun(p:List Key×V) (q:List Key×Addr×Value)=>p.1=q.1/\H q.2.1=some (.tup (p.1.map kV))/\RelV p.2 q.2.2) GU xs/\
   ∃o es ep,h.get? a=some o/\o.ExactDict/\o.data=.dict es ep/\es.toList=xs.map (entryOfKey (tupleKind (mixKind P w)))/\(xs.map (·.1)).Nodup
 | .set S n=>h.SetOf (intKind P w) a S n
 | .ins C dx fs=>H dx=some (.own a)/\fs.length<=1000/\dx≠a/\h.get? a=some (PySem.W.instObj C dx)/\
   ∃mA,h.Ns1 dx mA/\(∀f,RelO (fs.lookup f) (mA f))/\PySem.Within mA (fs.map (·.1))
 | .own _=>∃o,h.get? a=some o
 | .xd fs=>∃mA,h.Ns1 a mA/\∀f,RelO (fs.lookup f) (mA f)
 | .rng lo hi=>∃t u v,h.get? a=some {cls:=.type "range",data:=.fields #[.int lo t,.int hi u,.int 1 v]}
 | .frz o u=>h.get? a=some o/\ObjOk H h a u
 | .tbl ps=>h.get? a=some {cls:=.none,data:=.fields ps}
 | .met f x=>h.get? a=some (PySem.W.methodObj (.ref f) (.ref x))
 | .ext φ=>φ h/\(∃o,h.get? a=some o)/\∀h1 h2:Heap,φ h1->(∀o,h1.get? a=some o->h2.get? a=some o)->φ h2
def HOk(H:Hp)(h:Heap):Prop:=∀a o,H a=some o->ObjOk P w H h a o
end
section
variable{P:Program}{w:World}{H H':Hp}{h h':Heap}{a:Addr}{o:HO}
theorem ObjOk.lt(x:ObjOk P w H h a o):a<h.objs.size:=by
 cases o with
 |lst xs=>obtain⟨_,_,_,_,e⟩:=x;exact Tz e
 |tup xs=>obtain⟨_,_,_,p⟩:=x;exact p.tup.lt
 |dK GU=>obtain⟨_,_,_,_,o,_,_,e,_⟩:=x;exact Tz e
 |dT GU=>obtain⟨_,_,_,_,o,_,_,e,_⟩:=x;exact Tz e
 |set S n=>obtain⟨o,_,_,_,e,_⟩:=x;exact Tz e
 |ins C dx fs=>obtain⟨_,_,_,e,_⟩:=x;exact Tz e
 |own y=>obtain⟨_,e⟩:=x;exact Tz e
 |xd fs=>obtain⟨_,⟨_,_,_,e,_⟩,_⟩:=x;exact Tz e
 |rng lo hi=>obtain⟨_,_,_,e⟩:=x;exact Tz e
 |frz ob u=>obtain⟨e,_⟩:=x;exact Tz e
 |tbl ps=>exact Tz (show h.get? a=some _ from x)
 |met f y=>exact Tz (show h.get? a=some _ from x)
 |ext φ=>obtain⟨_,⟨_,e⟩,_⟩:=x;exact Tz e
theorem Paired.mapP{α β:Type}{F G:α->β->Prop}:∀{l₁:List α}{l₂:List β},Paired F l₁ l₂->(∀a b,F a b->G a b)->Paired G l₁ l₂
 |_,_,.nil,_=>.nil
 |_,_,.cons r t,f=>.cons (f _ _ r) (Paired.mapP t f)
theorem ObjOk.stay(x:ObjOk P w H h a o)(k:∀b u,(b=a\/H b=some (.own a))->h.get? b=some u->h'.get? b=some u)
  (ho:∀b,H b=some (.own a)->H' b=some (.own a)) (ht:∀b xs,H b=some (.tup xs)->H' b=some (.tup xs)):ObjOk P w H' h' a o:=by
 induction o with
 |lst xs=>obtain⟨z,GX,n,r,e⟩:=x;exact⟨z,GX,n,r,k _ _ (.inl rfl) e⟩
 |tup xs=>obtain⟨z,GX,r,ob,e,c⟩:=x;exact⟨z,GX,r,ob,k _ _ (.inl rfl) e,c⟩
 |dK GU=>obtain⟨z,y,vs,r,ob,es,ep,e,c⟩:=x;exact⟨z,y,vs,r,ob,es,ep,k _ _ (.inl rfl) e,c⟩
 |dT GU=>
  obtain⟨z,y,xs,r,ob,es,ep,e,c⟩:=x;exact⟨z,y,xs,Paired.mapP r fun p q z=>⟨z.1,ht _ _ z.2.1,z.2.2⟩,ob,es,ep,k _ _ (.inl rfl) e,c⟩
 |set S n=>obtain⟨ob,es,ep,t,e,c⟩:=x;exact⟨ob,es,ep,t,k _ _ (.inl rfl) e,c⟩
 |ins C dx fs=>
  obtain⟨d,z,ne,e,mA,⟨od,es,ep,e2,c⟩,r⟩:=x;exact⟨ho _ d,z,ne,k _ _ (.inl rfl) e,mA,⟨od,es,ep,k _ _ (.inr d) e2,c⟩,r⟩
 |own y=>obtain⟨ob,e⟩:=x;exact⟨ob,k _ _ (.inl rfl) e⟩
 |xd fs=>obtain⟨mA,⟨od,es,ep,e,c⟩,r⟩:=x;exact⟨mA,⟨od,es,ep,k _ _ (.inl rfl) e,c⟩,r⟩
 |rng lo hi=>obtain⟨t,u,v,e⟩:=x;exact⟨t,u,v,k _ _ (.inl rfl) e⟩
 |frz ob u ih=>obtain⟨e,q⟩:=x;exact⟨k _ _ (.inl rfl) e,ih q⟩
 |tbl ps=>
  have e:h.get? a=some {cls:=.none,data:=.fields ps}:=x;show h'.get? a=some {cls:=.none,data:=.fields ps};exact k a _ (.inl rfl) e
 |met f y=>
  have e:h.get? a=some (PySem.W.methodObj (.ref f) (.ref y)):=x;show h'.get? a=some (PySem.W.methodObj (.ref f) (.ref y));exact k a _ (.inl rfl) e
 |ext φ=>obtain⟨p,⟨o,e⟩,st⟩:=x;exact⟨st _ _ p fun o q=>k _ _ (.inl rfl) q,⟨o,k _ _ (.inl rfl) e⟩,st⟩
theorem HOk.lt(x:HOk P w H h)(e:H a=some o):a<h.objs.size:=(x a o e).lt
theorem HOk.fresh(x:HOk P w H h)(e:h.objs.size<=a):H a=none:=by
 cases q:H a with
 |none=>rfl
 |some u=>exact absurd (Ts (x.lt q) e) (U0 _)
theorem HOk.kept(x:HOk P w H h)(k:∀b u,h.get? b=some u->h'.get? b=some u):HOk P w H h':=fun a o e=>
 (x a o e).stay (fun b u _ q=>k b u q) (fun _ q=>q) fun _ _ q=>q
theorem HOk.laid(x:HOk P w H h)(k:∀b u,h.get? b=some u->h'.get? b=some u)(hp:h.objs.size<=a)(new:ObjOk P w (upd H a o) h' a o):HOk P w (upd H a o) h':=fun b u e=>by
 have hn:=x.fresh hp;by_cases hb:b=a
 ·subst hb;rw[aD]at e;cases e;exact new
 ·rw[ak hb]at e;exact(x b u e).stay (fun c v _ q=>k c v q) (fun c q=>by rw[ak (aG q hn)];exact q) fun c xs q=>by rw[ak (aG q hn)];exact q
end
def Rd(H:Hp)(a:Addr)(u:HO):Prop:=H a=some u\/∃o,H a=some (.frz o u)
theorem Rd.ok{P:Program}{w:World}{H:Hp}{h:Heap}{a:Addr}{u:HO}(r:Rd H a u)(x:HOk P w H h):ObjOk P w H h a u:=by
 rcases r with r|⟨o,r⟩
 ·exact x a u r
 ·obtain⟨_,q⟩:=x a _ r;exact q
def Pz:Option HO->Prop
 |some (.lst _)=>True
 |some (.dK _)=>True
 |some (.dT _)=>True
 |some (.set _ _)=>True
 |some (.ins _ _ _)=>True
 |some (.ext _)=>True
 |_=>False
section
variable{P:Program}{w:World}{H:Hp}{h h':Heap}{x e:Addr}{o':HO}
theorem HOk.write(ok:HOk P w H h)(mu:Pz (H x))(he:e=x\/H e=some (.own x))(k:∀b u,b≠e->h.get? b=some u->h'.get? b=some u)(Pa:∃u,h'.get? e=some u)
  (new:ObjOk P w (upd H x o') h' x o'):HOk P w (upd H x o') h':=fun b u q=>by
 have Lv:∀c y,H c=some (.own y)->c≠x:=fun c y r z=>by subst z;rw[r]at mu;exact mu
 have ntup:∀c xs,H c=some (.tup xs)->c≠x:=fun c xs r z=>by subst z;rw[r]at mu;exact mu
 by_cases hb:b=x
 ·subst hb;rw[aD]at q;cases q;exact new
 ·rw[ak hb]at q;by_cases hbe:b=e
  ·have q':H b=some (.own x):=by
    rcases he with z|z
    ·exact absurd (hbe.trans z) hb
    ·rw[hbe];exact z
   rw[q]at q';cases q';obtain⟨v,hv⟩:=Pa;exact⟨v,by rw[hbe];exact hv⟩
  ·refine(ok b u q).stay (fun c v hc r=>k c v ?_ r) (fun c r=>by rw[ak (Lv c b r)];exact r) fun c xs r=>by rw[ak (ntup c xs r)];exact r
   rcases hc with rfl|hc
   ·exact hbe
   ·rintro rfl;rcases he with z|z
    ·exact Lv c b hc z
    ·rw[hc]at z;cases z;exact hb rfl
end
structure Un(fs ex:List Addr)(H H':Hp)(h h':Heap):Prop where
 keep:∀b o,h.get? b=some o->H b=none->b∉fs->b∉ex->h'.get? b=some o
 slot:∀b o,h.get? b=some o->H b=none->b∈fs->b∉ex->∃sl,h'.get? b=some {o with slots:=sl}
 free:∀b o,h.get? b=some o->H b=none->b∉ex->H' b=none
 there:∀b o,h.get? b=some o->b∉ex->∃o',h'.get? b=some o'
 tups:∀b xs,H b=some (.tup xs)->H' b=some (.tup xs)
 frzs:∀b o u,H b=some (.frz o u)->H' b=some (.frz o u)
 tbls:∀b ps,H b=some (.tbl ps)->∃more,H' b=some (.tbl (ps++more))
section
variable{fs fs' ex ex':List Addr}{H H1 H2:Hp}{h h1 h2 h':Heap}{a x e:Addr}{o:HO}
theorem Un.any(u:Un fs ex H H1 h h1){b:Addr}{ob:Obj}(q:h.get? b=some ob)(n:H b=none)(hx:b∉ex):∃sl,h1.get? b=some {ob with slots:=sl}:=by
 by_cases hb:b∈fs
 ·exact u.slot b ob q n hb hx
 ·exact⟨ob.slots,u.keep b ob q n hb hx⟩
theorem Un.kept(k:∀b u,h.get? b=some u->h'.get? b=some u):Un fs ex H H h h':=
 ⟨fun b ob q _ _ _=>k b ob q,fun b ob q _ _ _=>⟨ob.slots,k b ob q⟩,fun _ _ _ n _=>n,fun b ob q _=>⟨ob,k b ob q⟩,fun _ _ q=>q,fun _ _ _ q=>q,fun _ ps q=>⟨#[],by rw[q];simp⟩⟩
theorem Un.refl:Un fs ex H H h h:=Un.kept fun _ _ q=>q
theorem Un.laid(k:∀b u,h.get? b=some u->h'.get? b=some u)(hp:h.objs.size<=a)(hn:H a=none):Un fs ex H (upd H a o) h h' where
 keep:=fun b u q _ _ _=>k b u q
 slot:=fun b u q _ _ _=>⟨u.slots,k b u q⟩
 free:=fun b u q n _=>by rw[ak (TK (Ts (Tz q) hp))];exact n
 there:=fun b u q _=>⟨u,k b u q⟩
 tups:=fun b xs q=>by rw[ak (aG q hn)];exact q
 frzs:=fun b u xs q=>by rw[ak (aG q hn)];exact q
 tbls:=fun b ps q=>⟨#[],by rw[ak (aG q hn),q];simp⟩
theorem Un.write(mu:Pz (H x))(he:e=x\/H e=some (.own x))(k:∀b u,b≠e->h.get? b=some u->h'.get? b=some u)(Pa:∃u,h'.get? e=some u):Un fs ex H (upd H x o) h h':=by
 have hx:∀b,H b=none->b≠x:=fun b n z=>by subst z;rw[n]at mu;exact mu
 have hb:∀b,H b=none->b≠e:=fun b n z=>by
  subst z;rcases he with r|r
  ·exact hx b n r
  ·rw[n]at r;cases r
 have hm:∀b u,H b=some u->¬ Pz (some u)->b≠x:=fun b u q nm z=>by subst z;rw[q]at mu;exact nm mu
 refine⟨fun b u q n _ _=>k b u (hb b n) q,fun b u q n _ _=>⟨u.slots,k b u (hb b n) q⟩,fun b u q n _=>by rw[ak (hx b n)];exact n,fun b u q _=>?_,
  fun b xs q=>by rw[ak (hm b _ q fun z=>z)];exact q,fun b u xs q=>by rw[ak (hm b _ q fun z=>z)];exact q,fun b ps q=>⟨#[],by rw[ak (hm b _ q fun z=>z),q];simp⟩⟩
 by_cases hbe:b=e
 ·subst hbe;exact Pa
 ·exact⟨u,k b u hbe q⟩
end
def trk(h:Heap)(H:Hp):List Addr:=(List.range h.objs.size).filter fun a=>(H a).isSome
def we(h:Heap)(H:Hp):Heap:=PySem.W.hideAll h (trk h H)
theorem su(h:Heap)(H:Hp):(we h H).objs.size=h.objs.size:=PySem.W.hideAll_size _ _
theorem wg{h:Heap}{H:Hp}{b:Addr}{o:Obj}(e:h.get? b=some o)(n:H b=none):(we h H).get? b=some o:=
 PySem.W.hideAll_get _ e fun hm=>by
  have q:(H b).isSome=true:=(Vg.mp hm).2;rw[n]at q;simp at q
theorem yE{h:Heap}{H:Hp}{b:Addr}{o:Obj}(e:(we h H).get? b=some o):h.get? b=some o/\H b=none:=by
 have e':h.get? b=some o:=PySem.W.of_hideAll (trk h H) e;refine⟨e',?_⟩;cases q:H b with
 |none=>rfl
 |some x=>
  have hm:b∈trk h H:=Vg.mpr ⟨UB.mpr (Tz e'),by simp[q]⟩;have z:(we h H).get? b=none:=PySem.W.hideAll_none (trk h H) hm;rw[z]at e;cases e
def yF(g h:Heap)(L:Addr):List (Addr×Obj):=(List.range h.objs.size).filterMap fun a=>if a=L\/(g.get? a).isSome=true then none else(h.get? a).map fun o=>(a,o)
def bG(g h:Heap)(L d:Addr):List (Addr×Obj):=(yF g h L).filter fun p=>decide (p.1≠d)
structure Mod(K:W.Frag)(mg:Str->Option Value)(base:Heap):Prop where
 kin:K.In base
 glob:base.Ns mainGlobals mg
 blt:∃mb,base.Ns builtinsNs mb/\∀x:Str,x≠"__name__"->mb x=bootBuiltins x
 nolimit:base.NoLimit
structure Cx where
 prog:Program
 w:World
 K:W.Frag
 mg:Str->Option Value
 base:Heap
 A:Around
 N:List Str
 s₀:Shared
 H₀:Hp
 env:Env
 outer:List Env
 stack:List Env
 ex:List Addr
 fn:Str->Bool
 calm:Bool
 pn:List (Addr×Obj)
 xe:Value->Shared->Prop
def K0(l:List Env):List Addr:=l.filterMap (·.frame)
abbrev Cx.fs(X:Cx):List Addr:=K0 X.outer
def Rf(sc:Scope)(x:Str):Prop:=sc.names.lookup x=some .local\/sc.names.lookup x=some .cell\/sc.names.lookup x=some .free
def Loc(sc:Scope)(x:Str):Prop:=sc.names.lookup x=some .local\/sc.names.lookup x=some .cell
def Fn(sc:Scope)(x:Str):Bool:=match sc.names.lookup x with
 |some .local=>true
 |some .cell=>true
 |_=>false
theorem lo{sc:Scope}{x:Str}(h:Fn sc x=true):Loc sc x:=by
 unfold Fn at h;split at h
 ·exact .inl (by assumption)
 ·exact .inr (by assumption)
 ·cases h

def FK(env:Env)(h:Heap)(m:Str->Option Value)(x:Str)(u:Value):Prop:=
 (env.kindOf x=some .local/\m x=some u)\/((env.kindOf x=some .cell\/env.kindOf x=some .free)/\∃c,env.cells.lookup x=some c/\h.IsCell c (some u))
structure Cx.Ok(X:Cx):Prop where
 mod:Mod X.K X.mg X.base
 kind:X.env.scope.kind=.function
 glob:X.env.globals=mainGlobals
 blt:X.env.builtins=builtinsNs
 above:X.s₀.heap.objs.size<=X.env.locals
 inj:∀x y c,X.env.cells.lookup x=some c->X.env.cells.lookup y=some c->x=y
 has:∀x,(X.env.kindOf x=some .cell\/X.env.kindOf x=some .free)->∃c,X.env.cells.lookup x=some c
 cab:∀x c,X.fn x=true->X.env.cells.lookup x=some c->X.s₀.heap.objs.size<=c
 hd:X.calm=true->X.A.handled=none
 frames:X.A.frames=some X.stack
 stk:X.stack=X.outer\/(X.stack=X.env::X.outer/\X.env.frame=some X.env.locals)
 exf:∀b∈X.ex,b≠X.env.locals/\∀x c,X.env.cells.lookup x=some c->c≠b
 bs:∀b o,X.base.get? b=some o->X.s₀.heap.get? b=some o/\X.H₀ b=none
 bsz:X.base.objs.size<=X.s₀.heap.objs.size
 noex:∀b o,X.base.get? b=some o->b∉X.ex
 exfs:∀b∈X.ex,b∉X.fs
 funs:X.s₀.heap.FunFrames X.base X.outer
 frf:∀b∈X.fs,X.H₀ b=none
structure Inv(X:Cx)(pr:List (Addr×Obj))(σ:List (Option V))(H:Hp)(s:Shared):Prop where
 ok:X.Ok
 os:s.os=X.s₀.os
 bare:AllBare s.gens
 base:Un X.fs X.ex X.H₀ H X.s₀.heap s.heap
 loc:∃m,s.heap.Ns X.env.locals m/\∀(i:Nat) (x:Str) (v:V),X.N[i]?=some x->σ[i]?=some (some v)->Rf X.env.scope x->∃u,RelV v u/\FK X.env s.heap m x u
 cell:∀x c,X.env.cells.lookup x=some c->∃v,s.heap.IsCell c v
 free:H X.env.locals=none
 freeC:∀x c,X.env.cells.lookup x=some c->H c=none
 pin:∀p∈X.pn++pr,s.heap.get? p.1=some p.2/\H p.1=none/\p.1≠X.env.locals/\p.1∉X.fs/\∀v,p.2.data≠.cell v
 hok:HOk X.prog X.w H s.heap
 len:σ.length=X.N.length
section
variable{X:Cx}{pr:List (Addr×Obj)}{σ:List (Option V)}{H H':Hp}{s:Shared}{h':Heap}
theorem Cx.Ok.nofr(ok:X.Ok){b:Addr}{o:Obj}(e:X.base.get? b=some o):b∉X.fs:=fun hb=>by
 have:=(ok.funs.mem hb).1;rw[e]at this;cases this
theorem Inv.bs(I:Inv X pr σ H s):∀b o,X.base.get? b=some o->s.heap.get? b=some o/\H b=none:=fun b o e=>
 ⟨I.base.keep b o (I.ok.bs b o e).1 (I.ok.bs b o e).2 (I.ok.nofr e) (I.ok.noex b o e),I.base.free b o (I.ok.bs b o e).1 (I.ok.bs b o e).2 (I.ok.noex b o e)⟩
theorem Inv.bk(I:Inv X pr σ H s):∀b o,X.base.get? b=some o->s.heap.get? b=some o:=fun b o e=>(I.bs b o e).1
theorem Inv.mod(I:Inv X pr σ H s):Mod X.K X.mg X.base:=I.ok.mod
theorem Inv.kIn(I:Inv X pr σ H s):X.K.In s.heap:=I.ok.mod.kin.keeps I.bk
theorem Inv.lt(I:Inv X pr σ H s):X.env.locals<s.heap.objs.size:=let⟨_,hn,_⟩:=I.loc;hn.lt
theorem Inv.sz(I:Inv X pr σ H s):X.s₀.heap.objs.size<=s.heap.objs.size:=T2 I.ok.above (VT I.lt)
theorem Inv.nofs(I:Inv X pr σ H s){a:Addr}(h:s.heap.objs.size<=a):a∉X.fs:=fun hb=>by
 obtain⟨_,o,ho,_⟩:=I.ok.funs.mem hb;exact absurd (Ts (Tz ho) (T2 I.sz h)) (U0 _)
theorem Inv.cne(I:Inv X pr σ H s):∀x c,X.env.cells.lookup x=some c->c≠X.env.locals:=fun x c e z=>by
 obtain⟨v,o,ho,hd⟩:=I.cell x c e;obtain⟨m,⟨o',es,ep,LS,MC,_⟩,_⟩:=I.loc;rw[z,LS]at ho;cases ho;rw[MC]at hd;cases hd
theorem Inv.funs(I:Inv X pr σ H s):s.heap.FunFrames X.base X.outer:=by
 have all:∀(l:List Env),(∀b∈K0 l,b∈X.fs)->X.s₀.heap.FunFrames X.base l->s.heap.FunFrames X.base l:=by
  intro l;induction l with
  |nil=>intro _ _;trivial
  |cons env r ih=>
   intro hs hl;obtain⟨hk,⟨L,o,hf,hn,ho,hd⟩,hr⟩:=hl;have hL:L∈X.fs:=hs L (by unfold K0;rw[W9,hf];exact Tq);obtain⟨sl,e⟩:=I.base.slot L o ho (I.ok.frf L hL) hL fun z=>I.ok.exfs L z hL
   exact⟨hk,⟨L,_,hf,hn,e,hd⟩,ih (fun b hb=>hs b (by unfold K0;rw[W9,hf];exact Tu _ hb)) hr⟩
 exact all X.outer (fun _ hb=>hb) I.ok.funs
theorem Inv.stack(I:Inv X pr σ H s):s.heap.FunFrames X.base X.stack:=by
 rcases I.ok.stk with e|⟨e,hf⟩
 ·rw[e];exact I.funs
 ·rw[e];obtain⟨m,hn,_⟩:=I.loc;refine .cons (by rw[I.ok.kind];decide) hf hn ?_ I.funs;exact Heap.get?_none_of_le (T2 I.ok.bsz I.ok.above)
theorem Inv.stkSub(I:Inv X pr σ H s):∀b∈K0 X.stack,b∈X.env.locals::X.fs:=fun b hb=>by
 rcases I.ok.stk with e|⟨e,hf⟩
 ·rw[e]at hb;exact Tu _ hb
 ·rw[e]at hb;unfold K0 at hb;rw[W9,hf]at hb;exact hb
theorem Inv.stkFree(I:Inv X pr σ H s):∀b∈K0 X.stack,H b=none:=fun b hb=>by
 rcases TF.mp (I.stkSub b hb) with e|hb
 ·rw[e];exact I.free
 ·obtain⟨_,o,ho,_⟩:=I.ok.funs.mem hb;exact I.base.free b o ho (I.ok.frf b hb) fun z=>I.ok.exfs b z hb
theorem Inv.step{g':Array GenState}{t':Nat}{d':Drawn}{ch:List Addr}(I:Inv X pr σ H s)
  (LP:∀b∈ch,(b∈X.ex\/X.s₀.heap.objs.size<=b)/\b≠X.env.locals/\(∀x c,X.env.cells.lookup x=some c->c≠b)/\∀p∈X.pn++pr,p.1≠b)
  (keep:∀b o,b≠X.env.locals->b∉X.fs->b∉ch->s.heap.get? b=some o->H b=none->h'.get? b=some o)
  (slot:∀b o,b≠X.env.locals->b∈X.fs->b∉ch->s.heap.get? b=some o->H b=none->∃sl,h'.get? b=some {o with slots:=sl}) (free:∀b o,b∉ch->s.heap.get? b=some o->H b=none->H' b=none)
  (there:∀b o,b∉ch->s.heap.get? b=some o->∃o',h'.get? b=some o')
  (tups:∀b xs,H b=some (.tup xs)->H' b=some (.tup xs)) (frzs:∀b o u,H b=some (.frz o u)->H' b=some (.frz o u)) (tbls:∀b ps,H b=some (.tbl ps)->∃more,H' b=some (.tbl (ps++more)))
  (ns:∀m,s.heap.Ns X.env.locals m->h'.Ns X.env.locals m) (hok:HOk X.prog X.w H' h') (hg:AllBare g'):
  Inv X pr σ H' {s with heap:=h',gens:=g',drawn:=d',toks:=t'}:=by
 have Sh:∀b o,X.s₀.heap.get? b=some o->b≠X.env.locals:=fun b o e=>TK (Ts (Tz e) I.ok.above)
 have QH:∀b o,X.s₀.heap.get? b=some o->b∉X.ex->b∉ch:=fun b o e hx hb=>by
  rcases(LP b hb).1 with z|z
  ·exact hx z
  ·exact absurd (Ts (Tz e) z) (U0 _)
 have cellK:∀x c,X.env.cells.lookup x=some c->∀v,s.heap.IsCell c v->h'.IsCell c v:=fun x c e v Hc=>by
  obtain⟨o,ho,hd⟩:=Hc;have PB:c∉ch:=fun z=>(LP c z).2.2.1 x c e rfl
  by_cases hc:c∈X.fs
  ·obtain⟨sl,q⟩:=slot c o (I.cne x c e) hc PB ho (I.freeC x c e);exact⟨_,q,hd⟩
  ·exact⟨o,keep c o (I.cne x c e) hc PB ho (I.freeC x c e),hd⟩
 refine⟨I.ok,I.os,hg,⟨fun b o e n hb hx=>?_,fun b o e n hb hx=>?_,fun b o e n hx=>?_,fun b o e hx=>?_,fun b xs e=>tups b xs (I.base.tups b xs e),fun b o xs e=>frzs b o xs (I.base.frzs b o xs e),fun b ps e=>?_⟩,?_,fun x c e=>?_,?_,fun x c e=>?_,fun p hp=>?_,hok,I.len⟩
 ·exact keep b o (Sh b o e) hb (QH b o e hx) (I.base.keep b o e n hb hx) (I.base.free b o e n hx)
 ·obtain⟨sl,e1⟩:=I.base.slot b o e n hb hx;obtain⟨sl',e2⟩:=slot b _ (Sh b o e) hb (QH b o e hx) e1 (I.base.free b o e n hx);exact⟨sl',e2⟩
 ·obtain⟨o',e1⟩:=I.base.there b o e hx;exact free b o' (QH b o e hx) e1 (I.base.free b o e n hx)
 ·obtain⟨o',e1⟩:=I.base.there b o e hx;exact there b o' (QH b o e hx) e1
 ·obtain⟨m1,e1⟩:=I.base.tbls b ps e;obtain⟨m2,e2⟩:=tbls b _ e1;exact⟨m1++m2,by rw[e2,Array.append_assoc]⟩
 ·obtain⟨m,hn,hl⟩:=I.loc;refine⟨m,ns m hn,fun i x v e1 e2 e3=>?_⟩;obtain⟨u,r,l⟩:=hl i x v e1 e2 e3;refine⟨u,r,?_⟩;rcases l with l|⟨k,c,e,z⟩
  ·exact .inl l
  ·exact .inr ⟨k,c,e,cellK x c e _ z⟩
 ·obtain⟨v,z⟩:=I.cell x c e;exact⟨v,cellK x c e v z⟩
 ·obtain⟨m,⟨o,_,_,ho,_⟩,_⟩:=I.loc;exact free _ o (fun z=>(LP _ z).2.1 rfl) ho I.free
 ·obtain⟨v,o,ho,hd⟩:=I.cell x c e;exact free c o (fun z=>(LP c z).2.2.1 x c e rfl) ho (I.freeC x c e)
 ·obtain⟨e,n,ne,nf,d⟩:=I.pin p hp;have PB:p.1∉ch:=fun z=>(LP p.1 z).2.2.2 p hp rfl
  exact⟨keep p.1 p.2 ne nf PB e n,free p.1 p.2 PB e n,ne,nf,d⟩
theorem Inv.un{t':Nat}(I:Inv X pr σ H s)(u:Un X.fs [] H H' s.heap h')(hok:HOk X.prog X.w H' h'):Inv X pr σ H' {s with heap:=h',toks:=t'}:=by
 obtain⟨m,⟨o,es,ep,ho,r⟩,_⟩:=id I.loc;obtain⟨sl,hL⟩:=u.any ho I.free (by simp);exact I.step (g':=s.gens) (d':=s.drawn) (ch:=[]) (fun _ z=>nomatch z) (fun b o _ hb _ e n=>u.keep b o e n hb (by simp)) (fun b o _ hb _ e n=>u.slot b o e n hb (by simp)) (fun b o _ e n=>u.free b o e n (by simp)) (fun b o _ e=>u.there b o e (by simp)) u.tups u.frzs u.tbls (fun m' hm=>by
  obtain⟨o',Ky,NT,LS,r'⟩:=hm;rw[ho]at LS;cases LS;exact⟨_,Ky,NT,hL,r'⟩) hok I.bare
theorem Inv.call{g':Array GenState}{t':Nat}{d':Drawn}{ch:List Addr}(I:Inv X pr σ H s)(u:Un (K0 X.stack) ch H H' s.heap h')(hok:HOk X.prog X.w H' h')(hg:AllBare g')
  (LP:∀b∈ch,(b∈X.ex\/X.s₀.heap.objs.size<=b)/\b≠X.env.locals/\(∀x c,X.env.cells.lookup x=some c->c≠b)/\∀p∈X.pn++pr,p.1≠b):
  Inv X pr σ H' {s with heap:=h',gens:=g',drawn:=d',toks:=t'}:=by
 obtain⟨m,⟨o,es,ep,ho,r⟩,_⟩:=id I.loc;obtain⟨sl,hL⟩:=u.any ho I.free fun z=>(LP _ z).2.1 rfl
 exact I.step (ch:=ch) LP (fun b o hL hb hc e n=>u.keep b o e n (fun z=>(TF.mp (I.stkSub b z)).elim hL hb) hc) (fun b o _ _ hc e n=>u.any e n hc) (fun b o hc e n=>u.free b o e n hc) (fun b o hc e=>u.there b o e hc) u.tups u.frzs u.tbls (fun m' hm=>by
  obtain⟨o',Ky,NT,LS,r'⟩:=hm;rw[ho]at LS;cases LS;exact⟨_,Ky,NT,hL,r'⟩) hok hg
theorem Inv.turned{t':Nat}{it:Addr}(I:Inv X pr σ H s)(k:∀b o,b≠it->s.heap.get? b=some o->h'.get? b=some o)(hn:H it=none)(hL:it≠X.env.locals)
  (h1:it∈X.ex\/X.s₀.heap.objs.size<=it) (h2:∀x c,X.env.cells.lookup x=some c->c≠it) (h3:∀p∈X.pn++pr,p.1≠it):Inv X pr σ H {s with heap:=h',toks:=t'}:=by
 have Si:∀b u,H b=some u->b≠it:=fun b u e z=>by rw[z,hn]at e;cases e
 refine I.step (g':=s.gens) (d':=s.drawn) (ch:=[it]) (fun b hb=>?_) (fun b o _ _ hc e _=>k b o (fun z=>hc (by simp[z])) e) (fun b o _ _ hc e _=>⟨o.slots,k b o (fun z=>hc (by simp[z])) e⟩) (fun _ _ _ _ n=>n)
  (fun b o hc e=>⟨o,k b o (fun z=>hc (by simp[z])) e⟩) (fun _ _ e=>e) (fun _ _ _ e=>e) (fun b ps e=>⟨#[],by rw[e];simp⟩) (fun m hm=>?_) (fun b u e=>?_) I.bare
 ·have e:b=it:=by simpa using hb
  subst e;exact⟨h1,hL,h2,h3⟩
 ·obtain⟨o,es,ep,ho,r⟩:=hm;exact⟨o,es,ep,k _ o (Vn hL) ho,r⟩
 ·refine(I.hok b u e).stay (fun c v hc q=>k c v ?_ q) (fun _ q=>q) fun _ _ q=>q
  rcases hc with z|z
  ·rw[z];exact Si b u e
  ·exact Si c _ z
theorem Inv.tok(I:Inv X pr σ H s)(t:Nat):Inv X pr σ H {s with toks:=t}:=I.un (h':=s.heap) (t':=t) Un.refl I.hok
theorem Inv.kept{t':Nat}(I:Inv X pr σ H s)(k:∀b u,s.heap.get? b=some u->h'.get? b=some u):Inv X pr σ H {s with heap:=h',toks:=t'}:=I.un (Un.kept k) (I.hok.kept k)
theorem Inv.laid{a:Addr}{o:HO}{t':Nat}(I:Inv X pr σ H s)(k:∀b u,s.heap.get? b=some u->h'.get? b=some u)(hp:s.heap.objs.size<=a)(new:ObjOk X.prog X.w (upd H a o) h' a o):
  Inv X pr σ (upd H a o) {s with heap:=h',toks:=t'}:=I.un (Un.laid k hp (I.hok.fresh hp)) (I.hok.laid k hp new)
theorem Inv.write{x e:Addr}{o:HO}{t':Nat}(I:Inv X pr σ H s)(mu:Pz (H x))(he:e=x\/H e=some (.own x))(k:∀b u,b≠e->s.heap.get? b=some u->h'.get? b=some u)(Pa:∃u,h'.get? e=some u)
  (new:ObjOk X.prog X.w (upd H x o) h' x o):Inv X pr σ (upd H x o) {s with heap:=h',toks:=t'}:=I.un (Un.write mu he k Pa) (I.hok.write mu he k Pa new)
theorem Inv.pins_of{Nu:List (Addr×Obj)}(I:Inv X pr σ H s)(h:∀p∈Nu,s.heap.get? p.1=some p.2/\H p.1=none/\p.1≠X.env.locals/\p.1∉X.fs/\∀v,p.2.data≠.cell v):Inv X Nu σ H s:=
 ⟨I.ok,I.os,I.bare,I.base,I.loc,I.cell,I.free,I.freeC,fun p hp=>(T3.mp hp).elim (fun z=>I.pin p (Tx _ z)) (h p),I.hok,I.len⟩
theorem pN{N:List Str}(hN:N.Nodup){i j:Nat}{x:Str}(a:N[i]?=some x)(b:N[j]?=some x):i=j:=by
 obtain⟨h1,e1⟩:=TH.mp a;obtain⟨h2,e2⟩:=TH.mp b;exact(List.getElem_inj hN).mp (e1.trans e2.symm)
theorem jx{M:Model}{A:Around}{E:Value->Shared->Prop}{i:Nat}{x:Str}{v:V}{u:Value}{Q:Unit->Shared->Prop}(I:Inv X pr σ H s)(hN:X.N.Nodup)(hi:X.N[i]?=some x)(hx:Loc X.env.scope x)(r:RelV v u)
  (h:∀s',Inv X pr (σ.set i (some v)) H s'->(∃a,Heap.SameBut a s.heap s'.heap/\(a=X.env.locals\/X.env.cells.lookup x=some a))->Q () s') (hf:X.fn x=true\/X.env.scope.names.lookup x=some .local:=by first|exact .inl rfl|exact .inr rfl|assumption):wpAny M A (storeName X.env x u) Q E s:=by
 obtain⟨m,hn,hl⟩:=id I.loc;have hcls:(X.env.scope.kind==.class||(X.env.scope.kind==.module&&X.env.locals != X.env.globals))=false:=by rw[I.ok.kind];rfl
 have hiσ:i<σ.length:=by rw[I.len];exact(TH.mp hi).1
 have cne:=I.cne;have tracked:∀{a:Addr}{h':Heap},(∃o,s.heap.get? a=some o/\H a=none)->Heap.SameBut a s.heap h'->HOk X.prog X.w H h':=fun{a h'} ha hs b ob e=>by
  obtain⟨_,_,Nv⟩:=ha;refine(I.hok b ob e).stay (fun c w' hc q=>(hs.2 c ?_).trans q) (fun _ q=>q) fun _ _ q=>q
  rintro rfl;rcases hc with rfl|hc
  ·rw[Nv]at e;cases e
  ·rw[Nv]at hc;cases hc
 rcases hx with hk|hk
 ·refine wpAny_storeName_local hk hn (fun h' hn' hs=>?_) hcls;obtain⟨oL,_,_,hoL,_⟩:=id hn;refine h _ ⟨I.ok,I.os,I.bare,⟨fun b o e n hb hx=>?_,fun b o e n hb hx=>?_,I.base.free,fun b o e hx=>?_,I.base.tups,I.base.frzs,I.base.tbls⟩,⟨_,hn',fun j y v' e1 e2 e3=>?_⟩,fun y c e=>?_,I.free,I.freeC,fun p hp=>?_,tracked ⟨oL,hoL,I.free⟩ hs,by simpa using I.len⟩ ⟨_,hs,.inl rfl⟩
  ·exact(hs.2 b (TK (Ts (Tz e) I.ok.above))).trans (I.base.keep b o e n hb hx)
  ·obtain⟨sl,e1⟩:=I.base.slot b o e n hb hx;exact⟨sl,(hs.2 b (TK (Ts (Tz e) I.ok.above))).trans e1⟩
  ·obtain⟨o',e1⟩:=I.base.there b o e hx;exact⟨o',(hs.2 b (TK (Ts (Tz e) I.ok.above))).trans e1⟩
  ·by_cases hj:j=i
   ·subst hj;rw[hi]at e1;cases e1;rw[U8 hiσ]at e2;cases e2;exact⟨u,r,.inl ⟨hk,by simp⟩⟩
   ·rw[WY (Vn hj)]at e2;obtain⟨u',r',q⟩:=hl j y v' e1 e2 e3;refine⟨u',r',?_⟩;rcases q with⟨k,e⟩|⟨k,c,e,z⟩
    ·refine .inl ⟨k,?_⟩;have:y≠x:=fun e=>hj (pN hN e1 (e▸hi))
     simp[this,e]
    ·exact .inr ⟨k,c,e,z.sameBut hs (cne y c e)⟩
  ·obtain⟨w',z⟩:=I.cell y c e;exact⟨w',z.sameBut hs (cne y c e)⟩
  ·obtain⟨e,n,ne,nf,d⟩:=I.pin p hp;exact⟨(hs.2 p.1 ne).trans e,n,ne,nf,d⟩
 ·have Lg:X.fn x=true:=by
   rcases hf with z|z
   ·exact z
   ·rw[z]at hk;cases hk
  obtain⟨c,hc⟩:=I.ok.has x (.inl hk);obtain⟨w',z⟩:=I.cell x c hc;refine wpAny_storeName_cell I.ok.kind hk hc z (fun h' Pb hs=>?_);obtain⟨oc,Nw,hocd⟩:=id z;refine h {s with heap:=h'} ⟨I.ok,I.os,I.bare,⟨fun b o e n hb hx=>?_,fun b o e n hb hx=>?_,I.base.free,fun b o e hx=>?_,I.base.tups,I.base.frzs,I.base.tbls⟩,⟨m,hn.sameBut hs (Vn (cne x c hc)),fun j y v' e1 e2 e3=>?_⟩,fun y c' e=>?_,I.free,I.freeC,fun p hp=>?_,tracked ⟨oc,Nw,I.freeC x c hc⟩ hs,by simpa using I.len⟩ ⟨c,hs,.inr hc⟩
  ·exact(hs.2 b (TK (Ts (Tz e) (I.ok.cab x c Lg hc)))).trans (I.base.keep b o e n hb hx)
  ·obtain⟨sl,e1⟩:=I.base.slot b o e n hb hx;exact⟨sl,(hs.2 b (TK (Ts (Tz e) (I.ok.cab x c Lg hc)))).trans e1⟩
  ·obtain⟨o',e1⟩:=I.base.there b o e hx;exact⟨o',(hs.2 b (TK (Ts (Tz e) (I.ok.cab x c Lg hc)))).trans e1⟩
  ·by_cases hj:j=i
   ·subst hj;rw[hi]at e1;cases e1;rw[U8 hiσ]at e2;cases e2;exact⟨u,r,.inr ⟨.inl hk,c,hc,Pb⟩⟩
   ·rw[WY (Vn hj)]at e2;obtain⟨u',r',q⟩:=hl j y v' e1 e2 e3;refine⟨u',r',?_⟩;rcases q with q|⟨k,c',e,z'⟩
    ·exact .inl q
    ·refine .inr ⟨k,c',e,z'.sameBut hs ?_⟩;rintro rfl;exact hj (pN hN e1 (I.ok.inj _ _ _ e hc▸hi))
  ·by_cases MD:c'=c
   ·subst MD;exact⟨_,Pb⟩
   ·obtain⟨w2,z2⟩:=I.cell y c' e;exact⟨w2,z2.sameBut hs MD⟩
  ·obtain⟨e,n,ne,nf,d⟩:=I.pin p hp;refine⟨(hs.2 p.1 ?_).trans e,n,ne,nf,d⟩;intro q;rw[q,Nw]at e;have q':oc=p.2:=T6 e;exact d w' (by rw[<-q'];exact hocd)
theorem pO{M:Model}{A:Around}{E:Value->Shared->Prop}{i:Nat}{x:Str}{v:V}{u:Value}{Q:Unit->Shared->Prop}(I:Inv X pr σ H s)(hN:X.N.Nodup)(hi:X.N[i]?=some x)(hx:Loc X.env.scope x)(r:RelV v u)
  (h:∀s',Inv X pr (σ.set i (some v)) H s'->Q () s') (hf:X.fn x=true\/X.env.scope.names.lookup x=some .local:=by first|exact .inl rfl|exact .inr rfl|assumption):wpAny M A (storeName X.env x u) Q E s:=
 jx I hN hi hx r (fun s' I' _=>h s' I') hf
theorem Inv.call'{s':Shared}{ch:List Addr}(I:Inv X pr σ H s)(ho:s'.os=s.os)(u:Un (K0 X.stack) ch H H' s.heap s'.heap)(hok:HOk X.prog X.w H' s'.heap)(hg:AllBare s'.gens)
  (LP:∀b∈ch,(b∈X.ex\/X.s₀.heap.objs.size<=b)/\b≠X.env.locals/\(∀x c,X.env.cells.lookup x=some c->c≠b)/\∀p∈X.pn++pr,p.1≠b):Inv X pr σ H' s':=by
 obtain⟨h',g',d',t',o'⟩:=s';have e:o'=s.os:=ho;subst e;exact I.call (g':=g') (t':=t') (d':=d') u hok hg LP
end
abbrev XK:=Value->Option Addr->Hp->Prop
abbrev St:=List (Option V)
abbrev VK:=V->Hp->Prop
abbrev TE:=St->Hp->VK->Prop
abbrev TT:=St->Hp->(Bool->Hp->Prop)->Prop
abbrev TA:=St->Hp->(List V->Hp->Prop)->Prop
structure Ends where
 nx:St->Hp->Prop
 rt:VK
 bk:St->Hp->Prop:=fun _ _=>False
 ct:St->Hp->Prop:=fun _ _=>False
abbrev TS:=Ends->St->Hp->Prop
def EP(X:Cx)(pr:List (Addr×Obj))(σ:St)(Q:VK)(u:Value)(s':Shared):Prop:=∃v H',Inv X pr σ H' s'/\RelV v u/\Q v H'
def TP(X:Cx)(pr:List (Addr×Obj))(σ:St)(Q:Bool->Hp->Prop)(b:Bool)(s':Shared):Prop:=∃H',Inv X pr σ H' s'/\Q b H'
def AP(X:Cx)(pr:List (Addr×Obj))(σ:St)(Q:List V->Hp->Prop)(us:List Value)(s':Shared):Prop:=∃vs H',Inv X pr σ H' s'/\Vals vs us/\Q vs H'
def SP(X:Cx)(pr:List (Addr×Obj))(D:Ends)(f:Flow)(s':Shared):Prop:=
 match f with
 | .next=>∃σ' H',Inv X pr σ' H' s'/\D.nx σ' H'
 | .brk=>∃σ' H',Inv X pr σ' H' s'/\D.bk σ' H'
 | .cont=>∃σ' H',Inv X pr σ' H' s'/\D.ct σ' H'
 | .ret u=>∃v σ' H',Inv X pr σ' H' s'/\RelV v u/\D.rt v H'
def PE(X:Cx)(e:Expr)(t:TE):Prop:=
 ∀(pr:List (Addr×Obj)) (s:Shared) (σ:St) (H:Hp) (Q:VK),Inv X pr σ H s->t σ H Q->wpAny (model X.prog X.w) X.A (eval e X.env) (EP X pr σ Q) X.xe s
def PT(X:Cx)(e:Expr)(t:TT):Prop:=
 ∀(pr:List (Addr×Obj)) (s:Shared) (σ:St) (H:Hp) (Q:Bool->Hp->Prop),Inv X pr σ H s->t σ H Q->wpAny (model X.prog X.w) X.A (isTrue e X.env (eval e X.env)) (TP X pr σ Q) X.xe s
def PW(X:Cx)(e:Expr)(t:TT):Prop:=
 ∀(whole:Sem Value) (pr:List (Addr×Obj)) (s:Shared) (σ:St) (H:Hp) (Q:Bool->Hp->Prop),Inv X pr σ H s->t σ H Q->wpAny (model X.prog X.w) X.A (isTrue e X.env whole) (TP X pr σ Q) X.xe s
theorem PW.pt{X:Cx}{e:Expr}{t:TT}(h:PW X e t):PT X e t:=h _
def PA(X:Cx)(es:List Expr)(t:TA):Prop:=
 ∀(pos:Pos) (pr:List (Addr×Obj)) (s:Shared) (σ:St) (H:Hp) (Q:List V->Hp->Prop),Inv X pr σ H s->t σ H Q->wpAny (model X.prog X.w) X.A (spliced (backTo pos (starEach es X.env))) (AP X pr σ Q) X.xe s
def PS(X:Cx)(st:Stmt)(t:TS):Prop:=
 ∀(pr:List (Addr×Obj)) (s:Shared) (σ:St) (H:Hp) (D:Ends),Inv X pr σ H s->t D σ H->wpAny (model X.prog X.w) X.A (exec st X.env) (SP X pr D) X.xe s
def PSs(X:Cx)(st:List Stmt)(t:TS):Prop:=
 ∀(pr:List (Addr×Obj)) (s:Shared) (σ:St) (H:Hp) (D:Ends),Inv X pr σ H s->t D σ H->wpAny (model X.prog X.w) X.A (execs st X.env) (SP X pr D) X.xe s
theorem Hl{α:Type}{t:Sem α}{Q Q':α->Shared->Prop}{M:Model}{A:Around}{E:Value->Shared->Prop}{s:Shared}(h:wpAny M A t Q E s)(hQ:∀a s,Q a s->Q' a s):wpAny M A t Q' E s:=Wd h hQ fun _ _ x=>x
section
variable{X:Cx}
theorem bin{a b:Expr}{ta tb:TE}(ha:PE X a ta)(hb:PE X b tb){pr:List (Addr×Obj)}{s:Shared}{σ:St}{H:Hp}{R:V->V->Hp->Prop}(I:Inv X pr σ H s)(h:ta σ H fun x H1=>tb σ H1 fun y H2=>R x y H2)
  {α:Type}{Q:α->Shared->Prop}{f:Value->Value->Sem α}
  (hf:∀v u s2 x y H2,Inv X pr σ H2 s2->RelV x v->RelV y u->R x y H2->wpAny (model X.prog X.w) X.A (f v u) Q X.xe s2):
  wpAny (model X.prog X.w) X.A (eval a X.env) (fun v s₁=>wpAny (model X.prog X.w) X.A (eval b X.env) (fun u s₂=>wpAny (model X.prog X.w) X.A (f v u) Q X.xe s₂) X.xe s₁) X.xe s:=by
 refine Hl (ha pr s σ H _ I h) fun v s1 Hm=>?_
 obtain⟨x,H1,I1,r1,q1⟩:=Hm;refine Hl (hb pr s1 σ H1 _ I1 q1) fun u s2 Hm=>?_
 obtain⟨y,H2,I2,r2,q2⟩:=Hm;exact hf v u s2 x y H2 I2 r1 r2 q2
def sd(i:Nat):TE:=fun σ H Q=>∃v,σ[i]?=some (some v)/\Q v H
def tC(v:V):TE:=fun _ H Q=>Q v H
theorem A0{i:Nat}{x:Str}{pos:Pos}(hN:X.N[i]?=some x)(hv:Rf X.env.scope x)(hd:(x==("__debug__" : Str))=false:=by decide)(Kz:(x==("__classdict__" : Str))=false:=by decide):PE X (.Name x pos) (sd i):=by
 intro pr s σ H Q I h;obtain⟨v,e,h⟩:=h;obtain⟨m,hn,hl⟩:=I.loc;obtain⟨u,r,l⟩:=hl i x v hN e hv;have fin:EP X pr σ Q u s:=⟨v,H,I,r,h⟩
 rcases l with⟨hk,hm⟩|⟨hk,c,hc,Hk⟩
 ·exact wpAny_Name (wpAny_loadName_local I.ok.kind hk hn hm fin) hd
 ·rcases hk with hk|hk
  ·exact wpAny_Name (wpAny_loadName_cell I.ok.kind hk hc Hk fin) hd
  ·exact wpAny_Name (wpAny_loadName_free I.ok.kind hk hc Hk fin Kz) hd
theorem A1{i j pos}:PE X (.Constant (.int i) j pos) (tC (.int i)):=fun _ _ _ H _ I h=>wpAny_Constant_int ⟨.int i,H,I.tok _,⟨_,rfl⟩,h⟩
theorem DO{b j pos}:PE X (.Constant (.bool b) j pos) (tC (.bl b)):=fun _ _ _ H _ I h=>Constant_bool ⟨.bl b,H,I,rfl,h⟩
theorem A2{j pos}:PE X (.Constant .none j pos) (tC .non):=fun _ _ _ H _ I h=>Constant_none ⟨.non,H,I,rfl,h⟩
theorem A3{x j pos}:PE X (.Constant (.str x) j pos) (tC (.str x)):=fun _ _ _ H _ I h=>Calls.Constant_str ⟨.str x,H,I.tok _,⟨_,rfl⟩,h⟩
def Gl(X:Cx)(x:Str):Prop:=X.env.kindOf x=some .globalImplicit
theorem yG{E:Value->Shared->Prop}{pr:List (Addr×Obj)}{s:Shared}{σ:St}{H:Hp}{x:Str}{u:Value}{pos:Pos}{Q:Value->Shared->Prop}(I:Inv X pr σ H s)(hg:Gl X x)(hm:X.mg x=some u)(h:Q u s)
  (hd:(x==("__debug__" : Str))=false:=by decide):wpAny (model X.prog X.w) X.A (eval (.Name x pos) X.env) Q E s:=
 Xj I.ok.kind hg (Calls.loadGlobal_global (by rw[I.ok.glob];exact I.mod.glob.keeps I.bk) hm h) hd
theorem kK{E:Value->Shared->Prop}{pr:List (Addr×Obj)}{s:Shared}{σ:St}{H:Hp}{x:Str}{u:Value}{pos:Pos}{Q:Value->Shared->Prop}(I:Inv X pr σ H s)(hg:Gl X x)(hm:X.mg x=none)(hv:bootBuiltins x=some u)(h:Q u s)
  (hn:x≠"__name__":=by decide) (hd:(x==("__debug__" : Str))=false:=by decide):wpAny (model X.prog X.w) X.A (eval (.Name x pos) X.env) Q E s:=by
 obtain⟨mb,h1,h2⟩:=I.mod.blt;exact Xj I.ok.kind hg (Calls.loadGlobal_builtin (by rw[I.ok.glob];exact I.mod.glob.keeps I.bk) hm (by rw[I.ok.blt];exact h1.keeps I.bk) ((h2 x hn).trans hv) h) hd
theorem yH{x:Str}{v:V}{u:Value}{pos:Pos}(hg:Gl X x)(hm:X.mg x=none)(hv:bootBuiltins x=some u)(r:RelV v u)(hn:x≠"__name__":=by decide)(hd:(x==("__debug__" : Str))=false:=by decide):PE X (.Name x pos) (tC v):=
 fun _ _ _ H _ I h=>kK I hg hm hv ⟨v,H,I,r,h⟩ hn hd
variable{a b:Expr}{ta tb:TE}{pos:Pos}
def PC(X:Cx)(op:CmpOp)(a b:Expr)(t:TE):Prop:=
 ∀(pr:List (Addr×Obj)) (s:Shared) (σ:St) (H:Hp) (Q:VK),Inv X pr σ H s->t σ H Q->
  wpAny (model X.prog X.w) X.A (eval a X.env) (fun v s₁=>wpAny (model X.prog X.w) X.A (eval b X.env) (fun u s₂=>wpAny (model X.prog X.w) X.A (compareOp op v u) (EP X pr σ Q) X.xe s₂) X.xe s₁) X.xe s
theorem wj(b:Expr){op:CmpOp}(h:op≠.In)(h2:op≠.NotIn):behindInMarks op b=false:=by
 have e1:(op==CmpOp.In)=false:=by cases op <;> first|rfl|exact absurd rfl h
 have e2:(op==CmpOp.NotIn)=false:=by cases op <;> first|rfl|exact absurd rfl h2
 cases b <;> simp[behindInMarks,e1,e2]
def tB(t:TE):TT:=fun σ H Q=>t σ H fun x H1=>∃c,x=.bl c/\Q c H1
theorem Fo{op:CmpOp}{t:TE}(h:PC X op a b t)(h1:behindInMarks op b=false:=by first|exact wj _ (by decide) (by decide)|rfl):PT X (.Compare a [op] [b] pos) (tB t):=by
 intro pr s σ H Q I hw;refine wpAny_isTrue_Compare1 (Hl (h pr s σ H _ I hw) fun v s1 h1=>Hl h1 fun u s2 h2=>Hl h2 fun c s3 ⟨x,H1,I1,r1,q1⟩=>?_) h1;obtain⟨d,rfl,q⟩:=q1;cases r1;exact We ⟨H1,I1,q⟩
theorem A4{e:Expr}{t:TE}(h:PE X e t)(he:∀whole,isTrue e X.env whole=(do let v <-whole;standAt e.pos;holding [v] (truthy v)):=by intro _;rfl):PT X e (tB t):=by
 intro pr s σ H Q I hw;refine isTrue_plain (Hl (h pr s σ H _ I hw) fun v s1 ⟨x,H1,I1,r1,q1⟩=>?_) (he _);obtain⟨d,rfl,q⟩:=q1;cases r1;exact We ⟨H1,I1,q⟩
variable{tA QJ:TT}{bG:List Expr}
def FL(t u:TT):TT:=fun σ H Q=>t σ H fun c H1=>if c=true then u σ H1 Q else Q false H1
def tOr(t u:TT):TT:=fun σ H Q=>t σ H fun c H1=>if c=true then Q true H1 else u σ H1 Q
def FN(t:TT):TT:=fun σ H Q=>t σ H fun c H1=>Q (!c) H1
theorem yI(ha:PT X a tA):PW X (.BoolOp .And [a] pos) tA:=by
 intro wh pr s σ H Q I h;refine isTrue_and (Hl (ha pr s σ H Q I h) fun c s1 e=>?_);cases c with
 |true=>exact isTrue_and_nil e
 |false=>exact e
theorem A5(ha:PT X a tA):PW X (.BoolOp .Or [a] pos) tA:=by
 intro wh pr s σ H Q I h;refine isTrue_or (Hl (ha pr s σ H Q I h) fun c s1 e=>?_);cases c with
 |false=>exact isTrue_or_nil e
 |true=>exact e
theorem A6(ha:PT X a tA)(hb:PW X (.BoolOp .And (b::bG) pos) QJ):PW X (.BoolOp .And (a::b::bG) pos) (FL tA QJ):=by
 intro wh pr s σ H Q I h;refine isTrue_and (Hl (ha pr s σ H _ I h) fun c s1 Hm=>?_);obtain⟨H1,I1,q1⟩:=Hm;cases c with
 |true=>exact hb wh pr s1 σ H1 Q I1 q1
 |false=>exact⟨H1,I1,q1⟩
theorem DP(ha:PT X a tA)(hb:PW X (.BoolOp .Or (b::bG) pos) QJ):PW X (.BoolOp .Or (a::b::bG) pos) (tOr tA QJ):=by
 intro wh pr s σ H Q I h;refine isTrue_or (Hl (ha pr s σ H _ I h) fun c s1 Hm=>?_);obtain⟨H1,I1,q1⟩:=Hm;cases c with
 |true=>exact⟨H1,I1,q1⟩
 |false=>exact hb wh pr s1 σ H1 Q I1 q1
theorem A7(ha:PT X a tA):PT X (.UnaryOp .Not a pos) (FN tA):=by
 intro pr s σ H Q I h;exact isTrue_not (ha pr s σ H (fun c H1=>Q (!c) H1) I h)
def DQ(ta tb:TE):TE:=fun σ H Q=>ta σ H fun x H1=>∃c,x=.bl c/\if c=true then tb σ H1 Q else Q (.bl false) H1
def DR(ta:TE):TE:=fun σ H Q=>ta σ H fun x H1=>∃c,x=.bl c/\Q (.bl (!c)) H1
theorem A8{op}{t:TE}(h:PE X a t):PE X (.BoolOp op [a] pos) t:=fun pr s σ H Q I hw=>BoolOp_one (h pr s σ H Q I hw)
theorem A9(ha:PE X a ta)(hb:PE X (.BoolOp .And (b::bG) pos) tb):PE X (.BoolOp .And (a::b::bG) pos) (DQ ta tb):=by
 intro pr s σ H Q I h;refine BoolOp_and (Hl (ha pr s σ H _ I h) fun v s1 Hm=>?_);obtain⟨x,H1,I1,r1,q1⟩:=Hm;obtain⟨c,rfl,q1⟩:=q1;cases r1;refine We ?_;cases c with
 |true=>exact hb pr s1 σ H1 Q I1 q1
 |false=>exact⟨.bl false,H1,I1,rfl,q1⟩
theorem Ba(ha:PE X a ta):PE X (.UnaryOp .Not a pos) (DR ta):=by
 intro pr s σ H Q I h;refine UnaryOp_ (Hl (ha pr s σ H _ I h) fun v s1 Hm=>?_);obtain⟨x,H1,I1,r1,q1⟩:=Hm;obtain⟨c,rfl,q1⟩:=q1;cases r1;exact not_of (We ⟨.bl (!c),H1,I1,rfl,q1⟩)
end
def SqL(K:W.Frag)(H:Hp)(a:Addr)(xs:List V):Prop:=
 Rd H a (.lst xs)\/
  ∃(o:Obj) (GX:Array Value) (n:Nat),K.lookup a=some o/\o.cls=.type "list"/\o.dict=none/\o.data=.seq GX n/\GX.size<=sizeLine/\Vals xs GX.toList
def SqT(K:W.Frag)(H:Hp)(a:Addr)(xs:List V):Prop:=
 Rd H a (.tup xs)\/
  ∃(o:Obj) (GX:Array Value) (n:Nat),K.lookup a=some o/\o.cls=.type "tuple"/\o.dict=none/\o.data=.seq GX n/\GX.size<=sizeLine/\Vals xs GX.toList
def FQ:Value->Option V
 | .none=>some .non
 | .bool b=>some (.bl b)
 | .int i _=>some (.int i)
 | .str x _=>some (.str x)
 | .bytes b _=>some (.byt b)
 | .float b _=>some (.flt b)
 | .ref a=>some (.ref a)
 | .type n=>some (.ty n)
 |_=>none
theorem RelV.abs{x:V}{u:Value}(r:RelV x u):FQ u=some x:=by
 cases x with
 |non=>cases r;rfl
 |bl _=>cases r;rfl
 |int _=>obtain⟨t,rfl⟩:=r;rfl
 |str _=>obtain⟨t,rfl⟩:=r;rfl
 |byt _=>obtain⟨t,rfl⟩:=r;rfl
 |flt _=>obtain⟨t,rfl⟩:=r;rfl
 |ref _=>cases r;rfl
 |ty _=>cases r;rfl
theorem RelV.inj{x y:V}{u:Value}(r:RelV x u)(q:RelV y u):x=y:=T6 (r.abs.symm.trans q.abs)
theorem Vals.inj:∀{xs ys:List V}{us:List Value},Vals xs us->Vals ys us->xs=ys
 |_,_,_,.nil,.nil=>rfl
 |_,_,_,.cons r t,.cons r' t'=>by rw[r.inj r',Vals.inj t t']
section
variable{X:Cx}{pr:List (Addr×Obj)}{σ:St}{H:Hp}{s:Shared}{a:Addr}{xs ys:List V}
theorem SqL.of{K:W.Frag}(h:H a=some (.lst xs)):SqL K H a xs:=.inl (.inl h)
theorem SqT.of{K:W.Frag}(h:H a=some (.tup xs)):SqT K H a xs:=.inl (.inl h)
theorem Inv.list(I:Inv X pr σ H s)(h:SqL X.K H a xs):∃GX:List Value,Vals xs GX/\PlainL s.heap a GX.toArray/\xs.length<=sizeLine:=by
 rcases h with h|⟨o,GX,n,hk,hc,hd,hs,hz,r⟩
 ·obtain⟨z,GX,n,r,e⟩:=h.ok I.hok;exact⟨GX,r,⟨_,n,e,rfl,rfl,rfl⟩,z⟩
 ·refine⟨GX.toList,r,⟨o,n,I.kIn a o hk,hc,hd,by simpa using hs⟩,?_⟩;have e:=r.length;simp only[U9]at e;lia
theorem Inv.tupleN(I:Inv X pr σ H s)(h:SqT X.K H a xs):∃GX:List Value,Vals xs GX/\IsTupN s.heap a GX.toArray/\xs.length<=sizeLine:=by
 rcases h with h|⟨o,GX,n,hk,hc,hdn,hs,hz,r⟩
 ·obtain⟨z,GX,r,p⟩:=h.ok I.hok;exact⟨GX,r,p,z⟩
 ·refine⟨GX.toList,r,⟨o,I.kIn a o hk,hc,⟨n,by simpa using hs⟩,hdn⟩,?_⟩;have e:=r.length;simp only[U9]at e;lia
theorem Inv.tuple(I:Inv X pr σ H s)(h:SqT X.K H a xs):∃GX:List Value,Vals xs GX/\IsTup s.heap a GX.toArray/\xs.length<=sizeLine:=by
 obtain⟨GX,r,p,z⟩:=I.tupleN h;exact⟨GX,r,p.tup,z⟩
theorem Inv.list_inj(I:Inv X pr σ H s)(h:SqL X.K H a xs)(h':SqL X.K H a ys):xs=ys:=by
 obtain⟨GX,r,⟨o,n,e,_,_,d⟩,_⟩:=I.list h;obtain⟨its',r',⟨o',n',e',_,_,d'⟩,_⟩:=I.list h';rw[e]at e';cases e';rw[d]at d';injection d' with d1 _;have:GX=its':=by simpa using UN Array.toList d1
 subst this;exact r.inj r'
theorem Inv.tuple_inj(I:Inv X pr σ H s)(h:SqT X.K H a xs)(h':SqT X.K H a ys):xs=ys:=by
 obtain⟨GX,r,⟨o,e,_,n,d⟩,_⟩:=I.tuple h;obtain⟨its',r',⟨o',e',_,n',d'⟩,_⟩:=I.tuple h';rw[e]at e';cases e';rw[d]at d';injection d' with d1 _;have:GX=its':=by simpa using UN Array.toList d1
 subst this;exact r.inj r'
end
abbrev Cx.wish(X:Cx)(E:Value->Shared->Prop):Cx:={X with xe:=E}
abbrev Cx.nox(X:Cx):Cx:=X.wish fun _ _=>False
theorem Cx.Ok.wish{X:Cx}(ok:X.Ok)(E:Value->Shared->Prop):(X.wish E).Ok:=
 ⟨ok.mod,ok.kind,ok.glob,ok.blt,ok.above,ok.inj,ok.has,ok.cab,ok.hd,ok.frames,ok.stk,ok.exf,ok.bs,ok.bsz,ok.noex,ok.exfs,ok.funs,ok.frf⟩
theorem Cx.Ok.unwish{X:Cx}{E:Value->Shared->Prop}(ok:(X.wish E).Ok):X.Ok:=
 ⟨ok.mod,ok.kind,ok.glob,ok.blt,ok.above,ok.inj,ok.has,ok.cab,ok.hd,ok.frames,ok.stk,ok.exf,ok.bs,ok.bsz,ok.noex,ok.exfs,ok.funs,ok.frf⟩
section
variable{X:Cx}{pr:List (Addr×Obj)}{σ:St}{H:Hp}{s:Shared}{E:Value->Shared->Prop}
theorem Inv.wish(I:Inv X pr σ H s)(E:Value->Shared->Prop):Inv (X.wish E) pr σ H s:=⟨I.ok.wish E,I.os,I.bare,I.base,I.loc,I.cell,I.free,I.freeC,I.pin,I.hok,I.len⟩
theorem Inv.unwish(I:Inv (X.wish E) pr σ H s):Inv X pr σ H s:=⟨I.ok.unwish,I.os,I.bare,I.base,I.loc,I.cell,I.free,I.freeC,I.pin,I.hok,I.len⟩
theorem SP.unwish{D:Ends}{f:Flow}{s':Shared}(h:SP (X.wish E) pr D f s'):SP X pr D f s':=by
 cases f with
 |next=>obtain⟨σ',H',I,q⟩:=h;exact⟨σ',H',I.unwish,q⟩
 |brk=>obtain⟨σ',H',I,q⟩:=h;exact⟨σ',H',I.unwish,q⟩
 |cont=>obtain⟨σ',H',I,q⟩:=h;exact⟨σ',H',I.unwish,q⟩
 |ret u=>obtain⟨v,σ',H',I,r,q⟩:=h;exact⟨v,σ',H',I.unwish,r,q⟩
theorem PSs.nox{st:List Stmt}{t:TS}(h:PSs X.nox st t):PSs X st t:=fun pr s σ H D I hw=>
 Wd (h pr s σ H D (I.wish _) hw) (fun _ _ q=>q.unwish) fun _ _ z=>False.elim z
end
section
variable{X:Cx}{st:Stmt}{bG:List Stmt}{t u:TS}{e:Expr}{te:TE}{pos:Pos}
def DS:TS:=fun D σ H=>D.nx σ H
def FR(t u:TS):TS:=fun D σ H=>t {D with nx:=u D} σ H
theorem yJ:PSs X [] DS:=fun _ _ σ H _ I h=>Xa ⟨σ,H,I,h⟩
theorem wm(h1:PS X st t)(h2:PSs X bG u):PSs X (st::bG) (FR t u):=by
 intro pr s σ H D I h;refine wpAny_execs_cons (Hl (h1 pr s σ H {D with nx:=u D} I h) fun f s1 q=>?_);cases f with
 |next=>
  obtain⟨σ',H',I',q⟩:=q;exact h2 pr s1 σ' H' D I' q
 |ret v=>exact q
 |brk=>exact q
 |cont=>exact q
theorem yK(h1:PS X st t):PSs X [st] t:=by
 intro pr s σ H D I h;refine wpAny_execs_cons (Hl (h1 pr s σ H D I h) fun f s1 q=>?_);cases f with
 |next=>exact Xa q
 |ret v=>exact q
 |brk=>exact q
 |cont=>exact q
theorem Inv.quiet{pr:List (Addr×Obj)}{σ:St}{H:Hp}{s:Shared}(I:Inv X pr σ H s):interactive X.env=false:=by simp[interactive,I.ok.kind]
def DU(te:TE):TS:=fun D σ H=>te σ H fun _ H1=>D.nx σ H1
theorem yL(he:PE X e te)(hs:swapsWith e none pos.line X.env=pure false:=by rfl):PS X (.Expr e pos) (DU te):=by
 intro pr s σ H D I h;exact wpAny_Expr_any (Hl (he pr s σ H _ I h) fun v s1 ⟨x,H1,I1,r1,q1⟩=>⟨σ,H1,I1,q1⟩) I.quiet hs
def FU(te:TE):TS:=fun D σ H=>te σ H D.rt
theorem xN(he:PE X e te):PS X (.Return (some e) pos) (FU te):=by
 intro pr s σ H D I h;exact wpAny_Return_some (Hl (he pr s σ H _ I h) fun v s1 ⟨x,H1,I1,r1,q1⟩=>⟨x,σ,H1,I1,r1,q1⟩)
def FV(c:TT)(t u:TS):TS:=fun D σ H=>c σ H fun b H1=>if b=true then t D σ H1 else u D σ H1
theorem DV{c:Expr}{a b:List Stmt}{tc:TT}(hc:PT X c tc)(ha:PSs X a t)(hb:PSs X b u):PS X (.If c a b pos) (FV tc t u):=by
 intro pr s σ H D I h;refine wpAny_If (Hl (hc pr s σ H _ I h) fun d s1 Hm=>?_);obtain⟨H1,I1,q1⟩:=Hm;cases d with
 |true=>exact ha pr s1 σ H1 D I1 q1
 |false=>exact hb pr s1 σ H1 D I1 q1
end
abbrev TG:=V->St->Hp->(St->Hp->Prop)->Prop
abbrev Nx:=List V->St->Hp->(St->Hp->Prop)->Prop
def PG(X:Cx)(target:Expr)(t:TG):Prop:=
 ∀(pr:List (Addr×Obj)) (s:Shared) (σ:St) (H:Hp) (v:V) (u:Value) (Q:St->Hp->Prop),Inv X pr σ H s->RelV v u->t v σ H Q->
  wpAny (model X.prog X.w) X.A (assign target X.env u) (fun _ s'=>∃σ' H',Inv X pr σ' H' s'/\Q σ' H') X.xe s
def NU(X:Cx)(ts:List Expr)(t:Nx):Prop:=
 ∀(pr:List (Addr×Obj)) (s:Shared) (σ:St) (H:Hp) (vs:List V) (us:List Value) (Q:St->Hp->Prop),Inv X pr σ H s->Vals vs us->t vs σ H Q->
  wpAny (model X.prog X.w) X.A (assignInOrder ((assignEach ts X.env).map (·.2)) us) (fun _ s'=>∃σ' H',Inv X pr σ' H' s'/\Q σ' H') X.xe s
abbrev FY:=V->V->V->Hp->(Hp->Prop)->Prop
def FZ(X:Cx)(t:FY):Prop:=
 ∀(pr:List (Addr×Obj)) (s:Shared) (σ:St) (H:Hp) (o i v:V) (ov iv u:Value) (Q:Hp->Prop),Inv X pr σ H s->RelV o ov->RelV i iv->RelV v u->t o i v H Q->
  wpAny (model X.prog X.w) X.A (setItem ov iv u) (fun _ s'=>∃H',Inv X pr σ H' s'/\Q H') X.xe s
section
variable{X:Cx}{pos:Pos}
def Bb(i:Nat):TG:=fun v σ H Q=>Q (σ.set i (some v)) H
theorem yM{i:Nat}{x:Str}(hN:X.N.Nodup)(hi:X.N[i]?=some x)(hx:Loc X.env.scope x)(hf:X.fn x=true\/X.env.scope.names.lookup x=some .local:=by first|exact .inl rfl|exact .inr rfl|assumption):PG X (.Name x pos) (Bb i):=by
 intro pr s σ H v u Q I r h;exact Xx (pO I hN hi hx r (fun s' I'=>⟨_,H,I',h⟩) hf)
def F0:Nx:=fun vs σ H Q=>vs=[]/\Q σ H
def DW(t:TG)(u:Nx):Nx:=fun vs σ H Q=>∃v r,vs=v::r/\t v σ H fun σ' H'=>u r σ' H' Q
theorem yN:NU X [] F0:=by
 intro pr s σ H vs us Q I r h;obtain⟨e,h⟩:=h;subst e;cases r;exact assignInOrder_nil ⟨σ,H,I,h⟩
theorem wo{e:Expr}{es:List Expr}{t:TG}{u:Nx}(h1:PG X e t)(h2:NU X es u)
  (hs:(assignEach (e::es) X.env).map (·.2)=assign e X.env::(assignEach es X.env).map (·.2):=by rfl):NU X (e::es) (DW t u):=by
 intro pr s σ H vs us Q I r h;obtain⟨v,vr,e1,h⟩:=h;subst e1;cases r with
 |cons r rr=>
  rw[hs];refine assignInOrder_cons (Hl (h1 pr s σ H _ _ _ I r h) fun _ s1 Hm=>?_);obtain⟨σ1,H1,I1,q1⟩:=Hm;exact h2 pr s1 σ1 H1 _ _ Q I1 rr q1
def F3(K:W.Frag)(n:Nat)(t:Nx):TG:=fun v σ H Q=>∃a xs,v=.ref a/\SqT K H a xs/\xs.length=n/\t xs σ H Q
theorem Bc{es:List Expr}{k:Nat}{t:Nx}{n:Nat}(hc:X.calm=true)(h:NU X es t)
  (hn:(assignEach es X.env).length=n:=by rfl) (NV:(assignEach es X.env).findIdx? (·.1)=none:=by rfl):PG X (.Tuple es k pos) (F3 X.K n t):=by
 intro pr s σ H v u Q I r hw;obtain⟨a,xs,e1,hq,hl,hw⟩:=hw;subst e1;cases r;obtain⟨GX,rv,ht,hz⟩:=I.tuple hq;refine assign_Tuple_tuple (I.ok.hd hc) ht (by simp[hn,<-hl,rv.length]) NV fun h' hx=>?_
 have I1:Inv X pr σ H {s with heap:=h'}:=I.kept (t':=s.toks) fun b o e=>hx b o (TK (Tz e)) e
 exact h pr _ σ H xs _ Q I1 (by simpa using rv) hw
def F4(te:TE)(g:TG):TS:=fun D σ H=>te σ H fun x H1=>g x σ H1 D.nx
theorem Bd{i:Nat}{x:Str}{e:Expr}{te:TE}{pos':Pos}(hN:X.N.Nodup)(hi:X.N[i]?=some x)(hx:Loc X.env.scope x)(he:PE X e te)(hs:swapsWith e (some (.Name x pos')) pos.line X.env=pure false:=by rfl)(hf:X.fn x=true\/X.env.scope.names.lookup x=some .local:=by first|exact .inl rfl|exact .inr rfl|assumption):
  PS X (.Assign [.Name x pos'] e pos) (F4 te (Bb i)):=by
 intro pr s σ H D I h;refine wpAny_Assign_Name (Hl (he pr s σ H _ I h) fun v s1 ⟨y,H1,I1,r1,q1⟩=>?_) hs;exact pO I1 hN hi hx r1 (fun s2 I2=>⟨_,H1,I2,q1⟩) hf
end
section
variable{X:Cx}{pos:Pos}
def Be(c:TT)(tb:TS):TS:=fun D σ H=>∃W:Nat->St->Hp->Prop,(∃m,W m σ H)/\∀m σ H,W m σ H->
 c σ H fun b H1=>if b=true then ∃N:St->Hp->Prop,(∀σ' H',N σ' H'->∃m',m'<m/\W m' σ' H')/\tb {D with nx:=N,ct:=N,bk:=D.nx} σ H1 else D.nx σ H1
theorem wq{c:Expr}{body:List Stmt}{tc:TT}{tb:TS}(hp:PassesOwn (model X.prog X.w) X.A X.env X.xe)(hc:PT X c tc)(hb:PSs X body tb):PS X (.While c body [] pos) (Be tc tb):=by
 intro pr s σ H D I h;obtain⟨W,⟨m0,w0⟩,turn⟩:=h;refine wpAny_While (codeAny_whileLoop (fun n s'=>∃σ' H',Inv X pr σ' H' s'/\W n σ' H') ?_ m0 ⟨σ,H,I,w0⟩);rintro n s1 ⟨σ1,H1,I1,w1⟩;refine VP hp (Hl (hc pr s1 σ1 H1 _ I1 (turn n σ1 H1 w1)) fun b s2 Hm=>?_);obtain⟨H2,I2,q2⟩:=Hm;cases b with
 |true=>
  obtain⟨N,hN,q2⟩:=q2;rw[Tw rfl];refine VP hp (Hl (hb pr s2 σ1 H2 _ I2 q2) fun f s3 q3=>?_);cases f with
  |next=>
   obtain⟨σ3,H3,I3,n3⟩:=q3;obtain⟨m',hm,w3⟩:=hN σ3 H3 n3;exact⟨m',hm,σ3,H3,I3,w3⟩
  |cont=>
   obtain⟨σ3,H3,I3,n3⟩:=q3;obtain⟨m',hm,w3⟩:=hN σ3 H3 n3;exact⟨m',hm,σ3,H3,I3,w3⟩
  |brk=>exact q3
  |ret v=>exact q3
 |false=>
  rw[TC TB];exact Xa ⟨σ1,H2,I2,q2⟩
end
structure It where
 go:Nat->Hp->Prop
 yld:Nat->Hp->V->Hp->Prop
 stop:Nat->Hp->Prop
def mM(X:Cx)(pr:List (Addr×Obj))(H:Hp)(b:Addr):Prop:=
 H b=none/\b≠X.env.locals/\b∉X.fs/\(b∈X.ex\/X.s₀.heap.objs.size<=b)/\(∀x c,X.env.cells.lookup x=some c->c≠b)/\∀p∈X.pn++pr,p.1≠b
theorem Inv.fpOk{X:Cx}{pr:List (Addr×Obj)}{σ:St}{H H':Hp}{s:Shared}{b:Addr}(I:Inv X pr σ H s)(hb:s.heap.objs.size<=b)(hn:H' b=none):mM X pr H' b:=by
 refine⟨hn,WM (Ts I.lt hb),I.nofs hb,.inr (T2 I.sz hb),fun x c e z=>?_,fun p hp z=>?_⟩
 ·obtain⟨v,q⟩:=I.cell x c e;exact absurd (Ts q.lt (by rw[z];exact hb)) (U0 _)
 ·exact absurd (Ts (Tz (I.pin p hp).1) (by rw[z];exact hb)) (U0 _)
structure Turn(P:Program)(w:World)(K:W.Frag)(tg:Expr)(J:It)(fp:List Addr)(it:Addr)(tn:Nat->Heap->Prop):Prop where
 mem:it∈fp
 obj:∀i h,tn i h->∀b∈fp,∃o,h.get? b=some o/\∀v,o.data≠.cell v
 keep:∀i h h',tn i h->(∀b∈fp,∀o,h.get? b=some o->h'.get? b=some o)->tn i h'
 item:∀(X:Cx),X.prog=P->X.w=w->X.K=K->X.calm=true->∀(i:Nat) (pr:List (Addr×Obj)) (s:Shared) (σ:St) (H:Hp) (E:Value->Shared->Prop),Inv X pr σ H s->(∀b∈fp,mM X pr H b)->tn i s.heap->J.go i H->
  wpAny (model P w) X.A (pyNext (.ref it)) (fun r s1=>∃u,r=some u/\
   wpAny (model P w) X.A (letOwnedTupleGo tg (.ref it) u) (fun _ s2=>∃x H',Inv X pr σ H' s2/\RelV x u/\J.yld i H x H'/\tn (i+1) s2.heap/\∀b∈fp,H' b=none) E s1) E s
 done:∀(X:Cx),X.prog=P->X.w=w->X.K=K->X.calm=true->∀(i:Nat) (pr:List (Addr×Obj)) (s:Shared) (σ:St) (H:Hp) (E:Value->Shared->Prop),Inv X pr σ H s->(∀b∈fp,mM X pr H b)->tn i s.heap->J.stop i H->
  wpAny (model P w) X.A (pyNext (.ref it)) (fun r s1=>r=none/\Inv X pr σ H s1) E s
 self:∀(A:Around) (i:Nat) (s:Shared) (Q:Value->Shared->Prop) (E:Value->Shared->Prop),tn i s.heap->Q (.ref it) s->wpAny (model P w) A (pyIter (.ref it)) Q E s
abbrev TI:=St->Hp->(It->Hp->Prop)->Prop
def Sj(X:Cx)(pr:List (Addr×Obj))(σ:St)(tg:Expr)(R:It->Hp->Prop)(Pc:Value)(s2:Shared):Prop:=
 ∃(it:Addr) (fp:List Addr) (tn:Nat->Heap->Prop) (J:It) (H':Hp),Pc=.ref it/\Inv X pr σ H' s2/\Turn X.prog X.w X.K tg J fp it tn/\tn 0 s2.heap/\(∀b∈fp,mM X pr H' b)/\R J H'
def PI(X:Cx)(tg iter:Expr)(wi:TI):Prop:=
 ∀(pr:List (Addr×Obj)) (s:Shared) (σ:St) (H:Hp) (R:It->Hp->Prop),Inv X pr σ H s->wi σ H R->
  wpAny (model X.prog X.w) X.A (eval iter X.env) (fun v s1=>wpAny (model X.prog X.w) X.A (pyIter v) (Sj X pr σ tg R) X.xe s1) X.xe s
theorem sv {M : Model} {A : Around} {E : Value -> Shared -> Prop} {s : Shared} {tg : Expr} {it : Addr} {u : Value} {o : Obj} {n : String} {vs : Array Value} {Q : Unit -> Shared -> Prop} (ho : s.heap.get? it = some o) (hc : o.cls = .type n) (hd : o.data = .fields vs)
    (hn : ["enumerate", "zip", "dict_itemiterator", "dict_reverseitemiterator", "odict_iterator", "itertools.zip_longest", "itertools.pairwise"].contains n = false) (hQ : Q () s) : wpAny M A (letOwnedTupleGo tg (.ref it) u) Q E s := by
  unfold letOwnedTupleGo
  cases tg <;> first
    | exact Tv hQ
    | (cases u <;> first
        | exact Tv hQ
        | (refine Ti (wpAny_load ho ?_)
           rw [hc, hd]
           show wpAny M A (if (["enumerate", "zip", "dict_itemiterator", "dict_reverseitemiterator", "odict_iterator", "itertools.zip_longest", "itertools.pairwise"].contains n && vs[0]? == some (rawInt _)) = true then _ else _) Q E s
           rw [TC (by intro h; rw [hn, Yr] at h; cases h)]
           exact Tv hQ))
def Pd(K:W.Frag)(a:Addr):It:=
 ⟨fun i H=>∃xs x,SqL K H a xs/\xs[i]?=some x,fun i H x H'=>H'=H/\∀xs,SqL K H a xs->xs[i]?=some x,fun i H=>∃xs,SqL K H a xs/\xs.length<=i⟩
def Rg(K:W.Frag)(a:Addr):It:=
 ⟨fun i H=>∃xs x,SqT K H a xs/\xs[i]?=some x,fun i H x H'=>H'=H/\∀xs,SqT K H a xs->xs[i]?=some x,fun i H=>∃xs,SqT K H a xs/\xs.length<=i⟩
def QK(lo:Int)(n:Nat):It:=⟨fun i _=>i<n,fun i H x H'=>H'=H/\x=.int (lo+i),fun i _=>n<=i⟩
theorem sx{P:Program}{w:World}{K:W.Frag}{tg:Expr}(a it:Addr):Turn P w K tg (Pd K a) [it] it (fun i h=>h.IsListIter it a i) where
 mem:=by simp
 obj:=fun i h st b hb=>by
  have e:b=it:=by simpa using hb
  subst e;obtain⟨o,e,c,d⟩:=st;exact⟨o,e,fun v z=>by rw[d]at z;cases z⟩
 keep:=fun i h h' st k=>st.at fun o e=>k it (by simp) o e
 item:=by
  intro X hP hw hK hc i pr s σ H E I hf st hg;subst hP hw hK;obtain⟨xs,x,hq,hx⟩:=hg;obtain⟨GX,rv,p,hz⟩:=I.list hq;obtain⟨u,hu,ru⟩:=rv.get hx;obtain⟨f0,f1,f2,f3,f4,f5⟩:=hf it (by simp);refine wpAny_pyNext_list_item st p.isList (x:=u) (by simpa using hu) fun h' Kd sb=>?_
  have I1:Inv X pr σ H {s with heap:=h'}:=I.turned (t':=s.toks) (fun b o hb e=>(sb.2 b hb).trans e) f0 f1 f3 f4 f5;obtain⟨o,e,c,d⟩:=id Kd;exact⟨u,rfl,sv (s:={s with heap:=h'}) e c d (by decide) ⟨x,H,I1,ru,⟨rfl,fun ys hy=>by rw[I.list_inj hy hq];exact hx⟩,Kd,fun b hb=>(hf b hb).1⟩⟩
 done:=by
  intro X hP hw hK hc i pr s σ H E I hf st hg;subst hP hw hK;obtain⟨xs,hq,hx⟩:=hg;obtain⟨GX,rv,p,hz⟩:=I.list hq;obtain⟨f0,f1,f2,f3,f4,f5⟩:=hf it (by simp);have hl:=rv.length;exact wpAny_pyNext_list_end (I.ok.hd hc) st p.isList (by simp;lia) fun h' eb=>⟨rfl,I.turned (t':=s.toks) (fun b o hb e=>eb b o hb e) f0 f1 f3 f4 f5⟩
 self:=fun _ _ _ _ _ st h=>wpAny_pyIter_listiter st h
theorem qX{P:Program}{w:World}{K:W.Frag}{tg:Expr}(a it:Addr):Turn P w K tg (Rg K a) [it] it (fun i h=>h.IsTupleIter it a i) where
 mem:=by simp
 obj:=fun i h st b hb=>by
  have e:b=it:=by simpa using hb
  subst e;obtain⟨o,e,c,d⟩:=st;exact⟨o,e,fun v z=>by rw[d]at z;cases z⟩
 keep:=fun i h h' st k=>st.at fun o e=>k it (by simp) o e
 item:=by
  intro X hP hw hK hc i pr s σ H E I hf st hg;subst hP hw hK;obtain⟨xs,x,hq,hx⟩:=hg;obtain⟨GX,rv,p,hz⟩:=I.tuple hq;obtain⟨u,hu,ru⟩:=rv.get hx;obtain⟨f0,f1,f2,f3,f4,f5⟩:=hf it (by simp);refine wpAny_pyNext_tuple_item st (show s.heap.IsTuple a GX.toArray from p) (x:=u) (by simpa using hu) fun h' Kd sb=>?_
  have I1:Inv X pr σ H {s with heap:=h'}:=I.turned (t':=s.toks) (fun b o hb e=>(sb.2 b hb).trans e) f0 f1 f3 f4 f5;obtain⟨o,e,c,d⟩:=id Kd;exact⟨u,rfl,sv (s:={s with heap:=h'}) e c d (by decide) ⟨x,H,I1,ru,⟨rfl,fun ys hy=>by rw[I.tuple_inj hy hq];exact hx⟩,Kd,fun b hb=>(hf b hb).1⟩⟩
 done:=by
  intro X hP hw hK hc i pr s σ H E I hf st hg;subst hP hw hK;obtain⟨xs,hq,hx⟩:=hg;obtain⟨GX,rv,p,hz⟩:=I.tuple hq;obtain⟨f0,f1,f2,f3,f4,f5⟩:=hf it (by simp);have hl:=rv.length;exact wpAny_pyNext_tuple_end (I.ok.hd hc) st (show s.heap.IsTuple a GX.toArray from p) (by simp;lia) fun h' eb=>⟨rfl,I.turned (t':=s.toks) (fun b o hb e=>eb b o hb e) f0 f1 f3 f4 f5⟩
 self:=fun _ _ _ _ _ st h=>wpAny_pyIter_tupleiter st h
theorem qY{P:Program}{w:World}{K:W.Frag}{tg:Expr}(it:Addr)(lo:Int)(n:Nat):Turn P w K tg (QK lo n) [it] it (fun i h=>IsRangeIter h it (lo+(i:Nat)*1) ((n:Int)-(i:Nat)) 1) where
 mem:=by simp
 obj:=fun i h st b hb=>by
  have e:b=it:=by simpa using hb
  subst e;exact⟨_,st,fun v z=>by
   have z':Data.fields _=Data.cell v:=z;cases z'⟩
 keep:=fun i h h' st k=>k it (by simp) _ st
 item:=by
  intro X hP hw hK hc i pr s σ H E I hf st hg;subst hP hw hK;obtain⟨f0,f1,f2,f3,f4,f5⟩:=hf it (by simp);have W:=Walks.range (prog:=X.prog) (w:=X.w) (I.ok.hd hc) it lo 1 n;refine W.item i s _ _ hg st fun v h' tk hv Kd kk=>?_
  obtain⟨t,rfl⟩:=hv;have I1:Inv X pr σ H {s with heap:=h',toks:=tk}:=I.turned (fun b o hb e=>kk b o (by simpa using hb) e) f0 f1 f3 f4 f5;refine⟨_,rfl,sv (s:={s with heap:=h',toks:=tk}) (n:="range_iterator") Kd rfl rfl (by decide) ⟨.int (lo+i),H,I1,⟨t,?_⟩,⟨rfl,rfl⟩,Kd,fun b hb=>(hf b hb).1⟩⟩;rw[Int.mul_one]
 done:=by
  intro X hP hw hK hc i pr s σ H E I hf st hg;subst hP hw hK;obtain⟨f0,f1,f2,f3,f4,f5⟩:=hf it (by simp);exact wpAny_pyNext_range_end (I.ok.hd hc) st (by have:n<=i:=hg;lia) fun h' eb=>⟨rfl,I.turned (t':=s.toks) (fun b o hb e=>eb b o hb e) f0 f1 f3 f4 f5⟩
 self:=fun _ _ _ _ _ st h=>wpAny_pyIter_rangeiter st h
section
variable{X:Cx}{tg:Expr}
def DX(K:W.Frag)(tl:TE):TI:=fun σ H R=>tl σ H fun x H1=>∃a,x=.ref a/\(∃xs,SqL K H1 a xs)/\R (Pd K a) H1
def F5(K:W.Frag)(tl:TE):TI:=fun σ H R=>tl σ H fun x H1=>∃a,x=.ref a/\(∃xs,SqT K H1 a xs)/\R (Rg K a) H1
theorem sy{l:Expr}{tl:TE}(hl:PE X l tl):PI X tg l (DX X.K tl):=by
 intro pr s σ H R I h;refine Hl (hl pr s σ H _ I h) fun v s1 Hm=>?_
 obtain⟨x,H1,I1,r1,q1⟩:=Hm;obtain⟨a,e,⟨xs,hq⟩,q⟩:=q1;subst e;cases r1;obtain⟨GX,rv,p,hz⟩:=I1.list hq;refine Va p.isList ?_;refine⟨s1.heap.objs.size,[s1.heap.objs.size],_,_,H1,rfl,I1.kept (t':=s1.toks) fun b o e=>Tj _ e,sx a _,⟨_,TJ _ rfl,rfl,rfl⟩,fun b hb=>?_,q⟩;have e:b=s1.heap.objs.size:=by simpa using hb
 subst e;exact I1.fpOk (Tn _) (I1.hok.fresh (Tn _))
theorem Bf{l:Expr}{tl:TE}(hl:PE X l tl):PI X tg l (F5 X.K tl):=by
 intro pr s σ H R I h;refine Hl (hl pr s σ H _ I h) fun v s1 Hm=>?_
 obtain⟨x,H1,I1,r1,q1⟩:=Hm;obtain⟨a,e,⟨xs,hq⟩,q⟩:=q1;subst e;cases r1;obtain⟨GX,rv,p,hz⟩:=I1.tuple hq;refine U5 (show s1.heap.IsTuple a GX.toArray from p) ?_;refine⟨s1.heap.objs.size,[s1.heap.objs.size],_,_,H1,rfl,I1.kept (t':=s1.toks) fun b o e=>Tj _ e,qX a _,⟨_,TJ _ rfl,rfl,rfl⟩,fun b hb=>?_,q⟩;have e:b=s1.heap.objs.size:=by simpa using hb
 subst e;exact I1.fpOk (Tn _) (I1.hok.fresh (Tn _))
theorem wt{pr:List (Addr×Obj)}{σ:St}{H:Hp}{s:Shared}{R:It->Hp->Prop}{E:Value->Shared->Prop}{lo hi:Int}{t u v:Tok}{tk:Nat}(I:Inv X pr σ H s)(h1:-(2 ^ 62)<=lo)(h2:lo<2 ^ 62)(h3:-(2 ^ 62)<=hi)(h4:hi<2 ^ 62)
  (q:R (QK lo (hi-lo).toNat) H):wpAny (model X.prog X.w) X.A (pyIter (.ref s.heap.objs.size)) (Sj X pr σ tg R) E {s with heap:=s.heap.push {cls:=.type "range",data:=.fields #[.int lo t,.int hi u,.int 1 v]},toks:=tk}:=by
 refine wpAny_pyIter_range (IsRange.new ..) (small_one h1 h2 h3 h4) ?_;have I1:Inv X pr σ H {s with heap:=s.heap.push {cls:=.type "range",data:=.fields #[.int lo t,.int hi u,.int 1 v]},toks:=tk}:=I.kept fun b o e=>Tj _ e
 refine⟨(s.heap.push {cls:=.type "range",data:=.fields #[.int lo t,.int hi u,.int 1 v]}).objs.size,[(s.heap.push {cls:=.type "range",data:=.fields #[.int lo t,.int hi u,.int 1 v]}).objs.size],_,_,H,rfl,
  I1.kept (t':=tk) fun b o e=>Tj _ e,qY _ lo (hi-lo).toNat,?_,fun b hb=>?_,q⟩
 ·have e1:lo+((0:Nat):Int)*1=lo:=by simp
  have e2:(((hi-lo).toNat:Nat):Int)-((0:Nat):Int)=Builtin.Range.rangeSize lo hi 1:=by rw[rangeSize_one];split <;> lia
  show IsRangeIter _ _ (lo+((0:Nat):Int)*1) ((((hi-lo).toNat:Nat):Int)-((0:Nat):Int)) 1;rw[e1,e2];exact TJ _ rfl
 ·have e:b=(s.heap.push {cls:=.type "range",data:=.fields #[.int lo t,.int hi u,.int 1 v]}).objs.size:=by simpa using hb
  subst e;exact I1.fpOk (Tn _) (I1.hok.fresh (Tn _))
def DY(ta:TA):TI:=fun σ H R=>ta σ H fun vs H1=>∃j:Int,vs=[.int j]/\-(2 ^ 62)<=j/\j<2 ^ 62/\R (QK 0 j.toNat) H1
theorem sH{a:Expr}{ta:TA}{p pos:Pos}(hg:Gl X "range")(hm:X.mg "range" = none)(ha:PA X [a] ta)(hs:starEach [a] X.env=[(false,eval a X.env)]:=by rfl):PI X tg (.Call (.Name "range" p) [a] [] pos) (DY ta):=by
 intro pr s σ H R I h;refine Call_ (kK I hg hm boot_range (Vu (Hl (ha pos pr s σ H _ I h) fun us s1 ⟨vs,H1,I1,r1,q1⟩=>?_) hs rfl));obtain⟨j,e,q1,q2,q⟩:=q1;subst e;cases r1 with
 |cons r rr=>
  cases rr;obtain⟨t,rfl⟩:=r;exact call_range_1 (wt I1 (by lia) (by lia) q1 q2 (by simpa using q))
noncomputable def F6(wi:TI)(g:TG)(tb:TS):TS:=fun D σ H=>wi σ H fun J H1=>∃W:Nat->Nat->St->Hp->Prop,(∃m,W 0 m σ H1)/\∀i m σ H,W i m σ H->
 (J.stop i H/\D.nx σ H)\/(J.go i H/\∃N:St->Hp->Prop,(∀σ' H',N σ' H'->∃m',m'<m/\W (i+1) m' σ' H')/\∀x H',J.yld i H x H'->g x σ H' fun σ2 H2=>tb {D with nx:=N,ct:=N,bk:=D.nx} σ2 H2)
def kM(fp:List Addr)(h:Heap):List (Addr×Obj):=fp.filterMap fun b=>(h.get? b).map fun o=>(b,o)
theorem dg{fp:List Addr}{h:Heap}{b:Addr}{o:Obj}(hb:b∈fp)(e:h.get? b=some o):(b,o)∈kM fp h:=YI.mpr ⟨b,hb,by rw[e];rfl⟩
theorem sI{fp:List Addr}{h:Heap}{p:Addr×Obj}(hp:p∈kM fp h):p.1∈fp/\h.get? p.1=some p.2:=by
 obtain⟨b,hb,e⟩:=YI.mp hp;cases q:h.get? b with
 |none=>rw[q]at e;cases e
 |some o=>
  rw[q]at e;have e':(b,o)=p:=T6 e;subst e';exact⟨hb,q⟩
theorem Inv.pinned{pr:List (Addr×Obj)}{σ:St}{H:Hp}{s:Shared}{fp:List Addr}(I:Inv X pr σ H s)(hf:∀b∈fp,mM X pr H b)(ho:∀b∈fp,∃o,s.heap.get? b=some o/\∀v,o.data≠.cell v):Inv X (pr++kM fp s.heap) σ H s:=
 I.pins_of fun p hp=>(T3.mp hp).elim (fun z=>I.pin p (Tp _ z)) fun z=>by
  obtain⟨hb,e⟩:=sI z;obtain⟨f0,f1,f2,_⟩:=hf p.1 hb;obtain⟨o,e',d⟩:=ho p.1 hb;rw[e]at e';cases e';exact⟨e,f0,f1,f2,d⟩
theorem Inv.unpinned{pr pl:List (Addr×Obj)}{σ:St}{H:Hp}{s:Shared}(I:Inv X (pr++pl) σ H s):Inv X pr σ H s:=I.pins_of fun p hp=>I.pin p (Tp _ (Tx _ hp))
theorem sJ{iter:Expr}{body:List Stmt}{wi:TI}{g:TG}{tb:TS}{pos:Pos}(hp:PassesOwn (model X.prog X.w) X.A X.env X.xe)(hc:X.calm=true)(hi:PI X tg iter wi)(hg:PG X tg g)(hb:PSs X body tb)
  (hs:∀x,foldedSetIterable iter X.env x=pure x:=by intro _;rfl):PS X (.For tg iter body [] pos) (F6 wi g tb):=by
 intro pr s σ H D I h;refine wpAny_For (Hl (hi pr s σ H _ I h) fun v s1 h1=>Hl h1 fun Pc s2 h2=>?_) hs;obtain⟨it,fp,tn,J,H2,e,I2,T,G9,f2,W,⟨m0,w0⟩,turn⟩:=h2;subst e;have JF:∀{H':Hp},(∀b∈fp,H' b=none)->∀b∈fp,mM X pr H' b:=fun hn b hb=>⟨hn b hb,(f2 b hb).2⟩
 refine codeAny_forLoop_any (fun n s'=>∃i σ' H',Inv X pr σ' H' s'/\tn i s'.heap/\(∀b∈fp,H' b=none)/\W i n σ' H') ?_ m0 ⟨0,σ,H2,I2,G9,fun b hb=>(f2 b hb).1,w0⟩;rintro n s3 ⟨i,σ3,H3,I3,Hx,Ny,w3⟩;rcases turn i n σ3 H3 w3 with⟨stop,qn⟩|⟨go,N,hN,step⟩
 ·refine VP hp (Hl (T.done X rfl rfl rfl hc i pr s3 σ3 H3 X.xe I3 (JF Ny) Hx stop) fun r s4 Hm=>?_);obtain⟨hr,I4⟩:=Hm;subst hr;exact Xa ⟨σ3,H3,I4,qn⟩
 ·refine VP hp (Hl (T.item X rfl rfl rfl hc i pr s3 σ3 H3 X.xe I3 (JF Ny) Hx go) fun r s4 Hm=>?_);obtain⟨u,hr,h4⟩:=Hm;subst hr;refine VP hp (Hl h4 fun _ s5 Hm=>?_);obtain⟨x,H5,I5,r5,y5,Ja,PD⟩:=Hm;have PF:=I5.pinned (JF PD) (T.obj _ _ Ja);refine VP hp (Hl (hg _ s5 σ3 H5 x u _ PF r5 (step x H5 y5)) fun _ s6 Hm=>?_);obtain⟨σ6,H6,I6,q6⟩:=Hm;refine VP hp (Hl (hb _ s6 σ6 H6 _ I6 q6) fun f s7 q7=>?_);have again:∀{σ7:St}{H7:Hp},Inv X (pr++kM fp s5.heap) σ7 H7 s7->N σ7 H7->∃m,m<n/\∃i σ' H',Inv X pr σ' H' s7/\tn i s7.heap/\(∀b∈fp,H' b=none)/\W i m σ' H':=fun{σ7 H7} I7 n7=>by
   obtain⟨m',hm,w7⟩:=hN σ7 H7 n7;refine⟨m',hm,i+1,σ7,H7,I7.unpinned,T.keep _ _ _ Ja fun b hb o e=>(I7.pin (b,o) (Tp _ (Tp _ (dg hb e)))).1,fun b hb=>?_,w7⟩;obtain⟨o,e,d⟩:=T.obj _ _ Ja b hb;exact(I7.pin (b,o) (Tp _ (Tp _ (dg hb e)))).2.1
  cases f with
  |next=>obtain⟨σ7,H7,I7,n7⟩:=q7;exact again I7 n7
  |cont=>obtain⟨σ7,H7,I7,n7⟩:=q7;exact again I7 n7
  |brk=>obtain⟨σ7,H7,I7,q7⟩:=q7;exact⟨σ7,H7,I7.unpinned,q7⟩
  |ret v=>obtain⟨x7,σ7,H7,I7,r7,q7⟩:=q7;exact⟨x7,σ7,H7,I7.unpinned,r7,q7⟩
end
theorem for_list{K:W.Frag}{a:Addr}{xs:List V}{g:TG}{tb:TS}{D:Ends}{σ:St}{H:Hp}(Pv:Nat->St->Hp->Prop)(h0:Pv 0 σ H)(hl:∀i σ H,i<=xs.length->Pv i σ H->SqL K H a xs)
  (hs:∀i x σ H,xs[i]?=some x->Pv i σ H->g x σ H fun σ2 H2=>tb {D with nx:=Pv (i+1),ct:=Pv (i+1),bk:=D.nx} σ2 H2) (hd:∀σ H,Pv xs.length σ H->D.nx σ H):
  ∃W:Nat->Nat->St->Hp->Prop,(∃m,W 0 m σ H)/\∀i m σ H,W i m σ H->
   ((Pd K a).stop i H/\D.nx σ H)\/((Pd K a).go i H/\∃N:St->Hp->Prop,(∀σ' H',N σ' H'->∃m',m'<m/\W (i+1) m' σ' H')/\∀x H',(Pd K a).yld i H x H'->g x σ H' fun σ2 H2=>tb {D with nx:=N,ct:=N,bk:=D.nx} σ2 H2):=by
 refine⟨fun i m σ H=>m=xs.length-i/\i<=xs.length/\Pv i σ H,⟨xs.length,by simp,Um _,h0⟩,?_⟩;rintro i m σ H ⟨rfl,hi,p⟩;have q:=hl i σ H hi p;by_cases Hr:i<xs.length
 ·refine .inr ⟨⟨xs,xs[i],q,by simp[Hr]⟩,Pv (i+1),fun σ' H' p'=>⟨xs.length-(i+1),by lia,rfl,Hr,p'⟩,fun x H' y=>?_⟩;obtain⟨e,y⟩:=y;subst e;exact hs i x σ _ (y xs q) p
 ·have e:i=xs.length:=by lia
  subst e;exact .inl ⟨⟨xs,q,Tn _⟩,hd σ H p⟩
abbrev R2:=V->V->Hp->VK->Prop
def HI(X:Cx)(f:Value->Value->Sem Value)(r:R2):Prop:=
 ∀(pr:List (Addr×Obj)) (s:Shared) (σ:St) (H:Hp) (x y:V) (v u:Value) (Q:VK),Inv X pr σ H s->RelV x v->RelV y u->r x y H Q->
  wpAny (model X.prog X.w) X.A (f v u) (EP X pr σ Q) X.xe s
def Rh(X:Cx)(f:Value->Sem Value)(r:V->Hp->VK->Prop):Prop:=
 ∀(pr:List (Addr×Obj)) (s:Shared) (σ:St) (H:Hp) (x:V) (v:Value) (Q:VK),Inv X pr σ H s->RelV x v->r x H Q->
  wpAny (model X.prog X.w) X.A (f v) (EP X pr σ Q) X.xe s
def dC(X:Cx)(f:Value)(r:List V->Hp->VK->Prop):Prop:=
 ∀(pr:List (Addr×Obj)) (s:Shared) (σ:St) (H:Hp) (xs:List V) (us:List Value) (Q:VK),Inv X pr σ H s->Vals xs us->r xs H Q->
  wpAny (model X.prog X.w) X.A (call f us) (EP X pr σ Q) X.xe s
def Pe(r:R2)(ta tb:TE):TE:=fun σ H Q=>ta σ H fun x H1=>tb σ H1 fun y H2=>r x y H2 Q
def tUn(r:V->Hp->VK->Prop)(ta:TE):TE:=fun σ H Q=>ta σ H fun x H1=>r x H1 Q
def rI(C:Int->Int->Prop)(g:Int->Int->V):R2:=fun x y H Q=>∃i j,x=.int i/\y=.int j/\C i j/\Q (g i j) H
def Pf(g:Int->Int->V):R2:=fun x y H Q=>∃i j,x=.int i/\y=.int j/\Q (g i j) H
def rU(g:Int->V):V->Hp->VK->Prop:=fun x H Q=>∃i,x=.int i/\Q (g i) H
section
variable{X:Cx}{a b c:Expr}{ta tb tc:TE}{pos:Pos}
theorem DZ(ha:PE X a ta)(hb:PE X b tb){pr:List (Addr×Obj)}{s:Shared}{σ:St}{H:Hp}{R:V->V->Hp->Prop}(I:Inv X pr σ H s)
  (h:ta σ H fun x H1=>tb σ H1 fun y H2=>R x y H2) {Q:Value->Shared->Prop}{f:Value->Value->Sem Value}
  (hf:∀v u s2 x y H2,Inv X pr σ H2 s2->RelV x v->RelV y u->R x y H2->wpAny (model X.prog X.w) X.A (f v u) Q X.xe s2):
  wpAny (model X.prog X.w) X.A (eval a X.env) (fun v s₁=>wpAny (model X.prog X.w) X.A (eval b X.env) (fun u s₂=>wpAny (model X.prog X.w) X.A (f v u) Q X.xe s₂) X.xe s₁) X.xe s:=by
 refine Hl (ha pr s σ H _ I h) fun v s1 Hm=>?_
 obtain⟨x,H1,I1,r1,q1⟩:=Hm;refine Hl (hb pr s1 σ H1 _ I1 q1) fun u s2 Hm=>?_
 obtain⟨y,H2,I2,r2,q2⟩:=Hm;exact hf v u s2 x y H2 I2 r1 r2 q2
theorem D2{op:Operator}{r:R2}(ho:HI X (binaryOp op) r)(ha:PE X a ta)(hb:PE X b tb):PE X (.BinOp a op b pos) (Pe r ta tb):=by
 intro pr s σ H Q I h;exact wpAny_BinOp (DZ ha hb I h fun v u s2 x y H2 I2 rx ry q=>ho pr s2 σ H2 x y v u Q I2 rx ry q)
theorem D3{op:UnaryOp}{r:V->Hp->VK->Prop}(ho:Rh X (unaryOp op) r)(ha:PE X a ta):PE X (.UnaryOp op a pos) (tUn r ta):=by
 intro pr s σ H Q I h;exact UnaryOp_ (Hl (ha pr s σ H _ I h) fun v s1 ⟨x,H1,I1,r1,q1⟩=>ho pr s1 σ H1 x v Q I1 r1 q1)
theorem Nz{f:Value->Value->Sem Value}{C:Int->Int->Prop}{g:Int->Int->Int}
  (rule:∀(i j:Int) (t u:Tok) (s:Shared) (Q:Value->Shared->Prop) (E:Value->Shared->Prop),C i j->Q (.int (g i j) s.toks) {s with toks:=s.toks+1}->wpAny (model X.prog X.w) X.A (f (.int i t) (.int j u)) Q E s):
  HI X f (rI C fun i j=>.int (g i j)):=by
 intro pr s σ H x y v u Q I rx ry h;obtain⟨i,j,rfl,rfl,hc,q⟩:=h;obtain⟨t,rfl⟩:=rx;obtain⟨t',rfl⟩:=ry;exact rule i j t t' s _ _ hc ⟨.int (g i j),H,I.tok _,⟨_,rfl⟩,q⟩
theorem Fp{f:Value->Value->Sem Value}{g:Int->Int->Int}
  (rule:∀(i j:Int) (t u:Tok) (s:Shared) (Q:Value->Shared->Prop) (E:Value->Shared->Prop),Q (.int (g i j) s.toks) {s with toks:=s.toks+1}->wpAny (model X.prog X.w) X.A (f (.int i t) (.int j u)) Q E s):
  HI X f (Pf fun i j=>.int (g i j)):=by
 intro pr s σ H x y v u Q I rx ry h;obtain⟨i,j,rfl,rfl,q⟩:=h;obtain⟨t,rfl⟩:=rx;obtain⟨t',rfl⟩:=ry;exact rule i j t t' s _ _ ⟨.int (g i j),H,I.tok _,⟨_,rfl⟩,q⟩
theorem Fq{f:Value->Value->Sem Value}{g:Int->Int->Bool}
  (rule:∀(i j:Int) (t u:Tok) (s:Shared) (Q:Value->Shared->Prop) (E:Value->Shared->Prop),Q (.bool (g i j)) s->wpAny (model X.prog X.w) X.A (f (.int i t) (.int j u)) Q E s):
  HI X f (Pf fun i j=>.bl (g i j)):=by
 intro pr s σ H x y v u Q I rx ry h;obtain⟨i,j,rfl,rfl,q⟩:=h;obtain⟨t,rfl⟩:=rx;obtain⟨t',rfl⟩:=ry;exact rule i j t t' s _ _ ⟨.bl (g i j),H,I,rfl,q⟩
def F7(i j:Int):Prop:=0<j/\j<1073741824
def F8(i j:Int):Prop:=0<=j/\j<=1000000/\i.natAbs<2 ^ 64
def CMul(i j:Int):Prop:=(-(2 ^ 64)<i/\i<2 ^ 64)\/(-(2 ^ 64)<j/\j<2 ^ 64)
theorem CMul.ok{i j:Int}(h:CMul i j):IntMulOk i j:=by
 rcases h with⟨h1,h2⟩|⟨h1,h2⟩
 ·exact .of_left (intBits_le_64 h1 h2)
 ·exact .of_right (intBits_le_64 h1 h2)
theorem Bh:HI X (binaryOp .Add) (Pf fun i j=>.int (i+j)):=Fp fun _ _ _ _ _ _ _ q=>add_int q
theorem Bi:HI X (binaryOp .Sub) (Pf fun i j=>.int (i-j)):=Fp fun _ _ _ _ _ _ _ q=>sub_int q
theorem Bj:HI X (binaryOp .Mult) (rI CMul fun i j=>.int (i*j)):=Nz fun _ _ _ _ _ _ _ hc q=>mul_int q hc.ok
theorem yO:HI X (binaryOp .FloorDiv) (rI F7 fun i j=>.int (i / j)):=Nz fun i j _ _ _ _ _ hc q=>by
 have h1:(0:Int)<j:=hc.1;have h2:j<1073741824:=hc.2;exact floordiv_int (by lia) (by rw[Int.fdiv_eq_ediv_of_nonneg i (by lia)];exact q) (.inl (PyProof.noPylong_small (by lia)))
theorem Bk:HI X (binaryOp .Mod) (rI (fun _ j=>0<j) fun i j=>.int (i%j)):=Nz fun i j _ _ _ _ _ hc q=>by
 have h1:(0:Int)<j:=hc;exact mod_int' (by lia) (by rw[Int.fmod_eq_emod_of_nonneg i (by lia)];exact q)
theorem yP:HI X (binaryOp .Mod) (rI (fun _ j=>j≠0) fun i j=>.int (i.fmod j)):=Nz fun _ _ _ _ _ _ _ hc q=>mod_int' hc q
theorem Bl:HI X (binaryOp .Pow) (rI F8 fun i j=>.int (i ^ j.toNat)):=Nz fun _ _ _ _ _ _ _ hc q=>pow_int_small hc.1 hc.2.1 hc.2.2 q
theorem unI{f:Value->Sem Value}{g:Int->Int}
  (rule:∀(i:Int) (t:Tok) (s:Shared) (Q:Value->Shared->Prop) (E:Value->Shared->Prop),Q (.int (g i) s.toks) {s with toks:=s.toks+1}->wpAny (model X.prog X.w) X.A (f (.int i t)) Q E s):
  Rh X f (rU fun i=>.int (g i)):=by
 intro pr s σ H x v Q I rx h;obtain⟨i,rfl,q⟩:=h;obtain⟨t,rfl⟩:=rx;exact rule i t s _ _ ⟨.int (g i),H,I.tok _,⟨_,rfl⟩,q⟩
theorem Bm:Rh X (unaryOp .USub) (rU fun i=>.int (-i)):=unI fun _ _ _ _ _ q=>neg_int q
end
section
variable{X:Cx}{a b c:Expr}{ta tb tc:TE}{pos:Pos}
theorem sL{pr:List (Addr×Obj)}{σ:St}{H:Hp}{s:Shared}{Q:VK}{k k':Bool}(I:Inv X pr σ H s)(q:Q (.bl k) H)(e:k=k'):EP X pr σ Q (.bool k') s:=by
 subst e;exact⟨.bl k,H,I,rfl,q⟩
theorem D4:HI X (compareOp .Lt) (Pf fun i j=>.bl (decide (i<j))):=Fq fun _ _ _ _ _ _ _ q=>lt_int q
theorem D5:HI X (compareOp .Gt) (Pf fun i j=>.bl (decide (j<i))):=Fq fun _ _ _ _ _ _ _ q=>gt_int q
theorem sM:HI X (compareOp .Lt) (fun x y H Q=>∃i j,x=.str i/\y=.str j/\Q (.bl (decide (i.cps.toList<j.cps.toList))) H):=by
 intro pr s σ H x y v u Q I rx ry h;obtain⟨i,j,rfl,rfl,q⟩:=h;obtain⟨t,rfl⟩:=rx;obtain⟨t',rfl⟩:=ry;exact lt_str (sL I q rfl)
theorem sN:HI X (compareOp .In) (fun x y H Q=>∃i j,x=.str i/\y=.str j/\Q (.bl (!(Builtin.Str.occurrences j i 0 j.length 1).isEmpty)) H):=by
 intro pr s σ H x y v u Q I rx ry h;obtain⟨i,j,rfl,rfl,q⟩:=h;obtain⟨t,rfl⟩:=rx;obtain⟨t',rfl⟩:=ry;exact in_str (sL I q rfl)
theorem mN:HI X (compareOp .NotIn) (fun x y H Q=>∃i j,x=.str i/\y=.str j/\Q (.bl (!(!(Builtin.Str.occurrences j i 0 j.length 1).isEmpty))) H):=by
 intro pr s σ H x y v u Q I rx ry h;obtain⟨i,j,rfl,rfl,q⟩:=h;obtain⟨t,rfl⟩:=rx;obtain⟨t',rfl⟩:=ry;exact notIn_str (sL I q rfl)
theorem aY(b:Expr){op:CmpOp}(h:op≠.In:=by decide)(h2:op≠.NotIn:=by decide):behindInMarks op b=false:=by
 have e1:(op==CmpOp.In)=false:=by cases op <;> first|rfl|exact absurd rfl h
 have e2:(op==CmpOp.NotIn)=false:=by cases op <;> first|rfl|exact absurd rfl h2
 cases b <;> simp[behindInMarks,e1,e2]
theorem yQ{op:CmpOp}{r:R2}(ho:HI X (compareOp op) r)(ha:PE X a ta)(hb:PE X b tb)(hm:behindInMarks op b=false):PE X (.Compare a [op] [b] pos) (Pe r ta tb):=by
 intro pr s σ H Q I h;exact wpAny_Compare1 (DZ ha hb I h fun v u s2 x y H2 I2 rx ry q=>ho pr s2 σ H2 x y v u Q I2 rx ry q) hm
def D6(t:TE):TT:=fun σ H Q=>t σ H fun x H'=>∃k,x=.bl k/\Q k H'
theorem sO{op:CmpOp}{r:R2}(ho:HI X (compareOp op) r)(ha:PE X a ta)(hb:PE X b tb)(hm:behindInMarks op b=false):PT X (.Compare a [op] [b] pos) (D6 (Pe r ta tb)):=by
 intro pr s σ H Q I h;refine wpAny_isTrue_Compare1 (Hl (ha pr s σ H _ I h) fun v s1 ⟨x,H1,I1,r1,q1⟩=>Hl (hb pr s1 σ H1 _ I1 q1) fun u s2 ⟨y,H2,I2,r2,q2⟩=>
  Hl (ho pr s2 σ H2 x y v u _ I2 r1 r2 q2) fun c s3 ⟨z,H3,I3,r3,k,e,q3⟩=>?_) hm
 subst e;cases r3;exact We ⟨H3,I3,q3⟩
theorem kN:(sizeLine:Nat)<2 ^ 63:=by rw[UE];decide
theorem qZ:HI X (binaryOp .Add) (fun x y H Q=>∃i j,x=.str i/\y=.str j/\i.length+j.length<=sizeLine/\Q (.str (i++j)) H):=by
 intro pr s σ H x y v u Q I rx ry h;obtain⟨i,j,rfl,rfl,hz,q⟩:=h;obtain⟨t,rfl⟩:=rx;obtain⟨t',rfl⟩:=ry;exact add_str (fun t' tk=>⟨.str (i++j),H,I.tok _,⟨_,rfl⟩,q⟩) hz
theorem jy{x:V}{us:List Value}(r:Vals [x] us):∃u,us=[u]/\RelV x u:=by
 cases r with
 |cons r1 r2=>cases r2;exact⟨_,rfl,r1⟩
theorem Bn{x y:V}{us:List Value}(r:Vals [x,y] us):∃u w',us=[u,w']/\RelV x u/\RelV y w':=by
 cases r with
 |cons r1 r2=>
  cases r2 with
  |cons r3 r4=>cases r4;exact⟨_,_,rfl,r1,r3⟩
theorem wu:dC X (.builtin "abs") (fun xs H Q=>∃i,xs=[.int i]/\Q (.int (if i<0 then -i else i)) H):=by
 intro pr s σ H xs us Q I r h;obtain⟨i,rfl,q⟩:=h;obtain⟨u,rfl,t,rfl⟩:=jy r;exact call_abs_int fun u tk=>⟨.int (if i<0 then -i else i),H,I.tok _,⟨_,rfl⟩,q⟩
end
section
variable{prog:Program}{w:World}{A:Around}{E:Value->Shared->Prop}{s:Shared}{K:W.Frag}{x dx C f:Addr}{mA:Str->Option Value}{name:Str}{v:Value}
end
theorem RelO.some_of{v:V}{o:Option Value}(r:RelO (some v) o):∃u,o=some u/\RelV v u:=by
 cases o with
 |none=>exact(show False from r).elim
 |some u=>exact⟨u,rfl,r⟩
theorem RelO.none_of{o:Option Value}(r:RelO none o):o=none:=by
 cases o with
 |none=>rfl
 |some u=>exact(show False from r).elim
section
variable{P:Program}{w:World}{H H':Hp}{h h':Heap}{a C dx:Addr}{fs fs':List (Str×V)}
end
structure Cls(K:W.Frag)(C:Addr):Prop where
 pg:PySem.W.plainGet K C Str.empty=true
 hd:PySem.W.hasDictIn K C=true
 po:PySem.W.plainOver K C=true
 sa:PySem.W.findIn K (.ref C) "__setattr__" = some (some (.builtin "object.__setattr__"))
theorem Cls.get{K:W.Frag}{C:Addr}(c:Cls K C)(f:Str):PySem.W.plainGet K C f=true:=c.pg
section
variable{X:Cx}{pr:List (Addr×Obj)}{σ:St}{H:Hp}{s:Shared}{a C dx:Addr}{fs:List (Str×V)}{f:Str}{v:V}{A:Around}{E:Value->Shared->Prop}
end
def InOp(X:Cx)(op:Operator)(rd:V->V->Hp->VK->Prop):Prop:=
 ∀(pr:List (Addr×Obj)) (s:Shared) (σ:St) (H:Hp) (x y:V) (u v:Value) (Q:VK),Inv X pr σ H s->RelV x u->RelV y v->rd x y H Q->wpAny (model X.prog X.w) X.A (inplaceOp op u v) (EP X pr σ Q) X.xe s
section
variable{X:Cx}{o e value:Expr}{f:Str}{pos pos' NW:Pos}{ta tv:TE}
def F9:V->V->Hp->VK->Prop:=fun x y H Q=>∃i j,x=.int i/\y=.int j/\Q (.int (i+j)) H
theorem in_add:InOp X .Add F9:=by
 rintro pr s σ H x y u v Q I rx ry ⟨i,j,rfl,rfl,q⟩;obtain⟨t,rfl⟩:=(show ∃t,u=Value.int i t from rx)
 obtain⟨t',rfl⟩:=(show ∃t',v=Value.int j t' from ry)
 exact PyProof.Rows.iadd_int ⟨.int (i+j),H,I.tok _,⟨_,rfl⟩,q⟩
end
section
variable{X:Cx}{pr:List (Addr×Obj)}{σ:St}{H:Hp}{s:Shared}{A:Around}{E:Value->Shared->Prop}{Q:Value->Shared->Prop}{c:Value}{b:Bool}
end
structure Room(k:Nat)(A:Around):Prop where
 hd:A.handled=none
 dp:A.depth+3*k+5<recursionLimit
 un:A.units+16*k+200<cLine
theorem Room.mono{j k:Nat}{A:Around}(r:Room k A)(h:j<=k):Room j A:=⟨r.hd,by have:=r.dp;lia,by have:=r.un;lia⟩
theorem Room.m{j k:Nat}{A:Around}(r:Room k A)(h:j<=k:=by decide):Room j A:=r.mono h
theorem Room.deeper{k:Nat}{A:Around}(r:Room (k+1) A)(env:Env):Room k (A.deeper env):=
 ⟨r.hd,by have:=r.dp;show A.depth+1+3*k+5<_;lia,by have:=r.un;show A.units+3+16*k+200<_;lia⟩
theorem Room.depth{k:Nat}{A:Around}(r:Room k A):A.depth<recursionLimit:=by have:=r.dp;lia
theorem Room.units{k:Nat}{A:Around}(r:Room k A):A.units+64<cLine:=by have:=r.un;lia
theorem Room.units0{k:Nat}{A:Around}(r:Room k A):A.units<cLine:=by have:=r.un;lia
def Ga:TA:=fun _ H Q=>Q [] H
def D7(ta:TE)(tr:TA):TA:=fun σ H Q=>ta σ H fun x H1=>tr σ H1 fun xs H2=>Q (x::xs) H2
section
variable{X:Cx}{e:Expr}{es:List Expr}{te:TE}{t:TA}{pos:Pos}
theorem sP:PA X [] Ga:=fun _ _ _ _ H Q I h=>Calls.spliced_nil ⟨[],H,I,.nil,h⟩
theorem ll(ha:PE X e te)(hr:PA X es t)(hs:starEach (e::es) X.env=(false,eval e X.env)::starEach es X.env:=by rfl):PA X (e::es) (D7 te t):=by
 intro pos pr s σ H Q I h;rw[hs];show wpAny _ _ (spliced ((false,eval e X.env)::backTo pos (starEach es X.env))) _ _ s;refine Calls.spliced_cons (Hl (ha pr s σ H _ I h) fun u s1 Hm=>?_);obtain⟨x,H1,I1,r1,q1⟩:=Hm;exact Hl (hr pos pr s1 σ H1 _ I1 q1) fun us s2 ⟨xs,H2,I2,r2,q2⟩=>⟨x::xs,H2,I2,.cons r1 r2,q2⟩
def Gb(t:TA):TE:=fun σ H Q=>t σ H fun xs H1=>xs.length<=sizeLine/\∀p,H1 p=none->Q (.ref p) (upd H1 p (.tup xs))
def Gd(t:TA):TE:=fun σ H Q=>t σ H fun xs H1=>xs.length<=sizeLine/\∀p,H1 p=none->Q (.ref p) (upd H1 p (.lst xs))
theorem Bo{x1}(h:PA X es t):PE X (.Tuple es x1 pos) (Gb t):=by
 intro pr s σ H Q I hq;refine wpAny_Tuple_spliced (Hl (h pos pr s σ H _ I hq) fun us s1 ⟨xs,H1,I1,r,z,q⟩=>⟨by rw[<-r.length];exact z,?_⟩);have hf:H1 s1.heap.objs.size=none:=I1.hok.fresh (Tn _);refine⟨.ref s1.heap.objs.size,upd H1 s1.heap.objs.size (.tup xs),I1.laid (t':=s1.toks) (fun b u e=>Tj _ e) (Tn _) ?_,rfl,q _ hf⟩;exact⟨z,us,r,⟨_,TJ _ rfl,rfl,⟨_,rfl⟩,rfl⟩⟩
theorem Bp(h:PA X es t):PE X (.List es pos) (Gd t):=by
 intro pr s σ H Q I hq;refine wpAny_List_spliced (Hl (h pos pr s σ H _ I hq) fun us s1 ⟨xs,H1,I1,r,z,q⟩=>⟨by rw[<-r.length];exact z,?_⟩);have hf:H1 s1.heap.objs.size=none:=I1.hok.fresh (Tn _);refine⟨.ref s1.heap.objs.size,upd H1 s1.heap.objs.size (.lst xs),I1.laid (t':=s1.toks) (fun b u e=>Tj _ e) (Tn _) ?_,rfl,q _ hf⟩;exact⟨z,us,0,r,TJ _ rfl⟩
end
abbrev Sp:=List V->Hp->VK->XK->Prop
abbrev CXT:=List Env->Hp->Shared->XK->Value->Shared->Prop
structure Env0(P:Program)(w:World)(K:W.Frag)(mg:Str->Option Value)(base:Heap)(A:Around)(outer:List Env)(s:Shared)(H:Hp):Prop where
 frames:A.frames=some outer
 mod:Mod K mg base
 bs:∀b o,base.get? b=some o->s.heap.get? b=some o/\H b=none
 bsz:base.objs.size<=s.heap.objs.size
 funs:s.heap.FunFrames base outer
 frf:∀b∈K0 outer,H b=none
 hok:HOk P w H s.heap
 bare:AllBare s.gens
def CE(outer:List Env)(P:Program)(w:World)(H:Hp)(s:Shared)(Q:VK)(u:Value)(s':Shared):Prop:=
 ∃v H',s'.os=s.os/\AllBare s'.gens/\Un (K0 outer) [] H H' s.heap s'.heap/\HOk P w H' s'.heap/\RelV v u/\Q v H'
def CR(CX:CXT)(outer:List Env)(P:Program)(w:World)(H:Hp)(s:Shared)(Q:VK)(E:XK)(r:Result)(s':Shared):Prop:=
 match r with
 | .ok (.ret u)=>CE outer P w H s Q u s'
 | .ok _=>False
 | .error e=>CX outer H s E e s'
structure FnOk(P:Program)(w:World)(K:W.Frag)(mg:Str->Option Value)(base:Heap)(CX:CXT)(k:Nat)(f:Addr)(fd:FuncData)(ps:List Str)(sp:Sp):Prop where
 len:∀vs H Q E,sp vs H Q E->vs.length=ps.length
 run:∀(A:Around) (outer:List Env) (s:Shared) (H:Hp) (args:Args) (us:List Value) (vs:List V) (Q:VK) (E:XK),Room k A->Env0 P w K mg base A outer s H->BindsTo s fd args (ps.zip us)->Vals vs us->sp vs H Q E->
  codeAny (model P w) A (.call (.ref f) args) (CR CX outer P w H s Q E) s
theorem FnOk.imp{P:Program}{w:World}{K:W.Frag}{mg:Str->Option Value}{base:Heap}{CX:CXT}{k:Nat}{f:Addr}{fd:FuncData}{ps:List Str}{sp Sk:Sp}(F:FnOk P w K mg base CX k f fd ps sp)
  (h:∀vs H Q E,Sk vs H Q E->sp vs H Q E):FnOk P w K mg base CX k f fd ps Sk:=
 ⟨fun vs H Q E q=>F.len vs H Q E (h _ _ _ _ q),fun A outer s H args us vs Q E hr he hb hv hs=>F.run A outer s H args us vs Q E hr he hb hv (h _ _ _ _ hs)⟩
section
variable{X:Cx}{pr:List (Addr×Obj)}{σ:St}{H:Hp}{s s':Shared}
theorem Inv.env0(I:Inv X pr σ H s):Env0 X.prog X.w X.K X.mg X.base X.A X.stack s H:=
 ⟨I.ok.frames,I.ok.mod,I.bs,T2 I.ok.bsz I.sz,I.stack,I.stkFree,I.hok,I.bare⟩
theorem Inv.after{Q:VK}{u:Value}(I:Inv X pr σ H s)(h:CE X.stack X.prog X.w H s Q u s'):EP X pr σ Q u s':=by
 obtain⟨v,H',os,bare,un,hok,r,q⟩:=h;obtain⟨hh,g,d,t,Sl⟩:=s';obtain rfl:Sl=s.os:=os;exact⟨v,H',I.call (h':=hh) (g':=g) (d':=d) (t':=t) (ch:=[]) un hok bare (fun b z=>absurd z (by simp)),r,q⟩
end
def tCall(sp:Sp)(dvs:List V)(E:XK)(t:TA):TE:=fun σ H Q=>t σ H fun vs H1=>sp (vs++dvs) H1 Q E
def Binds(K:W.Frag)(fd:FuncData)(ps:List Str)(ds:List Value):Prop:=
 ∀(s:Shared) (us:List Value),K.In s.heap->(us++ds).length=ps.length->BindsTo s fd ⟨us,[]⟩ (ps.zip (us++ds))
theorem Binds.all{K:W.Frag}{fd:FuncData}{ps:List Str}(h:∀us:List Value,us.length=ps.length->bindArgs fd ⟨us,[]⟩=pure (ps.zip us)):Binds K fd ps []:=fun s us _ hl=>by
 rw[Ui]at hl ⊢;exact .of_eq (h us hl)
def sQ(CX:CXT)(X:Cx)(E:XK):Prop:=∀(pr:List (Addr×Obj)) (σ:St) (H:Hp) (s:Shared) (e:Value) (s':Shared),Inv X pr σ H s->CX X.stack H s E e s'->X.xe e s'
section
variable{X:Cx}{CX:CXT}{k:Nat}{f C:Addr}{fd:FuncData}{ps:List Str}{sp:Sp}{dvs:List V}{ds:List Value}{E:XK}{x m:Str}{p pos apos:Pos}{e o:Expr}{es:List Expr}{ta:TE}{t:TA}
theorem Bq{pr:List (Addr×Obj)}{σ:St}{H:Hp}{s:Shared}{Q:VK}{us:List Value}{vs:List V}(F:FnOk X.prog X.w X.K X.mg X.base CX k f fd ps sp)(hr:Room k X.A)(hb:Binds X.K fd ps ds)(hd:Vals dvs ds)(hx:sQ CX X E)
  (I:Inv X pr σ H s) (r:Vals vs us) (h:sp (vs++dvs) H Q E):wpAny (model X.prog X.w) X.A (call (.ref f) us) (EP X pr σ Q) X.xe s:=by
 have r2:Vals (vs++dvs) (us++ds):=r.append hd;have hl:(us++ds).length=ps.length:=by rw[<-r2.length];exact F.len _ _ _ _ h
 refine wpAny_call (codeAny_mono (F.run X.A X.stack s H ⟨us,[]⟩ (us++ds) (vs++dvs) Q E hr I.env0 (hb s us I.kIn hl) r2 h) fun r s' hq=>?_);cases r with
 |error e=>exact hx pr σ H s e s' I hq
 |ok fl=>
  cases fl with
  |ret u=>exact I.after hq
  |next=>exact False.elim hq
  |brk=>exact False.elim hq
  |cont=>exact False.elim hq
theorem yR(F:FnOk X.prog X.w X.K X.mg X.base CX k f fd ps sp)(hr:Room k X.A)(hg:Gl X x)(hm:X.mg x=some (.ref f))(hk:PySem.W.keepIn X.K (.ref f)=true)(hb:Binds X.K fd ps ds)(hd:Vals dvs ds)(hx:sQ CX X E)
  (ha:PA X (e::es) t) (JG:(x==("__debug__" : Str))=false:=by decide) (he:starEach (e::es) X.env=(false,eval e X.env)::starEach es X.env:=by rfl) (Jb:(backTo pos (starEach es X.env)).any (·.1)=false:=by rfl):
  PE X (.Call (.Name x p) (e::es) [] pos) (tCall sp dvs E t):=by
 intro pr s σ H Q I h;refine V4 (yG I hg hm ?_ JG);refine PySem.W.callWith_K (h₀:=X.base) I.ok.mod.kin hk (Hl (ha pos pr s σ H _ I h) fun us s1 ⟨vs,H1,I1,r,q⟩=>⟨I1.kIn,?_⟩) he Jb;exact Bq F hr hb hd hx I1 r q
end
section
variable{X:Cx}{CX:CXT}{k:Nat}{f C:Addr}{fd:FuncData}{ps ks:List Str}{sp:Sp}{E:XK}{x m:Str}{p pos apos PH:Pos}{e o:Expr}{es:List Expr}{kws:List Keyword}{te ta:TE}{t tk:TA}{nm:Option Str}
variable{g:List Value->List Value->List Value}{gV:List V->List V->List V}
end
structure FnScope(N P:List Str)(sc:Scope):Prop where
 kind:sc.kind=.function
 co:sc.isCoroutine=false
 gen:sc.isGenerator=false
 nd:N.Nodup
 pre:N.take P.length=P
 par:∀x∈P,sc.names.lookup x=some .local\/sc.names.lookup x=some .cell
 nofree:∀y∈sc.names,y.2≠.free
theorem fs{N P:List Str}{sc:Scope}(a:sc.kind=.function:=by rfl)(b:sc.isCoroutine=false:=by rfl)(c:sc.isGenerator=false:=by rfl)(d:N.Nodup:=by decide +kernel)(e:N.take P.length=P:=by rfl)(f:∀x∈P,sc.names.lookup x=some .local\/sc.names.lookup x=some .cell:=by decide +kernel)(g:∀y∈sc.names,y.2≠.free:=by decide +kernel):FnScope N P sc:=⟨a,b,c,d,e,f,g⟩
theorem mO{kindOf:Str->Option NameKind}{x:Str}:∀{binds:List (Str×Value)}{m:Str->Option Value},(∀v,(x,v)∉binds)->bindL kindOf binds m x=m x
 |[],_,_=>rfl
 |(n,v)::r,m,h=>by
  unfold bindL;rw[mO fun w hw=>h w (Tu _ hw)];split
  ·have:x≠n:=by rintro rfl;exact h v Tq
   simp[this]
  ·rfl
theorem mP{kindOf:Str->Option NameKind}{x:Str}:∀{binds:List (Str×Value)}{m:Str->Option Value},(∀v,(x,v)∉binds)->bindC kindOf binds m x=m x
 |[],_,_=>rfl
 |(n,v)::r,m,h=>by
  unfold bindC;rw[mP fun w hw=>h w (Tu _ hw)];split
  ·rfl
  ·have:x≠n:=by rintro rfl;exact h v Tq
   simp[this]
theorem mQ{kindOf:Str->Option NameKind}{x:Str}{v:Value}:∀{P:List Str}{vs:List Value}{i:Nat}{m:Str->Option Value},P.Nodup->P[i]?=some x->vs[i]?=some v->kindOf x=some .local->
  bindL kindOf (P.zip vs) m x=some v
 |[],_,_,_,_,h,_,_=>by simp at h
 |_::_,[],_,_,_,_,h,_=>by simp at h
 |p::P,w::vs,0,m,nd,h1,h2,hk=>by
  simp at h1 h2;subst h1;subst h2;show bindL kindOf ((p,w)::P.zip vs) m p=_;unfold bindL;rw[mO fun v hv=>(UG.mp nd).1 (VQ hv).1,Tw hk];simp
 |p::P,w::vs,i+1,m,nd,h1,h2,hk=>by
  show bindL kindOf ((p,w)::P.zip vs) m x=_;unfold bindL;exact mQ (i:=i) (UG.mp nd).2 (by simpa using h1) (by simpa using h2) hk
theorem mR{kindOf:Str->Option NameKind}{x:Str}{v:Value}:∀{P:List Str}{vs:List Value}{i:Nat}{m:Str->Option Value},P.Nodup->P[i]?=some x->vs[i]?=some v->kindOf x≠some .local->
  bindC kindOf (P.zip vs) m x=some v
 |[],_,_,_,_,h,_,_=>by simp at h
 |_::_,[],_,_,_,_,h,_=>by simp at h
 |p::P,w::vs,0,m,nd,h1,h2,hk=>by
  simp at h1 h2;subst h1;subst h2;show bindC kindOf ((p,w)::P.zip vs) m p=_;unfold bindC;rw[mP fun v hv=>(UG.mp nd).1 (VQ hv).1,TC hk];simp
 |p::P,w::vs,i+1,m,nd,h1,h2,hk=>by
  show bindC kindOf ((p,w)::P.zip vs) m x=_;unfold bindC;exact mR (i:=i) (UG.mp nd).2 (by simpa using h1) (by simpa using h2) hk
def start(N:List Str)(vs:List V):St:=vs.map some++List.replicate (N.length-vs.length) none
noncomputable def wx(CX:CXT)(P:Program)(w:World)(K:W.Frag)(mg:Str->Option Value)(base:Heap)(N:List Str)(qual:Str)(scope:Scope)(f:Addr)(cd:Value)(A:Around)(outer:List Env)(s:Shared)(H:Hp)(E:XK):Cx where
 prog:=P
 w:=w
 K:=K
 mg:=mg
 base:=base
 A:=A.deeper (envOfC qual scope s.heap.objs.size f cd)
 N:=N
 s₀:=s
 H₀:=H
 env:=envOfC qual scope s.heap.objs.size f cd
 outer:=outer
 stack:=envOfC qual scope s.heap.objs.size f cd::outer
 ex:=[]
 calm:=true
 fn:=fun _=>true
 pn:=[]
 xe:=fun e s'=>wpAny (model P w) (A.deeper (envOfC qual scope s.heap.objs.size f cd)) (leaving (envOfC qual scope s.heap.objs.size f cd) e) (fun _ Ri=>CX outer H s E e Ri) (fun e' Ri=>CX outer H s E e' Ri) s'
theorem pP{sc:Scope}{n:Nat}{x:Str}(h:sc.names.lookup x=some .cell):∃c,(cellsFrom n sc.names []).lookup x=some c:=by
 have q:=XT sc.names n [] (.inl h);exact Vi.mp q
theorem sR{CX:CXT}{P:Program}{w:World}{K:W.Frag}{mg:Str->Option Value}{base:Heap}{N ps:List Str}{qual:Str}{scope:Scope}{f:Addr}{cd:Value}{A:Around}{outer:List Env}{s s1:Shared}{H:Hp}{E:XK}{us:List Value}{vs:List V}
  (S:FnScope N ps scope) (hd:A.handled=none) (e0:Env0 P w K mg base A outer s H) (hl:vs.length=ps.length) (r:Vals vs us)
  (x:InCallC s s.heap.objs.size (bindL (envOfC qual scope s.heap.objs.size f cd).kindOf (ps.zip us) fun _=>none) (cellsFrom (s.heap.objs.size+1) scope.names []) (bindC (envOfC qual scope s.heap.objs.size f cd).kindOf (ps.zip us) fun _=>none) s1):
  Inv (wx CX P w K mg base N qual scope f cd A outer s H E) [] (start N vs) H s1:=by
 have Jb:ps.length<=N.length:=by have:=UN List.length S.pre;rw[T8]at this;lia
 obtain⟨h1,tk,rfl,hk⟩:=x.done;have PJ:∀b:Addr,b∉(wx CX P w K mg base N qual scope f cd A outer s H E).ex:=fun b z=>absurd (show b∈([]:List Addr) from z) (by simp)
 refine⟨⟨e0.mod,S.kind,rfl,rfl,Tn _,fun y z c h1 h2=>?_,fun y hy=>?_,fun y c _ h=>?_,fun _=>hd,Around.frames_deeper e0.frames,.inr ⟨rfl,rfl⟩,fun b z=>absurd z (PJ b),e0.bs,e0.bsz,fun b _ _=>PJ b,fun b z=>absurd z (PJ b),e0.funs,e0.frf⟩,
  rfl,e0.bare,Un.kept hk,⟨_,x.toInCall.ns,fun i y v h1 h2 h3=>?_⟩,fun y c h=>⟨_,x.cell y c h⟩,e0.hok.fresh (Tn _),fun y c h=>?_,fun p hp=>absurd (show p∈([]:List (Addr×Obj)) from hp) (by simp),e0.hok.kept hk,?_⟩
 ·exact name_of_addr x.apart (U2 h1) (U2 h2)
 ·have hy:scope.names.lookup y=some .cell\/scope.names.lookup y=some .free:=hy;rcases hy with hy|hy
  ·exact pP hy
  ·exact absurd rfl (S.nofree _ (U2 hy))
 ·exact VT (x.above y c (U2 h))
 ·have hi:i<vs.length:=by
   unfold start at h2;by_cases hi:i<vs.length
   ·exact hi
   ·rw[VD (by simpa using hi)]at h2;rw[List.getElem?_replicate]at h2;split at h2 <;> cases h2
  have ha:vs[i]?=some v:=by
   unfold start at h2;rw[Vf (by simpa using hi),TN]at h2;cases e:vs[i]? with
   |none=>rw[e]at h2;cases h2
   |some a=>rw[e]at h2;cases h2;rfl
  obtain⟨u,hu,rv⟩:=r.get ha;have hp:ps[i]?=some y:=by
   rw[<-S.pre,List.getElem?_take_of_lt (by lia)];exact h1
  have Sm:ps.Nodup:=by rw[<-S.pre];exact S.nd.sublist (List.take_sublist _ _)
  refine⟨u,rv,?_⟩;rcases S.par y (UL hp) with k|k
  ·exact .inl ⟨k,mQ Sm hp hu k⟩
  ·obtain⟨c,e⟩:=pP (n:=s.heap.objs.size+1) k;refine .inr ⟨.inl k,c,e,?_⟩;have q:=x.cell y c e;rw[mR Sm hp hu (by show scope.names.lookup y≠_;rw[k];decide)]at q;exact q
 ·exact e0.hok.fresh (VT (x.above y c (U2 h)))
 ·unfold start;show _=N.length;rw[UC,Tt,WN];lia
theorem D8{CX:CXT}{P:Program}{w:World}{K:W.Frag}{mg:Str->Option Value}{base:Heap}{k:Nat}{f:Addr}{name qual:Str}{params:Arguments}{body:List Stmt}{scope:Scope}{dV kV doc pm Hv ct oc:Value}{an od:Option Addr}
  {Mq:Array (Option Value)}{N ps:List Str}{sp:Sp}(lk:K.lookup f=some ⟨oc,od,.func (PySem.W.fnOf name qual params body scope dV kV doc pm an Hv ct),Mq⟩) (Kz:PySem.W.codeIn K Hv qual=true) (S:FnScope N ps scope)
  (len:∀vs H Q E,sp vs H Q E->vs.length=ps.length)
  (LU:∀(A:Around) (outer:List Env) (s:Shared) (H:Hp) (vs:List V) (Q:VK) (E:XK),Room k (A.deeper (envOfC qual scope s.heap.objs.size f Hv))->sp vs H Q E->
   ∃t,PSs (wx CX P w K mg base N qual scope f Hv A outer s H E) body t/\t {nx:=fun _ H'=>Q .non H',rt:=Q} (start N vs) H):
  FnOk P w K mg base CX (k+1) f (PySem.W.fnOf name qual params body scope dV kV doc pm an Hv ct) ps sp:=by
 refine⟨len,fun A outer s H args us vs Q E hr e0 hb r Lw=>?_⟩;have hl:=len _ _ _ _ Lw;have KX:K.In s.heap:=e0.mod.kin.keeps fun b o e=>(e0.bs b o e).1
 have lim:s.heap.NoLimit:=e0.mod.nolimit.keeps fun b o e=>(e0.bs b o e).1
 have JH:∀y∈ps.zip us,scope.names.lookup y.1=some .local\/(scope.names.lookup y.1=some .cell/\((cellsFrom (s.heap.objs.size+1) scope.names []).lookup y.1).isSome=true):=fun Hc hy=>by
  obtain⟨n,v⟩:=Hc;rcases S.par n (VQ hy).1 with q|q
  ·exact .inl q
  ·exact .inr ⟨q,XT _ _ _ (.inl q)⟩
 refine codeAny_call_function hr.depth (KX _ _ lk) rfl S.co S.gen rfl (PySem.W.codeRec_of KX Kz) (hb _ _ _ _ ?_);refine wpAny_newFunctionEnv_cells S.kind JH fun env he s1 x=>?_
 subst he;refine⟨lim.keeps x.toInCall.keep,codeAny_func ?_⟩;obtain⟨t,ht,hq⟩:=LU A outer s H vs Q E (hr.deeper _) Lw;have I:Inv (wx CX P w K mg base N qual scope f Hv A outer s H E) [] (start N vs) H s1:=sR S hr.hd e0 hl r x;refine Wd (ht [] s1 (start N vs) H _ I hq) (fun fl s' hs=>?_) fun e s' hs=>hs
 have fin:∀{σ':St}{H':Hp}{v:V}{u:Value},Inv (wx CX P w K mg base N qual scope f Hv A outer s H E) [] σ' H' s'->RelV v u->Q v H'->CE outer P w H s Q u s':=
  fun{σ' H' v u} J rv q=>⟨v,H',J.os,J.bare,J.base,J.hok,rv,q⟩
 cases fl with
 |ret u=>
  obtain⟨v,σ',H',J,rv,q⟩:=hs;exact fin J rv q
 |next=>
  obtain⟨σ',H',J,q⟩:=hs;exact fin (v:=V.non) (u:=Value.none) J rfl q
 |brk=>
  obtain⟨_,_,_,q⟩:=hs;exact False.elim q
 |cont=>
  obtain⟨_,_,_,q⟩:=hs;exact False.elim q
section
variable{X:Cx}{x:Str}{p pos:Pos}{e:Expr}{es:List Expr}{t:TA}{id T:String}{r:List V->Hp->VK->Prop}
def Rj(r:List V->Hp->VK->Prop)(t:TA):TE:=fun σ H Q=>t σ H fun vs H1=>r vs H1 Q
theorem pQ(hc:dC X (.builtin id) r)(hg:Gl X x)(hm:X.mg x=none)(hv:bootBuiltins x=some (.builtin id))(ha:PA X (e::es) t)(hn:x≠"__name__":=by decide)(JG:(x==("__debug__" : Str))=false:=by decide)
  (he:starEach (e::es) X.env=(false,eval e X.env)::starEach es X.env:=by rfl) (Jb:(backTo pos (starEach es X.env)).any (·.1)=false:=by rfl):PE X (.Call (.Name x p) (e::es) [] pos) (Rj r t):=by
 intro pr s σ H Q I h;refine V4 (kK I hg hm hv ?_ hn JG);exact PyProof.Rows.callWith_builtin1 (Hl (ha pos pr s σ H _ I h) fun us s1 ⟨vs,H1,I1,r1,q1⟩=>hc pr s1 σ H1 vs us Q I1 r1 q1) he Jb
theorem sS(hc:dC X (.type T) r)(hg:Gl X x)(hm:X.mg x=none)(hv:bootBuiltins x=some (.type T))(ha:PA X (e::es) t)(hn:x≠"__name__":=by decide)(JG:(x==("__debug__" : Str))=false:=by decide)
  (he:starEach (e::es) X.env=(false,eval e X.env)::starEach es X.env:=by rfl) (Jb:(backTo pos (starEach es X.env)).any (·.1)=false:=by rfl):PE X (.Call (.Name x p) (e::es) [] pos) (Rj r t):=by
 intro pr s σ H Q I h;refine V4 (kK I hg hm hv ?_ hn JG);exact Vu (Hl (ha pos pr s σ H _ I h) fun us s1 ⟨vs,H1,I1,r1,q1⟩=>hc pr s1 σ H1 vs us Q I1 r1 q1) he Jb
end
end L2
namespace HT
open PySem PyProof.Rows
section
open PySem.SeqAt
open PySem.AutoSeq1 (wpAny_loadPart')
open PySem.MeetsSeq PySem.MeetsSeq2 PySem.MeetsSeq3
end
section
variable{prog:Program}{w:World}{A:Around}{E:Value->Shared->Prop}{s:Shared}
theorem yS{t b:Addr}{vs ws:List Value}{Q:Value->Shared->Prop}(ht:IsTup s.heap t vs.toArray)(hb:IsTup s.heap b ws.toArray)(hv:vs≠[])
  (h1:ws=[]->Q (.ref t) s) (h2:ws≠[]->Q (.ref s.heap.objs.size) {s with heap:=s.heap.push {cls:=.type "tuple",data:=.seq (vs++ws).toArray}})
  (hsz:vs.length+ws.length<=sizeLine):wpAny (model prog w) A (binaryOp .Add (.ref t) (.ref b)) Q E s:=by
 obtain⟨⟨cls,dd,data,sl⟩,ho,hc,n,hd⟩:=id ht;obtain⟨⟨NY,Mr,data2,Ms⟩,IA,Lh,n2,hd2⟩:=id hb;simp only at hc hd Lh hd2;subst hc hd Lh hd2;have e:vs.toArray++ws.toArray=(vs++ws).toArray:=by simp
 by_cases hw:ws=[]
 ·exact X4 ⟨_,ho,rfl⟩ ⟨_,IA,rfl⟩ XO YJ WD Wx (Ws _ _)
   (tuple_addW1 t b vs.toArray ws.toArray n n2 dd Mr sl Ms (by simpa using hv) (by simp[hw])) ⟨ho,IA,h1 hw⟩
 ·refine X4 ⟨_,ho,rfl⟩ ⟨_,IA,rfl⟩ XO YJ WD Wx (Ws _ _)
   (tuple_addW2 t b vs.toArray ws.toArray n n2 dd Mr sl Ms (by simpa using hv) (by simpa using hw) (by rw[Tr,Tr];exact hsz)) ⟨ho,IA,?_⟩
  rw[e];exact h2 hw
def sIx(n d:Nat):Option Int->Nat
 |none=>d
 |some v=>if v<0 then(v+(n:Int)).toNat else min v.toNat n
theorem lp(n d:Nat):sIx n d none=d:=rfl
theorem sT(n d k:Nat):sIx n d (some (k:Int))=min k n:=by
 show(if(k:Int)<0 then((k:Int)+(n:Int)).toNat else min (k:Int).toNat n)=min k n;rw[TC (by lia),Uk]
theorem sU(n d:Nat)(hd:d<=n)(o:Option Int):sIx n d o<=n:=by
 cases o with
 |none=>exact hd
 |some v=>
  show(if v<0 then(v+(n:Int)).toNat else min v.toNat n)<=n;by_cases hv:v<0
  ·rw[Tw hv];lia
  ·rw[TC hv];exact Nat.min_le_right _ _
theorem sV(v:Int)(n d:Nat):(if v<0 then max (v+(n:Int)) 0 else min v (n:Int))=((sIx n d (some v):Nat):Int):=by
 show(if v<0 then max (v+(n:Int)) 0 else min v (n:Int))=(((if v<0 then(v+(n:Int)).toNat else min v.toNat n):Nat):Int)
 by_cases hv:v<0
 ·simp only[Tw hv];lia
 ·simp only[TC hv];lia
theorem q5(lo hi:Option Int)(n:Nat):Builtin.Slice.sliceAdjust lo hi 1 (n:Int)=(((sIx n 0 lo:Nat):Int),((sIx n n hi:Nat):Int)):=by
 have h1:¬ ((1:Int)<0):=by lia
 unfold Builtin.Slice.sliceAdjust;simp only[h1,Xk];refine Prod.ext ?_ ?_
 ·cases lo with
  |none=>rfl
  |some v=>exact sV v n 0
 ·cases hi with
  |none=>rfl
  |some v=>exact sV v n n
theorem rg(i j:Nat):Builtin.Slice.slicePlaces (i:Int) (j:Int) 1=j-i:=by
 unfold Builtin.Slice.slicePlaces;have h1:(1:Int)>0:=by lia
 simp only[h1,Wq,Int.ediv_one];split <;> lia
theorem kO{v:Value}{o:Option Int}{Q:Option Int->Shared->Prop}(p:IsPart v o)(h:Q o s):wpAny (model prog w) A (Builtin.Slice.slicePartIndex v) Q E s:=by
 cases p with
 |none=>exact slicePart_none h
 |int i t=>exact slicePart_int h
theorem e7{sl:Addr}{vl vu:Value}{lo hi:Option Int}{n:Nat}{Q:Int×Int×Nat->Shared->Prop}(hs:s.heap.IsSliceOf sl vl vu .none)(pl:IsPart vl lo)(pu:IsPart vu hi)
  (h:Q (((sIx n 0 lo:Nat):Int),1,sIx n n hi-sIx n 0 lo) s):wpAny (model prog w) A (Builtin.Slice.sliceApplied (.ref sl) (pure (n:Int))) Q E s:=by
 obtain⟨os,NZ,QL,ME⟩:=id hs;unfold Builtin.Slice.sliceApplied Builtin.Slice.sliceFields;refine Ti (Ti (U6 NZ ME (x:=vl) rfl (Ti (U6 NZ ME (x:=vu) rfl (Ti (U6 NZ ME (x:=.none) rfl (Tv ?_)))))));refine Ti (slicePart_none ?_);show wpAny _ _ (if((1:Int)==0)=true then _ else _) _ _ s;rw[TC (by decide)];refine Ti (kO pl (Ti (kO pu (Ti (Tv ?_)))));show wpAny _ _ (match Builtin.Slice.sliceAdjust lo hi 1 (n:Int) with|(lo,hi)=>pure (lo,(1:Int),Builtin.Slice.slicePlaces lo hi 1)) _ _ s;rw[q5 lo hi n];show wpAny _ _ (pure (((sIx n 0 lo:Nat):Int),(1:Int),Builtin.Slice.slicePlaces ((sIx n 0 lo:Nat):Int) ((sIx n n hi:Nat):Int) 1)) _ _ s;rw[rg];exact Tv h
theorem wy(xs:Array Value)(i k:Nat):((List.range k).filterMap fun(m:Nat)=>xs[((i:Int)+(m:Int)*1).toNat]?).toArray=((xs.toList.drop i).take k).toArray:=by
 have e:(fun(m:Nat)=>xs[((i:Int)+(m:Int)*1).toNat]?)=fun m=>xs[i+m]?:=by
  funext m
  have:((i:Int)+(m:Int)*1).toNat=i+m:=by lia
  rw[this]
 rw[e];have:=pick_run xs i k;rw[List.filterMap_map]at this;have e2:((fun x=>xs[x]?)∘fun x=>i+x)=fun m=>xs[i+m]?:=rfl
 rw[e2]at this;rw[this]
theorem iH{t sl:Addr}{items:Array Value}{vl vu:Value}{lo hi:Option Int}{Q:Value->Shared->Prop}(ht:IsTup s.heap t items)(hs:s.heap.IsSliceOf sl vl vu .none)(pl:IsPart vl lo)(pu:IsPart vu hi)
  (hw:¬ (sIx items.size 0 lo=0/\sIx items.size items.size hi=items.size))
  (h:Q (.ref s.heap.objs.size) {s with heap:=s.heap.push {cls:=.type "tuple",data:=.seq ((items.toList.drop (sIx items.size 0 lo)).take (sIx items.size items.size hi-sIx items.size 0 lo)).toArray}})
  (hsz:items.size<=sizeLine):wpAny (model prog w) A (getItem (.ref t) (.ref sl)) Q E s:=by
 have Li:sizeOk (.seq ((items.toList.drop (sIx items.size 0 lo)).take (sIx items.size items.size hi-sIx items.size 0 lo)).toArray):=by
  show((items.toList.drop (sIx items.size 0 lo)).take (sIx items.size items.size hi-sIx items.size 0 lo)).toArray.size<=sizeLine;rw[Tr,T8,Uz,U9];lia
 have hj:sIx items.size items.size hi<=items.size:=sU _ _ (Tn _) hi;obtain⟨os,NZ,QL,ME⟩:=id hs;have Rk:s.TypeIs (.ref sl) "slice":=⟨os,NZ,QL⟩
 unfold getItem;try with_reducible refine Wf ?_
 first|refine Ti (Tv ?_)|skip
 refine Ti (wpAny_sequenceKey ht.typeIs (by decide) ?_);refine Ti (Uu (name:=Str.ofString "__getitem__") ht.typeIs Vb
  (UQ Vb ht.typeIs entry_tuple_getitem ?_ (args_tuple_getitem _ _)))
 show wpAny _ _ (Builtin.Tuple.tupleItemsOf (.ref t) >>= _) _ _ s;refine Ti (tupleItemsOf_ ht ?_);refine Ti (Wt Rk ?_);rw[Tw (by decide)];refine Ti (e7 hs pl pu ?_);have N1:¬ ((((sIx items.size 0 lo:Nat):Int)==0&&(1:Int)==1&&(sIx items.size items.size hi-sIx items.size 0 lo)==items.size)=true):=by
  intro q;rw[TL,TL]at q;have q1:((sIx items.size 0 lo:Nat):Int)=0:=eq_of_beq q.1.1;have q2:sIx items.size items.size hi-sIx items.size 0 lo=items.size:=eq_of_beq q.2;exact hw ⟨by lia,by lia⟩
 show wpAny _ _ (if(((sIx items.size 0 lo:Nat):Int)==0&&(1:Int)==1&&(sIx items.size items.size hi-sIx items.size 0 lo)==items.size)=true then _ else _) _ _ s;rw[TC N1,wy];first
  |exact Ti (m:=Builtin.Tuple.tupleExact _) (UJ (Tv ⟨_,rfl,Tv h⟩) Li)
  |exact Ti (m:=Builtin.Tuple.tupleExact _) (UJ (Ti (Tv (Tv ⟨_,rfl,Tv h⟩))) Li)
  |exact Ti (Ti (m:=Builtin.Tuple.tupleExact _) (UJ (Tv (Tv ⟨_,rfl,Tv h⟩)) Li))
  |exact Ti (Ti (m:=Builtin.Tuple.tupleExact _) (UJ (Tv ⟨_,rfl,Tv h⟩) Li))
end
end HT
namespace L2
open PySem PySem.Spec PyProof.Rows
abbrev TO:=St->Hp->(Option Int->Hp->Prop)->Prop
def PO(X:Cx)(e:Option Expr)(t:TO):Prop:=
 ∀(pr:List (Addr×Obj)) (s:Shared) (σ:St) (H:Hp) (Q:Option Int->Hp->Prop),Inv X pr σ H s->t σ H Q->
  wpAny (model X.prog X.w) X.A (evalPart e X.env) (fun u s'=>∃o H',Inv X pr σ H' s'/\IsPart u o/\Q o H') X.xe s
def yT:TO:=fun _ H Q=>Q none H
def D9(t:TE):TO:=fun σ H Q=>t σ H fun x H1=>∃i,x=.int i/\Q (some i) H1
section
variable{X:Cx}{e:Expr}{te:TE}{lo hi:Option Expr}{tl th:TO}{pos p2:Pos}
theorem yU:PO X none yT:=by
 intro pr s σ H Q I h;rw[evalPart_none];exact Tv ⟨none,H,I,.none,h⟩
theorem yV(h:PE X e te):PO X (some e) (D9 te):=by
 intro pr s σ H Q I hw;rw[evalPart_some];refine Hl (h pr s σ H _ I hw) fun u s1 Hm=>?_
 obtain⟨x,H1,I1,r1,q1⟩:=Hm;obtain⟨i,rfl,q⟩:=q1;obtain⟨t,rfl⟩:=r1;exact⟨some i,H1,I1,.int i t,q⟩
def N2(X:Cx)(r:V->Option Int->Option Int->Hp->VK->Prop):Prop:=
 ∀(pr:List (Addr×Obj)) (s:Shared) (σ:St) (H:Hp) (x:V) (v vl vu:Value) (lo hi:Option Int) (sl:Addr) (Q:VK),Inv X pr σ H s->RelV x v->s.heap.IsSliceOf sl vl vu .none->IsPart vl lo->IsPart vu hi->r x lo hi H Q->
  ∃T id,typeLookup (.type T) "__getitem__" = pure (some (.builtin id))/\s.TypeIs v T/\wpAny (model X.prog X.w) X.A (getItem v (.ref sl)) (EP X pr σ Q) X.xe s
def tSl(r:V->Option Int->Option Int->Hp->VK->Prop)(te:TE)(tl th:TO):TE:=fun σ H Q=>te σ H fun x H1=>tl σ H1 fun l H2=>th σ H2 fun u H3=>r x l u H3 Q
theorem wz{r:V->Option Int->Option Int->Hp->VK->Prop}(hr:N2 X r)(he:PE X e te)(hl:PO X lo tl)(hu:PO X hi th):PE X (.Subscript e (.Slice lo hi none p2) pos) (tSl r te tl th):=by
 intro pr s σ H Q I h;refine Subscript_ (Hl (he pr s σ H _ I h) fun v s1 Hm=>?_);obtain⟨x,H1,I1,r1,q1⟩:=Hm;refine wpAny_Slice (Hl (hl pr s1 σ H1 _ I1 q1) fun vl s2 ⟨l,H2,I2,pl,q2⟩=>Hl (hu pr s2 σ H2 _ I2 q2) fun vu s3 Hm=>?_);obtain⟨u,H3,I3,pu,q3⟩:=Hm;rw[evalPart_none];refine Tv ?_;have I4:Inv X pr σ H3 {s3 with heap:=s3.heap.push {cls:=.type "slice",data:=.fields #[vl,vu,.none]}}:=I3.kept (t':=s3.toks) fun b ob q=>Tj _ q
 obtain⟨T,id,hT,ht,hg⟩:=hr pr {s3 with heap:=s3.heap.push {cls:=.type "slice",data:=.fields #[vl,vu,.none]}} σ H3 x v vl vu l u s3.heap.objs.size Q I4 r1 (Heap.IsSliceOf.new ..) pl pu q3;show wpAny (model X.prog X.w) X.A (subscriptTail e (.Slice lo hi none p2) v (.ref s3.heap.objs.size)) (EP X pr σ Q) X.xe {s3 with heap:=s3.heap.push {cls:=.type "slice",data:=.fields #[vl,vu,.none]}};exact tail_any (ops:=[.ref s3.heap.objs.size,v]) ht hT hg (by with_unfolding_all rfl)
def xO(xs:List V)(lo hi:Option Int):List V:=(xs.drop (HT.sIx xs.length 0 lo)).take (HT.sIx xs.length xs.length hi-HT.sIx xs.length 0 lo)
theorem jz(xs:List V)(lo hi:Option Int):(xO xs lo hi).length<=xs.length:=by
 unfold xO;rw[T8,Uz];lia
def Ge(K:W.Frag):V->Option Int->Option Int->Hp->VK->Prop:=fun x lo hi H Q=>∃a xs,x=.ref a/\SqT K H a xs/\
 ¬ (HT.sIx xs.length 0 lo=0/\HT.sIx xs.length xs.length hi=xs.length)/\∀p,H p=none->Q (.ref p) (upd H p (.tup (xO xs lo hi)))
theorem Br:N2 X (Ge X.K):=by
 intro pr s σ H x v vl vu lo hi sl Q I rx hs pl pu h;obtain⟨a,xs,rfl,hx,hw,q⟩:=h;cases rx;obtain⟨GX,r,ht,hz⟩:=I.tuple hx;have hlen:GX.toArray.size=xs.length:=by rw[Tr];exact r.length.symm
 refine⟨"tuple",_,PyProof.Rows.slot_tuple_getitem.lookup,ht.typeIs,?_⟩;refine HT.iH ht hs pl pu (by rw[hlen];exact hw) ?_ (by rw[hlen];exact hz);rw[hlen];refine⟨.ref s.heap.objs.size,_,I.laid (t':=s.toks) (o:=.tup (xO xs lo hi)) (fun b ob q=>Tj _ q) (Tn _) ?_,rfl,q _ (I.hok.fresh (Tn _))⟩;exact⟨T2 (jz xs lo hi) hz,_,(r.drop (HT.sIx xs.length 0 lo)).take (HT.sIx xs.length xs.length hi-HT.sIx xs.length 0 lo),IsTupN.new _ _⟩
def Ea(K:W.Frag):R2:=fun x y H Q=>∃a b xs ys,x=.ref a/\y=.ref b/\SqT K H a xs/\SqT K H b ys/\xs≠[]/\xs.length+ys.length<=sizeLine/\
 (ys=[]->Q (.ref a) H)/\(ys≠[]->∀p,H p=none->Q (.ref p) (upd H p (.tup (xs++ys))))
theorem Vals.nil_iff{xs:List V}{us:List Value}(r:Vals xs us):us=[]<->xs=[]:=by
 cases r with
 |nil=>simp
 |cons _ _=>simp
theorem yW:HI X (binaryOp .Add) (Ea X.K):=by
 intro pr s σ H x y v u Q I rx ry h;obtain⟨a,b,xs,ys,rfl,rfl,ha,hb,hx,hz,q1,q2⟩:=h;cases rx;cases ry;obtain⟨GX,r1,p1,_⟩:=I.tuple ha;obtain⟨Lx,r2,p2,_⟩:=I.tuple hb;refine HT.yS p1 p2 (fun z=>hx (r1.nil_iff.mp z)) (fun z=>⟨.ref a,H,I,rfl,q1 (r2.nil_iff.mp z)⟩) (fun z=>?_) (by rw[<-r1.length,<-r2.length];exact hz);refine⟨.ref s.heap.objs.size,_,I.laid (t':=s.toks) (o:=.tup (xs++ys)) (fun b ob q=>Tj _ q) (Tn _) ?_,rfl,q2 (fun w=>z (r2.nil_iff.mpr w)) _ (I.hok.fresh (Tn _))⟩;exact⟨by rw[UC];exact hz,_,r1.append r2,IsTupN.new _ _⟩
end
def ixN(n:Nat)(i:Int):Option Nat:=if 0<=i then(if i<n then some i.toNat else none) else if -(n:Int)<=i then some (i+n).toNat else none
def Jw{α:Type}(xs:List α)(i:Int):Option α:=(ixN xs.length i).bind fun j=>xs[j]?
theorem sW{n:Nat}{i:Int}{j:Nat}(h:ixN n i=some j):seqIndex? i n=some j/\j<n/\-(n:Int)<=i/\i<n:=by
 unfold ixN at h;by_cases h0:0<=i
 ·rw[Tw h0]at h;by_cases h1:i<n
  ·rw[Tw h1]at h;have e:i.toNat=j:=T6 h;exact⟨by rw[seqIndex_of h0 h1,e],by lia,by lia,h1⟩
  ·rw[TC h1]at h;cases h
 ·rw[TC h0]at h;by_cases h1:-(n:Int)<=i
  ·rw[Tw h1]at h;have e:(i+n).toNat=j:=T6 h;exact⟨by rw[seqIndex_neg (by lia) h1,e],by lia,h1,by lia⟩
  ·rw[TC h1]at h;cases h
theorem oJ{α:Type}{xs:List α}{i:Int}{v:α}(h:Jw xs i=some v):∃j,seqIndex? i xs.length=some j/\xs[j]?=some v/\j<xs.length/\-(xs.length:Int)<=i/\i<xs.length:=by
 unfold Jw at h;cases e:ixN xs.length i with
 |none=>rw[e]at h;cases h
 |some j=>
  rw[e]at h;obtain⟨h1,h2,h3,h4⟩:=sW e;exact⟨j,h1,h,h2,h3,h4⟩
theorem fG{α:Type}{xs:List α}{j:Nat}{v:α}(h:xs[j]?=some v):Jw xs (j:Int)=some v:=by
 have hj:j<xs.length:=(TH.mp h).1;have e:ixN xs.length (j:Int)=some j:=by
  unfold ixN;rw[Tw (by lia),Tw (by lia)];simp
 unfold Jw;rw[e];exact h
def sX(b:Expr):Prop:=∀o i,subscripted b false o i=operate [o,i] (getItem o i)
def PK(X:Cx)(r:R2):Prop:=
 ∀(value slice:Expr) (pr:List (Addr×Obj)) (s:Shared) (σ:St) (H:Hp) (x y:V) (v u:Value) (Q:VK),Inv X pr σ H s->RelV x v->RelV y u->r x y H Q->
  subscripted slice false v u=operate [v,u] (getItem v u)->wpAny (model X.prog X.w) X.A (subscriptTail value slice v u) (EP X pr σ Q) X.xe s
def MtR(X:Cx)(id:String)(r:V->List V->Hp->VK->Prop):Prop:=
 ∀(pr:List (Addr×Obj)) (s:Shared) (σ:St) (H:Hp) (x:V) (xs:List V) (v:Value) (us:List Value) (Q:VK),Inv X pr σ H s->RelV x v->Vals xs us->r x xs H Q->
  wpAny (model X.prog X.w) X.A (call (.builtin id) (v::us)) (EP X pr σ Q) X.xe s
section
variable{X:Cx}{a b:Expr}{ta tb:TE}{pos:Pos}
theorem Eb{r:R2}(hr:PK X r)(ha:PE X a ta)(hb:PE X b tb)(hs:sX b):PE X (.Subscript a b pos) (Pe r ta tb):=by
 intro pr s σ H Q I h;exact Subscript_ (DZ ha hb I h fun v u s2 x y H2 I2 rx ry q=>hr a b pr s2 σ H2 x y v u Q I2 rx ry q (hs _ _))
def Gf(K:W.Frag):R2:=fun x y H Q=>∃p xs i v,x=.ref p/\y=.int i/\SqL K H p xs/\Jw xs i=some v/\Q v H
def Gg(K:W.Frag):R2:=fun x y H Q=>∃p xs i v,x=.ref p/\y=.int i/\SqT K H p xs/\Jw xs i=some v/\Q v H
def Gh:R2:=fun x y H Q=>∃z i c,x=.str z/\y=.int i/\z.length<=sizeLine/\Jw z.cps.toList i=some c/\Q (.str ⟨#[c]⟩) H
theorem yX:PK X (Gf X.K):=by
 intro value slice pr s σ H x y v u Q I rx ry h hs;obtain⟨p,xs,i,z,rfl,rfl,hq,he,q⟩:=h;cases rx;obtain⟨t,rfl⟩:=ry;obtain⟨GX,r,pl,hz⟩:=I.list hq;obtain⟨j,h1,h2,h3,h4,h5⟩:=oJ he;obtain⟨w,ew,Ly⟩:=r.get h2;have hl:=r.length;have hn:=kN;have fin:EP X pr σ Q w s:=⟨z,H,I,Ly,q⟩
 by_cases h0:0<=i
 ·have hj:i.toNat=j:=by
   rw[seqIndex_of h0 h5]at h1;exact T6 h1
  exact item_listR pl.isList h0 (by lia) (by rw[hj];simpa using ew) fin hs
 ·have hj:(i+(GX.toArray.size:Int)).toNat=j:=by
   rw[seqIndex_neg (by lia) h4]at h1;rw[Tr,<-hl];exact T6 h1
  exact subscriptTail_builtinR (x:=w) pl.isList.typeIs slot_list_getitem.lookup
   (wpAny_getItem_list_neg (Q:=fun r s'=>r=w/\EP X pr σ Q r s') pl.isList (by lia) (by rw[Tr] <;> lia) (by lia) (by rw[hj];simpa using ew) ⟨rfl,fin⟩) hs
theorem Bs:PK X (Gg X.K):=by
 intro value slice pr s σ H x y v u Q I rx ry h hs;obtain⟨p,xs,i,z,rfl,rfl,hq,he,q⟩:=h;cases rx;obtain⟨t,rfl⟩:=ry;obtain⟨GX,r,pl,hz⟩:=I.tuple hq;obtain⟨j,h1,h2,h3,h4,h5⟩:=oJ he;obtain⟨w,ew,Ly⟩:=r.get h2;have hl:=r.length;have hn:=kN;have fin:EP X pr σ Q w s:=⟨z,H,I,Ly,q⟩
 exact subscriptTail_builtinR (x:=w) pl.typeIs slot_tuple_getitem.lookup
  (getItem_tuple (j:=j) (Q:=fun r s'=>r=w/\EP X pr σ Q r s') pl (by lia) (by lia) (by rw[Tr,<-hl];exact h1) (by simpa using ew) ⟨rfl,fin⟩) hs
theorem Bt:PK X Gh:=by
 intro value slice pr s σ H x y v u Q I rx ry h hs;obtain⟨z,i,c,rfl,rfl,hz,he,q⟩:=h;obtain⟨t,rfl⟩:=rx;obtain⟨t',rfl⟩:=ry;obtain⟨j,h1,h2,h3,h4,h5⟩:=oJ he;have hl:z.cps.toList.length=z.length:=by simp[Str.length]
 rw[hl]at h1 h4 h5;have hn:=kN;exact tail_any (Ym s z t) slot_str_getitem.lookup (getItem_str (c:=c) (by
  have e1:decide (i < -(2 ^ 63:Int))=false:=Ua (by lia);have e2:decide (i>=2 ^ 63)=false:=Ua (by lia);rw[e1,e2,Bool.or_false]) (by rw[h1];simpa using h2) ⟨.str ⟨#[c]⟩,H,I.tok _,⟨_,rfl⟩,q⟩) hs
theorem rh(GX:List Value)(n j:Nat)(u:Value):Obj.mapSeq (·.setIfInBounds j u) {cls:=.type "list",data:=.seq GX.toArray n}={cls:=.type "list",data:=.seq (GX.set j u).toArray n}:=by
 simp[Obj.mapSeq]
theorem Inv.lst{pr:List (Addr×Obj)}{σ:St}{H:Hp}{s:Shared}{p:Addr}{xs:List V}(I:Inv X pr σ H s)(h:H p=some (.lst xs)):
  ∃(GX:List Value) (n:Nat),Vals xs GX/\s.heap.get? p=some {cls:=.type "list",data:=.seq GX.toArray n}/\xs.length<=sizeLine:=by
 obtain⟨z,GX,n,r,e⟩:=I.hok p _ h;exact⟨GX,n,r,e,z⟩
theorem Inv.lstUpd{pr:List (Addr×Obj)}{σ:St}{H:Hp}{s:Shared}{p:Addr}{xs ys:List V}{GX its':List Value}{n n':Nat}{f:Obj->Obj}(I:Inv X pr σ H s)(h:H p=some (.lst xs))
  (ho:s.heap.get? p=some {cls:=.type "list",data:=.seq GX.toArray n}) (hf:f {cls:=.type "list",data:=.seq GX.toArray n}={cls:=.type "list",data:=.seq its'.toArray n'}) (r:Vals ys its') (hz:ys.length<=sizeLine) (t:Nat):
  Inv X pr σ (upd H p (.lst ys)) {s with heap:=s.heap.update p f,toks:=t}:=by
 have e:(s.heap.update p f).get? p=some {cls:=.type "list",data:=.seq its'.toArray n'}:=by
  rw[WO f ho (by rw[hf] <;> rfl),hf]
 refine I.write (x:=p) (e:=p) (by rw[h];trivial) (.inl rfl) (fun b u hb q=>(VB _ _ (Vn hb)).trans q) ⟨_,e⟩ ?_;exact⟨hz,its',n',r,e⟩
def Bu:V->V->V->Hp->(Hp->Prop)->Prop:=fun o i v H Q=>∃p xs k j,o=.ref p/\i=.int k/\H p=some (.lst xs)/\ixN xs.length k=some j/\Q (upd H p (.lst (xs.set j v)))
theorem wA:FZ X Bu:=by
 intro pr s σ H o i v ov iv u Q I ro ri rv h;obtain⟨p,xs,k,j,rfl,rfl,hp,hj,q⟩:=h;cases ro;obtain⟨t,rfl⟩:=ri;obtain⟨GX,n,r,ho,hz⟩:=I.lst hp;obtain⟨h1,h2,h3,h4⟩:=sW hj;have hl:=r.length;have hn:=kN;have I':Inv X pr σ (upd H p (.lst (xs.set j v))) {s with heap:=s.heap.update p (Obj.mapSeq (·.setIfInBounds j u))}:=
  I.lstUpd hp ho (rh GX n j u) (r.set rv j) (by rw[UA];exact hz) s.toks
 by_cases h0:0<=k
 ·have hk:k.toNat=j:=by
   rw[seqIndex_of h0 h4]at h1;exact T6 h1
  exact PySem.W.ki_setAt ho h0 (by lia) (by rw[Tr,<-hl];exact h4) (by rw[hk];exact⟨_,I',q⟩)
 ·have hk:(k+(GX.toArray.size:Int)).toNat=j:=by
   rw[seqIndex_neg (by lia) h3]at h1;rw[Tr,<-hl];exact T6 h1
  exact PySem.W.ki_setBack ho (by lia) (by rw[Tr,<-hl];exact h3) (by lia) (by rw[hk];exact⟨_,I',q⟩)
theorem mS(lo hi:Option Int)(n:Nat):(sliceBounds lo hi none n).1=((HT.sIx n 0 lo:Nat):Int)/\(sliceBounds lo hi none n).2.1=((HT.sIx n n hi:Nat):Int)/\(sliceBounds lo hi none n).2.2=1:=by
 refine⟨?_,?_,rfl⟩
 ·cases lo with
  |none=>simp[sliceBounds,HT.sIx]
  |some i=>
   simp only[sliceBounds,HT.sIx,XQ,show(1:Int)>0 by decide,Wq];by_cases h:i<0
   ·simp only[h,Wq] <;> lia
   ·simp only[h,Xk] <;> lia
 ·cases hi with
  |none=>simp[sliceBounds,HT.sIx]
  |some i=>
   simp only[sliceBounds,HT.sIx,XQ,show(1:Int)>0 by decide,Wq];by_cases h:i<0
   ·simp only[h,Wq] <;> lia
   ·simp only[h,Xk] <;> lia
theorem lq(GX:List Value)(lo hi:Option Int):slicePick GX.toArray lo hi none=((GX.drop (HT.sIx GX.length 0 lo)).take (HT.sIx GX.length GX.length hi-HT.sIx GX.length 0 lo)).toArray:=by
 obtain⟨h1,h2,h3⟩:=mS lo hi GX.toArray.size;unfold slicePick;rw[h1,h2,h3];simp only[sliceRange_one,pick_run,Tr] <;> rfl
def Gi(K:W.Frag):V->Option Int->Option Int->Hp->VK->Prop:=fun x lo hi H Q=>∃a xs,x=.ref a/\SqL K H a xs/\∀p,H p=none->Q (.ref p) (upd H p (.lst (xO xs lo hi)))
theorem yY:N2 X (Gi X.K):=by
 intro pr s σ H x v vl vu lo hi sl Q I rx hs pl pu h;obtain⟨a,xs,rfl,hx,q⟩:=h;cases rx;obtain⟨GX,r,ht,hz⟩:=I.list hx;have hlen:=r.length;refine⟨"list",_,slot_list_getitem.lookup,ht.isList.typeIs,?_⟩;refine wpAny_getItem_list_slice ht.isList hs pl pu .none (by simp) ?_ (by rw[Tr] <;> lia);rw[lq,<-hlen];refine⟨.ref s.heap.objs.size,_,I.laid (t':=s.toks) (o:=.lst (xO xs lo hi)) (fun b ob q=>Tj _ q) (Tn _) ?_,rfl,q _ (I.hok.fresh (Tn _))⟩;exact⟨T2 (jz xs lo hi) hz,_,0,(r.drop (HT.sIx xs.length 0 lo)).take (HT.sIx xs.length xs.length hi-HT.sIx xs.length 0 lo),TJ _ rfl⟩
def wB:V->Bool
 | .non=>true
 | .bl _=>true
 | .int _=>true
 | .str _=>true
 |_=>false
def Rl:V->V->Bool
 | .non,.non=>true
 | .bl a,.bl b=>a==b
 | .bl a,.int b=>(if a then 1 else 0)==b
 | .int a,.bl b=>a==(if b then 1 else 0)
 | .int a,.int b=>a==b
 | .str a,.str b=>a==b
 |_,_=>false
theorem xP{A:Around}{s:Shared}{y x:V}{u v:Value}(ry:RelV y u)(rx:RelV x v)(fy:wB y=true)(fx:wB x=true):SeqAt.EqAt A s u v (Rl y x):=by
 cases y with
 |non=>
  cases ry;cases x with
  |non=>cases rx;exact SeqAt.EqAt.same _
  |bl b=>cases rx;exact SeqAt.EqAt.none_bool b
  |int b=>obtain⟨t,rfl⟩:=rx;exact SeqAt.EqAt.none_int b t
  |str b=>obtain⟨t,rfl⟩:=rx;exact SeqAt.EqAt.none_str b t
  |_=>exact absurd (show false=true from fx) TB
 |bl a=>
  cases ry;cases x with
  |non=>cases rx;exact SeqAt.EqAt.bool_none a
  |bl b=>cases rx;exact SeqAt.EqAt.bool_bool a b
  |int b=>obtain⟨t,rfl⟩:=rx;exact SeqAt.EqAt.bool_int a b t
  |str b=>obtain⟨t,rfl⟩:=rx;exact SeqAt.EqAt.bool_str a b t
  |_=>exact absurd (show false=true from fx) TB
 |int a=>
  obtain⟨t',rfl⟩:=ry;cases x with
  |non=>cases rx;exact SeqAt.EqAt.int_none a t'
  |bl b=>cases rx;exact SeqAt.EqAt.int_bool a t' b
  |int b=>obtain⟨t,rfl⟩:=rx;exact SeqAt.EqAt.int_int a t' b t
  |str b=>obtain⟨t,rfl⟩:=rx;exact SeqAt.EqAt.int_str a t' b t
  |_=>exact absurd (show false=true from fx) TB
 |str a=>
  obtain⟨t',rfl⟩:=ry;cases x with
  |non=>cases rx;exact SeqAt.EqAt.str_none a t'
  |bl b=>cases rx;exact SeqAt.EqAt.str_bool a t' b
  |int b=>obtain⟨t,rfl⟩:=rx;exact SeqAt.EqAt.str_int a t' b t
  |str b=>obtain⟨t,rfl⟩:=rx;exact SeqAt.EqAt.str_str a t' b t
  |_=>exact absurd (show false=true from fx) TB
 |_=>exact absurd (show false=true from fy) TB
theorem iW:dC X (.builtin "len") (fun xs H Q=>∃p ys,xs=[.ref p]/\(SqL X.K H p ys\/SqT X.K H p ys)/\Q (.int ys.length) H):=by
 intro pr s σ H xs us Q I r h;obtain⟨p,ys,rfl,hq,q⟩:=h;obtain⟨u,rfl,rx⟩:=jy r;cases rx;have hn:=kN;rcases hq with hq|hq
 ·obtain⟨GX,r',pl,hz⟩:=I.list hq;have hlen:=r'.length;exact Calls.call_len_list pl.isList (by simp only[Tr] <;> lia) ⟨.int ys.length,H,I.tok _,⟨s.toks+1,by rw[Tr,hlen]⟩,q⟩
 ·obtain⟨GX,r',pl,hz⟩:=I.tuple hq;have hlen:=r'.length;exact len_tuple pl (by simp only[Tr] <;> lia) ⟨.int ys.length,H,I.tok _,⟨s.toks+1,by rw[Tr,hlen]⟩,q⟩
theorem mT:dC X (.builtin "len") (fun xs H Q=>∃z,xs=[.str z]/\z.length<=sizeLine/\Q (.int z.length) H):=by
 intro pr s σ H xs us Q I r h;obtain⟨z,rfl,hz,q⟩:=h;obtain⟨u,rfl,t,rfl⟩:=jy r;have hn:=kN;exact len_str (by lia) ⟨.int z.length,H,I.tok _,⟨_,rfl⟩,q⟩
theorem iX:dC X (.type "list") (fun xs H Q=>∃p ys,xs=[.ref p]/\(SqL X.K H p ys\/SqT X.K H p ys)/\∀l,H l=none->Q (.ref l) (upd H l (.lst ys))):=by
 intro pr s σ H xs us Q I r h;obtain⟨p,ys,rfl,hq,q⟩:=h;obtain⟨u,rfl,rx⟩:=jy r;cases rx;have fin:∀(GX:List Value),Vals ys GX->ys.length<=sizeLine->∀(h':Heap) (c':Nat),(∀b o',s.heap.get? b=some o'->h'.get? b=some o')->
   h'.get? s.heap.objs.size=some {cls:=.type "list",dict:=none,data:=.seq GX.toArray c',slots:=#[]}->EP X pr σ Q (.ref s.heap.objs.size) {s with heap:=h'}:=fun GX r' hz h' c' kp e=>
  ⟨.ref s.heap.objs.size,_,I.laid (t':=s.toks) kp (Tn _) (show ObjOk X.prog X.w _ h' _ (.lst ys) from⟨hz,GX,c',r',e⟩),rfl,q _ (I.hok.fresh (Tn _))⟩
 rcases hq with hq|hq
 ·obtain⟨GX,r',pl,hz⟩:=I.list hq;have hlen:=r'.length;obtain⟨o,ho,hc,n,hd⟩:=pl.isList;exact call_list_seq p (.inl rfl) ho hc hd (fun h' c' kp e=>fin GX r' hz h' c' kp e) (by simp only[Tr] <;> lia)
 ·obtain⟨GX,r',pl,hz⟩:=I.tuple hq;have hlen:=r'.length;obtain⟨o,ho,hc,n,hd⟩:=pl;exact call_list_seq p (.inr rfl) ho hc hd (fun h' c' kp e=>fin GX r' hz h' c' kp e) (by simp only[Tr] <;> lia)
theorem hJ:dC X (.type "tuple") (fun xs H Q=>∃p ys,xs=[.ref p]/\((SqL X.K H p ys/\∀l,H l=none->Q (.ref l) (upd H l (.tup ys)))\/(SqT X.K H p ys/\Q (.ref p) H))):=by
 intro pr s σ H xs us Q I r h;obtain⟨p,ys,rfl,h⟩:=h;obtain⟨u,rfl,rx⟩:=jy r;cases rx;rcases h with⟨hq,q⟩|⟨hq,q⟩
 ·obtain⟨GX,r',pl,hz⟩:=I.list hq;have hlen:=r'.length;refine call_tuple_list pl.isList (fun h' kp=>?_) (by simp only[Tr] <;> lia);have I1:Inv X pr σ H {s with heap:=h'}:=I.kept (t':=s.toks) kp;have I2:Inv X pr σ (upd H h'.objs.size (.tup ys)) {s with heap:=h'.push {cls:=.type "tuple",data:=.seq GX.toArray}}:=
   I1.laid (t':=s.toks) (fun b o e=>Tj _ e) (Tn _) (show ObjOk X.prog X.w _ _ _ (.tup ys) from⟨hz,GX,r',IsTupN.new _ _⟩)
  exact⟨.ref h'.objs.size,_,I2,rfl,q _ (I1.hok.fresh (Tn _))⟩
 ·obtain⟨GX,r',pl,hz⟩:=I.tuple hq;exact call_tuple_same pl ⟨.ref p,H,I,rfl,q⟩
def Rm(K:W.Frag)(T:String)(x:V)(H:Hp):Prop:=match x with
 | .str _=>T = "str"
 | .int _=>T = "int"
 | .ref p=>(T = "list"/\∃xs,SqL K H p xs)\/(T = "tuple"/\∃o,K.lookup p=some o/\o.cls=.type "tuple"/\o.dict=none)\/
   (T = "dict"/\((∃GU,H p=some (.dK GU))\/∃GU,H p=some (.dT GU)))\/(T = "set"/\∃S n,H p=some (.set S n))
 |_=>False
theorem Bv{pr:List (Addr×Obj)}{σ:St}{H:Hp}{s:Shared}{T:String}{x:V}{v:Value}(I:Inv X pr σ H s)(r:RelV x v)(ty:Rm X.K T x H):
  s.TypeIs v T/\∀a,v=.ref a->∃ob,s.heap.get? a=some ob/\ob.dict=none:=by
 cases x with
 |str z=>
  obtain⟨t,rfl⟩:=r;cases(show T = "str" from ty);exact⟨Ym s z t,fun _ e=>nomatch e⟩
 |int i=>
  obtain⟨t,rfl⟩:=r;cases(show T = "int" from ty);exact⟨W8 s i t,fun _ e=>nomatch e⟩
 |ref p=>
  cases r;rcases ty with⟨rfl,xs,hq⟩|⟨rfl,o,hk,hc,hd⟩|⟨rfl,hk⟩|⟨rfl,S,n,hk⟩
  ·obtain⟨GX,_,pl,_⟩:=I.list hq;refine⟨pl.isList.typeIs,fun a e=>?_⟩;cases e;obtain⟨o,n,e,c,hd,_⟩:=pl;exact⟨o,e,hd⟩
  ·refine⟨⟨o,I.kIn p o hk,hc⟩,fun a e=>?_⟩;cases e;exact⟨o,I.kIn _ o hk,hd⟩
  ·have z:∃o,s.heap.get? p=some o/\o.ExactDict:=by
    rcases hk with⟨GU,hk⟩|⟨GU,hk⟩
    ·obtain⟨_,_,_,_,o,_,_,e,ex,_⟩:=I.hok p _ hk;exact⟨o,e,ex⟩
    ·obtain⟨_,_,_,_,o,_,_,e,ex,_⟩:=I.hok p _ hk;exact⟨o,e,ex⟩
   obtain⟨o,e,ex⟩:=z;refine⟨⟨o,e,ex.1⟩,fun a e2=>?_⟩;cases e2;exact⟨o,e,ex.2.1⟩
  ·obtain⟨o,_,_,_,e,ex,_⟩:=I.hok p _ hk;refine⟨⟨o,e,ex.1⟩,fun a e2=>?_⟩;cases e2;exact⟨o,e,ex.2.1⟩
 |_=>exact False.elim ty
def tBM(K:W.Frag)(T:String)(r:V->List V->Hp->VK->Prop)(to:TE)(t:TA):TE:=fun σ H Q=>to σ H fun x H1=>Rm K T x H1/\t σ H1 fun xs H2=>r x xs H2 Q
variable{o e:Expr}{es:List Expr}{to:TE}{t:TA}{name:Str}{apos Hy:Pos}{T id:String}{r:V->List V->Hp->VK->Prop}
theorem Bw(pa:PlainAttrs T)(slot:Slot T name id)(Rn:typeOf (.builtin id)=pure (.type "method_descriptor"))(hm:MtR X id r)(ho:PE X o to)(ha:PA X (e::es) t)
  (KA:attributeBase o name X.env (eval o X.env)=eval o X.env:=by rfl)
  (J2:((backTo Hy (starEach (e::es) X.env)).all (fun x=>!x.1)&&(backToKw Hy (keywordEach [] X.env)).all (fun x=>x.1.isSome)
   && decide ((e::es).length+([]:List Keyword).length+(if([]:List Keyword).isEmpty then 0 else 1)<30))=true:=by rfl)
  (KC:(apos.endLine==Hy.line)=true:=by rfl) (hs:starEach (e::es) X.env=(false,eval e X.env)::starEach es X.env:=by rfl) (JI:(backTo Hy (starEach es X.env)).any (·.1)=false:=by rfl):
  PE X (.Call (.Attribute o name apos) (e::es) [] Hy) (tBM X.K T r to t):=by
 intro pr s σ H Q I h;refine wpAny_Call_method_late KA J2 KC rfl (Hl (ho pr s σ H _ I h) fun v s1 Hm=>?_);obtain⟨x,H1,I1,r1,ty,q1⟩:=Hm;obtain⟨h1,h2⟩:=Bv I1 r1 ty;refine⟨T,id,pa,slot,Rn,h1,h2,?_⟩;have hA:=ha Hy pr s1 σ H1 _ I1 q1;rw[hs]at hA ⊢;refine Calls.callWith_builtin (by show(false||(backTo Hy (starEach es X.env)).any (·.1))=false;rw[JI] <;> rfl) (Calls.evalArgs_plain ?_);exact Hl hA fun us s2 ⟨vs,H2,I2,r2,q2⟩=>hm pr s2 σ H2 x vs v us Q I2 r1 r2 q2
end
def MtM(X:Cx)(id:String)(r:V->List V->Hp->VK->Prop):Prop:=
 ∀(pr:List (Addr×Obj)) (s:Shared) (σ:St) (H:Hp) (x:V) (xs:List V) (v:Value) (us:List Value) (Q:VK),Inv X pr σ H s->RelV x v->Vals xs us->r x xs H Q->
  wpAny (model X.prog X.w) X.A (call (.builtin id) (v::us)) (EP X pr σ Q) X.xe s
theorem Vals.one:∀{x:V}{us:List Value},Vals [x] us->∃u,us=[u]/\RelV x u
 |_,_,.cons r .nil=>⟨_,rfl,r⟩
theorem Vals.two:∀{x y:V}{us:List Value},Vals [x,y] us->∃u v,us=[u,v]/\RelV x u/\RelV y v
 |_,_,_,.cons r (.cons q .nil)=>⟨_,_,rfl,r,q⟩
theorem Vals.rep{xs:List V}{us:List Value}(h:Vals xs us):∀k:Nat,Vals (List.replicate k xs).flatten (List.replicate k us).flatten
 | 0=>.nil
 |k+1=>by
  rw[UO,UO,Ve,Ve];exact Vals.append h (Vals.rep h k)
theorem jA(GX:List Value):∀(k:Nat) (acc:List Value),
  List.foldl (fun x1 x2=>x1++x2) acc.toArray (List.replicate k GX.toArray)=(acc++(List.replicate k GX).flatten).toArray
 | 0,acc=>by simp
 |k+1,acc=>by
  have e:acc.toArray++GX.toArray=(acc++GX).toArray:=by simp
  have e2:(acc++GX)++(List.replicate k GX).flatten=acc++(List.replicate (k+1) GX).flatten:=by
   rw[UO,Ve,US]
  rw[<-e2,<-jA GX k (acc++GX),<-e,UO,Wy]
section
variable{X:Cx}{pr:List (Addr×Obj)}{σ:St}{H:Hp}{s:Shared}{l b:Addr}{xs ys zs:List V}
theorem Inv.lset{GX its':List Value}{n:Nat}{f:Array Value->Array Value}{t':Nat}(I:Inv X pr σ H s)(hH:H l=some (.lst xs))
  (e:s.heap.get? l=some {cls:=.type "list",data:=.seq GX.toArray n}) (hf:f GX.toArray=its'.toArray) (hv:Vals ys its') (hz:ys.length<=sizeLine):
  Inv X pr σ (upd H l (.lst ys)) {s with heap:=s.heap.update l (Obj.mapSeq f),toks:=t'}:=by
 have q:=PySem.IsL.update e f;rw[hf]at q;refine I.write (x:=l) (e:=l) (by rw[hH];exact trivial) (.inl rfl) (fun b' u hb hu=>(VB s.heap (Obj.mapSeq f) (Vn hb)).trans hu) ⟨_,q⟩ ?_;exact⟨hz,its',_,hv,q⟩
theorem Inv.lnew{GX:List Value}{t':Nat}(I:Inv X pr σ H s)(hv:Vals ys GX)(hz:ys.length<=sizeLine):
  Inv X pr σ (upd H s.heap.objs.size (.lst ys)) {s with heap:=s.heap.push {cls:=.type "list",data:=.seq GX.toArray},toks:=t'}:=
 I.laid (fun _ _ q=>Tj _ q) (Tn _) ⟨hz,GX,0,hv,TJ _ rfl⟩
theorem Inv.fresh(I:Inv X pr σ H s):H s.heap.objs.size=none:=I.hok.fresh (Tn _)
theorem Inv.lstM(I:Inv X pr σ H s)(hH:H l=some (.lst xs)):xs.length<=sizeLine/\∃(GX:List Value) (n:Nat),Vals xs GX/\xs.length=GX.length/\s.heap.get? l=some {cls:=.type "list",data:=.seq GX.toArray n}:=by
 obtain⟨z,GX,n,r,e⟩:=I.hok l _ hH;exact⟨z,GX,n,r,r.length,e⟩
theorem wC{n:Nat}(h:n<=sizeLine):Builtin.List.listTooLong n=false:=by
 unfold Builtin.List.listTooLong;exact Ua (by lia)
end
section
variable{X:Cx}
def yZ:V->List V->Hp->VK->Prop:=fun x vs H Q=>∃l xs y,x=.ref l/\vs=[y]/\H l=some (.lst xs)/\xs.length<sizeLine/\Q .non (upd H l (.lst (xs++[y])))
theorem jB:MtM X "list.append" yZ:=by
 intro pr s σ H x vs v us Q I rx rv h;obtain⟨l,xs,y,rfl,rfl,hH,hz,q⟩:=h;cases rx;obtain⟨u,rfl,ru⟩:=rv.one;obtain⟨z,GX,n,r,hl,e⟩:=I.lstM hH;refine WE F.slot_list_append ⟨_,e,rfl⟩ F.entry_list_append (F.args_list_append_2 _ _) (PySem.list_append l GX.toArray n u (by rw[Tr];lia)) ⟨e,?_⟩;refine⟨.non,_,I.lset (its':=GX++[u]) hH e (by simp) (r.append (.cons ru .nil)) ?_,rfl,q⟩;rw[UC,Uj];lia
theorem gN{α:Type}(xs:List α)(k:Nat):(List.replicate k xs).flatten.length=k*xs.length:=by
 induction k with
 |zero=>simp
 |succ k ih=>rw[UO,Ve,UC,ih,X5,Nat.add_comm]
end
section
variable{prog:Program}{w:World}{A:Around}{E:Value->Shared->Prop}{s:Shared}
end
section
variable{X:Cx}
end
end L2
namespace Att
open PySem PySem.W PySem.Calls PyProof.Rows
theorem jC{P:Params}{h:Heap}:∀(ns:List Int) (vs:List Value),WellAll P h vs (ns.map WData.int)->IntsAre vs ns:=by
 intro ns;induction ns with
 |nil=>
  intro vs w;rw[Vs]at w;cases w;exact .nil
 |cons n ns ih=>
  intro vs w;rw[TY]at w;cases w with
  |cons a b=>
   cases a;exact .cons _ _ (ih _ b)
theorem sY{l:OpenLaw}{n:Nat}(hn:l.most=some n){P:Params}{h:Heap}{args:List WData}{vals:List Value}
  (MF:l.row.toRowW.claim.pre args=true) (N3:WellAll P h vals args):
  ∃a vs ns,vals=[Value.ref a]/\args=[WData.list (ns.map WData.int)]/\h.get? a=some {cls:=.type "list",data:=.seq vs.toArray}/\IntsAre vs ns/\ns.length<=n:=by
 have hsh:WShape.hasAll [] args [.list .int]=true:=(pre_splitW MF).1;have hc:l.pre.holds [] {args:=args}=true:=(pre_splitW MF).2;obtain⟨d,r,rfl,h1,h2⟩:=hasAllW_cons hsh;obtain rfl:=hasAllW_nil h2;obtain⟨xs,rfl,h3⟩:=hasW_list h1;obtain⟨ns,rfl⟩:=items_int h3;have hlen:ns.length<=n:=by
  unfold OpenLaw.pre at hc;have h4:(WTm.not (.lt (.lit (.int (n:Int))) (.len (.arg 0)))).holds [] {args:=[.list (ns.map .int)]}=true:=by
   have h4:=(holds_andW hc).1;rw[hn]at h4;exact h4
  have h5:=condW_of h4 (w_not (w_lt w_lit (w_len_list (w_arg rfl))));rw[Tt]at h5;refine Nat.le_of_not_lt fun q=>?_
  have q':(n:Int)<((ns.length:Nat):Int):=by lia
  first
   |(rw[Ux q']at h5;exact absurd h5 (by decide))
   |(simp at h5;lia)
 cases N3 with
 |cons w1 w2=>
  cases w2;cases w1 with
  |list ho LV=>exact⟨_,_,ns,rfl,rfl,ho,jC ns _ LV,hlen⟩
theorem sZ(l:OpenLaw)(args:List WData):l.row.toRowW.claim.post args (.bool true) args=true:=
 postW_of (r:=l.row.toRowW) (X:=(true==true))
  (show WShape.has [] (.bool true) .bool=true by first|rfl|decide|simp[WShape.has,WShape.arms,WShape.armsAll])
  (show(WTm.eq .res (.lit (.bool true))).value [] {args:=args,res:=some (.bool true),after:=args}=some (.bool (true==true)) from w_eq_bool (w_res rfl) w_lit) rfl
theorem attach_call{l:OpenLaw}{n:Nat}{q:Program}{loose:List Str}{XP:(Str->Option Value)->Heap->Prop}{YP:World->Heap->Prop}{d:DefRec}
  (hn:l.most=some n) (PL:d.params.defaults=[])
  (call:∀(w:World) (s₀ s₁:Shared) (mg mb:Str->Option Value) (fa:Addr) (o:Obj) (pm cd doc:Value) (a:Addr) (vs:List Value) (ns:List Int),
   Ground q loose [] XP w s₀ mg mb s₁.heap->YP w s₁.heap->
   s₁.heap.get? fa=some o->o.data=.func (docDef d.name d.params d.body d.scope pm cd doc)->s₁.heap.CodeRec cd d.name->mg d.name=some (.ref fa)->
   s₁.heap.get? a=some {cls:=.type "list",data:=.seq vs.toArray}->IntsAre vs ns->ns.length<=n->s₁.gens = #[]->
   codeAny (model l.prog w) callerA (.call (.ref fa) ⟨[.ref a],[]⟩) (fun r s'=>r=.ok (.ret (.bool true))/\OldK s₁.heap s'.heap/\s'.os=s₁.os/\AllBare s'.gens) s₁):
  WalkO q loose XP YP l.row.toRowW d [] (fun f vs=>PySem.call f vs):=by
 intro w s₀ s₁ mg mb G Y fa o pm cd doc dV kV ho hd Kz hD PM hg args vals as MF hlay hrd N3 KD;obtain rfl:dV=.none:=Dflts.none hD PL;obtain rfl:kV=.none:=Dflts.noKw hD;obtain⟨a,vs,ns,rfl,rfl,N4,hints,hlen⟩:=sY hn MF N3;refine enter_call (codeAny_mono (call w s₀ s₁ mg mb fa o pm cd doc a vs ns G Y ho (fd_plain hd) Kz PM N4 hints hlen hg) fun r s' hq=>?_);obtain⟨rfl,h2,h3,h4⟩:=hq;exact⟨.inl ⟨.bool true,.bool true,[],rfl,fun _=>rfl,.bool true,sZ l _,fun _=>⟨List.Pairwise.nil,fun _ hm=>(nomatch hm)⟩⟩,h2,h3,h4⟩
section
variable{prog:Program}{w:World}{A:Around}{E:Value->Shared->Prop}{s:Shared}{K:Frag}
end
end Att
namespace L2
open PySem PySem.Spec PyProof.Rows
theorem mU:∀{vs:List Value}{ns:List Int},IntsAre vs ns->Vals (ns.map V.int) vs
 |_,_,.nil=>.nil
 |_,_,.cons n t h=>.cons ⟨t,rfl⟩ (mU h)
def Ec(H:Hp):Prop:=∀b,H b=none\/∃o xs,H b=some (.frz o (.lst xs))
theorem wD{P:Program}{w:World}{K:W.Frag}{mg mb:Str->Option Value}{CX:CXT}{k:Nat}{fa a:Addr}{fd:FuncData}{x:Str}{sp:Sp}{s₁:Shared}{vs:List Value}{ns:List Int}
  (KX:K.In s₁.heap) (QM:s₁.heap.Ns mainGlobals mg) (hb:s₁.heap.Ns builtinsNs mb) (Pg:∀x:Str,x≠"__name__"->mb x=bootBuiltins x) (hlim:s₁.heap.NoLimit) (hg:s₁.gens = #[])
  (ha:s₁.heap.get? a=some {cls:=.type "list",data:=.seq vs.toArray}) (hi:IntsAre vs ns) (hl:ns.length<=sizeLine) (hr:Room k callerA)
  (F:∀base:Heap,K.In base->base.Ns mainGlobals mg->FnOk P w K mg base CX k fa fd [x] sp) (PQ:∀(s:Shared) (u:Value),BindsTo s fd ⟨[u],[]⟩ [(x,u)])
  (Lw:∀H:Hp,Ec H->SqL K H a (ns.map V.int)->sp [.ref a] H (fun v _=>v=.bl true) fun _ _ _=>False)
  (Ro:∀H e s',CX [] H s₁ (fun _ _ _=>False) e s'->False):
  codeAny (model P w) callerA (.call (.ref fa) ⟨[.ref a],[]⟩) (fun r s'=>r=.ok (.ret (.bool true))/\OldK s₁.heap s'.heap/\s'.os=s₁.os/\AllBare s'.gens) s₁:=by
 have rv:=mU hi;have lenV:=hi.length;have core:∀H:Hp,Ec H->SqL K H a (ns.map V.int)->HOk P w H s₁.heap->(∀b,H b≠none->b=a)->(H a≠none->K.lookup a=none)->
   codeAny (model P w) callerA (.call (.ref fa) ⟨[.ref a],[]⟩) (fun r s'=>r=.ok (.ret (.bool true))/\OldK s₁.heap s'.heap/\s'.os=s₁.os/\AllBare s'.gens) s₁:=by
  intro H hO hS hok hA hK;have Lj:∀{b:Addr}{o:Obj},s₁.heap.get? b=some o->H b=none->(we s₁.heap H).get? b=some o:=fun e n=>wg e n
  have PJ:∀{b:Addr}{o:Obj}{es:Array DictEntry}{ep:Nat},s₁.heap.get? b=some o->o.data=.dict es ep->H b=none:=fun{b o es ep} e d=>by
   cases q:H b with
   |none=>rfl
   |some u=>
    have e':b=a:=hA b (by rw[q];simp);subst e';rw[ha]at e;cases e;have d':Data.seq vs.toArray _=Data.dict es ep:=d;cases d'
  have QN:∀{b:Addr}{m:Str->Option Value},s₁.heap.Ns b m->(we s₁.heap H).Ns b m:=fun{b m} ⟨o,es,ep,e,d,r⟩=>⟨o,es,ep,Lj e (PJ e d),d,r⟩
  have Sn:K.In (we s₁.heap H):=fun b o e=>Lj (KX b o e) (by
   cases q:H b with
   |none=>rfl
   |some u=>
    have e':b=a:=hA b (by rw[q];simp);subst e';rw[hK (by rw[q];simp)]at e;cases e)
  have hM:Mod K mg (we s₁.heap H):=⟨Sn,QN QM,⟨mb,QN hb,Pg⟩,let⟨mc,h1,h2⟩:=hlim;⟨mc,QN h1,h2⟩⟩
  have e0:Env0 P w K mg (we s₁.heap H) callerA [] s₁ H:=⟨rfl,hM,fun b o e=>yE e,X6 (su _ _),trivial,fun b hb=>absurd (show b∈([]:List Addr) from hb) (by simp),hok,.of_eq hg⟩
  refine codeAny_mono ((F _ Sn (QN QM)).run callerA [] s₁ H ⟨[.ref a],[]⟩ [.ref a] [.ref a] _ _ hr e0 (PQ s₁ (.ref a)) (.cons rfl .nil) (Lw H hO hS)) fun r s' h=>?_
  cases r with
  |error e=>exact(Ro H e s' h).elim
  |ok fl=>
   cases fl with
   |next=>exact False.elim h
   |brk=>exact False.elim h
   |cont=>exact False.elim h
   |ret u=>
    obtain⟨v,H',os,bare,un,hok',r',q⟩:=h;have q':v=.bl true:=q;subst q';obtain rfl:u=Value.bool true:=r';refine⟨rfl,OldK.of_keep fun b o e=>?_,os,bare⟩;cases q:H b with
    |none=>exact un.keep b o e q (by intro z;exact absurd (show b∈([]:List Addr) from z) (by simp)) (by simp)
    |some u=>
     rcases hO b with z|⟨ob,xs,z⟩
     ·rw[q]at z;cases z
     ·have z2:=un.frzs b ob _ z;obtain⟨e1,_⟩:=hok b _ z;obtain⟨e2,_⟩:=hok' b _ z2;rw[e]at e1;cases e1;exact e2
 cases hk:K.lookup a with
 |some o=>
  have e:=KX a o hk;rw[ha]at e;cases e;refine core (fun _=>none) (fun _=>.inl rfl) (.inr ⟨_,vs.toArray,_,hk,rfl,rfl,rfl,by rw[Tr,lenV];exact hl,by simpa using rv⟩) (fun b u z=>by have z':(none:Option HO)=some u:=z;cases z') (fun b z=>absurd rfl z) fun z=>absurd rfl z
 |none=>
  refine core (fun b=>if b=a then some (.frz {cls:=.type "list",data:=.seq vs.toArray} (.lst (ns.map V.int))) else none) (fun b=>?_) (.inl (.inr ⟨{cls:=.type "list",data:=.seq vs.toArray},Tw rfl⟩)) (fun b u z=>?_) (fun b z=>?_) fun _=>hk
  ·by_cases hb:b=a
   ·exact .inr ⟨_,_,Tw hb⟩
   ·exact .inl (TC hb)
  ·by_cases hb:b=a
   ·have z':=(Tw hb).symm.trans z;cases z';subst hb;exact⟨ha,by rw[Tt];exact hl,vs,_,rv,ha⟩
   ·have z':=(TC hb).symm.trans z;cases z'
  ·by_cases hb:b=a
   ·exact hb
   ·exact absurd (TC hb) z
theorem y0{l:PySem.W.OpenLaw}{n k:Nat}{q:Program}{loose:List Str}{XP:(Str->Option Value)->Heap->Prop}{YP:World->Heap->Prop}{d:DefRec}{K:Params->W.Frag}{CX:World->CXT}{sp:World->Sp}{x:Str}
  (hn:l.most=some n) (hn2:n<=sizeLine) (PL:d.params.defaults=[]) (hr:Room k callerA)
  (hY:∀(w:World) (h:Heap),YP w h->(K w.params).In h)
  (F:∀(w:World) (mg:Str->Option Value) (fa:Addr) (h:Heap),(K w.params).In h->h.Ns mainGlobals mg->mg d.name=some (.ref fa)->
   ∃fd:FuncData,(∀(s:Shared) (u:Value),BindsTo s fd ⟨[u],[]⟩ [(x,u)])/\
    ∀base:Heap,(K w.params).In base->base.Ns mainGlobals mg->FnOk l.prog w (K w.params) mg base (CX w) k fa fd [x] (sp w))
  (Lw:∀(w:World) (H:Hp) (a:Addr) (ns:List Int),ns.length<=n->Ec H->SqL (K w.params) H a (ns.map V.int)->sp w [.ref a] H (fun v _=>v=.bl true) fun _ _ _=>False)
  (Ro:∀(w:World) (H:Hp) (s:Shared) (e:Value) (s':Shared),CX w [] H s (fun _ _ _=>False) e s'->False):
  PySem.W.WalkO q loose XP YP l.row.toRowW d [] (fun f vs=>PySem.call f vs):=by
 refine Att.attach_call hn PL fun w s₀ s₁ mg mb fa o pm cd doc a vs ns G Y ho hd Kz PM N4 hints hlen hg=>?_
 have KX:=hY w _ Y;obtain⟨fd,hb,hF⟩:=F w mg fa _ KX G.T.g PM;exact wD KX G.T.g G.T.b G.T.builtins G.T.nolimit hg N4 hints (T2 hlen hn2) hr hF hb (fun H hO hS=>Lw w H a ns hlen hO hS) fun H e s'=>Ro w H s₁ e s'
def eE(s:Stmt):Arguments:=match s with
 | .FunctionDef _ a _ _ _ _ _ _ _ _=>a
 |_=>{posonlyargs:=[],args:=[],vararg:=none,kwonlyargs:=[],kw_defaults:=[],kwarg:=none,defaults:=[]}
def cP(s:Stmt):List Stmt:=match s with
 | .FunctionDef _ _ b _ _ _ _ _ _ _=>b
 |_=>[]
def defScope(s:Stmt):Scope:=match s with
 | .FunctionDef _ _ _ _ _ _ sc _ _ _=>sc
 |_=>{kind:=.function,names:=[],isGenerator:=false,isCoroutine:=false}
abbrev LQ:CXT:=fun _ _ _ _ _ _=>False
abbrev E0:XK:=fun _ _ _=>False
theorem Ed{X:Cx}:sQ LQ X E0:=fun _ _ _ _ _ _ _ h=>h.elim
structure Fun(K:W.Frag)(x qual:Str)(st:Stmt)(f:Addr)(fd:FuncData):Prop where
 ex:∃(oc:Value) (od:Option Addr) (kV doc pm:Value) (an:Option Addr) (Hv ct:Value) (Mq:Array (Option Value)),
  fd=PySem.W.fnOf x qual (eE st) (cP st) (defScope st) .none kV doc pm an Hv ct/\K.lookup f=some ⟨oc,od,.func fd,Mq⟩/\PySem.W.codeIn K Hv qual=true
 kp:PySem.W.keepIn K (.ref f)=true
section
variable{P:Program}{w:World}{K:W.Frag}{mg:Str->Option Value}{base:Heap}
theorem Fun.ok{x qual:Str}{st:Stmt}{f:Addr}{fd:FuncData}{N ps:List Str}{k:Nat}{sp:Sp}(F:Fun K x qual st f fd)(S:FnScope N ps (defScope st))(len:∀vs H Q E,sp vs H Q E->vs.length=ps.length)
  (LU:∀(Hv:Value) (A:Around) (outer:List Env) (s:Shared) (H:Hp) (vs:List V) (Q:VK) (E:XK),Room k (A.deeper (envOfC qual (defScope st) s.heap.objs.size f Hv))->sp vs H Q E->
   ∃t,PSs (wx LQ P w K mg base N qual (defScope st) f Hv A outer s H E).nox (cP st) t/\t {nx:=fun _ H'=>Q .non H',rt:=Q} (start N vs) H):FnOk P w K mg base LQ (k+1) f fd ps sp:=by
 obtain⟨oc,od,kV,doc,pm,an,Hv,ct,Mq,rfl,lk,Kz⟩:=F.ex;refine D8 lk Kz S len fun A outer s H vs Q E hr Lw=>?_
 obtain⟨t,h,q⟩:=LU Hv A outer s H vs Q E hr Lw;exact⟨t,h.nox,q⟩
theorem Fun.binds{x qual:Str}{st:Stmt}{f:Addr}{fd:FuncData}{ps:List Str}(F:Fun K x qual st f fd)
  (h:∀(kV doc pm:Value) (an:Option Addr) (Hv ct:Value) (us:List Value),us.length=ps.length->bindArgs (PySem.W.fnOf x qual (eE st) (cP st) (defScope st) .none kV doc pm an Hv ct) ⟨us,[]⟩=pure (ps.zip us)):Binds K fd ps []:=by
 obtain⟨oc,od,kV,doc,pm,an,Hv,ct,Mq,rfl,lk,Kz⟩:=F.ex;exact .all (h kV doc pm an Hv ct)
theorem xQ{x qual:Str}{st:Stmt}{f:Addr}{oc:Value}{od an:Option Addr}{Mq:Array (Option Value)}{kV doc pm Hv ct:Value}(l:K.lookup f=some ⟨oc,od,.func (PySem.W.fnOf x qual (eE st) (cP st) (defScope st) .none kV doc pm an Hv ct),Mq⟩)
  (c:PySem.W.codeIn K Hv qual=true) (k:PySem.W.keepIn K (.ref f)=true):Fun K x qual st f (PySem.W.fnOf x qual (eE st) (cP st) (defScope st) .none kV doc pm an Hv ct):=⟨⟨oc,od,kV,doc,pm,an,Hv,ct,Mq,rfl,l,c⟩,k⟩
end
theorem hu_of{A:Around}{k:Nat}(hr:Room k A):A.units+1<cLine:=UW (Nat.add_le_add_left (by decide:1<=64) _) hr.units
section
variable{X:Cx}
theorem pv(i:Nat){x:Str}{pos:Pos}(hN:X.N[i]?=some x:=by rfl)(hv:Rf X.env.scope x:=by first|exact Or.inl rfl|exact Or.inr (Or.inl rfl)|exact Or.inr (Or.inr rfl))(hd:(x==("__debug__" : Str))=false:=by decide)
  (Kz:(x==("__classdict__" : Str))=false:=by decide):PE X (.Name x pos) (sd i):=A0 hN hv hd Kz
end
theorem iteF{A B:Prop}(h:B):if false=true then A else B:=by
 rw[TC TB];exact h
theorem Bx{A B:Prop}(h:A):if true=true then A else B:=by
 rw[Tw rfl];exact h
def Same(H H':Hp):Prop:=∀b o,H b=some o->H' b=some o
theorem Same.refl(H:Hp):Same H H:=fun _ _ h=>h
theorem Same.trans{H H1 H2:Hp}(a:Same H H1)(b:Same H1 H2):Same H H2:=fun c o h=>b c o (a c o h)
end L2
set_option maxHeartbeats 4000000
namespace NX
open PySem PySem.Spec PyProof.Rows L2
section
variable{X:Cx}
theorem wF(v:Int)(n:Nat):max (0:Int) (min (if v<0 then v+(n:Int) else v) (n:Int))=((HT.sIx n 0 (some v):Nat):Int):=by
 show _=(((if v<0 then(v+(n:Int)).toNat else min v.toNat n):Nat):Int)
 split <;> lia
theorem By(a b:Nat):sliceRange (a:Int) (b:Int) 1=(List.range (b-a)).map (fun k=>a+k):=by
 unfold sliceRange;rw[Tw (by decide:(1:Int)>0)];by_cases Hr:(a:Int)<b
 ·have e3:(((b:Int)-a+1-1) / 1).toNat=b-a:=by first|lia|(simp;done)|(simp;lia)
  simp only[Hr,Wq,e3];refine Uo fun k _=>?_
  lia
 ·have:b-a=0:=by lia
  simp[Hr,this]
theorem Gj(lo hi:Option Int)(n:Nat):Builtin.Str.strSliceIndices lo hi 1 n=(List.range (HT.sIx n n hi-HT.sIx n 0 lo)).map (fun k=>HT.sIx n 0 lo+k):=by
 rw[<-By];unfold Builtin.Str.strSliceIndices;simp only[show(1:Int)>0 from by decide,Wq];cases lo with
 |none=>
  cases hi with
  |none=>rfl
  |some v=>exact UN (fun z=>sliceRange 0 z 1) (wF v n)
 |some u=>
  cases hi with
  |none=>exact UN (fun z=>sliceRange z (n:Int) 1) (wF u n)
  |some v=>exact(UN (fun z=>sliceRange z _ 1) (wF u n)).trans (UN (fun z=>sliceRange _ z 1) (wF v n))
def Bz(xs:List Nat)(lo hi:Option Int):List Nat:=(xs.drop (HT.sIx xs.length 0 lo)).take (HT.sIx xs.length xs.length hi-HT.sIx xs.length 0 lo)
theorem xR{α:Type}(l:List α):∀(n a:Nat),a+n<=l.length->((List.range n).map (fun k=>a+k)).filterMap (l[·]?)=(l.drop a).take n
 | 0,_,_=>by simp
 |n+1,a,h=>by
  have Hr:a+n<l.length:=by lia
  rw[Xb,Ub,List.filterMap_append,xR l n a (by lia),List.take_add_one,YL];simp[To Hr]
theorem tf(x:Str)(lo hi:Option Int):(Txt.slice x lo hi).cps.toList=Bz x.cps.toList lo hi:=by
 have hl:x.cps.toList.length=x.length:=U9;have ha:=HT.sU x.length 0 (Um _) lo;have hb:=HT.sU x.length x.length (Tn _) hi;unfold Txt.slice Bz;rw[Gj,hl];split
 ·rename_i h;have h2:HT.sIx x.length x.length hi-HT.sIx x.length 0 lo=x.length:=by simpa using h
  have ez:HT.sIx x.length 0 lo=0\/x.length=0:=by lia
  rcases ez with e|e
  ·rw[h2,e,Wj,Uy (by lia)]
  ·have:x.cps.toList=[]:=Ut (by lia);rw[this];simp
 ·have hk:∀(f:List Nat),f.filterMap (x.cps[·]?)=f.filterMap (x.cps.toList[·]?):=fun f=>by
   congr 1
   funext i
   simp
  show(List.filterMap _ _).toArray.toList=_;rw[Xc,hk];by_cases hle:HT.sIx x.length 0 lo<=HT.sIx x.length x.length hi
  ·rw[xR _ _ _ (by lia)]
  ·have e0:HT.sIx x.length x.length hi-HT.sIx x.length 0 lo=0:=by lia
   rw[e0];rfl
abbrev S(l:List Nat):Str:=⟨l.toArray⟩
theorem mV(x:Str):S x.cps.toList=x:=by cases x;simp[S]
theorem y3{a b:List Nat}(h:S a=S b):a=b:=by
 have:=UN (fun z:Str=>z.cps.toList) h;simpa[S] using this
theorem mW(l:List Nat):(S l).length=l.length:=by simp[S,Str.length]
theorem e8(l:List Nat):(S l).cps.toList=l:=by simp[S]
theorem Ee(a b:List Nat):S a++S b=S (a++b):=by
 rw[<-mV (S a++S b),PySem.W.KT.app_list,e8,e8]
def Gk:V->Option Int->Option Int->Hp->VK->Prop:=fun x lo hi H Q=>∃l,x=.str (S l)/\l.length<=sizeLine/\Q (.str (S (Bz l lo hi))) H
theorem BA:N2 X Gk:=by
 intro pr s σ H x v vl vu lo hi sl Q I rx hs pl pu h;obtain⟨l,rfl,hz,q⟩:=h;obtain⟨t,rfl⟩:=rx;have N5:(S l).length<=sizeLine:=by rw[mW];exact hz
 have e:∀t' k,EP X pr σ Q (.str (Txt.slice (S l) lo hi) t') {s with toks:=k}:=fun t' k=>by
  refine⟨.str (S (Bz l lo hi)),H,I.tok _,⟨t',?_⟩,q⟩;have e1:=tf (S l) lo hi;rw[e8]at e1;rw[<-e1,mV]
 refine⟨"str",_,PySem.F.slot_str_getitem.lookup,Ym _ _ _,?_⟩;have key:∀(N6 QR:Option (Int×Tok)),partValue N6=vl->partValue QR=vu->N6.map (·.1)=lo->QR.map (·.1)=hi->
   wpAny (model X.prog X.w) X.A (getItem (.str (S l) t) (.ref sl)) (EP X pr σ Q) X.xe s:=by
  rintro N6 QR rfl rfl rfl rfl;exact wpAny_getItem_str_slice (l:=N6) (u:=QR) (st:=none) hs rfl (post_val_or_str ⟨T2 (Txt.slice_le (S l) _ _) N5,fun t' k=>e t' k⟩)
 cases pl with
 |none=>
  cases pu with
  |none=>exact key none none rfl rfl rfl rfl
  |int j uj=>exact key none (some (j,uj)) rfl rfl rfl rfl
 |int i ui=>
  cases pu with
  |none=>exact key (some (i,ui)) none rfl rfl rfl rfl
  |int j uj=>exact key (some (i,ui)) (some (j,uj)) rfl rfl rfl rfl
end
def Def(K:W.Frag)(mg:Str->Option Value)(x:Str)(st:Stmt):Prop:=∃f fd,Fun K x x st f fd/\mg x=some (.ref f)
def Ct(P:Program)(w:World)(K:W.Frag)(mg:Str->Option Value)(base:Heap)(x:Str)(k:Nat)(sp:Sp):Prop:=
 ∃f fd ps,FnOk P w K mg base LQ k f fd ps sp/\mg x=some (.ref f)/\PySem.W.keepIn K (.ref f)=true/\Binds K fd ps []
section
variable{X:Cx}{e:Expr}{es:List Expr}{t:TA}{x:Str}{p pos:Pos}{k:Nat}{sp:Sp}
theorem BC(C:Ct X.prog X.w X.K X.mg X.base x k sp)(hr:Room k X.A)(hg:Gl X x)(ha:PA X (e::es) t)(JG:(x==("__debug__" : Str))=false:=by decide)
  (he:starEach (e::es) X.env=(false,eval e X.env)::starEach es X.env:=by rfl) (Jb:(backTo pos (starEach es X.env)).any (·.1)=false:=by rfl):
  PE X (.Call (.Name x p) (e::es) [] pos) (tCall sp [] E0 t):=by
 obtain⟨f,fd,ps,G,m,kp,b⟩:=C;exact yR G hr hg m kp b .nil Ed ha JG he Jb
end
theorem bt_len:bootBuiltins "len" = some (.builtin "len"):=by decide +kernel
theorem lr:bootBuiltins "isinstance" = some (.builtin "isinstance"):=by decide +kernel
theorem oK:bootBuiltins "list" = some (.type "list"):=by decide +kernel
theorem BD:bootBuiltins "int" = some (.type "int"):=by decide +kernel
theorem dD:bootBuiltins "tuple" = some (.type "tuple"):=by decide +kernel
theorem y4:bootBuiltins "bool" = some (.type "bool"):=by decide +kernel
theorem line_eq:sizeLine=16777216:=UE
theorem flat_strs(a:List (List Nat)):(a.map fun l=>V.str (S l)).all wB=true:=by
 rw[Uh];intro v hv;obtain⟨l,_,rfl⟩:=U3.mp hv;rfl
section
variable{X:Cx}{e:Expr}{st:Stmt}
end
def clOf(scope:Scope)(env:Env):List (Str×Addr):=scope.names.foldl (fun cs y=>if y.2==NameKind.free then(y.1,(env.cells.lookup y.1).getD 0)::cs else cs) []
def c9(scope:Scope)(env:Env):Bool:=scope.names.all fun y=>y.2 != NameKind.free||env.kindOf y.1==some .cell||env.kindOf y.1==some .free
theorem dh(env:Env):∀(l:List (Str×NameKind)) (cs:List (Str×Addr)),(∀y∈l,y.2=.free->∃c,env.cells.lookup y.1=some c)->
  (forIn l cs fun(y:Str×NameKind) (r:List (Str×Addr))=>(do
   if y.2==NameKind.free then
    let a <-cellOf env y.1
    pure (ForInStep.yield ((y.1,a)::r))
   else pure (ForInStep.yield r):Sem (ForInStep (List (Str×Addr)))))=pure (l.foldl (fun cs y=>if y.2==NameKind.free then(y.1,(env.cells.lookup y.1).getD 0)::cs else cs) cs)
 |[],cs,_=>by simp
 |y::l,cs,h=>by
  rw[X7,Wy];by_cases k:y.2=.free
  ·obtain⟨c,e⟩:=h y Tq k;have e2:cellOf env y.1=pure c:=by unfold cellOf;rw[e]
   simp only[k,UH,Wq,e2,e,Option.getD_some,pure_bind];exact dh env l _ fun z hz=>h z (Tu _ hz)
  ·have kb:(y.2==NameKind.free)=false:=by simpa using k
   simp only[kb,VG,Xk,pure_bind];exact dh env l _ fun z hz=>h z (Tu _ hz)
theorem gB(env:Env)(x:Str)(c:Addr):∀(l:List (Str×NameKind)) (cs:List (Str×Addr)),(∀y∈l,y.2=.free->∃c,env.cells.lookup y.1=some c)->(cs.lookup x=some c->env.cells.lookup x=some c)->
  (l.foldl (fun cs y=>if y.2==NameKind.free then(y.1,(env.cells.lookup y.1).getD 0)::cs else cs) cs).lookup x=some c->env.cells.lookup x=some c
 |[],_,_,h,e=>h e
 |y::l,cs,hf,h,e=>by
  rw[Wy]at e;refine gB env x c l _ (fun z hz=>hf z (Tu _ hz)) (fun q=>?_) e;split at q
  ·rename_i k;have k:y.2=.free:=by simpa using k
   obtain⟨d,ed⟩:=hf y Tq k;rw[T4]at q;cases hx:x==y.1 with
   |true=>
    rw[hx]at q;have exy:x=y.1:=by simpa using hx
    rw[ed,Option.getD_some]at q;rw[exy,ed];exact q
   |false=>
    rw[hx]at q;exact h q
  ·exact h q
theorem jD(env:Env)(x:Str):∀(l:List (Str×NameKind)) (cs:List (Str×Addr)),((∃d,cs.lookup x=some d)\/(x,NameKind.free)∈l)->
  ∃d,(l.foldl (fun cs y=>if y.2==NameKind.free then(y.1,(env.cells.lookup y.1).getD 0)::cs else cs) cs).lookup x=some d
 |[],_,h=>by
  rcases h with h|h
  ·exact h
  ·cases h
 |y::l,cs,h=>by
  rw[Wy];refine jD env x l _ ?_;rcases h with⟨d,h⟩|h
  ·refine .inl ?_;split
   ·rw[T4];cases hx:x==y.1 with
    |true=>exact⟨_,rfl⟩
    |false=>exact⟨d,h⟩
   ·exact⟨d,h⟩
  ·rcases TF.mp h with h|h
   ·refine .inl ?_;rw[<-h];refine⟨(env.cells.lookup x).getD 0,?_⟩;show List.lookup x ((x,_)::cs)=_;rw[T4,UH]
   ·exact .inr h
noncomputable def bJ(X:Cx)(scope:Scope)(N:List Str)(C:Addr)(s:Shared)(H:Hp)(fp:List Addr)(pn:List (Addr×Obj)):Cx:=
 {X with N:=N,s₀:=s,H₀:=H,env:=compEnvC scope (clOf scope X.env) C X.env,outer:=X.stack,ex:=fp,fn:=fun _=>false,pn:=pn,xe:=fun _ _=>False}
def fH(ix:List (Option Nat))(σ:L2.St):L2.St:=ix.map fun i=>i.bind fun i=>(σ[i]?).bind id
noncomputable def rj(wi:TI)(ix:List (Option Nat))(g:TG)(tc:TT)(te:TE):TE:=fun σ H Q=>wi σ H fun J H1=>∀D,H1 D=none->∃W:Nat->Nat->L2.St->Hp->Prop,(∃m,W 0 m (fH ix σ) (upd H1 D (.lst [])))/\
 ∀i m σ1 H2,W i m σ1 H2->(J.stop i H2/\Q (.ref D) H2)\/(J.go i H2/\∀x H3,J.yld i H2 x H3->g x σ1 H3 fun σ2 H4=>tc σ2 H4 fun b H5=>if b=true then te σ2 H5 fun v H6=>
  ∃ys,H6 D=some (.lst ys)/\ys.length<sizeLine/\∃m',m'<m/\W (i+1) m' σ2 (upd H6 D (.lst (ys++[v]))) else ∃m',m'<m/\W (i+1) m' σ2 H5)
abbrev LX:Value->Shared->Prop:=fun _ _=>False
theorem Ph{α:Type}{M:Model}{A:Around}{t:Sem α}{Q Q':α->Shared->Prop}{E:Value->Shared->Prop}{s:Shared}(h:wpAny M A t Q LX s)(k:∀a s,Q a s->Q' a s):wpAny M A t Q' E s:=Wd h k fun _ _ z=>z.elim
theorem mX{prog:Program}{w:World}{A:Around}{R:Result->Shared->Prop}{s:Shared}{elt target iter:Expr}{ifs:List Expr}{scope:Scope}{pos:Pos}{it acc:Value}{env:Env}(I:Nat->Shared->Prop)
  (turn:∀n s,I n s->wpAny (model prog w) A (pyNext it) (fun r s₁=>match r with
   |none=>R (.ok .next) s₁
   |some v=>wpAny (model prog w) A (letOwnedTupleGo target it v) (fun _ s₂=>wpAny (model prog w) A (assign target env v) (fun _ s₃=>
     wpAny (model prog w) A (forIn ifs true fun c r=>if r=true then do let ok <-isTrue c env (eval c env);pure (ForInStep.yield ok) else pure (ForInStep.yield r)) (fun ok s₄=>
      if ok=true then wpAny (model prog w) A (eval elt env) (fun x s₅=>
       wpAny (model prog w) A (call (.builtin "list.append") [acc,x]) (fun _ s₆=>∃m,m<n/\I m s₆) LX s₅) LX s₄
      else ∃m,m<n/\I m s₄) LX s₃) LX s₂) LX s₁) LX s)
  (n:Nat) (h:I n s):codeAny (model prog w) A (.compLoop (.ListComp elt [⟨target,iter,ifs,0⟩] scope pos) 0 it acc env) R s:=by
 refine codeAny_loop rfl I (fun n s hI=>?_) n h;show wpAny _ A ((compTurn (.ListComp elt [⟨target,iter,ifs,0⟩] scope pos) 0 it acc env).onRaise (fun x=>do noteFrame x env;theTreesLotGoes x)) _ _ s;refine wpAny_noted ?_;rw[compTurn_list];refine Ti (YM (Ti (Ph (turn n s hI) fun r s₁ h₁=>?_)));cases r with
 |none=>exact Tv h₁
 |some v=>
  refine Ti (Ph h₁ fun _ s₂ h₂=>Ti (Ph h₂ fun _ s₃ h₃=>Ti (Ph h₃ fun ok s₄ h₄=>?_)));cases ok with
  |false=>exact Tv ⟨rfl,h₄⟩
  |true=>exact Ti (Ti (Ph h₄ fun x s₅ h₅=>Ti (Ph h₅ fun _ s₆ h₆=>Tv (Tv ⟨rfl,h₆⟩))))
def MG(X:Cx)(ifs:List Expr)(t:TT):Prop:=
 ∀(pr:List (Addr×Obj)) (s:Shared) (σ:L2.St) (H:Hp) (Q:Bool->Hp->Prop),Inv X pr σ H s->t σ H Q->
  wpAny (model X.prog X.w) X.A (forIn ifs true fun c r=>if r=true then do let ok <-isTrue c X.env (eval c X.env);pure (ForInStep.yield ok) else pure (ForInStep.yield r)) (TP X pr σ Q) X.xe s
def Gm:TT:=fun _ H Q=>Q true H
theorem y6{X:Cx}:MG X [] Gm:=fun _ _ _ H _ I h=>wpAny_tests_nil ⟨H,I,h⟩
theorem y7{X:Cx}{c:Expr}{t:TT}(h:PT X c t):MG X [c] t:=fun pr s σ H Q I k=>wpAny_tests_one (h pr s σ H Q I k)
def mY(X:Cx)(scope:Scope)(N:List Str)(ix:List (Option Nat)):Bool:=
 N.length==ix.length&&(N.zip ix).all fun y=>match y.2 with
  |none=>true
  |some j=>X.N[j]?==some y.1&&scope.names.lookup y.1==some .free
theorem iY{scope:Scope}{env:Env}{x:Str}(h:scope.names.lookup x=some .free):(relabel scope env).names.lookup x=some .cell\/(relabel scope env).names.lookup x=some .free:=by
 unfold relabel;dsimp only;generalize scope.names=l at h;induction l with
 |nil=>cases h
 |cons y l ih=>
  obtain⟨n,k⟩:=y;rw[T4]at h;rw[TY];cases hx:x==n with
  |true=>
   rw[hx]at h;have hk:k=.free:=T6 h;subst hk;dsimp only;split
   ·exact .inl (by rw[T4,hx])
   ·exact .inr (by rw[T4,hx])
  |false=>
   rw[hx]at h;dsimp only;split
   ·rw[T4,hx];exact ih h
   ·rw[T4,hx];exact ih h
theorem mZ{scope:Scope}{env:Env}{x:Str}(hc:∀y∈scope.names,y.2≠.cell)(h:(relabel scope env).names.lookup x=some .cell\/(relabel scope env).names.lookup x=some .free):(x,NameKind.free)∈scope.names:=by
 unfold relabel at h;dsimp only at h;generalize scope.names=l at h hc;induction l with
 |nil=>rcases h with h|h <;> cases h
 |cons y l ih=>
  obtain⟨n,k⟩:=y;rw[TY]at h;dsimp only at h;have nk:k≠.cell:=hc (n,k) Tq;have So:=ih (hc:=fun z hz=>hc z (Tu _ hz));by_cases cnd:(k==NameKind.free&&env.scope.kind==.function&&env.kindOf n==some .cell)=true
  ·rw[Tw cnd,T4]at h;have kf:k=.free:=by
    have:(k==NameKind.free)=true:=by
     simp only[TL]at cnd;exact cnd.1.1
    simpa using this
   cases hx:x==n with
   |true=>
    have:x=n:=by simpa using hx
    rw[this,kf];exact Tq
   |false=>
    rw[hx]at h;exact Tu _ (So h)
  ·rw[TC cnd,T4]at h;cases hx:x==n with
   |true=>
    rw[hx]at h;have:x=n:=by simpa using hx
    rcases h with h|h
    ·exact absurd (T6 h) nk
    ·rw[this,<-T6 h];exact Tq
   |false=>
    rw[hx]at h;exact Tu _ (So h)
section
variable{X:Cx}{pr:List (Addr×Obj)}{σ:L2.St}{H:Hp}{s:Shared}{scope:Scope}{N:List Str}{ix:List (Option Nat)}{fp:List Addr}
theorem hU(ok:X.Ok)(hf:c9 scope X.env=true):∀y∈scope.names,y.2=.free->∃c,X.env.cells.lookup y.1=some c:=fun y hy k=>by
 have:=Uh.mp hf y hy;rw[k]at this;simp only[Xy,YN,Xd,Uc]at this;exact ok.has y.1 this
theorem e9(ok:X.Ok)(hf:c9 scope X.env=true){x:Str}{c:Addr}(h:(clOf scope X.env).lookup x=some c):X.env.cells.lookup x=some c:=
 gB X.env x c scope.names [] (hU ok hf) (fun z=>nomatch z) h
theorem lu(ok:X.Ok)(hf:c9 scope X.env=true){x:Str}(h:(x,NameKind.free)∈scope.names):∃c,(clOf scope X.env).lookup x=some c/\X.env.cells.lookup x=some c:=by
 obtain⟨c,e⟩:=jD X.env x scope.names [] (.inr h);exact⟨c,e,e9 ok hf e⟩
theorem _root_.L2.Inv.block(I:Inv X pr σ H s)(hf:c9 scope X.env=true)(hk:scope.kind=.function)(Hk:∀y∈scope.names,y.2≠.cell)(HZ:mY X scope N ix=true)(fo:∀b∈fp,mM X pr H b)(fin:∀b∈fp,∃o,s.heap.get? b=some o)
  {h1:Heap}{t1:Nat}{D C:Addr}(hD:D=s.heap.objs.size) (hC:C=s.heap.objs.size+1) (old:∀b o,s.heap.get? b=some o->h1.get? b=some o) {n:Nat}(acc:h1.get? D=some {cls:=.type "list",data:=.seq #[] n})
  {m:Str->Option Value}(ns:h1.Ns C m):Inv (bJ X scope N C s H fp (X.pn++pr)) [] (fH ix σ) (upd H D (.lst [])) {s with heap:=h1,toks:=t1}:=by
 have HN:s.heap.objs.size<=C:=by rw[hC];exact Vv _
 have freshD:s.heap.objs.size<=D:=by rw[hD];exact Tn _
 have nD:H D=none:=I.hok.fresh freshD;have DC:D≠C:=by rw[hD,hC];exact TK (T9 _)
 have KG:∀b,H b=none->b≠D->upd H D (.lst []) b=none:=fun b n z=>by rw[ak z];exact n
 have MH:∀b o,s.heap.get? b=some o->b≠D:=fun b o e=>TK (Ts (Tz e) freshD)
 have Ku:∀b o,s.heap.get? b=some o->b≠C:=fun b o e=>TK (Ts (Tz e) HN)
 have cellAt:∀x c,(clOf scope X.env).lookup x=some c->∃v o,s.heap.get? c=some o/\o.data=.cell v:=fun x c e=>by
  obtain⟨v,o,ho,hd⟩:=I.cell x c (e9 I.ok hf e);exact⟨v,o,ho,hd⟩
 have Rp:(bJ X scope N C s H fp (X.pn++pr)).Ok:=by
  refine⟨I.ok.mod,hk,I.ok.glob,I.ok.blt,HN,fun x y c e1 e2=>?_,fun x hx=>?_,fun x c z _=>?_,I.ok.hd,I.ok.frames,.inl rfl,fun b hb=>?_,I.bs,?_,fun b o e hb=>?_,fun b hb hs=>?_,I.stack,I.stkFree⟩
  ·exact I.ok.inj x y c (e9 I.ok hf e1) (e9 I.ok hf e2)
  ·obtain⟨c,e,_⟩:=lu I.ok hf (mZ Hk hx);exact⟨c,e⟩
  ·exact absurd (show false=true from z) TB
  ·obtain⟨f0,f1,f2,f3,f4,f5⟩:=fo b hb;refine⟨?_,fun x c e=>f4 x c (e9 I.ok hf e)⟩;intro z;have z:b=C:=z;obtain⟨o,ho⟩:=fin b hb;exact Ku b o ho z
  ·exact T2 I.ok.bsz I.sz
  ·obtain⟨f0,f1,f2,f3,f4,f5⟩:=fo b hb;rcases f3 with q|q
   ·exact I.ok.noex b o e q
   ·exact absurd (Ts (Tz e) (T2 I.ok.bsz q)) (U0 _)
  ·obtain⟨f0,f1,f2,_⟩:=fo b hb;exact(TF.mp (I.stkSub b hs)).elim f1 f2
 refine⟨Rp,rfl,I.bare,Un.laid old freshD nD,⟨m,ns,fun i x v e1 e2 e3=>?_⟩,fun x c e=>?_,?_,fun x c e=>?_,fun p hp=>?_,I.hok.laid old freshD ⟨Um _,[],n,.nil,acc⟩,?_⟩
 ·
  have e2:(ix.map fun i=>i.bind fun i=>(σ[i]?).bind id)[i]?=some (some v):=e2;have e1:N[i]?=some x:=e1;unfold mY at HZ;rw[TL]at HZ;rw[TN]at e2;cases q:ix[i]? with
  |none=>rw[q]at e2;cases e2
  |some o=>
   rw[q]at e2;have e2:(o.bind fun i=>(σ[i]?).bind id)=some v:=T6 e2;cases o with
   |none=>cases e2
   |some j=>
    have e2:(σ[j]?).bind id=some v:=e2;have hσ:σ[j]?=some (some v):=by
     cases w':σ[j]? with
     |none=>rw[w']at e2;cases e2
     |some y=>rw[w']at e2;exact UN some e2
    have hz:(N.zip ix)[i]?=some (x,some j):=by
     rw[VL];exact⟨e1,q⟩
    have hy:=Uh.mp HZ.2 _ (UL hz);simp only[TL,Uc]at hy;have PR:(x,NameKind.free)∈scope.names:=U2 hy.2;obtain⟨c,c1,c2⟩:=lu I.ok hf PR;have PU:X.env.kindOf x=some .cell\/X.env.kindOf x=some .free:=by
     have:=Uh.mp hf _ PR;simpa using this
    obtain⟨mo,N1,KD⟩:=I.loc;obtain⟨u,r,l⟩:=KD j x v hy.1 hσ (.inr PU);refine⟨u,r,.inr ⟨iY hy.2,c,c1,?_⟩⟩;rcases l with⟨k1,_⟩|⟨_,c',e',LS⟩
    ·rcases PU with k2|k2 <;> (rw[k1]at k2;cases k2)
    ·rw[c2]at e';cases e';obtain⟨o,ho,hd⟩:=LS;exact⟨o,old c o ho,hd⟩
 ·obtain⟨v,o,ho,hd⟩:=cellAt x c e;exact⟨v,o,old c o ho,hd⟩
 ·exact KG C (I.hok.fresh HN) (Vn DC)
 ·obtain⟨v,o,ho,hd⟩:=cellAt x c e;exact KG c (I.freeC x c (e9 I.ok hf e)) (MH c o ho)
 ·have hp:p∈X.pn++pr:=by
   have:p∈(X.pn++pr)++[]:=hp
   rwa [Ui]at this
  obtain⟨e,nn,ne,nf,d⟩:=I.pin p hp;refine⟨old _ _ e,KG _ nn (MH _ _ e),Ku _ _ e,fun z=>?_,d⟩;exact(TF.mp (I.stkSub p.1 z)).elim ne nf
 ·unfold mY at HZ;rw[TL]at HZ;have:N.length=ix.length:=by simpa using HZ.1
  show(ix.map _).length=N.length;rw[Tt,this]
theorem _root_.L2.Inv.unblock{C:Addr}{σ1:L2.St}{H1:Hp}{s1:Shared}{h2:Heap}(I:Inv X pr σ H s)(fo:∀b∈fp,mM X pr H b)(hC:s.heap.objs.size<=C)(J:Inv (bJ X scope N C s H fp (X.pn++pr)) [] σ1 H1 s1)(hs:Heap.SameBut C s1.heap h2):
  Inv X pr σ H1 {s1 with heap:=h2}:=by
 have Ku:∀b o,s.heap.get? b=some o->b≠C:=fun b o e=>TK (Ts (Tz e) hC)
 have bb:Un (K0 X.stack) fp H H1 s.heap s1.heap:=J.base;have jf:H1 C=none:=J.free;refine I.call' (s':={s1 with heap:=h2}) (ch:=fp) J.os ⟨fun b o e n hb hx=>?_,fun b o e n hb hx=>?_,bb.free,fun b o e hx=>?_,bb.tups,bb.frzs,bb.tbls⟩ (fun b ob e=>?_) J.bare fun b hb=>?_
 ·exact(hs.2 b (Ku b o e)).trans (bb.keep b o e n hb hx)
 ·obtain⟨sl,q⟩:=bb.slot b o e n hb hx;exact⟨sl,(hs.2 b (Ku b o e)).trans q⟩
 ·obtain⟨o',q⟩:=bb.there b o e hx;exact⟨o',(hs.2 b (Ku b o e)).trans q⟩
 ·refine(J.hok b ob e).stay (fun c w' hc q=>(hs.2 c ?_).trans q) (fun _ q=>q) fun _ _ q=>q
  rintro rfl;rcases hc with rfl|hc
  ·rw[jf]at e;cases e
  ·rw[jf]at hc;cases hc
 ·obtain⟨f0,f1,f2,f3,f4,f5⟩:=fo b hb;exact⟨f3,f1,f4,f5⟩
end
section
variable{X:Cx}{scope:Scope}{N:List Str}{ix:List (Option Nat)}{tg iter elt:Expr}{ifs:List Expr}{pos:Pos}{wi:TI}{g:TG}{tc:TT}{te:TE}
theorem kP{pr:List (Addr×Obj)}{σ:L2.St}{H2:Hp}{s2:Shared}{J:It}{fp:List Addr}{it:Addr}{tn:Nat->Heap->Prop}{Q:VK}{RR:Value->Addr->Result->Shared->Prop}{E:Value->Shared->Prop}
  (hc:X.calm=true) (I2:Inv X pr σ H2 s2) (T:Turn X.prog X.w X.K tg J fp it tn) (G9:tn 0 s2.heap) (f2:∀b∈fp,mM X pr H2 b)
  (hg:∀C s H fp pn,PG (bJ X scope N C s H fp pn) tg g) (ht:∀C s H fp pn,MG (bJ X scope N C s H fp pn) ifs tc) (he:∀C s H fp pn,PE (bJ X scope N C s H fp pn) elt te)
  (hf:c9 scope X.env=true) (hk:scope.kind=.function) (Hk:∀y∈scope.names,y.2≠.cell) (HZ:mY X scope N ix=true)
  (q:∀D,H2 D=none->∃W:Nat->Nat->L2.St->Hp->Prop,(∃m,W 0 m (fH ix σ) (upd H2 D (.lst [])))/\
   ∀i m σ1 H3,W i m σ1 H3->(J.stop i H3/\Q (.ref D) H3)\/(J.go i H3/\∀x H4,J.yld i H3 x H4->g x σ1 H4 fun σ2 H5=>tc σ2 H5 fun b H6=>if b=true then te σ2 H6 fun v H7=>
    ∃ys,H7 D=some (.lst ys)/\ys.length<sizeLine/\∃m',m'<m/\W (i+1) m' σ2 (upd H7 D (.lst (ys++[v]))) else ∃m',m'<m/\W (i+1) m' σ2 H6))
  (Rq:∀(D C:Addr) (σ1:L2.St) (H1:Hp) (s1:Shared),s2.heap.objs.size<=C->Inv (bJ X scope N C s2 H2 fp (X.pn++pr)) [] σ1 H1 s1->Q (.ref D) H1->RR (.ref D) C (.ok .next) s1):
  wpAny (model X.prog X.w) X.A (newList []) (fun acc s₃=>wpAny (model X.prog X.w) X.A (newFunctionEnv scope X.env.globals (clOf scope X.env) [] X.env.qual none .none (some X.env)) (fun LY s₄=>
   codeAny (model X.prog X.w) X.A (.compStart (.ListComp elt [⟨tg,iter,ifs,0⟩] scope pos) 0 (.ref it) acc {LY with scope:=relabel scope X.env}) (RR acc LY.locals) s₄) E s₃) E s2:=by
 refine UJ (wpAny_newFunctionEnv Hk (by intro y hy;simp at hy) (fun h₁ hns₁ hsb₁=>?_) hk);dsimp only at hns₁ hsb₁ ⊢;generalize hH2:s2.heap.push {cls:=.type "list",dict:=none,data:=.seq ([]:List Value).toArray}=HH at hns₁ hsb₁ ⊢;have hC:HH.objs.size=s2.heap.objs.size+1:=by rw[<-hH2,UR]
 have Sq:s2.heap.objs.size≠HH.objs.size:=by rw[hC];exact TK (T9 _)
 have Lz:s2.heap.objs.size<=HH.objs.size:=by rw[hC];exact Vv _
 have Ku:∀b o,s2.heap.get? b=some o->b≠HH.objs.size:=fun b o e=>TK (Ts (Tz e) Lz)
 have old:∀b o,s2.heap.get? b=some o->h₁.get? b=some o:=fun b o e=>hsb₁.extBut b o (Ku b o e) (Tj _ (hH2▸Tj _ e))
 have LB:h₁.get? s2.heap.objs.size=some {cls:=.type "list",data:=.seq #[] 0}:=hsb₁.extBut _ _ Sq (Tj _ (hH2▸TJ _ rfl));obtain⟨W,⟨m0,w0⟩,turn⟩:=q s2.heap.objs.size (I2.hok.fresh (Tn _));have fin:∀b∈fp,∃o,s2.heap.get? b=some o:=fun b hb=>let⟨o,e,_⟩:=T.obj 0 _ G9 b hb;⟨o,e⟩
 have JF:∀{H':Hp},(∀b∈fp,H' b=none)->∀b∈fp,mM (bJ X scope N HH.objs.size s2 H2 fp (X.pn++pr)) [] H' b:=fun{H'} hn b hb=>by
  obtain⟨f0,f1,ff,f3,f4,f5⟩:=f2 b hb;refine⟨hn b hb,?_,fun z=>?_,.inl hb,fun x c e=>f4 x c (e9 I2.ok hf e),fun p hp=>?_⟩
  ·intro z;have z:b=HH.objs.size:=z;obtain⟨o,ho⟩:=fin b hb;exact Ku b o ho z
  ·exact(TF.mp (I2.stkSub b z)).elim f1 ff
  ·have hp:p∈X.pn++pr:=by
    have:p∈(X.pn++pr)++[]:=hp
    rwa [Ui]at this
   exact f5 p hp
 have loop:∀s₃:Shared,s₃={s2 with heap:=h₁,toks:=s2.toks+([]:List (Str×Value)).length}->
   codeAny (model X.prog X.w) X.A (.compLoop (.ListComp elt [⟨tg,iter,ifs,0⟩] scope pos) 0 (.ref it) (.ref s2.heap.objs.size) (compEnvC scope (clOf scope X.env) HH.objs.size X.env)) (RR (.ref s2.heap.objs.size) HH.objs.size) s₃:=by
  rintro s₃ rfl;refine mX (fun n s'=>∃i σ' H',Inv (bJ X scope N HH.objs.size s2 H2 fp (X.pn++pr)) [] σ' H' s'/\tn i s'.heap/\(∀b∈fp,H' b=none)/\W i n σ' H') ?_ m0
   ⟨0,_,_,I2.block hf hk Hk HZ f2 fin rfl hC old LB hns₁,T.keep 0 _ _ G9 fun b _ o e=>old b o e,fun b hb=>?_,w0⟩
  ·rintro n s3 ⟨i,σ3,H3,I3,Hx,Ny,w3⟩;rcases turn i n σ3 H3 w3 with⟨stop,qn⟩|⟨go,step⟩
   ·refine Hl (T.done (bJ X scope N HH.objs.size s2 H2 fp (X.pn++pr)) rfl rfl rfl hc i [] s3 σ3 H3 LX I3 (JF Ny) Hx stop) fun r s4 Hm=>?_
    obtain⟨hr,I4⟩:=Hm;subst hr;exact Rq _ _ σ3 H3 s4 Lz I4 qn
   ·refine Hl (T.item (bJ X scope N HH.objs.size s2 H2 fp (X.pn++pr)) rfl rfl rfl hc i [] s3 σ3 H3 LX I3 (JF Ny) Hx go) fun r s4 Hm=>?_
    obtain⟨u,hr,h4⟩:=Hm;subst hr;refine Hl h4 fun _ s5 Hm=>?_
    obtain⟨x,H5,I5,r5,y5,Ja,PD⟩:=Hm;have PF:=I5.pinned (JF PD) (T.obj _ _ Ja);refine Hl (hg _ _ _ _ _ _ s5 σ3 H5 x u _ PF r5 (step x H5 y5)) fun _ s6 Hm=>?_
    obtain⟨σ6,H6,I6,q6⟩:=Hm;refine Hl (ht _ _ _ _ _ _ s6 σ6 H6 _ I6 q6) fun ok s7 Hm=>?_
    obtain⟨H7,I7,q7⟩:=Hm;have again:∀{H8:Hp}{s8:Shared},Inv (bJ X scope N HH.objs.size s2 H2 fp (X.pn++pr)) ([]++kM fp s5.heap) σ6 H8 s8->(∃m',m'<n/\W (i+1) m' σ6 H8)->
      ∃m,m<n/\∃i σ' H',Inv (bJ X scope N HH.objs.size s2 H2 fp (X.pn++pr)) [] σ' H' s8/\tn i s8.heap/\(∀b∈fp,H' b=none)/\W i m σ' H':=fun{H8 s8} I8 ⟨m',hm,w8⟩=>by
     refine⟨m',hm,i+1,σ6,H8,I8.unpinned,T.keep _ _ _ Ja fun b hb o e=>(I8.pin (b,o) (Tp _ (Tp _ (dg hb e)))).1,fun b hb=>?_,w8⟩;obtain⟨o,e,d⟩:=T.obj _ _ Ja b hb;exact(I8.pin (b,o) (Tp _ (Tp _ (dg hb e)))).2.1
    cases ok with
    |false=>exact again I7 q7
    |true=>
     show wpAny _ _ _ _ _ _;refine Hl (he _ _ _ _ _ _ s7 σ6 H7 _ I7 q7) fun x8 s8 Hm=>?_
     obtain⟨v8,H8,I8,r8,ys,Rr,Hr,q8⟩:=Hm;refine Hl (jB _ s8 σ6 H8 (.ref s2.heap.objs.size) [v8] (.ref s2.heap.objs.size) [x8] (fun _ H9=>∃m',m'<n/\W (i+1) m' σ6 H9) I8 rfl (.cons r8 .nil) ⟨_,ys,v8,rfl,rfl,Rr,Hr,q8⟩) fun _ s9 Hm=>?_
     obtain⟨_,H9,I9,_,q9⟩:=Hm;exact again I9 q9
  ·rw[ak (fun z=>by
    obtain⟨o,ho⟩:=fin b hb;exact absurd z (TK (Tz ho)))]
   exact(f2 b hb).1
 exact codeAny_compStart_list (loop _ rfl) (T.self _ 0 _ _ _ (T.keep 0 _ _ G9 fun b _ o e=>old b o e) (loop _ rfl))
theorem tj(ix:List (Option Nat))(N:List Str)(hc:X.calm=true)(hi:PI X tg iter wi)(hg:∀C s H fp pn,PG (bJ X scope N C s H fp pn) tg g)(ht:∀C s H fp pn,MG (bJ X scope N C s H fp pn) ifs tc)(he:∀C s H fp pn,PE (bJ X scope N C s H fp pn) elt te)
  (hf:c9 scope X.env=true:=by rfl) (hk:scope.kind=.function:=by rfl) (Hk:∀y∈scope.names,y.2≠.cell:=by decide +kernel) (Hu:∀y∈scope.names,y.2=.local->scope.names.lookup y.1=some .local:=by decide +kernel) (HZ:mY X scope N ix=true:=by rfl)
  (hs:∀x,foldedSetIterable iter X.env x=pure x:=by intro _;rfl):PE X (.ListComp elt [⟨tg,iter,ifs,0⟩] scope pos) (rj wi ix g tc te):=by
 intro pr s σ H Q I h;rw[eval_ListComp];have JK:closureFor scope X.env=pure (clOf scope X.env):=by
  unfold closureFor clOf;have:=dh X.env scope.names [] (hU I.ok hf);simpa using this
 refine VR (use:=none) rfl hs JK hk Hu (Hl (hi pr s σ H _ I h) fun v s1 h1=>Hl h1 fun Pc s2 h2=>?_);obtain⟨it,fp,tn,J,H2,e,I2,T,G9,f2,q⟩:=h2;subst e;refine kP (RR:=fun acc C=>compPost (model X.prog X.w) X.A X.xe none (EP X pr σ Q) acc C) (Q:=Q) (iter:=iter) hc I2 T G9 f2 hg ht he hf hk Hk HZ q fun D C σ1 H1 s1 hC J1 q1=>?_
 obtain⟨m,ns,_⟩:=J1.loc;exact⟨m,ns,fun h' N7=>⟨.ref D,H1,I2.unblock f2 hC J1 N7,rfl,q1⟩⟩
end
section
variable{X:Cx}{scope:Scope}{N:List Str}{ix:List (Option Nat)}{tg iter elt:Expr}{ifs:List Expr}{pos:Pos}{wi:TI}{g:TG}{tc:TT}{te:TE}
theorem y8{i:Nat}{y:Str}{py JL:Pos}(ix:List (Option Nat))(N:List Str)(hN:X.N.Nodup)(N8:X.N[i]?=some y)(hy:Loc X.env.scope y)(hc:X.calm=true)(hi:PI X tg iter wi)(hg:∀C s H fp pn,PG (bJ X scope N C s H fp pn) tg g)(ht:∀C s H fp pn,MG (bJ X scope N C s H fp pn) ifs tc)
  (he:∀C s H fp pn,PE (bJ X scope N C s H fp pn) elt te) (MI:swapsWith (.ListComp elt [⟨tg,iter,ifs,0⟩] scope pos) (some (.Name y py)) JL.line X.env=pure true:=by rfl)
  (hf:c9 scope X.env=true:=by rfl) (hk:scope.kind=.function:=by rfl) (Hk:∀y∈scope.names,y.2≠.cell:=by decide +kernel) (Hu:∀y∈scope.names,y.2=.local->scope.names.lookup y.1=some .local:=by decide +kernel) (HZ:mY X scope N ix=true:=by rfl)
  (hs:∀x,foldedSetIterable iter X.env x=pure x:=by intro _;rfl) (Lg:X.fn y=true\/X.env.scope.names.lookup y=some .local:=by first|exact .inl rfl|exact .inr rfl):
  PS X (.Assign [.Name y py] (.ListComp elt [⟨tg,iter,ifs,0⟩] scope pos) JL) (fun D σ H=>rj wi ix g tc te σ H fun v H'=>D.nx (σ.set i (some v)) H'):=by
 intro pr s σ H Dd I h;rw[exec_Assign_Name_used _ _ _ _ MI];have JK:closureFor scope X.env=pure (clOf scope X.env):=by
  unfold closureFor clOf;have:=dh X.env scope.names [] (hU I.ok hf);simpa using this
 refine Ti (YM (Ti ?_));show wpAny _ X.A (do let _ <-comprehension (.ListComp elt [⟨tg,iter,ifs,0⟩] scope pos) scope X.env _ (newList []) false (eval iter X.env) (some (assign (.Name y py) X.env))) _ _ s;refine Ti (Wd (VR (use:=some (assign (.Name y py) X.env)) (Q:=fun _ s'=>SP X pr Dd .next s') rfl hs JK hk Hu
  (Hl (hi pr s σ H _ I h) fun v s1 h1=>Hl h1 fun Pc s2 h2=>?_)) (fun _ s' hq=>Tv (Tv hq)) fun _ _ e=>e)
 obtain⟨it,fp,tn,J,H2,e,I2,T,G9,f2,q⟩:=h2;subst e;refine kP (RR:=fun acc C=>compPost (model X.prog X.w) X.A X.xe (some (assign (.Name y py) X.env)) (fun _ s'=>SP X pr Dd .next s') acc C) (Q:=fun v H'=>Dd.nx (σ.set i (some v)) H') (iter:=iter) hc I2 T G9 f2 hg ht he hf hk Hk HZ q fun D C σ1 H1 s1 hC J1 q1=>?_
 obtain⟨m,ns,_⟩:=id J1.loc;have ns:s1.heap.Ns C m:=ns;have I3:Inv X pr σ H1 s1:=I2.unblock f2 hC J1 (.refl ..);show wpAny _ X.A (assign (.Name y py) X.env (.ref D)) _ _ s1;refine Xx (jx I3 hN N8 hy (v:=.ref D) rfl (fun s4 I4 ⟨a,sb,ha⟩=>?_) Lg);have aC:C≠a:=by
  intro z;rcases ha with ha|ha
  ·exact TK (Ts I2.lt hC) (ha▸z.symm)
  ·obtain⟨v,o,ho,_⟩:=I2.cell y a ha;exact TK (Ts (Tz ho) hC) z.symm
 refine⟨m,ns.sameBut sb aC,fun h' N7=>?_⟩;have jf:H1 C=none:=J1.free;have kk:∀b o,b≠C->s4.heap.get? b=some o->h'.get? b=some o:=fun b o hb e=>(N7.2 b hb).trans e
 refine⟨σ.set i (some (.ref D)),H1,?_,q1⟩;have z:=I4.turned (t':=s4.toks) kk jf (fun z=>TK (Ts I2.lt hC) z.symm) (.inr (T2 I2.sz hC)) (fun x c e z=>by
  obtain⟨v,o,ho,_⟩:=I2.cell x c e;exact TK (Ts (Tz ho) hC) z) (fun p hp z=>TK (Ts (Tz (I2.pin p hp).1) hC) z)
 exact z
end
def Itv(val:Nat->V)(n:Nat):It:=⟨fun i _=>i<n,fun i H x H'=>H'=H/\x=val i,fun i _=>i=n⟩
theorem pR{P:Program}{w:World}{K:W.Frag}{tg:Expr}(ty:String)(Rn:["enumerate","zip","dict_itemiterator","dict_reverseitemiterator","odict_iterator","itertools.zip_longest","itertools.pairwise"].contains ty=false)(l:List Nat)(t:Tok)(it:Addr)
  (Wk:∀A:Around,A.handled=none->Walks P w A it [it] [it] (S l).cps.size (SignAt (S l)) (fun i h=>h.IsStrIter it ty (S l) t i))
  (self:∀(A:Around) (i:Nat) (s:Shared) (Q:Value->Shared->Prop) (E:Value->Shared->Prop),s.heap.IsStrIter it ty (S l) t i->Q (.ref it) s->wpAny (model P w) A (pyIter (.ref it)) Q E s):
  Turn P w K tg (Itv (fun i=>.str (S [l.getD i 0])) l.length) [it] it (fun i h=>h.IsStrIter it ty (S l) t i) where
 mem:=by simp
 obj:=fun i h st b hb=>by
  have e:b=it:=by simpa using hb
  subst e;obtain⟨o,e,c,d⟩:=st;exact⟨o,e,fun v z=>by rw[d]at z;cases z⟩
 keep:=fun i h h' st k=>by
  obtain⟨o,e,r⟩:=st;exact⟨o,k it (by simp) o e,r⟩
 item:=by
  intro X hP hw hK hc i pr s σ H E I hf st hg;subst hP hw hK;obtain⟨f0,f1,f2,f3,f4,f5⟩:=hf it (by simp);have hg:i<l.length:=hg;refine(Wk X.A (I.ok.hd hc)).item i s _ _ (by simpa[S] using hg) st fun v h' tk hv Kd kk=>?_
  obtain⟨c,u,Pb,rfl⟩:=hv;have I1:Inv X pr σ H {s with heap:=h',toks:=tk}:=I.turned (fun b o hb e=>kk b o (by simpa using hb) e) f0 f1 f3 f4 f5;obtain⟨o,e,cc,d⟩:=id Kd;have IB:l.getD i 0=c:=by
   have:l[i]?=some c:=by simpa[S] using Pb
   rw[Th,this];rfl
  refine⟨_,rfl,sv (s:={s with heap:=h',toks:=tk}) e cc d Rn ⟨.str (S [l.getD i 0]),H,I1,⟨u,?_⟩,⟨rfl,rfl⟩,Kd,fun b hb=>(hf b hb).1⟩⟩;rw[IB]
 done:=by
  intro X hP hw hK hc i pr s σ H E I hf st hg;subst hP hw hK;obtain⟨f0,f1,f2,f3,f4,f5⟩:=hf it (by simp);have hg:i=l.length:=hg;have hn:(S l).cps.size=i:=by rw[hg];simp[S]
  refine(Wk X.A (I.ok.hd hc)).done s _ _ (by rw[hn];exact st) fun h' tk kk=>⟨rfl,I.turned (fun b o hb e=>kk b o (by simpa using hb) e) f0 f1 f3 f4 f5⟩
 self:=self
def Gn(tl:TE):TI:=fun σ H R=>tl σ H fun x H1=>∃l,x=.str (S l)/\R (Itv (fun i=>.str (S [l.getD i 0])) l.length) H1
section
variable{X:Cx}{tg:Expr}
theorem BE{l:Expr}{tl:TE}(hl:PE X l tl):PI X tg l (Gn tl):=by
 intro pr s σ H R I h;refine Hl (hl pr s σ H _ I h) fun v s1 Hm=>?_
 obtain⟨x,H1,I1,r1,l,e,q⟩:=Hm;subst e;obtain⟨t,rfl⟩:=r1;cases ha:(S l).cps.all (·< 128)
 ·refine wpAny_pyIter_wide ha ?_;refine⟨s1.heap.objs.size,[s1.heap.objs.size],_,_,H1,rfl,I1.kept (t':=s1.toks) fun b o e=>Tj _ e,
   pR "str_iterator" (by decide) l t _ (fun A hA=>Walks.strWide hA _ _ _) (fun _ _ _ _ _ st h=>wpAny_pyIter_striter_wide st h),⟨_,TJ _ rfl,rfl,rfl⟩,fun b hb=>?_,q⟩
  have e:b=s1.heap.objs.size:=by simpa using hb
  subst e;exact I1.fpOk (Tn _) (I1.hok.fresh (Tn _))
 ·refine wpAny_pyIter_ascii ha ?_;refine⟨s1.heap.objs.size,[s1.heap.objs.size],_,_,H1,rfl,I1.kept (t':=s1.toks) fun b o e=>Tj _ e,
   pR "str_ascii_iterator" (by decide) l t _ (fun A hA=>Walks.strAscii hA _ _ _) (fun _ _ _ _ _ st h=>wpAny_pyIter_striter_ascii st h),⟨_,TJ _ rfl,rfl,rfl⟩,fun b hb=>?_,q⟩
  have e:b=s1.heap.objs.size:=by simpa using hb
  subst e;exact I1.fpOk (Tn _) (I1.hok.fresh (Tn _))
theorem wG{pr:List (Addr×Obj)}{s:Shared}{σ:L2.St}{H:Hp}{p:Addr}{xs:List V}{E:Value->Shared->Prop}{R:Value->Shared->Prop}(hc:X.calm=true)(I:Inv X pr σ H s)(h:SqL X.K H p xs\/SqT X.K H p xs)
  (k:∀(it:Addr) (fp:List Addr) (o:Obj) (us:List Value) (Sx:Nat->Heap->Prop),Vals xs us->Walks X.prog X.w X.A.in1 it fp [it] us.length (fun i v=>us[i]?=some v) Sx->Sx 0 (s.heap.push o)->(∀b∈fp,b<(s.heap.push o).objs.size)->it=s.heap.objs.size->R (.ref it) {s with heap:=s.heap.push o}):
  wpAny (model X.prog X.w) X.A.in1 (pyIter (.ref p)) R E s:=by
 have hh:X.A.in1.handled=none:=I.ok.hd hc;rcases h with h|h
 ·obtain⟨us,r,pl,hz⟩:=I.list h;have Hr:p<s.heap.objs.size:=by obtain⟨o,ho,_⟩:=pl.isList;exact Tz ho
  refine Va pl.isList (k s.heap.objs.size [s.heap.objs.size,p] _ us (fun i h=>h.IsListIter s.heap.objs.size p i/\h.IsList p us.toArray) r (by
   have W:=Walks.list (prog:=X.prog) (w:=X.w) hh s.heap.objs.size p (TK Hr) us.toArray;simpa using W) ⟨⟨_,TJ _ rfl,rfl,rfl⟩,pl.isList.at fun o e=>Tj _ e⟩ (fun b hb=>?_) rfl)
  rw[UR];rcases TF.mp hb with rfl|hb
  ·exact T9 _
  ·rw[Ul]at hb;rw[hb];exact VS Hr
 ·obtain⟨us,r,pl,hz⟩:=I.tuple h;have N6:s.heap.IsTuple p us.toArray:=pl;have Hr:p<s.heap.objs.size:=by obtain⟨o,ho,_⟩:=pl;exact Tz ho
  refine U5 N6 (k s.heap.objs.size [s.heap.objs.size,p] _ us (fun i h=>h.IsTupleIter s.heap.objs.size p i/\h.IsTuple p us.toArray) r (by
   have W:=Walks.tuple (prog:=X.prog) (w:=X.w) hh s.heap.objs.size p (TK Hr) us.toArray;simpa using W) ⟨⟨_,TJ _ rfl,rfl,rfl⟩,N6.at fun o e=>Tj _ e⟩ (fun b hb=>?_) rfl)
  rw[UR];rcases TF.mp hb with rfl|hb
  ·exact T9 _
  ·rw[Ul]at hb;rw[hb];exact VS Hr
theorem rk{pr:List (Addr×Obj)}{s:Shared}{σ:L2.St}{H:Hp}{o:Obj}{h':Heap}{tk:Nat}(I:Inv X pr σ H s)(kk:∀b ob,b∉[s.heap.objs.size]->(s.heap.push o).get? b=some ob->h'.get? b=some ob):
  Inv X pr σ H {s with heap:=h',toks:=tk}:=I.kept fun b ob e=>kk b ob (fun z=>TK (Tz e) (by simpa using z)) (Tj _ e)
theorem bH{α:Type}(l:List α)(i:Nat)(d:α)(h:i<l.length):l.getD i d=l[i]:=by
 rw[Th,To h];rfl
theorem lx{ns:List Int}{us:List Value}(r:Vals (ns.map V.int) us){i:Nat}{v:Value}(h:us[i]?=some v):∃t,v=.int (ns.getD i 0) t:=by
 have hl:=r.length;rw[Tt]at hl;obtain⟨hi,_⟩:=TH.mp h;have e1:(ns.map V.int)[i]?=some (.int (ns.getD i 0)):=by
  rw[TN,To (by lia),bH _ _ _ (by lia)];rfl
 obtain⟨u,hu,t,rfl⟩:=r.get e1;rw[h]at hu;exact⟨t,T6 hu⟩
def BG(ns:List Int):Int:=ns.foldl max (ns.headD 0)
def Ef(ns:List Int):Int:=ns.foldl min (ns.headD 0)
theorem m6(ns:List Int):∀k,k<=ns.length->preSum (fun i=>ns.getD i 0) k=(ns.take k).sum
 | 0,_=>by simp[preSum]
 |k+1,h=>by
  have et:ns.take (k+1)=ns.take k++[ns.getD k 0]:=by
   rw[List.take_add_one,To (by lia),bH _ _ _ (by lia)];rfl
  rw[et,List.sum_append,<-m6 ns k (by lia)];simp[preSum]
theorem tm(hc:X.calm=true):dC X (.builtin "sum") (fun vs H Q=>∃(p:Addr) (ns:List Int),vs=[.ref p]/\(SqL X.K H p (ns.map V.int)\/SqT X.K H p (ns.map V.int))/\Q (.int ns.sum) H):=by
 intro pr s σ H vs us Q I r h;obtain⟨p,ns,rfl,hp,q⟩:=h;obtain⟨u,rfl,r1⟩:=jy r;cases r1;refine call_sum_walkG (wG hc I hp fun it fp o ws Sx rv W st hf hit=>?_);have hl:=rv.length;rw[Tt]at hl;refine⟨it,fp,[it],_,_,Sx,fun i=>ns.getD i 0,rfl,W,st,hf,fun i v hv=>lx rv hv,fun h' tk t' kk=>?_⟩;subst hit;refine⟨.int ns.sum,H,rk (s:=s) I kk,⟨t',?_⟩,q⟩;rw[<-hl,m6 ns _ (Tn _),List.take_length]
end
section
variable{prog:Program}{w:World}{A:Around}{R:Result->Shared->Prop}{it:Addr}{fp wr:List Addr}{n:Nat}{Pv:Nat->Value->Prop}{Sx:Nat->Heap->Prop}{kw:List (Str×Value)}
end
section
variable{X:Cx}{e k:Expr}{te tk:TE}{p pos PH:Pos}
def maxD(ns:List Int)(d:Int):Int:=if ns=[] then d else BG ns
end
section
variable{prog:Program}{w:World}{A:Around}{E:Value->Shared->Prop}{s:Shared}
theorem wH{it t:Addr}{i:Nat}{items:Array Value}{x:Value}{Q:Value->Shared->Prop}(hi:s.heap.IsTupleIter it t i)(ht:s.heap.IsTuple t items)(hx:items[i]?=some x)
  (k:∀h',h'.IsTupleIter it t (i+1)->Heap.SameBut it s.heap h'->Q x {s with heap:=h'}):wpAny (model prog w) A (Builtin.SmallTypes.nextOf (.ref it)) Q E s:=by
 obtain⟨o,ho,oc,od⟩:=id hi;obtain⟨q,hq,_,n,qd⟩:=ht;unfold Builtin.SmallTypes.nextOf;refine Ti (Uu (name:=Str.ofString "__next__") hi.typeIs VE (UQ VE hi.typeIs Xe ?_ (W4 _)));show wpAny _ _ (field (.ref it) 0 >>= _) _ _ s;refine Ti (U6 ho od (x:=.ref t) rfl ?_);show wpAny _ _ (if(Value.ref t==Value.none)=true then _ else _) _ _ s;rw[TC (fun z:(Value.ref t==Value.none)=true=>TB z)];show wpAny _ _ (field (.ref it) 1 >>= _) _ _ s;refine Ti (U6 ho od (x:=.int i 0) rfl (Ti (VM hq qd ?_)));simp only[Uk,hx];refine Ti (Xr ho od (by simp) (Tv ⟨x,rfl,Tv (k _ ⟨_,WO _ ho (Obj.isFreed_of_fields (Wz od _)),(Obj.cls_mapFields ..).trans oc,?_⟩ (Wr ..))⟩));rw[Wz od];simp[rawInt]
theorem y9{it t:Addr}{i:Nat}{items:Array Value}{Q:Value->Shared->Prop}(hh:A.handled=none)(hi:s.heap.IsTupleIter it t i)(ht:s.heap.IsTuple t items)(hx:items[i]?=none)
  (k:∀h' e,Heap.ExtBut it s.heap h'->(∃o,h'.get? e=some o/\o.cls=.type "StopIteration")->E (.ref e) {s with heap:=h'}):wpAny (model prog w) A (Builtin.SmallTypes.nextOf (.ref it)) Q E s:=by
 obtain⟨o,ho,oc,od⟩:=id hi;obtain⟨q,hq,_,n,qd⟩:=ht;unfold Builtin.SmallTypes.nextOf;refine Ti (Uu (name:=Str.ofString "__next__") hi.typeIs VE (UQ VE hi.typeIs Xe ?_ (W4 _)));show wpAny _ _ (field (.ref it) 0 >>= _) _ _ s;refine Ti (U6 ho od (x:=.ref t) rfl ?_);show wpAny _ _ (if(Value.ref t==Value.none)=true then _ else _) _ _ s;rw[TC (fun z:(Value.ref t==Value.none)=true=>TB z)];show wpAny _ _ (field (.ref it) 1 >>= _) _ _ s;refine Ti (U6 ho od (x:=.int i 0) rfl (Ti (VM hq qd ?_)));simp only[Uk,hx];refine Ti (Y1 (Ti (Xr ho od (by simp) ?_)));show wpAny _ _ (newExc (.type "StopIteration") [] >>= _) _ _ _;refine Ti ?_;simp only[newExc,newTuple];refine Ti (UJ (Ti (m:=firstArgMember _ _) (wpAny_of_eq (a:=Value.none) (by first|rfl|(simp only[firstArgMember];rfl)) (UJ ?_ (by size_fits)))) (by size_fits));simp only[raiseNew];refine Ti (wpAny_handled ?_);first
  |rw[show A.in1.handled=none from hh]
  |rw[hh]
 exact Ti (Tv (wpAny_throw (k _ _ (((Wr ..).extBut.push _).push _) ⟨_,TJ _ rfl,rfl⟩)))
def IsIt(k:Bool)(h:Heap)(it l:Addr)(i:Nat):Prop:=match k with
 |true=>h.IsListIter it l i
 |false=>h.IsTupleIter it l i
def IsSq(k:Bool)(h:Heap)(l:Addr)(xs:Array Value):Prop:=match k with
 |true=>h.IsList l xs
 |false=>h.IsTuple l xs
theorem IsIt.at{k:Bool}{h h':Heap}{it l:Addr}{i:Nat}(x:IsIt k h it l i)(e:∀o,h.get? it=some o->h'.get? it=some o):IsIt k h' it l i:=by
 cases k with
 |true=>obtain⟨o,ho,r⟩:=(show h.IsListIter it l i from x);exact(show h'.IsListIter it l i from⟨o,e o ho,r⟩)
 |false=>obtain⟨o,ho,r⟩:=(show h.IsTupleIter it l i from x);exact(show h'.IsTupleIter it l i from⟨o,e o ho,r⟩)
theorem IsSq.at{k:Bool}{h h':Heap}{l:Addr}{xs:Array Value}(x:IsSq k h l xs)(e:∀o,h.get? l=some o->h'.get? l=some o):IsSq k h' l xs:=by
 cases k with
 |true=>obtain⟨o,ho,r⟩:=(show h.IsList l xs from x);exact(show h'.IsList l xs from⟨o,e o ho,r⟩)
 |false=>obtain⟨o,ho,r⟩:=(show h.IsTuple l xs from x);exact(show h'.IsTuple l xs from⟨o,e o ho,r⟩)
theorem IsIt.obj{k:Bool}{h:Heap}{it l:Addr}{i:Nat}(x:IsIt k h it l i):∃o,h.get? it=some o/\∀v,o.data≠.cell v:=by
 cases k with
 |true=>obtain⟨o,ho,_,d⟩:=(show h.IsListIter it l i from x);exact⟨o,ho,fun v z=>by rw[d]at z;cases z⟩
 |false=>obtain⟨o,ho,_,d⟩:=(show h.IsTupleIter it l i from x);exact⟨o,ho,fun v z=>by rw[d]at z;cases z⟩
theorem IsSq.get{k:Bool}{h:Heap}{l:Addr}{xs:Array Value}(x:IsSq k h l xs):∃o,h.get? l=some o:=by
 cases k with
 |true=>obtain⟨o,ho,_⟩:=(show h.IsList l xs from x);exact⟨o,ho⟩
 |false=>obtain⟨o,ho,_⟩:=(show h.IsTuple l xs from x);exact⟨o,ho⟩
theorem ly{k:Bool}{it l:Addr}{i:Nat}{xs:Array Value}{x:Value}{Q:Value->Shared->Prop}(hi:IsIt k s.heap it l i)(hl:IsSq k s.heap l xs)(hx:xs[i]?=some x)
  (q:∀h',IsIt k h' it l (i+1)->Heap.SameBut it s.heap h'->Q x {s with heap:=h'}):wpAny (model prog w) A (Builtin.SmallTypes.nextOf (.ref it)) Q E s:=by
 cases k with
 |true=>exact wpAny_nextOf_list_item hi hl hx q
 |false=>exact wH hi hl hx q
theorem tq{k:Bool}{it l:Addr}{i:Nat}{xs:Array Value}{Q:Value->Shared->Prop}(hh:A.handled=none)(hi:IsIt k s.heap it l i)(hl:IsSq k s.heap l xs)(hx:xs[i]?=none)
  (q:∀h' e,Heap.ExtBut it s.heap h'->(∃o,h'.get? e=some o/\o.cls=.type "StopIteration")->E (.ref e) {s with heap:=h'}):wpAny (model prog w) A (Builtin.SmallTypes.nextOf (.ref it)) Q E s:=by
 cases k with
 |true=>exact wpAny_nextOf_list_end hh hi hl hx q
 |false=>exact y9 hh hi hl hx q
theorem za{k1 k2:Bool}{z TI TO i1 i2 l1 l2:Addr}{i:Nat}{xs ys:Array Value}{x y a b:Value}{Q:Value->Shared->Prop}(D:ZipApart z TI TO i1 i2 l1 l2)(hz:IsZip s.heap z TI TO .none)(K1:IsPair s.heap TI (.ref i1) (.ref i2))(LF:IsPair s.heap TO a b)
  (h1:IsIt k1 s.heap i1 l1 i) (h2:IsIt k2 s.heap i2 l2 i) (g1:IsSq k1 s.heap l1 xs) (g2:IsSq k2 s.heap l2 ys) (hx:xs[i]?=some x) (hy:ys[i]?=some y)
  (q:∀h',IsZip h' z TI TO (rawInt s.heap.objs.size)->IsPair h' TO x y->IsIt k1 h' i1 l1 (i+1)->IsIt k2 h' i2 l2 (i+1)->IsPair h' s.heap.objs.size x y->
   (∀c o,c≠z->c≠TO->c≠i1->c≠i2->s.heap.get? c=some o->h'.get? c=some o)->Q (.ref s.heap.objs.size) {s with heap:=h'}):
  wpAny (model prog w) A (Builtin.«zip.__next__» ⟨[.ref z],[]⟩) (fun fin s'=>∃v,fin=.done (.ret v)/\Q v s') E s:=by
 show wpAny _ _ (field (.ref z) 2 >>= _) _ _ _;refine Ti (U6 hz rfl (x:=.bool false) rfl ?_);show wpAny _ _ (field (.ref z) 3 >>= _) _ _ _;refine Ti (U6 hz rfl (x:=.ref TI) rfl (Ti (VM K1 rfl ?_)));show wpAny _ _ (Builtin.SmallTypes.ownedTupleIsFree (.ref z) >>= _) _ _ _;refine Ti ?_;unfold Builtin.SmallTypes.ownedTupleIsFree;refine Ti (U6 hz rfl (x:=.none) rfl (Tv ?_));rw[Tw (by rfl)];refine Ti (Y1 (Ti (U6 hz rfl (x:=.ref TO) rfl (Ti (VH hz (by simp) fun hA zA sA=>?_)))));have zA:IsZip hA z TI TO .ellipsis:=zA;refine Ti ?_;simp only[VX,List.zipIdx_nil,X7,Ys];refine Ti (Ti (XF ?_));show wpAny _ _ (Builtin.SmallTypes.nextOf (.ref i1) >>= _) _ _ _;refine Ti (ly (h1.at fun o e=>sA.extBut _ _ D.i1z e) (g1.at fun o e=>sA.extBut _ _ D.l1z e) hx fun hB iB sB=>Tv ?_);have tB:IsPair hB TO a b:=sB.extBut _ _ D.TOi1 (sA.extBut _ _ D.TOz LF);refine Ti (VM tB rfl (Ti (WZ tB fun hC tC sC=>Ti (Yw (Tv ?_)))));have tC:IsPair hC TO x b:=tC;refine Ti (Ti (XF ?_));show wpAny _ _ (Builtin.SmallTypes.nextOf (.ref i2) >>= _) _ _ _;refine Ti (ly (h2.at fun o e=>sC.extBut _ _ D.TOi2.symm (sB.extBut _ _ D.i12.symm (sA.extBut _ _ D.i2z e))) (g2.at fun o e=>sC.extBut _ _ D.l2TO (sB.extBut _ _ D.l2i1 (sA.extBut _ _ D.l2z e))) hy fun hD iD sD=>Tv ?_);have tD:IsPair hD TO x b:=sD.extBut _ _ D.TOi2 tC;refine Ti (VM tD rfl (Ti (WZ tD fun hE tE sE=>Ti (Yw (Tv (Tv ?_))))));have tE:IsPair hE TO x y:=tE;refine Ti (VM tE rfl (Ti (wpAny_newTuple ?_)));have ez:hE.objs.size=s.heap.objs.size:=by rw[sE.1,sD.1,sC.1,sB.1,sA.1]
 have zE:IsZip hE z TI TO .ellipsis:=sE.extBut _ _ D.TOz.symm (sD.extBut _ _ D.i2z.symm (sC.extBut _ _ D.TOz.symm (sB.extBut _ _ D.i1z.symm zA)));have kE:∀c o,c≠z->c≠TO->c≠i1->c≠i2->s.heap.get? c=some o->hE.get? c=some o:=fun c o c1 c2 c3 c4 e=>sE.extBut _ _ c2 (sD.extBut _ _ c4 (sC.extBut _ _ c2 (sB.extBut _ _ c3 (sA.extBut _ _ c1 e))))
 have i1E:IsIt k1 hE i1 l1 (i+1):=iB.at fun o e=>sE.extBut _ _ D.TOi1.symm (sD.extBut _ _ D.i12 (sC.extBut _ _ D.TOi1.symm e))
 have i2E:IsIt k2 hE i2 l2 (i+1):=iD.at fun o e=>sE.extBut _ _ D.TOi2.symm e
 show wpAny _ _ (Builtin.SmallTypes.ownedTupleHandOut (.ref z) (.ref hE.objs.size) >>= _) _ _ _;refine Ti ?_;unfold Builtin.SmallTypes.ownedTupleHandOut;have zF:IsZip (hE.push {cls:=.type "tuple",data:=.seq #[x,y]}) z TI TO .ellipsis:=Tj _ zE;refine Ti (VH zF (by simp) fun hG zG sG=>?_);have zG:IsZip hG z TI TO (rawInt hE.objs.size):=zG;refine VH zG (by simp) fun hK zK sK=>?_
 have zK:IsZip hK z TI TO (rawInt hE.objs.size):=zK;have up:∀c o,c≠z->hE.get? c=some o->hK.get? c=some o:=fun c o c1 e=>sK.extBut _ _ c1 (sG.extBut _ _ c1 (Tj _ e))
 have nz:hE.objs.size≠z:=WM (Tz zE);have tK:IsPair hK hE.objs.size x y:=sK.extBut _ _ nz (sG.extBut _ _ nz (TJ _ rfl));rw[ez]at zK tK;refine Tv ⟨_,rfl,?_⟩;show Q (.ref hE.objs.size) _;rw[ez];exact q hK zK (up _ _ D.TOz tE) (i1E.at fun o e=>up _ o D.i1z e) (i2E.at fun o e=>up _ o D.i2z e) tK fun c o c1 c2 c3 c4 e=>up c o c1 (kE c o c1 c2 c3 c4 e)
theorem BH{k1 k2:Bool}{z TI TO i1 i2 l1 l2:Addr}{i:Nat}{xs ys:Array Value}{a b:Value}{Q:Fin->Shared->Prop}(hh:A.handled=none)(D:ZipApart z TI TO i1 i2 l1 l2)(hz:IsZip s.heap z TI TO .none)(K1:IsPair s.heap TI (.ref i1) (.ref i2))(LF:IsPair s.heap TO a b)
  (h1:IsIt k1 s.heap i1 l1 i) (h2:IsIt k2 s.heap i2 l2 i) (g1:IsSq k1 s.heap l1 xs) (g2:IsSq k2 s.heap l2 ys) (he:xs[i]?=none\/ys[i]?=none)
  (q:∀h' e,(∀c o,c≠z->c≠TO->c≠i1->c≠i2->s.heap.get? c=some o->h'.get? c=some o)->(∃o,h'.get? e=some o/\o.cls=.type "StopIteration")->E (.ref e) {s with heap:=h'}):
  wpAny (model prog w) A (Builtin.«zip.__next__» ⟨[.ref z],[]⟩) Q E s:=by
 show wpAny _ _ (field (.ref z) 2 >>= _) _ _ _;refine Ti (U6 hz rfl (x:=.bool false) rfl ?_);show wpAny _ _ (field (.ref z) 3 >>= _) _ _ _;refine Ti (U6 hz rfl (x:=.ref TI) rfl (Ti (VM K1 rfl ?_)));show wpAny _ _ (Builtin.SmallTypes.ownedTupleIsFree (.ref z) >>= _) _ _ _;refine Ti ?_;unfold Builtin.SmallTypes.ownedTupleIsFree;refine Ti (U6 hz rfl (x:=.none) rfl (Tv ?_));rw[Tw (by rfl)];refine Ti (Y1 (Ti (U6 hz rfl (x:=.ref TO) rfl (Ti (VH hz (by simp) fun hA zA sA=>?_)))));have zA:IsZip hA z TI TO .ellipsis:=zA;refine Ti ?_;simp only[VX,List.zipIdx_nil,X7,Ys];refine Ti (Ti (XF ?_));show wpAny _ _ (Builtin.SmallTypes.nextOf (.ref i1) >>= _) _ _ _;cases hx:xs[i]? with
 |none=>
  refine Ti (tq hh (h1.at fun o e=>sA.extBut _ _ D.i1z e) (g1.at fun o e=>sA.extBut _ _ D.l1z e) hx fun hB e sB Hm=>?_);obtain⟨oe,ge,ce⟩:=Hm;have zB:IsZip hB z TI TO .ellipsis:=sB _ _ D.i1z.symm zA;have ne:e≠z:=fun x=>by subst x;rw[zB]at ge;cases ge;simp at ce
  exact VH zB (by simp) fun hC _ sC=>q hC e (fun c o c1 _ c3 _ x=>sC.extBut _ _ c1 (sB _ _ c3 (sA.extBut _ _ c1 x))) ⟨oe,sC.extBut _ _ ne ge,ce⟩
 |some x=>
  have hy:ys[i]?=none:=by
   rcases he with z|z
   ·rw[hx]at z;cases z
   ·exact z
  refine Ti (ly (h1.at fun o e=>sA.extBut _ _ D.i1z e) (g1.at fun o e=>sA.extBut _ _ D.l1z e) hx fun hB iB sB=>Tv ?_);have tB:IsPair hB TO a b:=sB.extBut _ _ D.TOi1 (sA.extBut _ _ D.TOz LF);refine Ti (VM tB rfl (Ti (WZ tB fun hC tC sC=>Ti (Yw (Tv ?_)))));refine Ti (Ti (XF ?_));show wpAny _ _ (Builtin.SmallTypes.nextOf (.ref i2) >>= _) _ _ _;refine Ti (tq hh (h2.at fun o e=>sC.extBut _ _ D.TOi2.symm (sB.extBut _ _ D.i12.symm (sA.extBut _ _ D.i2z e))) (g2.at fun o e=>sC.extBut _ _ D.l2TO (sB.extBut _ _ D.l2i1 (sA.extBut _ _ D.l2z e))) hy fun hD e sD Hm=>?_);obtain⟨oe,ge,ce⟩:=Hm;have zD:IsZip hD z TI TO .ellipsis:=sD _ _ D.i2z.symm (sC.extBut _ _ D.TOz.symm (sB.extBut _ _ D.i1z.symm zA));have ne:e≠z:=fun x=>by subst x;rw[zD]at ge;cases ge;simp at ce
  exact VH zD (by simp) fun hF _ sF=>q hF e (fun c o c1 c2 c3 c4 x=>sF.extBut _ _ c1 (sD _ _ c4 (sC.extBut _ _ c2 (sB.extBut _ _ c3 (sA.extBut _ _ c1 x))))) ⟨oe,sF.extBut _ _ ne ge,ce⟩
end
def itObj(k:Bool)(l:Addr):Obj:=match k with
 |true=>{cls:=.type "list_iterator",data:=.fields #[.ref l,.int 0 0]}
 |false=>{cls:=.type "tuple_iterator",data:=.fields #[.ref l,.int 0 0]}
theorem lz(k:Bool)(h:Heap)(l:Addr):IsIt k (h.push (itObj k l)) h.objs.size l 0:=by
 cases k with
 |true=>exact⟨_,TJ _ rfl,rfl,rfl⟩
 |false=>exact⟨_,TJ _ rfl,rfl,rfl⟩
abbrev zA(h:Heap)(k1:Bool)(l1:Addr):Heap:=h.push (itObj k1 l1)
abbrev zB(h:Heap)(k1 k2:Bool)(l1 l2:Addr):Heap:=(zA h k1 l1).push (itObj k2 l2)
abbrev zC(h:Heap)(k1 k2:Bool)(l1 l2:Addr):Heap:=(zB h k1 k2 l1 l2).push {cls:=.type "tuple",data:=.seq #[.ref h.objs.size,.ref (zA h k1 l1).objs.size]}
abbrev zD(h:Heap)(k1 k2:Bool)(l1 l2:Addr):Heap:=(zC h k1 k2 l1 l2).push {cls:=.type "tuple",data:=.seq #[.none,.none]}
abbrev zE(h:Heap)(k1 k2:Bool)(l1 l2:Addr):Heap:=(zD h k1 k2 l1 l2).push {cls:=.type "zip",data:=.fields #[.none,.bool false,.bool false,.ref (zB h k1 k2 l1 l2).objs.size,.ref (zC h k1 k2 l1 l2).objs.size]}
set_option maxHeartbeats 8000000 in
theorem BJ(k1 k2:Bool)(l1 l2:Addr)(xs ys:Array Value):
  Meets (Builtin.«zip.__new__» ⟨[.type "zip",.ref l1,.ref l2],[]⟩) (fun _ R s=>IsSq k1 s.heap l1 xs/\IsSq k2 s.heap l2 ys/\R (.ok (.ret (.ref (zD s.heap k1 k2 l1 l2).objs.size))) {s with heap:=zE s.heap k1 k2 l1 l2}):=
 .of_wp fun prog w A R s h=>by
  obtain⟨hp,g,d,tk,os⟩:=s;obtain⟨g1,g2,q⟩:=h;have hsub:=sub_zip;cases k1 with
  |true=>
   have e1:Heap.IsList (Shared.heap ⟨hp,g,d,tk,os⟩) l1 xs:=g1;cases k2 with
   |true=>
    have e2:Heap.IsList (Shared.heap ⟨hp.push {cls:=.type "list_iterator",data:=.fields #[.ref l1,.int 0 0]},g,d,tk,os⟩) l2 ys:=Heap.IsList.push g2 _
    wp_walk using Va e1,Va e2
    exact⟨_,rfl,q⟩
   |false=>
    have e2:Heap.IsTuple (Shared.heap ⟨hp.push {cls:=.type "list_iterator",data:=.fields #[.ref l1,.int 0 0]},g,d,tk,os⟩) l2 ys:=Heap.IsTuple.push g2 _
    wp_walk using Va e1,U5 e2
    exact⟨_,rfl,q⟩
  |false=>
   have e1:Heap.IsTuple (Shared.heap ⟨hp,g,d,tk,os⟩) l1 xs:=g1;cases k2 with
   |true=>
    have e2:Heap.IsList (Shared.heap ⟨hp.push {cls:=.type "tuple_iterator",data:=.fields #[.ref l1,.int 0 0]},g,d,tk,os⟩) l2 ys:=Heap.IsList.push g2 _
    wp_walk using U5 e1,Va e2
    exact⟨_,rfl,q⟩
   |false=>
    have e2:Heap.IsTuple (Shared.heap ⟨hp.push {cls:=.type "tuple_iterator",data:=.fields #[.ref l1,.int 0 0]},g,d,tk,os⟩) l2 ys:=Heap.IsTuple.push g2 _
    wp_walk using U5 e1,U5 e2
    exact⟨_,rfl,q⟩
def ZS(k1 k2:Bool)(z TI TO i1 i2 l1 l2:Addr)(i:Nat)(h:Heap):Prop:=IsZip h z TI TO .none/\IsPair h TI (.ref i1) (.ref i2)/\(∃a b,IsPair h TO a b)/\IsIt k1 h i1 l1 i/\IsIt k2 h i2 l2 i
theorem zb{prog:Program}{w:World}{A:Around}{E:Value->Shared->Prop}{s:Shared}{k1 k2:Bool}{l1 l2:Addr}{xs ys:Array Value}{Q:Value->Shared->Prop}(g1:IsSq k1 s.heap l1 xs)(g2:IsSq k2 s.heap l2 ys)
  (q:∀h',ZS k1 k2 (s.heap.objs.size+4) (s.heap.objs.size+2) (s.heap.objs.size+3) s.heap.objs.size (s.heap.objs.size+1) l1 l2 0 h'->(∀c o,s.heap.get? c=some o->h'.get? c=some o)->Q (.ref (s.heap.objs.size+4)) {s with heap:=h'}):
  wpAny (model prog w) A (call (.type "zip") [.ref l1,.ref l2]) Q E s:=by
 refine callType_new F.called_zip (by decide) (F.typeCall_zip_2 _ _) (F.newCall_zip_2 _ _) (fun obj=>F.args_object_init_3 obj _ _) F.entry_zip_new (BJ k1 k2 l1 l2 xs ys) ⟨g1,g2,?_⟩;have nA:(zA s.heap k1 l1).objs.size=s.heap.objs.size+1:=UR ..;have nB:(zB s.heap k1 k2 l1 l2).objs.size=s.heap.objs.size+2:=by rw[UR,nA]
 have nC:(zC s.heap k1 k2 l1 l2).objs.size=s.heap.objs.size+3:=by rw[UR,nB]
 have nD:(zD s.heap k1 k2 l1 l2).objs.size=s.heap.objs.size+4:=by rw[UR,nC]
 have pu:∀{h:Heap}{o:Obj}{c:Addr}{v:Obj},h.get? c=some v->(h.push o).get? c=some v:=fun e=>Tj _ e
 have gz:(zE s.heap k1 k2 l1 l2).get? (zD s.heap k1 k2 l1 l2).objs.size=some _:=TJ _ rfl;have go:(zE s.heap k1 k2 l1 l2).get? (zC s.heap k1 k2 l1 l2).objs.size=some _:=pu (TJ _ rfl);have gi:(zE s.heap k1 k2 l1 l2).get? (zB s.heap k1 k2 l1 l2).objs.size=some _:=pu (pu (TJ _ rfl));have j2:IsIt k2 (zE s.heap k1 k2 l1 l2) (zA s.heap k1 l1).objs.size l2 0:=(lz k2 (zA s.heap k1 l1) l2).at fun o e=>pu (pu (pu e))
 have j1:IsIt k1 (zE s.heap k1 k2 l1 l2) s.heap.objs.size l1 0:=(lz k1 s.heap l1).at fun o e=>pu (pu (pu (pu e)))
 show _/\_;rw[nB,nC,nD]at gz;rw[nA,nB]at gi;rw[nC]at go;rw[nA]at j2;rw[nD];exact⟨⟨_,gz,rfl⟩,q _ ⟨gz,gi,⟨_,_,go⟩,j1,j2⟩ fun c o x=>pu (pu (pu (pu (pu x))))⟩
noncomputable def Rt(K:W.Frag)(k1 k2:Bool)(a b:Addr):It:=
 ⟨fun i H=>∃xs ys x y,(if k1 then SqL K H a xs else SqT K H a xs)/\(if k2 then SqL K H b ys else SqT K H b ys)/\xs[i]?=some x/\ys[i]?=some y,
  fun i H v H'=>∃T,H T=none/\v=.ref T/\∀xs ys x y,(if k1 then SqL K H a xs else SqT K H a xs)->(if k2 then SqL K H b ys else SqT K H b ys)->xs[i]?=some x->ys[i]?=some y->H'=upd H T (.tup [x,y]),
  fun i H=>∃xs ys,(if k1 then SqL K H a xs else SqT K H a xs)/\(if k2 then SqL K H b ys else SqT K H b ys)/\i=min xs.length ys.length⟩
section
variable{X:Cx}{pr:List (Addr×Obj)}{σ:L2.St}{H:Hp}{s:Shared}
theorem lA(I:Inv X pr σ H s){k:Bool}{a:Addr}{xs:List V}(h:if k then SqL X.K H a xs else SqT X.K H a xs):∃us:List Value,Vals xs us/\IsSq k s.heap a us.toArray:=by
 cases k with
 |true=>
  obtain⟨us,r,p,_⟩:=I.list (show SqL X.K H a xs from h);exact⟨us,r,p.isList⟩
 |false=>
  obtain⟨us,r,p,_⟩:=I.tuple (show SqT X.K H a xs from h);exact⟨us,r,(show s.heap.IsTuple a us.toArray from p)⟩
theorem tu(I:Inv X pr σ H s){k:Bool}{a:Addr}{xs ys:List V}(h:if k then SqL X.K H a xs else SqT X.K H a xs)(h':if k then SqL X.K H a ys else SqT X.K H a ys):xs=ys:=by
 cases k with
 |true=>exact I.list_inj (show SqL X.K H a xs from h) (show SqL X.K H a ys from h')
 |false=>exact I.tuple_inj (show SqT X.K H a xs from h) (show SqT X.K H a ys from h')
theorem eF(I:Inv X pr σ H s){k:Bool}{a b:Addr}{xs:List V}(h:if k then SqL X.K H a xs else SqT X.K H a xs)(f:mM X pr H b):a≠b:=by
 rintro rfl;obtain⟨f0,_,_,f3,_⟩:=f;have nb:∀o,X.K.lookup a=some o->False:=fun o hk=>by
  have e:=I.ok.mod.kin a o hk;rcases f3 with z|z
  ·exact I.ok.noex a o e z
  ·exact absurd (Ts (Tz e) (T2 I.ok.bsz z)) (U0 _)
 cases k with
 |true=>
  rcases(show SqL X.K H a xs from h) with(h|⟨o,h⟩)|⟨o,GX,n,hk,_⟩
  ·rw[f0]at h;cases h
  ·rw[f0]at h;cases h
  ·exact nb o hk
 |false=>
  rcases(show SqT X.K H a xs from h) with(h|⟨o,h⟩)|⟨o,GX,n,hk,_⟩
  ·rw[f0]at h;cases h
  ·rw[f0]at h;cases h
  ·exact nb o hk
end
theorem nx_zip_item{prog:Program}{w:World}{A:Around}{E:Value->Shared->Prop}{s:Shared}{k1 k2:Bool}{z TI TO i1 i2 l1 l2:Addr}{i:Nat}{xs ys:Array Value}{x y:Value}{Q:Option Value->Shared->Prop}(D:ZipApart z TI TO i1 i2 l1 l2)(st:ZS k1 k2 z TI TO i1 i2 l1 l2 i s.heap)
  (g1:IsSq k1 s.heap l1 xs) (g2:IsSq k2 s.heap l2 ys) (hx:xs[i]?=some x) (hy:ys[i]?=some y)
  (q:∀h',IsZip h' z TI TO (rawInt s.heap.objs.size)->IsPair h' TO x y->IsIt k1 h' i1 l1 (i+1)->IsIt k2 h' i2 l2 (i+1)->IsPair h' s.heap.objs.size x y->
   (∀c o,c≠z->c≠TO->c≠i1->c≠i2->s.heap.get? c=some o->h'.get? c=some o)->Q (some (.ref s.heap.objs.size)) {s with heap:=h'}):wpAny (model prog w) A (pyNext (.ref z)) Q E s:=by
 obtain⟨hz,K1,⟨a,b,LF⟩,h1,h2⟩:=st;have ty:s.TypeIs (.ref z) "zip":=⟨_,hz,rfl⟩
 unfold pyNext;exact Ti (XG (Uu (name:=Str.ofString "__next__") ty Xf (UQ Xf ty F.entry_zip_next (za D hz K1 LF h1 h2 g1 g2 hx hy fun h' a1 a2 a3 a4 a5 a6=>Tv (q h' a1 a2 a3 a4 a5 a6)) (F.args_zip_next_1 _))))
theorem rm{prog:Program}{w:World}{A:Around}{E:Value->Shared->Prop}{s:Shared}{k1 k2:Bool}{z TI TO i1 i2 l1 l2:Addr}{i:Nat}{xs ys:Array Value}{Q:Option Value->Shared->Prop}(hh:A.handled=none)(D:ZipApart z TI TO i1 i2 l1 l2)(st:ZS k1 k2 z TI TO i1 i2 l1 l2 i s.heap)
  (g1:IsSq k1 s.heap l1 xs) (g2:IsSq k2 s.heap l2 ys) (he:xs[i]?=none\/ys[i]?=none) (q:∀h',(∀c o,c≠z->c≠TO->c≠i1->c≠i2->s.heap.get? c=some o->h'.get? c=some o)->Q none {s with heap:=h'}):wpAny (model prog w) A (pyNext (.ref z)) Q E s:=by
 obtain⟨hz,K1,⟨a,b,LF⟩,h1,h2⟩:=st;have ty:s.TypeIs (.ref z) "zip":=⟨_,hz,rfl⟩
 unfold pyNext;refine Ti (XG (Uu (name:=Str.ofString "__next__") ty Xf (UQ Xf ty F.entry_zip_next (BH hh D hz K1 LF h1 h2 g1 g2 he fun h' e kk ⟨o,ho,oc⟩=>?_) (F.args_zip_next_1 _))));exact Ti (wpAny_isInstance (T:="StopIteration") (b:=true) ⟨o,ho,oc⟩ isSubtype_stop (Tv (q _ kk)))
theorem wI{P:Program}{w:World}{K:W.Frag}{es:List Expr}{kt:Nat}{pt:Pos}(k1 k2:Bool)(a b z TI TO i1 i2:Addr)(ne:z≠TI/\z≠TO/\z≠i1/\z≠i2/\TI≠TO/\TI≠i1/\TI≠i2/\TO≠i1/\TO≠i2/\i1≠i2):
  Turn P w K (.Tuple es kt pt) (Rt K k1 k2 a b) [z,TI,TO,i1,i2] z (ZS k1 k2 z TI TO i1 i2 a b) where
 mem:=by simp
 obj:=fun i h st c hc=>by
  obtain⟨hz,K1,⟨x,y,LF⟩,h1,h2⟩:=st;simp only[TF,U1,Xl]at hc;rcases hc with rfl|rfl|rfl|rfl|rfl
  ·exact⟨_,hz,fun v q=>by cases q⟩
  ·exact⟨_,K1,fun v q=>by cases q⟩
  ·exact⟨_,LF,fun v q=>by cases q⟩
  ·exact h1.obj
  ·exact h2.obj
 keep:=fun i h h' st k=>by
  obtain⟨hz,K1,⟨x,y,LF⟩,h1,h2⟩:=st;exact⟨k z (by simp) _ hz,k TI (by simp) _ K1,⟨x,y,k TO (by simp) _ LF⟩,h1.at fun o e=>k i1 (by simp) o e,h2.at fun o e=>k i2 (by simp) o e⟩
 item:=by
  intro X hP hw hK hc i pr s σ H E I hf st hg;subst hP hw hK;obtain⟨xs,ys,x,y,s1,s2,hx,hy⟩:=hg;obtain⟨us,r1,q1⟩:=lA I s1;obtain⟨ws,r2,q2⟩:=lA I s2;obtain⟨u,hu,ru⟩:=r1.get hx;obtain⟨v,hv,rv⟩:=r2.get hy;obtain⟨n1,n2,n3,n4,n5,n6,n7,n8,n9,Ru⟩:=ne;have f:=fun c hc=>hf c hc
  have D:ZipApart z TI TO i1 i2 a b:=⟨n1.symm,n2.symm,n3.symm,n4.symm,n5,n6,n7,n8,n9,Ru,eF I s1 (f z (by simp)),eF I s1 (f TO (by simp)),eF I s1 (f i1 (by simp)),eF I s1 (f i2 (by simp)),
   eF I s2 (f z (by simp)),eF I s2 (f TO (by simp)),eF I s2 (f i1 (by simp)),eF I s2 (f i2 (by simp))⟩
  have K1:=st.2.1;refine nx_zip_item D st q1 q2 (by simpa using hu) (by simpa using hv) fun h' z1 t1 j1 j2 tp kk=>⟨_,rfl,?_⟩
  refine wpAny_letOwnedTupleGo_zip z1 fun h2 z2 sb=>?_
  have nT:H s.heap.objs.size=none:=I.hok.fresh (Tn _);have tT:s.heap.objs.size≠z:=WM (Tz st.1);have all:∀c o,c≠z->c≠TO->c≠i1->c≠i2->s.heap.get? c=some o->h2.get? c=some o:=fun c o c1 c2 c3 c4 e=>(sb.2 c c1).trans (kk c o c1 c2 c3 c4 e)
  have fz:=f z (by simp);have fo:=f TO (by simp);have f1:=f i1 (by simp);have f2:=f i2 (by simp);have K2:∀c ob,H c=some ob->c≠z/\c≠TO/\c≠i1/\c≠i2:=fun c ob e=>⟨(fun q=>by rw[q,fz.1]at e;cases e),(fun q=>by rw[q,fo.1]at e;cases e),(fun q=>by rw[q,f1.1]at e;cases e),(fun q=>by rw[q,f2.1]at e;cases e)⟩
  refine⟨.ref s.heap.objs.size,upd H s.heap.objs.size (.tup [x,y]),?_,rfl,⟨_,nT,rfl,fun IW ys' x' y' a1 a2 a3 a4=>?_⟩,⟨z2,?_,⟨u,v,(sb.2 TO n2.symm).trans t1⟩,j1.at fun o e=>(sb.2 i1 n3.symm).trans e,j2.at fun o e=>(sb.2 i2 n4.symm).trans e⟩,fun c hc=>?_⟩
  ·have N9:h2.get? s.heap.objs.size=some {cls:=.type "tuple",data:=.seq #[u,v]}:=(sb.2 _ tT).trans tp;have S0:Inv X pr σ (upd H s.heap.objs.size (.tup [x,y])) {s with heap:=h2,gens:=s.gens,drawn:=s.drawn,toks:=s.toks}:=by
    refine I.step (ch:=[z,TO,i1,i2]) (fun c hc=>?_) (fun c o _ _ nc e _=>all c o (fun q=>nc (by simp[q])) (fun q=>nc (by simp[q])) (fun q=>nc (by simp[q])) (fun q=>nc (by simp[q])) e)
     (fun c o _ _ nc e _=>⟨o.slots,all c o (fun q=>nc (by simp[q])) (fun q=>nc (by simp[q])) (fun q=>nc (by simp[q])) (fun q=>nc (by simp[q])) e⟩) (fun c o _ e n=>by rw[ak (TK (Tz e))];exact n)
     (fun c o nc e=>⟨o,all c o (fun q=>nc (by simp[q])) (fun q=>nc (by simp[q])) (fun q=>nc (by simp[q])) (fun q=>nc (by simp[q])) e⟩) (fun c l e=>by rw[ak (aG e nT)];exact e) (fun c o u' e=>by rw[ak (aG e nT)];exact e)
     (fun c ps e=>⟨#[],by rw[ak (aG e nT),e];simp⟩) (fun m hm=>?_) (fun c ob e=>?_) I.bare
    ·simp only[TF,U1,Xl]at hc;rcases hc with rfl|rfl|rfl|rfl
     ·exact⟨fz.2.2.2.1,fz.2.1,fz.2.2.2.2.1,fz.2.2.2.2.2⟩
     ·exact⟨fo.2.2.2.1,fo.2.1,fo.2.2.2.2.1,fo.2.2.2.2.2⟩
     ·exact⟨f1.2.2.2.1,f1.2.1,f1.2.2.2.2.1,f1.2.2.2.2.2⟩
     ·exact⟨f2.2.2.2.1,f2.2.1,f2.2.2.2.2.1,f2.2.2.2.2.2⟩
    ·obtain⟨o,es,ep,ho,r⟩:=hm;exact⟨o,es,ep,all _ o (Vn fz.2.1) (Vn fo.2.1) (Vn f1.2.1) (Vn f2.2.1) ho,r⟩
    ·by_cases ec:c=s.heap.objs.size
     ·subst ec;rw[aD]at e;cases e;exact⟨by simp only[TQ,UI];rw[UE];decide,[u,v],.cons ru (.cons rv .nil),⟨_,N9,rfl,⟨0,rfl⟩,rfl⟩⟩
     ·rw[ak ec]at e;refine(I.hok c ob e).stay (fun d w' hd q=>?_) (fun d q=>by rw[ak (aG q nT)];exact q) fun d l q=>by rw[ak (aG q nT)];exact q
      have MC:∃oo,H d=some oo:=by
       rcases hd with rfl|hd
       ·exact⟨_,e⟩
       ·exact⟨_,hd⟩
      obtain⟨oo,Oa⟩:=MC;obtain⟨m1,m2,m3,m4⟩:=K2 d oo Oa;exact all d w' m1 m2 m3 m4 q
   exact S0
  ·have e1:=tu I a1 s1;have e2:=tu I a2 s2;subst e1 e2;rw[hx]at a3;rw[hy]at a4;cases a3;cases a4;rfl
  ·exact(sb.2 TI n1.symm).trans (kk TI _ n1.symm n5 n6 n7 K1)
  ·have hc0:=(f c hc).1;have cs:c≠s.heap.objs.size:=by
    have:=(fun i h st=>by
     exact(by
      obtain⟨hz,K1,⟨x,y,LF⟩,h1,h2⟩:=st;simp only[TF,U1,Xl]at hc;rcases hc with rfl|rfl|rfl|rfl|rfl
      ·exact⟨_,hz⟩
      ·exact⟨_,K1⟩
      ·exact⟨_,LF⟩
      ·obtain⟨o,e,_⟩:=h1.obj;exact⟨o,e⟩
      ·obtain⟨o,e,_⟩:=h2.obj;exact⟨o,e⟩:∃o,h.get? c=some o):∀i h,ZS k1 k2 z TI TO i1 i2 a b i h->∃o,h.get? c=some o) i s.heap st
    obtain⟨o,e⟩:=this;exact TK (Tz e)
   rw[ak cs];exact hc0
 done:=by
  intro X hP hw hK hc i pr s σ H E I hf st hg;subst hP hw hK;obtain⟨xs,ys,s1,s2,hi⟩:=hg;obtain⟨us,r1,q1⟩:=lA I s1;obtain⟨ws,r2,q2⟩:=lA I s2;have l1:=r1.length;have l2:=r2.length;obtain⟨n1,n2,n3,n4,n5,n6,n7,n8,n9,Ru⟩:=ne;have f:=fun c hc=>hf c hc
  have D:ZipApart z TI TO i1 i2 a b:=⟨n1.symm,n2.symm,n3.symm,n4.symm,n5,n6,n7,n8,n9,Ru,eF I s1 (f z (by simp)),eF I s1 (f TO (by simp)),eF I s1 (f i1 (by simp)),eF I s1 (f i2 (by simp)),
   eF I s2 (f z (by simp)),eF I s2 (f TO (by simp)),eF I s2 (f i1 (by simp)),eF I s2 (f i2 (by simp))⟩
  have fz:=f z (by simp);have fo:=f TO (by simp);have f1:=f i1 (by simp);have f2:=f i2 (by simp);refine rm (I.ok.hd hc) D st q1 q2 (by
   rcases Nat.le_total us.length ws.length with q|q
   ·exact .inl (by simp;lia)
   ·exact .inr (by simp;lia)) fun h' kk=>⟨rfl,?_⟩
  have K2:∀c ob,H c=some ob->c≠z/\c≠TO/\c≠i1/\c≠i2:=fun c ob e=>⟨(fun q=>by rw[q,fz.1]at e;cases e),(fun q=>by rw[q,fo.1]at e;cases e),(fun q=>by rw[q,f1.1]at e;cases e),(fun q=>by rw[q,f2.1]at e;cases e)⟩
  have S0:Inv X pr σ H {s with heap:=h',gens:=s.gens,drawn:=s.drawn,toks:=s.toks}:=by
   refine I.step (ch:=[z,TO,i1,i2]) (fun c hc=>?_) (fun c o _ _ nc e _=>kk c o (fun q=>nc (by simp[q])) (fun q=>nc (by simp[q])) (fun q=>nc (by simp[q])) (fun q=>nc (by simp[q])) e)
    (fun c o _ _ nc e _=>⟨o.slots,kk c o (fun q=>nc (by simp[q])) (fun q=>nc (by simp[q])) (fun q=>nc (by simp[q])) (fun q=>nc (by simp[q])) e⟩) (fun c o _ e n=>n)
    (fun c o nc e=>⟨o,kk c o (fun q=>nc (by simp[q])) (fun q=>nc (by simp[q])) (fun q=>nc (by simp[q])) (fun q=>nc (by simp[q])) e⟩) (fun c l e=>e) (fun c o u' e=>e)
    (fun c ps e=>⟨#[],by rw[e];simp⟩) (fun m hm=>?_) (fun c ob e=>?_) I.bare
   ·simp only[TF,U1,Xl]at hc;rcases hc with rfl|rfl|rfl|rfl
    ·exact⟨fz.2.2.2.1,fz.2.1,fz.2.2.2.2.1,fz.2.2.2.2.2⟩
    ·exact⟨fo.2.2.2.1,fo.2.1,fo.2.2.2.2.1,fo.2.2.2.2.2⟩
    ·exact⟨f1.2.2.2.1,f1.2.1,f1.2.2.2.2.1,f1.2.2.2.2.2⟩
    ·exact⟨f2.2.2.2.1,f2.2.1,f2.2.2.2.2.1,f2.2.2.2.2.2⟩
   ·obtain⟨o,es,ep,ho,r⟩:=hm;exact⟨o,es,ep,kk _ o (Vn fz.2.1) (Vn fo.2.1) (Vn f1.2.1) (Vn f2.2.1) ho,r⟩
   ·refine(I.hok c ob e).stay (fun d w' hd q=>?_) (fun d q=>q) fun d l q=>q
    have MC:∃oo,H d=some oo:=by
     rcases hd with rfl|hd
     ·exact⟨_,e⟩
     ·exact⟨_,hd⟩
    obtain⟨oo,Oa⟩:=MC;obtain⟨m1,m2,m3,m4⟩:=K2 d oo Oa;exact kk d w' m1 m2 m3 m4 q
  exact S0
 self:=fun _ _ _ _ _ st h=>wpAny_pyIter_zip st.1 h
section
variable{X:Cx}{es:List Expr}{kt:Nat}{pt:Pos}
def Gp(K:W.Frag)(k1 k2:Bool)(ta:TA):TI:=fun σ H R=>ta σ H fun vs H1=>∃a b xs ys,vs=[.ref a,.ref b]/\(if k1 then SqL K H1 a xs else SqT K H1 a xs)/\(if k2 then SqL K H1 b ys else SqT K H1 b ys)/\R (Rt K k1 k2 a b) H1
theorem BK(k1 k2:Bool){e1 e2:Expr}{ta:TA}{p pos:Pos}(hg:Gl X "zip")(hm:X.mg "zip" = none)(ha:PA X [e1,e2] ta)(he:starEach [e1,e2] X.env=(false,eval e1 X.env)::starEach [e2] X.env:=by rfl)(Jb:(backTo pos (starEach [e2] X.env)).any (·.1)=false:=by rfl):
  PI X (.Tuple es kt pt) (.Call (.Name "zip" p) [e1,e2] [] pos) (Gp X.K k1 k2 ta):=by
 intro pr s σ H R I h;refine V4 (kK I hg hm (by decide +kernel:bootBuiltins "zip" = some (.type "zip")) ?_ (by decide) (by decide));refine Vu (Hl (ha pos pr s σ H _ I h) fun us s1 ⟨vs,H1,I1,r1,a,b,xs,ys,e,Rv,s2',q⟩=>?_) he Jb;subst e;obtain⟨u,w',rfl,ra,rb⟩:=Bn r1;cases ra;cases rb;obtain⟨us,v1,q1⟩:=lA I1 Rv;obtain⟨ws,v2,q2⟩:=lA I1 s2';refine zb q1 q2 fun h' st kk=>?_
 refine wpAny_pyIter_zip st.1 ?_;have fr:∀j,mM X pr H1 (s1.heap.objs.size+j):=fun j=>I1.fpOk (WT _ _) (I1.hok.fresh (WT _ _))
 have nn:∀i j:Nat,i≠j->s1.heap.objs.size+i≠s1.heap.objs.size+j:=fun i j h z=>h (Yx z)
 refine⟨_,_,_,_,H1,rfl,I1.kept (t':=s1.toks) kk,wI k1 k2 a b (s1.heap.objs.size+4) (s1.heap.objs.size+2) (s1.heap.objs.size+3) (s1.heap.objs.size+0) (s1.heap.objs.size+1)
  ⟨nn 4 2 (by decide),nn 4 3 (by decide),nn 4 0 (by decide),nn 4 1 (by decide),nn 2 3 (by decide),nn 2 0 (by decide),nn 2 1 (by decide),nn 3 0 (by decide),nn 3 1 (by decide),nn 0 1 (by decide)⟩,st,fun c hc=>?_,q⟩
 simp only[TF,U1,Xl]at hc;rcases hc with rfl|rfl|rfl|rfl|rfl
 ·exact fr 4
 ·exact fr 2
 ·exact fr 3
 ·exact fr 0
 ·exact fr 1
end
end NX
namespace NX
open PySem PySem.W PyProof.Rows
section
variable{n:Nat}{O:KeyOrd}{κ:Nat->O.α}{cmp:Nat->Nat->(Bool->Shared->Prop)->Shared->Prop}{Good:Shared->Prop}
def kk(κ:Nat->O.α)(p:Array Nat)(i:Nat):O.α:=κ (p.getD i 0)
structure POk(n:Nat)(p:Array Nat):Prop where
 perm:p.toList.Perm (List.range n)
theorem POk.size{p:Array Nat}(h:POk n p):p.size=n:=by
 have:=h.perm.length_eq;simpa using this
theorem POk.lt{p:Array Nat}(h:POk n p){i:Nat}(hi:i<n):p.getD i 0<n:=by
 have hs:=h.size;have Mt:i<p.size:=by lia
 have e:p.getD i 0=p[i]:=by simp[Array.getD,Mt]
 rw[e];exact UB.mp (h.perm.mem_iff.mp (Array.getElem_mem_toList Mt))
theorem POk.of{p q:Array Nat}(h:POk n p)(hq:q.Perm p):POk n q:=⟨(Array.perm_iff_toList_perm.mp hq).trans h.perm⟩
def a8(κ:Nat->O.α)(p:Array Nat)(m:Nat):Prop:=∀i j,i<=j->j<m->O.kle (kk κ p i) (kk κ p j)
def eG(κ:Nat->O.α)(p:Array Nat)(m:Nat):Prop:=∀i j,i<=j->j<m->O.kle (kk κ p j) (kk κ p i)
theorem dY{p q:Array Nat}{i j:Nat}(h:p[i]?=q[j]?):p.getD i 0=q.getD j 0:=by
 rw[Xg,Xg,h]
theorem pS{p:Array Nat}{i j:Nat}(hj:j<=p.size)(k:Nat):kk κ (kas_rev p i j) k=if i<=k/\k<j then kk κ p (i+j-1-k) else kk κ p k:=by
 have e:=getElem?_mirror_all (i:=i) hj k;unfold kk kas_rev;split
 ·rename_i h;rw[Tw h]at e;rw[dY e]
 ·rename_i h;rw[TC h]at e;rw[dY e]
theorem xS{p:Array Nat}{src d:Nat}(hs:src<p.size)(hd:d<=src)(k:Nat):kk κ (bubble p src d) k=if k=src-d then kk κ p src else if src-d<k/\k<=src then kk κ p (k-1) else kk κ p k:=by
 have e:=getElem?_bubble hs d hd k;by_cases h:k=src-d
 ·rw[Tw h]at e ⊢;exact UN κ (dY e)
 ·rw[TC h]at e ⊢;by_cases h2:src-d<k/\k<=src
  ·rw[Tw h2]at e ⊢;exact UN κ (dY e)
  ·rw[TC h2]at e ⊢;exact UN κ (dY e)
theorem POk.rev{p:Array Nat}(h:POk n p)(i j:Nat):POk n (kas_rev p i j):=h.of (mirror_perm _ _ _ _)
theorem POk.bub{p:Array Nat}(h:POk n p)(i j:Nat):POk n (bubble p i j):=h.of (bubble_perm _ _ _)
theorem rp(p:Array Nat):a8 κ p 1:=fun i j a b=>by
 have e:i=j:=by lia
 rw[e];exact Vx _
theorem oM{p:Array Nat}{m:Nat}(h1:1<=m)(h:a8 κ p m)(hm:O.kle (kk κ p (m-1)) (kk κ p m)):a8 κ p (m+1):=by
 intro i j LG hj;by_cases e:j=m
 ·subst e;by_cases e2:i=j
  ·subst e2;exact Vx _
  ·exact WU (h i (j-1) (by lia) (by lia)) hm
 ·exact h i j LG (by lia)
theorem dZ{p:Array Nat}{m:Nat}(h1:1<=m)(h:eG κ p m)(hm:O.kle (kk κ p m) (kk κ p (m-1))):eG κ p (m+1):=by
 intro i j LG hj;by_cases e:j=m
 ·subst e;by_cases e2:i=j
  ·subst e2;exact Vx _
  ·exact WU hm (h i (j-1) (by lia) (by lia))
 ·exact h i j LG (by lia)
variable(hc:∀i j,i<n->j<n->∀(Q:Bool->Shared->Prop) s,Good s->(∀s',Good s'->Q (O.blt (κ i) (κ j)) s')->cmp i j Q s)
include hc
theorem tw{p:Array Nat}(hp:POk n p){HD:Nat}(hn:HD<=n){Q:Nat->Shared->Prop}:∀(f m:Nat) (s:Shared),Good s->1<=m->m+f=HD->a8 κ p m->
  (∀r s',Good s'->m<=r->r<=HD->a8 κ p r->(r<HD->O.klt (kk κ p r) (kk κ p (r-1)))->Q r s')->(kas_asc p f m).kasWp cmp Q s
 | 0,m,s,g,h1,hf,hs,k=>k m s g (Tn _) (by lia) hs (fun z=>by lia)
 |f+1,m,s,g,h1,hf,hs,k=>by
  show cmp (p.getD m 0) (p.getD (m-1) 0) _ s;refine hc _ _ (hp.lt (by lia)) (hp.lt (by lia)) _ s g fun s' g'=>?_
  cases e:O.blt (κ (p.getD m 0)) (κ (p.getD (m-1) 0)) with
  |true=>
   (try dsimp only)
   rw[Tw rfl];exact k m s' g' (Tn _) (by lia) hs fun _=>e
  |false=>
   (try dsimp only)
   rw[TC TB];exact tw hp hn f (m+1) s' g' (by lia) (by lia) (oM h1 hs e) fun r s2 g2 a b c d=>k r s2 g2 (by lia) b c d
def zc(κ:Nat->O.α)(p:Array Nat)(m q:Nat):Prop:=∀k,m-(q+1)<=k->k<m->kk κ p k=kk κ p (m-1)
omit hc in
theorem m7{p:Array Nat}{m q:Nat}(hm:m<=p.size)(h:zc κ p m q)(k:Nat):kk κ (kas_rev p (m-(q+1)) m) k=kk κ p k:=by
 rw[pS hm];split
 ·rename_i hk;rw[h _ (by lia) (by lia),h k hk.1 hk.2]
 ·rfl
omit hc in
theorem iI{p p':Array Nat}{m:Nat}(e:∀k,kk κ p' k=kk κ p k)(h:eG κ p m):eG κ p' m:=fun i j a b=>by rw[e,e];exact h i j a b
theorem lB{HD:Nat}(hn:HD<=n){Q:Array Nat×Nat×Nat->Shared->Prop}:∀(f:Nat) (p:Array Nat) (m q:Nat) (s:Shared),POk n p->Good s->1<=m->q+1<=m->m+f=HD->eG κ p m->zc κ p m q->
  (∀p' m' q' s',POk n p'->Good s'->m<=m'->m'<=HD->q'+1<=m'->eG κ p' m'->zc κ p' m' q'->Q (p',m',q') s')->(kas_desc f p m q).kasWp cmp Q s
 | 0,p,m,q,s,hp,g,h1,hq,hf,hs,ha,k=>k p m q s hp g (Tn _) (by lia) hq hs ha
 |f+1,p,m,q,s,hp,g,h1,hq,hf,hs,ha,k=>by
  show cmp (p.getD m 0) (p.getD (m-1) 0) _ s;refine hc _ _ (hp.lt (by lia)) (hp.lt (by lia)) _ s g fun s' g'=>?_
  have hsz:=hp.size;cases e:O.blt (κ (p.getD m 0)) (κ (p.getD (m-1) 0)) with
  |true=>
   (try dsimp only)
   rw[Tw rfl];have le:O.kle (kk κ p m) (kk κ p (m-1)):=WG e;by_cases h0:q>0
   ·rw[Tw h0];have same:=m7 (κ:=κ) (p:=p) (m:=m) (q:=q) (by lia) ha;refine lB hn f _ (m+1) 0 s' (hp.rev _ _) g' (by lia) (by lia) (by lia) (dZ h1 (iI same hs) (by rw[same,same];exact le)) ?_ fun p' m' q' s2 a b c d e' f' g2=>k p' m' q' s2 a b (by lia) d e' f' g2
    intro k' a b;have:k'=m:=by lia
    rw[this];rfl
   ·rw[TC h0];refine lB hn f p (m+1) 0 s' hp g' (by lia) (by lia) (by lia) (dZ h1 hs le) ?_ fun p' m' q' s2 a b c d e' f' g2=>k p' m' q' s2 a b (by lia) d e' f' g2
    intro k' a b;have:k'=m:=by lia
    rw[this];rfl
  |false=>
   (try dsimp only)
   rw[TC TB];show cmp (p.getD (m-1) 0) (p.getD m 0) _ s';refine hc _ _ (hp.lt (by lia)) (hp.lt (by lia)) _ s' g' fun s2 g2=>?_
   cases e2:O.blt (κ (p.getD (m-1) 0)) (κ (p.getD m 0)) with
   |true=>
    (try dsimp only)
    rw[Tw rfl];exact k p m q s2 hp g2 (Tn _) (by lia) hq hs ha
   |false=>
    (try dsimp only)
    rw[TC TB];have eq:kk κ p (m-1)=kk κ p m:=KeyOrd.kle_antisymm (O:=O) e e2;refine lB hn f p (m+1) (q+1) s2 hp g2 (by lia) (by lia) (by lia) (dZ h1 hs (by rw[eq];exact Vx _)) ?_ fun p' m' q' s3 a b c d e' f' g3=>k p' m' q' s3 a b (by lia) d e' f' g3
    intro k' a b;show kk κ p k'=kk κ p m;by_cases z:k'=m
    ·rw[z]
    ·rw[ha k' (by lia) (by lia),eq]
omit hc in
theorem rq{p:Array Nat}{m:Nat}(hm:m<=p.size)(h:eG κ p m):a8 κ (kas_rev p 0 m) m:=by
 intro i j a b;rw[pS hm,pS hm,Tw (by lia),Tw (by lia)];exact h _ _ (by lia) (by lia)
theorem tF{p:Array Nat}(hp:POk n p){m HD:Nat}(hn:HD<=n)(h1:1<=m)(hm:m<=HD)(hs:eG κ p m){Q:Nat×Array Nat->Shared->Prop}{s:Shared}(g:Good s)
  (k:∀r p' s',POk n p'->Good s'->1<=r->r<=HD->a8 κ p' r->Q (r,p') s'):(kas_tail3 m HD p).kasWp cmp Q s:=by
 unfold kas_tail3;rw[KasT.kasWp_bind];have hsz:=hp.size;refine tw hc (hp.rev 0 m) hn (HD-m) m s g h1 (by lia) (rq (by lia) hs) fun r s' g' a b c _=>?_
 exact k r _ s' (hp.rev 0 m) g' (by lia) b c
theorem jE{p:Array Nat}(hp:POk n p){m HD:Nat}(hn:HD<=n)(h1:1<=m)(hm:m+1<=HD)(hs:eG κ p (m+1)){Q:Nat×Array Nat->Shared->Prop}{s:Shared}(g:Good s)
  (k:∀r p' s',POk n p'->Good s'->1<=r->r<=HD->a8 κ p' r->Q (r,p') s'):(kas_descPart m HD p).kasWp cmp Q s:=by
 unfold kas_descPart;rw[KasT.kasWp_bind];refine lB hc hn (HD-(m+1)) p (m+1) 0 s hp g (by lia) (by lia) (by lia) hs ?_ fun p' m' q' s' a b c d e f g2=>?_
 ·intro k' a b;have:k'=m:=by lia
  rw[this];rfl
 ·have hsz:=a.size;dsimp only;split
  ·have same:=m7 (κ:=κ) (p:=p') (m:=m') (q:=q') (by lia) g2;exact tF hc (a.rev _ _) hn (by lia) d (iI same f) b k
  ·exact tF hc a hn (by lia) d f b k
theorem wJ{p:Array Nat}(hp:POk n p){HD:Nat}(hn:HD<=n)(h1:1<=HD){Q:Nat×Array Nat->Shared->Prop}{s:Shared}(g:Good s)
  (k:∀r p' s',POk n p'->Good s'->1<=r->r<=HD->a8 κ p' r->Q (r,p') s'):(kas_count HD p).kasWp cmp Q s:=by
 unfold kas_count;rw[KasT.kasWp_bind];have hsz:=hp.size;refine tw hc hp hn (HD-1) 1 s g (Tn _) (by lia) (rp p) fun m s' g' a b c d=>?_
 by_cases e:m=HD
 ·rw[Tw (by simpa using e)];exact k m p s' hp g' (by lia) (by lia) c
 ·rw[TC (by simpa using e)];have dd:=d (by lia);by_cases h2:m>1
  ·rw[Tw h2];show cmp (p.getD 0 0) (p.getD (m-1) 0) _ s';refine hc _ _ (hp.lt (by lia)) (hp.lt (by lia)) _ s' g' fun s2 g2=>?_
   cases e2:O.blt (κ (p.getD 0 0)) (κ (p.getD (m-1) 0)) with
   |true=>
    (try dsimp only)
    rw[Tw rfl];exact k m p s2 hp g2 (by lia) b c
   |false=>
    (try dsimp only)
    rw[TC TB];have eq:∀i,i<m->kk κ p i=kk κ p 0:=fun i hi=>by
     have x1:=c 0 i (by lia) hi;have x2:=c i (m-1) (by lia) (by lia);exact KeyOrd.kle_antisymm (O:=O) (WU x2 e2) x1
    have same:∀i,kk κ (kas_rev p 0 m) i=kk κ p i:=fun i=>by
     rw[pS (by lia)];split
     ·rw[eq _ (by lia),eq i (by lia)]
     ·rfl
    refine jE hc (hp.rev 0 m) hn (by lia) (by lia) ?_ g2 k;refine iI same (dZ (by lia) (fun i j x y=>?_) (WG dd));rw[eq i (by lia),eq j y];exact Vx _
  ·rw[TC h2];refine jE hc hp hn (by lia) (by lia) (dZ (by lia) (fun i j x y=>?_) (WG dd)) g' k;have:i=j:=by lia
   rw[this];exact Vx _
theorem lC{p:Array Nat}(hp:POk n p){t:Nat}(ht:t<n)(hs:a8 κ p t){Q:Nat->Shared->Prop}:∀(f l r:Nat) (s:Shared),Good s->l<=r->r<=t->r-l<=f->(∀i,i<l->O.kle (kk κ p i) (kk κ p t))->(∀i,r<=i->i<t->O.klt (kk κ p t) (kk κ p i))->
  (∀x s',Good s'->x<=t->(∀i,i<x->O.kle (kk κ p i) (kk κ p t))->(∀i,x<=i->i<t->O.klt (kk κ p t) (kk κ p i))->Q x s')->(kas_place p t f l r).kasWp cmp Q s
 | 0,l,r,s,g,h1,h2,h3,lo,hi,k=>k l s g (by lia) lo fun i a b=>hi i (by lia) b
 |f+1,l,r,s,g,h1,h2,h3,lo,hi,k=>by
  unfold kas_place;by_cases e:l>=r
  ·rw[Tw e];exact k l s g (by lia) lo fun i a b=>hi i (by lia) b
  ·rw[TC e];show cmp (p.getD t 0) (p.getD ((l+r) / 2) 0) _ s;refine hc _ _ (hp.lt ht) (hp.lt (by lia)) _ s g fun s' g'=>?_
   cases e2:O.blt (κ (p.getD t 0)) (κ (p.getD ((l+r) / 2) 0)) with
   |true=>
    (try dsimp only)
    rw[Tw rfl];refine lC hp ht hs f l ((l+r) / 2) s' g' (by lia) (by lia) (by lia) lo (fun i a b=>?_) k;exact KeyOrd.klt_of_klt_of_kle (O:=O) e2 (hs _ i a b)
   |false=>
    (try dsimp only)
    rw[TC TB];refine lC hp ht hs f ((l+r) / 2+1) r s' g' (by lia) (by lia) (by lia) (fun i a=>?_) hi k;exact WU (O:=O) (hs i ((l+r) / 2) (by lia) (by lia)) e2
theorem xT{Q:Array Nat->Shared->Prop}:∀(f:Nat) (p:Array Nat) (t:Nat) (s:Shared),POk n p->Good s->t+f=n->a8 κ p t->(∀p' s',POk n p'->Good s'->a8 κ p' n->Q p' s')->(kas_bin f p t).kasWp cmp Q s
 | 0,p,t,s,hp,g,hf,hs,k=>k p s hp g (by rw[show n=t by lia];exact hs)
 |f+1,p,t,s,hp,g,hf,hs,k=>by
  unfold kas_bin;rw[KasT.kasWp_bind];have hsz:=hp.size;refine lC hc hp (by lia) hs t 0 t s g (Um _) (Tn _) (by lia) (fun i a=>by lia) (fun i a b=>by lia) fun x s' g' hx lo hi=>?_
  refine xT f _ (t+1) s' (hp.bub _ _) g' (by lia) ?_ k;have ex:t-(t-x)=x:=by lia
  intro i j a b;rw[xS (by lia) (by lia),xS (by lia) (by lia),ex];have lo':=lo;by_cases i1:i=x
  ·by_cases j1:j=x
   ·rw[Tw i1,Tw j1];exact Vx _
   ·rw[Tw i1,TC j1,Tw (by lia)];exact WG (hi (j-1) (by lia) (by lia))
  ·rw[TC i1];by_cases i2:x<i/\i<=t
   ·rw[Tw i2,TC (by lia),Tw (by lia)];exact hs (i-1) (j-1) (by lia) (by lia)
   ·rw[TC i2];by_cases j1:j=x
    ·rw[Tw j1];exact lo i (by lia)
    ·rw[TC j1];by_cases j2:x<j/\j<=t
     ·rw[Tw j2];exact hs i (j-1) (by lia) (by lia)
     ·rw[TC j2];exact hs i j a (by lia)
theorem zd(h1:1<=n){Q:Array Nat->Shared->Prop}{s:Shared}(g:Good s)(k:∀p s',POk n p->Good s'->a8 κ p n->Q p s'):(kas_sort n).kasWp cmp Q s:=by
 unfold kas_sort;rw[KasT.kasWp_bind];refine wJ hc (p:=List.toArray (List.range n)) ⟨by simp⟩ (Tn _) h1 g fun r p' s' hp g' a b c=>?_
 dsimp only;split
 ·have e:max r 1=r:=by lia
  rw[e];exact xT hc (n-r) p' r s' hp g' (by lia) c k
 ·exact k p' s' hp g' (by rw[show n=r by lia];exact c)
end
end NX
namespace NX
open PySem PySem.W PySem.Spec PyProof.Rows L2
section
variable{prog:Program}{w:World}{A:Around}{E:Value->Shared->Prop}{s:Shared}
theorem pT(n:Nat):POk n (List.toArray (List.range n)):=⟨by simp⟩
theorem hV{O:KeyOrd}{key:Nat->O.α}{kd:SortKind}{a:Addr}{vs:List Value}{n:Nat}{P:PySem.Fin->Shared->Prop}(ho:s.heap.get? a=some (seqObj "list" vs.toArray n))(LH:vs.length<64)
  (JH:2<=vs.length->∀(h':Heap),(∀b o,b≠a->s.heap.get? b=some o->h'.get? b=some o)->∀Q:SortKind->Shared->Prop,Q kd {s with heap:=h'}->wpAny (model prog w) A (keyKind' vs.toArray) Q E {s with heap:=h'})
  (LZ:∀i j,i<vs.length->j<vs.length->∀(h':Heap),(∀b o,b≠a->s.heap.get? b=some o->h'.get? b=some o)->∀C:Bool->Shared->Prop,C (O.blt (key i) (key j)) {s with heap:=h'}->kas_ask prog w A kd vs i j C {s with heap:=h'})
  (h:∀p h',POk vs.length p->a8 key p vs.length->(∃e,h'.get? a=some (seqObj "list" (List.toArray (p.toList.map fun i=>vs.getD i .none)) e))->(∀b o,b≠a->s.heap.get? b=some o->h'.get? b=some o)->P (.done (.ret .none)) {s with heap:=h'}):
  wpAny (model prog w) A (Builtin.«list.sort» ⟨[.ref a],[]⟩) P E s:=by
 rw[list_sort_plain];have la:a<s.heap.objs.size:=Tz ho;have zs:vs.toArray.size=vs.length:=by simp
 refine Ti (listItems_at ho rfl (Ti (listUpdate_at ho rfl ?_ (by rw[zs,UE];lia) (Um _))));obtain⟨e1,h1⟩:∃e1,(s.heap.update a (Obj.mapSeq fun _=>#[])).get? a=some (seqObj "list" #[] e1):=⟨_,get?_update_seq ho (fun _=>#[])⟩
 refine Ti (seqEpoch_at h1 rfl (Ti (wpAny_newTuple (Ti (YQ (Wf ?_))) (by simp only[Xc];rw[UE];lia))));generalize e6:((s.heap.update a (Obj.mapSeq fun _=>#[])).push {cls:=.type "tuple",data:=.seq vs.toArray.toList.toArray}).push {cls:=.type "list",data:=.seq ([]:List Value).toArray}=h6;have k6:∀b o,b≠a->s.heap.get? b=some o->h6.get? b=some o:=fun b o nb e=>by
  rw[<-e6];exact Tj _ (Tj _ ((VB _ _ (Vn nb)).trans e))
 have PX:h6.get? a=some (seqObj "list" #[] e1):=by
  rw[<-e6];exact Tj _ (Tj _ h1)
 dsimp only;have fin:∀(p:Array Nat),POk vs.length p->a8 key p vs.length->∀out:Array Value,out=List.toArray (p.toList.map fun i=>vs.getD i .none)->
   P (.done (.ret .none)) {s with heap:=h6.update a (Obj.mapSeq fun _=>out)}:=fun p hp hs out eo=>by
  subst eo;exact h p _ hp hs ⟨_,get?_update_seq PX _⟩ fun b o nb e=>(VB _ _ (Vn nb)).trans (k6 b o nb e)
 have fits:∀{out:Array Value}{p:Array Nat},POk vs.length p->out=List.toArray (p.toList.map fun i=>vs.getD i .none)->out.size<=sizeLine+1:=fun{out p} hp e=>by
  rw[e,Tr,Tt,hp.perm.length_eq,TU,UE];lia
 by_cases h2:vs.toArray.size<2
 ·rw[Tw h2,Tw h2];refine Ti (Tv ?_);rw[StateT.run_pure];refine Ti (Tv ?_);dsimp only;have eo:(arrOf (SortSt.mk' general' (vs.toArray.zip vs.toArray) #[] 7 none)).map (·.2)=List.toArray ((List.toArray (List.range vs.length)).toList.map fun i=>vs.getD i .none):=by
   show(vs.toArray.zip vs.toArray).map (·.2)=_;apply Array.toList_inj.mp;simp only[Array.toList_map,Array.toList_zip,Xc];have a1:(vs.zip vs).map (·.2)=vs:=by
    rw[List.map_snd_zip];exact Tn _
   rw[a1];apply WH;intro i;by_cases hi:i<vs.length
   ·simp[hi]
   ·simp[hi]
  refine Ti (seqEpoch_at PX rfl (Ti (listUpdate_at PX rfl ?_ (Um _) (fits (pT _) eo))));simp only[Xy,VG,Xk];refine Tv (fin _ (pT _) ?_ _ eo);intro i j x y;have:i=j:=by lia
  rw[this];exact Vx _
 ·rw[TC h2,TC h2];have Sr:2<=vs.length:=by lia
  refine Ti (JH Sr h6 k6 _ ?_);refine Ti (Wd (kat_run (ks:=vs) (vs:=vs) (Q:=fun Kd s'=>∃p,POk vs.length p/\a8 key p vs.length/\arrOf Kd=p.map (kas_item (vs.toArray.zip vs.toArray))/\failedOf Kd=none/\s'={s with heap:=h6})
   (G:=fun p s'=>POk vs.length p/\a8 key p vs.length/\s'={s with heap:=h6}) rfl Sr LH (fun p Kd s' hz Pj hf hg=>⟨p,hg.1,hg.2.1,Pj,hf,hg.2.2⟩)
   (zd (n:=vs.length) (O:=O) (κ:=key) (Good:=fun s'=>s'={s with heap:=h6}) (fun i j hi hj Q s' g k=>?_) (by lia) rfl fun p s' hp g hs=>⟨hp,hs,g⟩)) (fun r s' hq=>?_) fun _ _ e=>e)
  ·subst g;exact LZ i j hi hj h6 k6 Q (k _ rfl)
  ·obtain⟨p,hp,hs,Pj,hf,rfl⟩:=hq;have eo:=kat_snds (ks:=vs) (vs:=vs) rfl Pj;refine Ti (seqEpoch_at PX rfl (Ti (listUpdate_at PX rfl ?_ (Um _) (fits hp eo))));rw[hf];simp only[Xy,VG,Xk];exact Tv (fin p hp hs _ eo)
theorem iJ{O:KeyOrd}{key:Nat->O.α}{kd:SortKind}{l:Addr}{vs:List Value}{Q:Value->Shared->Prop}(hl:s.heap.IsList l vs.toArray)(LH:vs.length<64)
  (JH:2<=vs.length->∀(A':Around) (E':Value->Shared->Prop) (h':Heap),(∀b o,s.heap.get? b=some o->h'.get? b=some o)->∀Q:SortKind->Shared->Prop,Q kd {s with heap:=h'}->wpAny (model prog w) A' (keyKind' vs.toArray) Q E' {s with heap:=h'})
  (LZ:∀i j,i<vs.length->j<vs.length->∀(h':Heap),(∀b o,s.heap.get? b=some o->h'.get? b=some o)->∀C:Bool->Shared->Prop,C (O.blt (key i) (key j)) {s with heap:=h'}->kas_ask prog w A.in1.in1 kd vs i j C {s with heap:=h'})
  (h:∀p h' e,POk vs.length p->a8 key p vs.length->h'.get? (s.heap.objs.size+1)=some (seqObj "list" (List.toArray (p.toList.map fun i=>vs.getD i .none)) e)->(∀b o,s.heap.get? b=some o->h'.get? b=some o)->Q (.ref (s.heap.objs.size+1)) {s with heap:=h'}):
  wpAny (model prog w) A (call (.builtin "sorted") [.ref l]) Q E s:=by
 refine Wl kind_sorted plain_sorted entry_sorted (args_sorted1 _) ?_;unfold Builtin.«sorted»;refine Ti (m:=checkCount "sorted" 1 1 _) (Tv (Ti (collect_list hl (Ti (YQ ?_ (by rw[UE];lia))) (by rw[UE];lia))));have zz:((s.heap.push (seqObj "list" #[] 0)).update s.heap.objs.size (Obj.mapSeq (·++vs.toArray))).objs.size=s.heap.objs.size+1:=by rw[Heap.size_update,size_push']
 generalize e5:(s.heap.push (seqObj "list" #[] 0)).update s.heap.objs.size (Obj.mapSeq (·++vs.toArray))=h5 at zz ⊢;have k5:∀b o,s.heap.get? b=some o->(h5.push (seqObj "list" vs.toArray 0)).get? b=some o:=fun b o e=>by
  rw[<-e5];exact Tj _ ((VB _ _ (Vn (TK (Tz e)))).trans (Tj _ e))
 have hL:(h5.push (seqObj "list" vs.toArray 0)).get? (s.heap.objs.size+1)=some (seqObj "list" vs.toArray 0):=by
  rw[<-zz];exact TJ _ rfl
 have ne:∀b o,s.heap.get? b=some o->b≠s.heap.objs.size+1:=fun b o e=>TK (VS (Tz e))
 show wpAny _ _ _ _ _ {s with heap:=h5.push (seqObj "list" vs.toArray 0)};rw[zz];refine Ti (Wf (UQ slot_list_sort ⟨_,hL,rfl⟩ entry_list_sort (hV (key:=key) (kd:=kd) hL LH (fun h2 h' kk Q' q=>JH h2 _ _ h' (fun b o e=>kk b o (ne b o e) (k5 b o e)) Q' q)
  (fun i j hi hj h' kk C q=>LZ i j hi hj h' (fun b o e=>kk b o (ne b o e) (k5 b o e)) C q) fun p h' hp hs ⟨e,he⟩ kk=>⟨_,rfl,?_⟩) (args_list_sort _)))
 exact Tv ⟨_,rfl,h p h' e hp hs he fun b o q=>kk b o (ne b o q) (k5 b o q)⟩
end
def intO:KeyOrd where
 α:=Int
 blt a b:=decide (a<b)
 irrefl a:=by simp
 trans a b c h1 h2:=by simp only[T1] at *;lia
 negTrans a b c h:=by simp only[T1] at *;lia
 total a b h1 h2:=by simp only[Ud] at *;lia
abbrev Ft:KeyOrd:=strKind.toKeyOrd
noncomputable def pU:KeyOrd where
 α:=Key
 blt a b:=match a,b with
  | .inl i,.inl j=>decide (i<j)
  | .inr x,.inr y=>decide (x.cps.toList<y.cps.toList)
  | .inl _,.inr _=>true
  | .inr _,.inl _=>false
 irrefl a:=by
  cases a with
  |inl i=>simp
  |inr x=>simpa using List.lt_irrefl x.cps.toList
 trans a b c h1 h2:=by
  cases a <;> cases b <;> cases c <;> simp_all
  ·lia
  ·exact List.lt_trans h1 h2
 negTrans a b c h:=by
  cases a <;> cases b <;> cases c <;> simp_all
  ·lia
  ·rename_i x y z;by_cases q:x.cps.toList<y.cps.toList
   ·exact .inl q
   ·exact .inr (List.lt_of_le_of_lt (XH.mp q) h)
 total a b h1 h2:=by
  cases a <;> cases b <;> simp_all
  ·lia
  ·rename_i x y;have e:x.cps.toList=y.cps.toList:=List.le_antisymm (by first|exact h2|exact XH.mp h2) (by first|exact h1|exact XH.mp h1);rw[<-mV x,<-mV y,e]
def dI:List Key->List Key->Bool
 |[],[]=>false
 |[],_::_=>true
 |_::_,[]=>false
 |a::r,b::t=>if a=b then dI r t else pU.blt a b
theorem gO:∀a:List Key,dI a a=false
 |[]=>rfl
 |a::r=>by
  show(if a=a then dI r r else _)=false;rw[Tw rfl];exact gO r
theorem ze{a b:Key}(h:pU.blt a b=true):a≠b:=by
 rintro rfl;have:=pU.irrefl a;rw[h]at this;cases this
theorem gc:∀a b c:List Key,dI a b=true->dI b c=true->dI a c=true
 |[],[],_,h,_=>by cases h
 |[],_::_,[],_,h=>by cases h
 |[],_::_,_::_,_,_=>rfl
 |_::_,[],_,h,_=>by cases h
 |_::_,_::_,[],_,h=>by cases h
 |a::r,b::t,c::u,h1,h2=>by
  have h1:(if a=b then dI r t else pU.blt a b)=true:=h1;have h2:(if b=c then dI t u else pU.blt b c)=true:=h2;show(if a=c then dI r u else pU.blt a c)=true;by_cases e1:a=b
  ·by_cases e2:b=c
   ·rw[Tw e1]at h1;rw[Tw e2]at h2;rw[Tw (e1.trans e2)];exact gc r t u h1 h2
   ·rw[TC e2]at h2;rw[e1,TC e2];exact h2
  ·rw[TC e1]at h1;by_cases e2:b=c
   ·rw[<-e2,TC e1];exact h1
   ·rw[TC e2]at h2;have h3:=pU.trans a b c h1 h2;rw[TC (ze h3)];exact h3
theorem gf:∀a b:List Key,dI a b=false->dI b a=false->a=b
 |[],[],_,_=>rfl
 |[],_::_,h,_=>by cases h
 |_::_,[],_,h=>by cases h
 |a::r,b::t,h1,h2=>by
  have h1:(if a=b then dI r t else pU.blt a b)=false:=h1;have h2:(if b=a then dI t r else pU.blt b a)=false:=h2;by_cases e:a=b
  ·rw[Tw e]at h1;rw[Tw e.symm]at h2;rw[e,gf r t h1 h2]
  ·rw[TC e]at h1;rw[TC (Vn e)]at h2;exact absurd (pU.total a b h1 h2) e
theorem wK(a b c:List Key)(h:dI a c=true):dI a b=true\/dI b c=true:=by
 cases e:dI a b with
 |true=>exact .inl rfl
 |false=>
  refine .inr ?_;cases e2:dI b a with
  |true=>exact gc b a c e2 h
  |false=>
   rw[<-gf a b e e2];exact h
def Dz:KeyOrd where
 α:=List Key
 blt:=dI
 irrefl:=gO
 trans:=gc
 negTrans:=wK
 total:=gf
section
variable{O:KeyOrd}
def rA(p:Array Nat)(xs:List V):List V:=p.toList.map fun i=>xs.getD i .non
theorem ko{α:Type}(xs:List α)(d:α):((List.range xs.length).map fun i=>xs.getD i d)=xs:=by
 apply WH;intro i;by_cases hi:i<xs.length
 ·simp[hi]
 ·simp[hi]
theorem jm{α:Type}{p:Array Nat}{xs:List α}(d:α)(hp:POk xs.length p):(p.toList.map fun i=>xs.getD i d).Perm xs:=by
 have:=hp.perm.map (fun i=>xs.getD i d)
 rwa [ko]at this
theorem gj{α:Type}{p:Array Nat}{xs:List α}(d:α)(key:α->O.α)(hp:POk xs.length p)(hs:a8 (O:=O) (fun i=>key (xs.getD i d)) p xs.length):(p.toList.map fun i=>xs.getD i d).Pairwise fun a b=>O.kle (key a) (key b):=by
 rw[Xs];intro i j hi hj LG;have hsz:=hp.size;have Mt:i<p.size:=by simpa using hi
 have MJ:j<p.size:=by simpa using hj
 have h:=hs i j (VT LG) (by lia);unfold kk at h;simp only[VY,Array.getElem_toList];have e1:p.getD i 0=p[i]:=by simp[Array.getD,Mt]
 have e2:p.getD j 0=p[j]:=by simp[Array.getD,MJ]
 rw[e1,e2]at h;exact h
theorem vals_pick{xs:List V}{us:List Value}(r:Vals xs us):∀l:List Nat,(∀i∈l,i<xs.length)->Vals (l.map fun i=>xs.getD i .non) (l.map fun i=>us.getD i .none)
 |[],_=>.nil
 |i::l,h=>by
  refine .cons ?_ (vals_pick r l fun j hj=>h j (Tu _ hj));have hi:=h i Tq;have e1:xs[i]?=some (xs.getD i .non):=by rw[bH _ _ _ hi];exact To hi
  obtain⟨u,hu,ru⟩:=r.get e1;have e2:us.getD i .none=u:=by rw[Th,hu];rfl
  show L2.RelV (xs.getD i .non) (us.getD i .none);rw[e2];exact ru
theorem jn{xs:List V}{us:List Value}{p:Array Nat}(r:Vals xs us)(hp:POk xs.length p):Vals (rA p xs) (p.toList.map fun i=>us.getD i .none):=
 vals_pick r _ fun i hi=>UB.mp (hp.perm.mem_iff.mp hi)
end
section
variable{X:Cx}
theorem hW{pr:List (Addr×Obj)}{s:Shared}{σ:L2.St}{H:Hp}{h':Heap}{ys:List V}{us:List Value}{e:Nat}{D:Addr}(I:Inv X pr σ H s)(kk:∀b o,s.heap.get? b=some o->h'.get? b=some o)(hD:s.heap.objs.size<=D)
  (ho:h'.get? D=some (seqObj "list" (List.toArray us) e)) (r:Vals ys us) (hz:ys.length<=sizeLine):Inv X pr σ (upd H D (.lst ys)) {s with heap:=h'}:=
 I.laid (t':=s.toks) kk hD ⟨hz,us,e,r,ho⟩
theorem jh(hc:X.calm=true):dC X (.builtin "sorted") (fun vs H Q=>∃(p:Addr) (ns:List Int),vs=[.ref p]/\SqL X.K H p (ns.map V.int)/\ns.length<64/\∀(D:Addr) (ms:List Int),H D=none->ms.Perm ns->ms.Pairwise (·<=·)->Q (.ref D) (upd H D (.lst (ms.map V.int)))):=by
 intro pr s σ H vs us Q I r h;obtain⟨p,ns,rfl,hp,LH,q⟩:=h;obtain⟨u,rfl,r1⟩:=jy r;cases r1;obtain⟨ws,rv,pl,hz⟩:=I.list hp;have hl:=rv.length;rw[Tt]at hl;have isI:∀v∈ws,∃n t,v=.int n t:=fun v hv=>by
  obtain⟨i,hi⟩:=Vh.mp hv;obtain⟨t,e⟩:=lx rv hi;exact⟨_,t,e⟩
 refine iJ (O:=intO) (key:=fun i=>ns.getD i 0) (kd:=oneType') pl.isList (by lia) (fun h2 A' E' h' kk Q' q'=>?_) (fun i j hi hj h' kk C q'=>?_) fun pp h' e Jn hs he kk=>?_
 ·refine kas_kind h2 (T:=.type "int") (fun v hv=>?_) (by decide) (by decide) q';obtain⟨n,t,rfl⟩:=isI v hv;exact fun A Q E s _ q=>Wt (W8 s n t) q
 ·unfold kas_ask;have e1:ws[i]?=some (ws.getD i .none):=by rw[bH _ _ _ hi];exact To hi
  have e2:ws[j]?=some (ws.getD j .none):=by rw[bH _ _ _ hj];exact To hj
  obtain⟨t,Rw⟩:=lx rv e1;obtain⟨t',Rx⟩:=lx rv e2;rw[Rw,Rx];exact kat_lt_int q'
 ·rw[<-hl]at Jn hs;have Ob:POk (ns.map V.int).length pp:=by rw[Tt];exact Jn
  have eo:rA pp (ns.map V.int)=(pp.toList.map fun i=>ns.getD i 0).map V.int:=by
   unfold rA;rw[TV];refine Uo fun i hi=>?_
   have hi:=UB.mp (Jn.perm.mem_iff.mp hi);show(ns.map V.int).getD i .non=V.int (ns.getD i 0);rw[bH _ _ _ (by rw[Tt];exact hi),bH _ _ _ hi];simp
  have hn:H (s.heap.objs.size+1)=none:=I.hok.fresh (Vv _);refine⟨.ref (s.heap.objs.size+1),_,hW I kk (Vv _) he (jn rv Ob) ?_,rfl,?_⟩
  ·show(rA pp (ns.map V.int)).length<=sizeLine;rw[eo,Tt,Tt,Jn.perm.length_eq,TU,UE];lia
  ·rw[eo];refine q _ _ hn (jm 0 Jn) ?_;have:=gj (O:=intO) 0 (fun i:Int=>i) Jn hs;refine this.imp fun{a b} KH=>?_
   have KH:decide (b<a)=false:=KH;have:=YR KH;lia
theorem oN{ls:List (List Nat)}{us:List Value}(r:Vals (ls.map fun l=>V.str (S l)) us){i:Nat}{v:Value}(h:us[i]?=some v):∃t,v=.str (S (ls.getD i [])) t:=by
 have hl:=r.length;rw[Tt]at hl;obtain⟨hi,_⟩:=TH.mp h;have e1:(ls.map fun l=>V.str (S l))[i]?=some (.str (S (ls.getD i []))):=by
  rw[TN,To (by lia),bH _ _ _ (by lia)];rfl
 obtain⟨u,hu,t,rfl⟩:=r.get e1;rw[h]at hu;exact⟨t,T6 hu⟩
theorem ji(hc:X.calm=true):dC X (.builtin "sorted") (fun vs H Q=>∃(p:Addr) (ls:List (List Nat)),vs=[.ref p]/\SqL X.K H p (ls.map fun l=>V.str (S l))/\ls.length<64/\∀(D:Addr) (ms:List (List Nat)),H D=none->ms.Perm ls->ms.Pairwise (fun a b=>¬ b<a)->Q (.ref D) (upd H D (.lst (ms.map fun l=>V.str (S l))))):=by
 intro pr s σ H vs us Q I r h;obtain⟨p,ls,rfl,hp,LH,q⟩:=h;obtain⟨u,rfl,r1⟩:=jy r;cases r1;obtain⟨ws,rv,pl,hz⟩:=I.list hp;have hl:=rv.length;rw[Tt]at hl;refine iJ (O:=Ft) (key:=fun i=>ls.getD i []) (kd:=oneType') pl.isList (by lia) (fun h2 A' E' h' kk Q' q'=>?_) (fun i j hi hj h' kk C q'=>?_) fun pp h' e Jn hs he kk=>?_
 ·refine kas_kind h2 (T:=.type "str") (fun v hv=>?_) (by decide) (by decide) q';obtain⟨i,hi⟩:=Vh.mp hv;obtain⟨t,rfl⟩:=oN rv hi;exact fun A Q E s _ q=>Wt (Ym s _ t) q
 ·unfold kas_ask;have e1:ws[i]?=some (ws.getD i .none):=by rw[bH _ _ _ hi];exact To hi
  have e2:ws[j]?=some (ws.getD j .none):=by rw[bH _ _ _ hj];exact To hj
  obtain⟨t,Rw⟩:=oN rv e1;obtain⟨t',Rx⟩:=oN rv e2;rw[Rw,Rx];refine kas_lt_str ?_;rw[e8,e8];exact q'
 ·rw[<-hl]at Jn hs;have Ob:POk (ls.map fun l=>V.str (S l)).length pp:=by rw[Tt];exact Jn
  have eo:rA pp (ls.map fun l=>V.str (S l))=(pp.toList.map fun i=>ls.getD i []).map fun l=>V.str (S l):=by
   unfold rA;rw[TV];refine Uo fun i hi=>?_
   have hi:=UB.mp (Jn.perm.mem_iff.mp hi);show(ls.map fun l=>V.str (S l)).getD i .non=V.str (S (ls.getD i []));rw[bH _ _ _ (by rw[Tt];exact hi),bH _ _ _ hi];simp
  have hn:H (s.heap.objs.size+1)=none:=I.hok.fresh (Vv _);refine⟨.ref (s.heap.objs.size+1),_,hW I kk (Vv _) he (jn rv Ob) ?_,rfl,?_⟩
  ·show(rA pp (ls.map fun l=>V.str (S l))).length<=sizeLine;rw[eo,Tt,Tt,Jn.perm.length_eq,TU,UE];lia
  ·rw[eo];refine q _ _ hn (jm [] Jn) ?_;have:=gj (O:=Ft) [] (fun l:List Nat=>l) Jn hs;refine this.imp fun{a b} KH=>?_
   have KH:decide (b<a)=false:=KH;exact YR KH
end
def kinds(k:List Key):List Bool:=k.map fun x=>x.isLeft
section
variable{prog:Program}{w:World}{A:Around}{s:Shared}
theorem tG(a b:Key):Rl (kV a) (kV b)=decide (a=b):=by
 cases a <;> cases b <;> (rw[Uv];simp[kV,Rl])
theorem jo(a:Key):wB (kV a)=true:=by cases a <;> rfl
theorem BM{a b:Key}{u v:Value}{top:Bool}{Q:Bool->Shared->Prop}(ra:L2.RelV (kV a) u)(rb:L2.RelV (kV b) v)(hk:a.isLeft=b.isLeft)(q:Q (pU.blt a b) s):wpAny (model prog w) A (oneLt' top u v) Q (fun _ _=>False) s:=by
 cases a with
 |inl i=>
  cases b with
  |inr _=>cases hk
  |inl j=>
   obtain⟨t,rfl⟩:=ra;obtain⟨t',rfl⟩:=rb;cases top with
   |true=>exact kat_lt_int (E:=fun _ _=>False) q
   |false=>exact kat_one _ _ (lt_int q)
 |inr x=>
  cases b with
  |inl _=>cases hk
  |inr y=>
   obtain⟨t,rfl⟩:=ra;obtain⟨t',rfl⟩:=rb;cases top with
   |true=>exact oneLt_str q
   |false=>exact kat_one _ _ (lt_str q)
theorem jF{Q:Bool->Shared->Prop}:∀(k1 k2:List Key) (us ws:List Value) (i:Nat),Vals (k1.map kV) us->Vals (k2.map kV) ws->kinds k1=kinds k2->Q (dI k1 k2) s->KatLex prog w A true false Q (us.zip ws) i s
 |[],[],_,_,_,.nil,.nil,_,q=>q
 |[],_::_,_,_,_,_,_,h,_=>by cases h
 |_::_,[],_,_,_,_,_,h,_=>by cases h
 |a::r,b::t,u::us,v::ws,i,.cons ru rus,.cons rv rvs,h,q=>by
  have h1:a.isLeft=b.isLeft:=(W5 h).1;have h2:kinds r=kinds t:=(W5 h).2;have q:Q (if a=b then dI r t else pU.blt a b) s:=q;refine kat_cons (xP (A:=A) (s:=s) ru rv (jo a) (jo b) prog w _ _ ?_);rw[tG];by_cases e:a=b
  ·rw[Tw e]at q;rw[Ux e];exact kat_yes (jF r t us ws (i+1) rus rvs h2 q)
  ·rw[TC e]at q;rw[Ua e];exact kat_no (BM ru rv h1 q)
end
section
variable{X:Cx}{pr:List (Addr×Obj)}{σ:L2.St}{H:Hp}{s:Shared}
theorem m8(I:Inv X pr σ H s){a:Addr}{xs:List V}(h:SqT X.K H a xs):∃(us:List Value) (o:Obj) (n:Nat),Vals xs us/\s.heap.get? a=some o/\o.cls=.type "tuple"/\o.data=.seq us.toArray n:=by
 obtain⟨us,r,pl,_⟩:=I.tuple h;obtain⟨o,ho,oc,n,od⟩:=pl;exact⟨us,o,n,r,ho,oc,od⟩
theorem lD{al:List (Addr×List Key)}{us:List Value}(r:Vals (al.map fun a=>V.ref a.1) us){i:Nat}(h:i<al.length):us.getD i .none=.ref (al.getD i (0,[])).1:=by
 have e1:(al.map fun a=>V.ref a.1)[i]?=some (.ref (al.getD i (0,[])).1):=by
  rw[TN,To h,bH _ _ _ h];rfl
 obtain⟨u,hu,ru⟩:=r.get e1;rw[Th,hu];exact ru
theorem pV{al:List (Addr×List Key)}{us:List Value}{h':Heap}(I:Inv X pr σ H s)(kk:∀b o,s.heap.get? b=some o->h'.get? b=some o)(top:Bool):
  (r:Vals (al.map fun a=>V.ref a.1) us)->(∀a∈al,SqT X.K H a.1 (a.2.map kV)/\∃t,kinds a.2=top::t)->∃fs:List Value,KatTups h' us fs/\fs.length=al.length/\∀v∈fs,∀M:Model,Looks M h' (typeOf v) (.type (if top then "int" else "str")):=by
 induction al generalizing us with
 |nil=>
  intro r _;cases r;exact⟨[],trivial,rfl,fun v hv=>by cases hv⟩
 |cons a al ih=>
  intro r h;cases r with
  |cons ra rs=>
   cases ra;obtain⟨fs,t1,t2,t3⟩:=ih rs fun b hb=>h b (Tu _ hb)
   obtain⟨ha,kt,hk⟩:=h a Tq;obtain⟨ws,o,n,rv,ho,oc,od⟩:=m8 I ha;cases e2:a.2 with
   |nil=>rw[e2]at hk;cases hk
   |cons k ks=>
    rw[e2]at rv hk;have Ss:k.isLeft=top:=(W5 hk).1;cases rv with
    | @cons _ f _ fr rf rfs=>
     refine⟨f::fs,KatTups.cons (kk _ _ ho) oc od (by simp) t1,by simp[t2],fun v hv M=>?_⟩;rcases TF.mp hv with rfl|hv
     ·cases k with
      |inl i=>
       obtain⟨t,rfl⟩:=rf;have:top=true:=Ss.symm;subst this;exact fun A Q E s _ q=>Wt (W8 s _ t) q
      |inr x=>
       obtain⟨t,rfl⟩:=rf;have:top=false:=Ss.symm;subst this;exact fun A Q E s _ q=>Wt (Ym s _ t) q
     ·exact t3 v hv M
end
section
variable{X:Cx}
theorem jj(hc:X.calm=true):dC X (.builtin "sorted") (fun vs H Q=>∃(p:Addr) (al:List (Addr×List Key)) (top:Bool) (t:List Bool),vs=[.ref p]/\SqL X.K H p (al.map fun a=>V.ref a.1)/\(∀a∈al,SqT X.K H a.1 (a.2.map kV)/\kinds a.2=top::t)/\al.length<64/\
  ∀(D:Addr) (ms:List (Addr×List Key)),H D=none->ms.Perm al->ms.Pairwise (fun a b=>dI b.2 a.2=false)->Q (.ref D) (upd H D (.lst (ms.map fun a=>V.ref a.1)))):=by
 intro pr s σ H vs us Q I r h;obtain⟨p,al,top,kt,rfl,hp,Lk,LH,q⟩:=h;obtain⟨u,rfl,r1⟩:=jy r;cases r1;obtain⟨ws,rv,pl,hz⟩:=I.list hp;have hl:=rv.length;rw[Tt]at hl;refine iJ (O:=Dz) (key:=fun i=>(al.getD i (0,[])).2) (kd:=tuples' true) pl.isList (by lia) (fun h2 A' E' h' kk Q' q'=>?_) (fun i j hi hj h' kk C q'=>?_) fun pp h' e Jn hs he kk=>?_
 ·obtain⟨fs,t1,t2,t3⟩:=pV I kk top rv fun a ha=>⟨(Lk a ha).1,kt,(Lk a ha).2⟩
  refine kat_kind (T:=.type (if top then "int" else "str")) t1 (by lia) (fun v hv=>t3 v hv _) (by simp) ?_;have:((Value.type (if top then "int" else "str")) != Value.type "tuple")=true:=by cases top <;> decide
  rw[this];exact q'
 ·unfold kas_ask;have Mt:i<al.length:=by lia
  have MJ:j<al.length:=by lia
  rw[lD rv Mt,lD rv MJ];have mi:al.getD i (0,[])∈al:=by rw[bH _ _ _ Mt];exact VF _
  have mj:al.getD j (0,[])∈al:=by rw[bH _ _ _ MJ];exact VF _
  obtain⟨u1,o1,n1,r1,g1,_,d1⟩:=m8 I (Lk _ mi).1;obtain⟨u2,o2,n2,r2,g2,_,d2⟩:=m8 I (Lk _ mj).1;have ek:kinds (al.getD i (0,[])).2=kinds (al.getD j (0,[])).2:=by rw[(Lk _ mi).2,(Lk _ mj).2]
  have el:u1.length=u2.length:=by
   have a1:=r1.length;have a2:=r2.length;have a3:=UN List.length ek;simp only[kinds,Tt]at a1 a2 a3;lia
  refine kat_lt (kk _ _ g1) d1 (kk _ _ g2) d2 ?_;have ef:decide (u1.toArray.size<u2.toArray.size)=false:=by simp[el]
  rw[ef];exact jF _ _ _ _ 0 r1 r2 ek q'
 ·rw[<-hl]at Jn hs;have Ob:POk (al.map fun a=>V.ref a.1).length pp:=by rw[Tt];exact Jn
  have eo:rA pp (al.map fun a=>V.ref a.1)=(pp.toList.map fun i=>al.getD i (0,[])).map fun a=>V.ref a.1:=by
   unfold rA;rw[TV];refine Uo fun i hi=>?_
   have hi:=UB.mp (Jn.perm.mem_iff.mp hi);show(al.map fun a=>V.ref a.1).getD i .non=V.ref (al.getD i (0,[])).1;rw[bH _ _ _ (by rw[Tt];exact hi),bH _ _ _ hi];simp
  have hn:H (s.heap.objs.size+1)=none:=I.hok.fresh (Vv _);refine⟨.ref (s.heap.objs.size+1),_,hW I kk (Vv _) he (jn rv Ob) ?_,rfl,?_⟩
  ·show(rA pp (al.map fun a=>V.ref a.1)).length<=sizeLine;rw[eo,Tt,Tt,Jn.perm.length_eq,TU,UE];lia
  ·rw[eo];refine q _ _ hn (jm (0,[]) Jn) ?_;exact gj (O:=Dz) (0,[]) (fun a:Addr×List Key=>a.2) Jn hs
end
end NX
namespace L2
open PySem PySem.Spec PyProof.Rows
section
variable{κ:Type}[DecidableEq κ]
def ng(GU:List (κ×V))(k:κ):Option V:=(GU.find? fun kv=>decide (kv.1=k)).map (·.2)
def kq(GU:List (κ×V))(k:κ)(v:V):List (κ×V):=
 if(GU.any fun kv=>decide (kv.1=k))=true then GU.map (fun kv=>if kv.1=k then(kv.1,v) else kv) else GU++[(k,v)]
theorem lE{p:κ×V}{r:List (κ×V)}{k:κ}(e:p.1=k):ng (p::r) k=some p.2:=by simp[ng,V8,e]
theorem lF{p:κ×V}{r:List (κ×V)}{k:κ}(e:¬ p.1=k):ng (p::r) k=ng r k:=by simp[ng,V8,e]
theorem pW(k:κ):∀GU:List (κ×V),(GU.any fun kv=>decide (kv.1=k))=(ng GU k).isSome
 |[]=>rfl
 |p::r=>by
  rw[XI];by_cases e:p.1=k
  ·simp only[lE e,Ux e,Bool.true_or,YS]
  ·rw[lF e,Ua e,YN];exact pW k r
theorem jG(GU:List (κ×V))(k:κ)(v:V):(kq GU k v).length<=GU.length+1:=by
 unfold kq;split
 ·rw[Tt];lia
 ·rw[UC,TQ,UI];lia
theorem RelO.isSome_eq{o:Option V}{u:Option Value}(r:RelO o u):o.isSome=u.isSome:=by
 cases o with
 |none=>cases u with
  |none=>rfl
  |some _=>exact(show False from r).elim
 |some _=>cases u with
  |none=>exact(show False from r).elim
  |some _=>rfl
theorem KV.val{GU:List (κ×V)}{vs:List (κ×Value)}(r:KV GU vs)(k:κ):RelO (ng GU k) (valueAt vs k):=by
 unfold KV at r;induction r with
 |nil=>exact True.intro
 | @cons p q ps qs h t ih=>
  obtain⟨h1,h2⟩:=h;by_cases e:p.1=k
  ·have e':q.1=k:=h1.symm.trans e;have b:valueAt (q::qs) k=some q.2:=by simp[valueAt,V8,e']
   rw[lE e,b];exact h2
  ·have e':¬ q.1=k:=fun z=>e (h1.trans z)
   have b:valueAt (q::qs) k=valueAt qs k:=by simp[valueAt,V8,e']
   rw[lF e,b];exact ih
theorem KV.any{GU:List (κ×V)}{vs:List (κ×Value)}(r:KV GU vs)(k:κ):(GU.any fun kv=>decide (kv.1=k))=vs.any fun kv=>decide (kv.1=k):=by
 unfold KV at r;induction r with
 |nil=>rfl
 |cons h t ih=>rw[XI,XI,ih,h.1]
theorem KV.repl{GU:List (κ×V)}{vs:List (κ×Value)}(r:KV GU vs)(k:κ){y:V}{u:Value}(ry:RelV y u):
  KV (GU.map fun kv=>if kv.1=k then(kv.1,y) else kv) (vs.map fun kv=>if kv.1=k then(kv.1,u) else kv):=by
 unfold KV at r ⊢;induction r with
 |nil=>exact .nil
 | @cons p q ps qs h t ih=>
  rw[TY,TY];refine .cons ?_ ih;obtain⟨h1,h2⟩:=h;by_cases e:p.1=k
  ·rw[Tw e,Tw (h1.symm.trans e)];exact⟨h1,ry⟩
  ·rw[TC e,TC (fun z=>e (h1.trans z))];exact⟨h1,h2⟩
theorem KV.put{GU:List (κ×V)}{vs:List (κ×Value)}(r:KV GU vs)(k:κ){y:V}{u:Value}(ry:RelV y u):KV (kq GU k y) (stored vs k u):=by
 unfold kq stored;rw[r.any k];by_cases e:(vs.any fun kv=>decide (kv.1=k))=true
 ·rw[Tw e,Tw e];exact r.repl k ry
 ·rw[TC e,TC e];exact Paired.snoc r ⟨rfl,ry⟩
theorem KV.length{GU:List (κ×V)}{vs:List (κ×Value)}(r:KV GU vs):GU.length=vs.length:=W3 r
end
theorem kV_is{P:Program}{w:World}{k:Key}{u:Value}(r:RelV (kV k) u):(mixKind P w).is k u=true:=by
 cases k with
 |inl i=>obtain⟨t,e⟩:=(show ∃t,u=Value.int i t from r);subst e;exact oH P w i t
 |inr x=>obtain⟨t,e⟩:=(show ∃t,u=Value.str x t from r);subst e;exact oI P w x t
theorem nh{P:Program}{w:World}:∀{ks:List Key}{us:List Value},Vals (ks.map kV) us->ItemsAre (mixKind P w) ks us
 |[],_,r=>by rw[Vs]at r;cases r;exact .nil
 |k::ks,_,r=>by
  rw[TY]at r;cases r with
  |cons h t=>exact .cons (kV_is h) (nh t)
abbrev KT(H:Hp):List (List Key×V)->List (List Key×Addr×Value)->Prop:=Paired fun p q=>p.1=q.1/\H q.2.1=some (.tup (p.1.map kV))/\RelV p.2 q.2.2
theorem KT.val{H:Hp}{GU:List (List Key×V)}{xs:List (List Key×Addr×Value)}(r:KT H GU xs)(k:List Key):RelO (ng GU k) ((atKey xs k).map (·.2)):=by
 induction r with
 |nil=>exact True.intro
 | @cons p q ps qs h t ih=>
  obtain⟨h1,_,h2⟩:=h;by_cases e:p.1=k
  ·have e':q.1=k:=h1.symm.trans e;have b:atKey (q::qs) k=some q.2:=by simp[atKey,V8,e']
   rw[lE e,b];exact h2
  ·have e':¬ q.1=k:=fun z=>e (h1.trans z)
   have b:atKey (q::qs) k=atKey qs k:=by simp[atKey,V8,e']
   rw[lF e,b];exact ih
theorem KT.repl{H:Hp}{GU:List (List Key×V)}{xs:List (List Key×Addr×Value)}(r:KT H GU xs)(k:List Key){y:V}{u:Value}(ry:RelV y u):
  KT H (GU.map fun kv=>if kv.1=k then(kv.1,y) else kv) (xs.map (putAt k u)):=by
 induction r with
 |nil=>exact .nil
 | @cons p q ps qs h t ih=>
  rw[TY,TY];refine .cons ?_ ih;obtain⟨h1,h2,h3⟩:=h;unfold putAt;by_cases e:p.1=k
  ·rw[Tw e,Tw (h1.symm.trans e)];exact⟨h1,h2,ry⟩
  ·rw[TC e,TC (fun z=>e (h1.trans z))];exact⟨h1,h2,h3⟩
theorem KT.put{H:Hp}{GU:List (List Key×V)}{xs:List (List Key×Addr×Value)}(r:KT H GU xs)(k:List Key){b:Addr}{y:V}{u:Value}(hb:H b=some (.tup (k.map kV)))(ry:RelV y u):
  KT H (kq GU k y) (storedH xs k b u):=by
 have e:(GU.any fun kv=>decide (kv.1=k))=(atKey xs k).isSome:=by
  rw[pW,(r.val k).isSome_eq,Xz]
 unfold kq storedH;rw[e];by_cases q:(atKey xs k).isSome=true
 ·rw[Tw q,Tw q];exact r.repl k ry
 ·rw[TC q,TC q];exact Paired.snoc r ⟨rfl,hb,ry⟩
theorem KT.keeps{H H':Hp}{GU:List (List Key×V)}{xs:List (List Key×Addr×Value)}(r:KT H GU xs)(ht:∀b ys,H b=some (.tup ys)->H' b=some (.tup ys)):KT H' GU xs:=
 Paired.mapP r fun _ _ z=>⟨z.1,ht _ _ z.2.1,z.2.2⟩
section
variable{P:Program}{w:World}{H:Hp}{h:Heap}{a:Addr}
theorem BN{u:HO}(ok:HOk P w H h)(e:Rd H a u):ObjOk P w H h a u:=e.ok ok
theorem tH{GU:List (Key×V)}(ok:HOk P w H h)(e:Rd H a (.dK GU)):GU.length<=sizeLine/\(a==sysModules)=false/\∃vs,KV GU vs/\h.DictOf (mixKind P w) a vs:=
 show ObjOk P w H h a (.dK GU) from BN ok e
theorem Eg{GU:List (Key×V)}(ok:HOk P w H h)(e:H a=some (.dK GU)):GU.length<=sizeLine/\(a==sysModules)=false/\∃vs,KV GU vs/\h.DictOf (mixKind P w) a vs:=tH ok (.inl e)
theorem ni{ks:List Key}(ok:HOk P w H h)(e:H a=some (.tup (ks.map kV))):(tupleKind (mixKind P w)).is h ks a:=by
 obtain⟨_,GX,r,o,h1,h2,⟨n,h3⟩,_⟩:=(show ObjOk P w H h a (.tup (ks.map kV)) from ok a _ e)
 exact⟨o,GX.toArray,n,h1,h2,h3,by simpa using nh r⟩
theorem tJ{GU:List (List Key×V)}(ok:HOk P w H h)(e:Rd H a (.dT GU)):GU.length<=sizeLine/\(a==sysModules)=false/\
  ∃xs,KT H GU xs/\h.DictOfH (tupleKind (mixKind P w)) a xs:=by
 obtain⟨z,y,xs,r,o,es,ep,h1,h2,h3,h4,h5⟩:=(show ObjOk P w H h a (.dT GU) from BN ok e)
 refine⟨z,y,xs,r,o,es,ep,h1,h2,h3,h4,fun x hx=>?_,h5⟩;have all:∀{l:List (List Key×V)}{m:List (List Key×Addr×Value)},KT H l m->∀x∈m,(tupleKind (mixKind P w)).is h x.1 x.2.1:=by
  intro l m q;induction q with
  |nil=>intro x hx;exact nomatch hx
  | @cons p q ps qs hq t ih=>
   intro x hx;rcases TF.mp hx with e|hx
   ·subst e;exact ni ok (by rw[<-hq.1];exact hq.2.1)
   ·exact ih x hx
 exact all r x hx
theorem Eh{GU:List (List Key×V)}(ok:HOk P w H h)(e:H a=some (.dT GU)):GU.length<=sizeLine/\(a==sysModules)=false/\
  ∃xs,KT H GU xs/\h.DictOfH (tupleKind (mixKind P w)) a xs:=tJ ok (.inl e)
end
def DGet(H:Hp)(a:Addr)(y:V)(r:Option V):Prop:=
 (∃GU k,Rd H a (.dK GU)/\y=kV k/\r=ng GU k)\/∃GU k b,Rd H a (.dT GU)/\y=.ref b/\H b=some (.tup (k.map kV))/\r=ng GU k
def DPut(H:Hp)(a:Addr)(y v:V)(H':Hp):Prop:=
 (∃GU k,H a=some (.dK GU)/\y=kV k/\GU.length<sizeLine/\H'=upd H a (.dK (kq GU k v)))\/
 ∃GU k b,H a=some (.dT GU)/\y=.ref b/\H b=some (.tup (k.map kV))/\GU.length<sizeLine/\H'=upd H a (.dT (kq GU k v))
theorem DGet.k{H:Hp}{a:Addr}{GU:List (Key×V)}{k:Key}(e:H a=some (.dK GU)):DGet H a (kV k) (ng GU k):=.inl ⟨GU,k,.inl e,rfl,rfl⟩
theorem DGet.t{H:Hp}{a b:Addr}{GU:List (List Key×V)}{k:List Key}(e:H a=some (.dT GU))(eb:H b=some (.tup (k.map kV))):DGet H a (.ref b) (ng GU k):=.inr ⟨GU,k,b,.inl e,rfl,eb,rfl⟩
theorem DPut.k{H:Hp}{a:Addr}{GU:List (Key×V)}{k:Key}{v:V}(e:H a=some (.dK GU))(hl:GU.length<sizeLine):DPut H a (kV k) v (upd H a (.dK (kq GU k v))):=.inl ⟨GU,k,e,rfl,hl,rfl⟩
theorem DPut.t{H:Hp}{a b:Addr}{GU:List (List Key×V)}{k:List Key}{v:V}(e:H a=some (.dT GU))(eb:H b=some (.tup (k.map kV)))(hl:GU.length<sizeLine):
  DPut H a (.ref b) v (upd H a (.dT (kq GU k v))):=.inr ⟨GU,k,b,e,rfl,eb,hl,rfl⟩
section
variable{X:Cx}{pr:List (Addr×Obj)}{σ:St}{H:Hp}{s:Shared}{a:Addr}{y v:V}{u r:Value}{o:Option V}{A:Around}{E:Value->Shared->Prop}
theorem Inv.big(I:Inv X pr σ H s):sysModules<s.heap.objs.size:=by
 have h:mainGlobals<s.heap.objs.size:=(I.mod.glob.keeps I.bk).lt;exact Nat.lt_trans (by decide) h
theorem tL{Q:Value->Shared->Prop}(hu:A.units+1<cLine)(I:Inv X pr σ H s)(g:DGet H a y (some v))(ry:RelV y u)(h:∀w' s',Inv X pr σ H s'->RelV v w'->Q w' s'):
  wpAny (model X.prog X.w) A (getItem (.ref a) u) Q E s:=by
 rcases g with⟨GU,k,e,ey,l⟩|⟨GU,k,b,e,ey,eb,l⟩
 ·subst ey;obtain⟨z,hd,vs,rel,dd⟩:=tH I.hok e;obtain⟨w',hw,Ly⟩:=RelO.some_of (v:=v) (o:=valueAt vs k) (by rw[l];exact rel.val k);exact wpAny_getItem_of (kV_is ry) dd.mapOf hw (h w' _ (I.tok _) Ly)
 ·subst ey;cases(show u=Value.ref b from ry);obtain⟨z,hd,xs,rel,dd⟩:=tJ I.hok e;obtain⟨w',hw,Ly⟩:=RelO.some_of (v:=v) (o:=(atKey xs k).map (·.2)) (by rw[l];exact rel.val k);obtain⟨p,hp,Ry⟩:=UY.mp hw;refine wpAny_getItem_heap (WA hu) (ni I.hok eb) dd hp ?_;rw[Ry];exact h w' _ (I.tok _) Ly
theorem Gq{Q:Value->Shared->Prop}(hu:A.units+1<cLine)(I:Inv X pr σ H s)(g:DGet H a y o)(ry:RelV y u)(h:∀s',Inv X pr σ H s'->Q (.bool o.isSome) s'):
  wpAny (model X.prog X.w) A (compareOp .In u (.ref a)) Q E s:=by
 rcases g with⟨GU,k,e,ey,l⟩|⟨GU,k,b,e,ey,eb,l⟩
 ·subst ey;obtain⟨z,hd,vs,rel,dd⟩:=tH I.hok e;refine wpAny_in_of (kV_is ry) hd dd.mapOf ?_;rw[<-(rel.val k).isSome_eq,<-l];exact h _ (I.tok _)
 ·subst ey;cases(show u=Value.ref b from ry);obtain⟨z,hd,xs,rel,dd⟩:=tJ I.hok e;refine wpAny_in_heap (WA hu) (ni I.hok eb) hd dd ?_;have q:=(rel.val k).isSome_eq;rw[Xz]at q;rw[<-q,<-l];exact h _ (I.tok _)
theorem zf{Q:Value->Shared->Prop}(hu:A.units+1<cLine)(I:Inv X pr σ H s)(g:DGet H a y o)(ry:RelV y u)(h:∀s',Inv X pr σ H s'->Q (.bool (!o.isSome)) s'):
  wpAny (model X.prog X.w) A (compareOp .NotIn u (.ref a)) Q E s:=by
 rcases g with⟨GU,k,e,ey,l⟩|⟨GU,k,b,e,ey,eb,l⟩
 ·subst ey;obtain⟨z,hd,vs,rel,dd⟩:=tH I.hok e;refine wpAny_notIn_of (kV_is ry) hd dd.mapOf ?_;rw[<-(rel.val k).isSome_eq,<-l];exact h _ (I.tok _)
 ·subst ey;cases(show u=Value.ref b from ry);obtain⟨z,hd,xs,rel,dd⟩:=tJ I.hok e;refine wpAny_notIn_heap (WA hu) (ni I.hok eb) hd dd ?_;have q:=(rel.val k).isSome_eq;rw[Xz]at q;rw[<-q,<-l];exact h _ (I.tok _)
theorem tM{h':Heap}{t':Nat}{ob:HO}(I:Inv X pr σ H s)(mu:Pz (H a))(hs:Heap.SameBut a s.heap h')(he:∃q,h'.get? a=some q)(new:ObjOk X.prog X.w (upd H a ob) h' a ob):
  Inv X pr σ (upd H a ob) {s with heap:=h',toks:=t'}:=
 I.write (x:=a) (e:=a) mu (.inl rfl) (fun b q hb z=>(hs.2 b hb).trans z) he new
theorem BO{P:Program}{w:World}{H':Hp}{h':Heap}{GU:List (Key×V)}{vs:List (Key×Value)}(z:GU.length<=sizeLine)(hd:(a==sysModules)=false)(rel:KV GU vs)(dd:h'.DictOf (mixKind P w) a vs):
  ObjOk P w H' h' a (.dK GU):=⟨z,hd,vs,rel,dd⟩
theorem tN{H':Hp}{Q:Unit->Shared->Prop}(hu:A.units+1<cLine)(I:Inv X pr σ H s)(g:DPut H a y v H')(ry:RelV y u)(rv:RelV v r)(h:∀s',Inv X pr σ H' s'->Q () s'):
  wpAny (model X.prog X.w) A (setItem (.ref a) u r) Q E s:=by
 rcases g with⟨GU,k,e,ey,l,eH⟩|⟨GU,k,b,e,ey,eb,l,eH⟩
 ·subst ey eH;obtain⟨z,hd,vs,rel,dd⟩:=Eg I.hok e;have hz:vs.length<=sizeLine:=by rw[<-rel.length];exact z
  have hl:(kq GU k v).length<=sizeLine:=by have:=jG GU k v;lia
  refine wpAny_setItem_pairs (hsz:=hz) (kV_is ry) dd fun h' Pk hs=>h _ ?_
  have he:∃q,h'.get? a=some q:=let⟨q,_,_,hq,_⟩:=Pk;⟨q,hq⟩
  exact tM I (by rw[e];exact True.intro) hs he (BO hl hd (rel.put k rv) Pk)
 ·subst ey eH;cases(show u=Value.ref b from ry);obtain⟨z,hd,xs,rel,dd⟩:=Eh I.hok e;have hz:xs.length<=sizeLine:=by rw[<-W3 rel];exact z
  have hl:(kq GU k v).length<=sizeLine:=by have:=jG GU k v;lia
  refine wpAny_setItem_heap (hsz:=hz) (WA hu) (ni I.hok eb) dd fun h' Pk hs=>h _ ?_
  obtain⟨q,es,ep,hq,h2,h3,h4,_,h5⟩:=Pk;refine tM I (by rw[e];exact True.intro) hs ⟨q,hq⟩ ⟨hl,hd,_,(rel.put k eb rv).keeps fun c ys ec=>?_,q,es,ep,hq,h2,h3,h4,h5⟩;rw[ak (DN ec e (fun z=>nomatch z))];exact ec
end
section
variable{X:Cx}{pr:List (Addr×Obj)}{σ:St}{H:Hp}{s:Shared}{a:Addr}{GU:List (Key×V)}{k:Key}{u:Value}{A:Around}{E:Value->Shared->Prop}
end
def NoSl(i:Expr):Prop:=∀ov iv,subscripted i false ov iv=operate [ov,iv] (getItem ov iv)
theorem zg{prog:Program}{w:World}{A:Around}{E:Value->Shared->Prop}{s:Shared}{env:Env}{value slice:Expr}{pos:Pos}{T id:String}{Q:Value->Shared->Prop}
  (hl:typeLookup (.type T) "__getitem__" = pure (some (.builtin id))) (hs:NoSl slice)
  (h:wpAny (model prog w) A (eval value env) (fun o s₁=>wpAny (model prog w) A (eval slice env) (fun i s₂=>s₂.TypeIs o T/\wpAny (model prog w) A (getItem o i) Q E s₂) E s₁) E s):
  wpAny (model prog w) A (eval (.Subscript value slice pos) env) Q E s:=by
 refine Subscript_ (Wd h (fun o s₁ h₁=>Wd h₁ (fun i s₂ h₂=>?_) fun _ _ x=>x) fun _ _ x=>x);obtain⟨hT,h₂⟩:=h₂;unfold subscriptTail;refine Ti ?_;rw[getitemInPython_of_ne hT.not_modules];refine Ti (wpAny_specialOf hT hl ?_);have fin:wpAny (model prog w) A (subscripted slice false o i) (fun r s₃=>wpAny (model prog w) A (letTemporaryGo value o r >>= fun _=>pure r) Q E s₃) E s₂:=by
  rw[hs o i];exact wpAny_operating (Wd h₂ (fun r s₃ h₃=>Ti (wpAny_letTemporaryGo (Tv h₃))) fun _ _ x=>x)
 first
  |exact Tv (Ti fin)
  |exact Ti (Tv (Ti fin))
  |exact Ti fin
theorem oO{X:Cx}{pr:List (Addr×Obj)}{σ:St}{H:Hp}{s:Shared}{a:Addr}{y:V}{o:Option V}(I:Inv X pr σ H s)(g:DGet H a y o):s.TypeIs (.ref a) "dict":=by
 rcases g with⟨GU,k,e,_,_⟩|⟨GU,k,b,e,_,_,_⟩
 ·obtain⟨_,_,vs,_,dd⟩:=tH I.hok e;exact dd.typeIs
 ·obtain⟨_,_,xs,_,dd⟩:=tJ I.hok e;exact dd.typeIs
def Ei(td ty:TE):TE:=fun σ H Q=>td σ H fun x H1=>ty σ H1 fun y H2=>∃a v,x=.ref a/\DGet H2 a y (some v)/\Q v H2
def Ej(td ty tv:TE):TS:=fun D σ H=>tv σ H fun v H1=>td σ H1 fun x H2=>ty σ H2 fun y H3=>∃a H4,x=.ref a/\DPut H3 a y v H4/\D.nx σ H4
section
variable{X:Cx}{o i e value:Expr}{pos pos' NW:Pos}{td ty tv:TE}
theorem zh(hu:X.A.units+1<cLine)(ho:PE X o td)(hi:PE X i ty)(hs:NoSl i):PE X (.Subscript o i pos) (Ei td ty):=by
 intro pr s σ H Q I h;refine zg PySem.F.slot_dict_getitem.lookup hs (Hl (ho pr s σ H _ I h) fun u s1 ⟨x,H1,I1,rx,q1⟩=>Hl (hi pr s1 σ H1 _ I1 q1) fun iv s2 Hm=>?_);obtain⟨y,H2,I2,ry,a,v,ex,g,q2⟩:=Hm;subst ex;obtain rfl:u=Value.ref a:=rx;exact⟨oO I2 g,tL hu I2 g ry fun w' s3 I3 Ly=>⟨v,H2,I3,Ly,q2⟩⟩
theorem zi(hu:X.A.units+1<cLine)(ho:PE X o td)(hi:PE X i ty)(hv:PE X value tv)(hs:swapsWith value (some (.Subscript o i pos')) pos.line X.env=pure false):
  PS X (.Assign [.Subscript o i pos'] value pos) (Ej td ty tv):=by
 intro pr s σ H D I h;refine wpAny_Assign_Subscript (Hl (hv pr s σ H _ I h) fun r s1 ⟨v,H1,I1,rv,q1⟩=>Hl (ho pr s1 σ H1 _ I1 q1) fun u s2 ⟨x,H2,I2,rx,q2⟩=>Hl (hi pr s2 σ H2 _ I2 q2) fun iv s3 ⟨y,H3,I3,ry,a,H4,ex,g,q3⟩=>?_) hs;subst ex;obtain rfl:u=Value.ref a:=rx;exact tN hu I3 g ry rv fun s4 I4=>⟨σ,H4,I4,q3⟩
end
theorem dk_empty{P:Program}{w:World}{H:Hp}(h:Heap)(hb:sysModules<h.objs.size):ObjOk P w H (h.push {cls:=.type "dict",data:=.dict #[]}) h.objs.size (.dK []):=
 ⟨Um _,Ug.mpr (Vn (TK hb)),[],.nil,Heap.DictOf.new h⟩
def BP:TE:=fun _ H Q=>∀p,H p=none->Q (.ref p) (upd H p (.dK []))
section
variable{X:Cx}{pos:Pos}
theorem wL:PE X (.Dict [] [] pos) BP:=fun pr s σ H Q I h=>
 wpAny_Dict_empty ⟨.ref s.heap.objs.size,_,I.laid (a:=s.heap.objs.size) (o:=.dK []) (t':=s.toks) (fun _ _ q=>Tj _ q) (Tn _) (dk_empty s.heap I.big),rfl,h _ (I.hok.fresh (Tn _))⟩
end
structure M2(X:Cx)(o:Expr)(m:Str)(apos:Pos)(e f:Expr)(Hy:Pos):Prop where
 base:attributeBase o m X.env (eval o X.env)=eval o X.env
 few:((backTo Hy (starEach [e,f] X.env)).all (fun x=>!x.1)&&(backToKw Hy (keywordEach [] X.env)).all (fun x=>x.1.isSome)
  && decide (([e,f]:List Expr).length+([]:List Keyword).length+(if([]:List Keyword).isEmpty then 0 else 1)<30))=true
 line:(apos.endLine==Hy.line)=true
 trees:backTo Hy (starEach [e,f] X.env)=[(false,eval e X.env),(false,eval f X.env)]
section
variable{X:Cx}{pr:List (Addr×Obj)}{σ:St}{H:Hp}{s:Shared}{a:Addr}{y d:V}{u r:Value}{o:Option V}{A:Around}{E:Value->Shared->Prop}
end
section
variable{X:Cx}{o e f:Expr}{apos Hy:Pos}{td ty tx:TE}
end
section
variable{X:Cx}{pr:List (Addr×Obj)}{σ:St}{H:Hp}{s:Shared}{a:Addr}{GU:List (Key×V)}{A:Around}{E:Value->Shared->Prop}
end
section
variable{X:Cx}{pr:List (Addr×Obj)}{σ:St}{H:Hp}{s:Shared}{a:Addr}{y:V}{u:Value}{A:Around}{E:Value->Shared->Prop}
end
section
variable{κ:Type}[DecidableEq κ]
end
end L2
namespace NX
open PySem PySem.Spec PyProof.Rows L2
def RawD(h:Heap)(d:Addr)(es:Array DictEntry)(ep:Nat):Prop:=∃o,h.get? d=some o/\o.ExactDict/\o.data=.dict es ep
theorem RawD.at{h h':Heap}{d:Addr}{es:Array DictEntry}{ep:Nat}(x:RawD h d es ep)(e:∀o,h.get? d=some o->h'.get? d=some o):RawD h' d es ep:=by
 obtain⟨o,g,r⟩:=x;exact⟨o,e o g,r⟩
section
variable{prog:Program}{w:World}{A:Around}{E:Value->Shared->Prop}{s:Shared}{d it:Addr}{es:Array DictEntry}{ep i:Nat}
theorem jq(x:RawD s.heap d es ep):s.TypeIs (.ref d) "dict":=by
 obtain⟨o,g,ex,_⟩:=x;exact⟨o,g,ex.1⟩
theorem wM{Q:Value->Shared->Prop}(nm:(d==sysModules)=false)(x:RawD s.heap d es ep)
  (q:Q (.ref s.heap.objs.size) {s with heap:=s.heap.push {cls:=.type "dict_keyiterator",data:=.fields #[.ref d,.int 0 0,.int es.size 0,.int ep 0]}}):wpAny (model prog w) A (pyIter (.ref d)) Q E s:=by
 have ty:=jq x;obtain⟨o,g,ex,dat⟩:=x;refine wpAny_pyIter_slot ty F.slot_dict_iter (UQ F.slot_dict_iter ty F.entry_dict_iter (Ti ?_) (F.args_dict_iter_1 _));refine Ti (wpAny_notOrdered_dict ty (Tv ?_));show wpAny _ _ (Builtin.Dict.showsAll d >>= fun _=>_) _ _ s;have ns:Builtin.Dict.showsAll d=pure ():=by
  unfold Builtin.Dict.showsAll;rw[nm];rfl
 rw[ns];refine Ti (Tv (Ti (WI g dat (Ti (Ya g dat (Ti (UJ (Tv ⟨_,rfl,"dict_keyiterator",_,⟨_,TJ _ rfl,rfl⟩,F.slot_dict_keyiterator_next.lookup,?_⟩))))))));exact q
theorem wN{Q:Option Value->Shared->Prop}{e:DictEntry}(hit:s.heap.IsKeyIter it d i es.size ep)(x:RawD s.heap d es ep)(hx:es[i]?=some e)
  (q:∀h',h'.IsKeyIter it d (i+1) es.size ep->Heap.SameBut it s.heap h'->Q (some e.key) {s with heap:=h'}):wpAny (model prog w) A (pyNext (.ref it)) Q E s:=by
 have ti:=hit.typeIs;obtain⟨o,g,oc,od⟩:=hit;obtain⟨ob,gd,_,dat⟩:=x;have Hr:i<es.size:=(Array.getElem?_eq_some_iff.mp hx).1;unfold pyNext;refine Ti (XG (Uu (name:=Str.ofString "__next__") ti Vo (UQ Vo ti WV
  (Ti (Tv (Ti (Ti ?_)))) (WQ _))))
 refine Ti (Vk ti (Tv (Ti (wpAny_fieldsOf g od ?_))));have Lv:Builtin.Dict_items.ownsTuple "dict_keyiterator" = false:=by decide
 simp only[Lv,VG,Xk];show wpAny _ _ (if(Value.ref d==Value.none)=true then _ else _) _ _ s;have nz:¬ ((Value.ref d==Value.none)=true):=TB;rw[TC nz];refine Ti (Tv (Ti (WI gd dat ?_)));rw[TC (by simp)];refine Ti (Tv (Ti (Ya gd dat ?_)));rw[TC (by simp)];refine Tv ?_;simp only[TC (show ¬ ((i:Int)<0) by lia),Uk,hx];refine Ti (Ti (Vk ti (Tv (Ti (wpAny_isOneOf_keyiter ti ?_)))));show wpAny _ _ (setField (.ref it) 1 (rawInt ((i:Int)+1)) >>= fun _=>_) _ _ s;refine Ti (Xr g od (by simp) ?_);have nx:(s.heap.update it (Obj.mapFields fun y=>y.setIfInBounds 1 (rawInt ((i:Int)+1)))).IsKeyIter it d (i+1) es.size ep:=
  ⟨_,WO _ g (Obj.isFreed_of_fields (Wz od _)),(Obj.cls_mapFields ..).trans oc,(Wz od _).trans (by simp[rawInt])⟩
 refine Ti (Wf (Ti (wpAny_isOneOf_keyiter (s:={s with heap:=s.heap.update it (Obj.mapFields fun y=>y.setIfInBounds 1 (rawInt ((i:Int)+1)))}) nx.typeIs ?_)));show wpAny _ _ (pure e.key) _ _ _;exact Tv (Tv ⟨_,rfl,Tv (q _ nx (Wr ..))⟩)
theorem zj{Q:Option Value->Shared->Prop}(hh:A.handled=none)(hit:s.heap.IsKeyIter it d i es.size ep)(x:RawD s.heap d es ep)(hx:es[i]?=none)
  (q:∀h',Heap.ExtBut it s.heap h'->Q none {s with heap:=h'}):wpAny (model prog w) A (pyNext (.ref it)) Q E s:=by
 have ti:=hit.typeIs;obtain⟨o,g,oc,od⟩:=hit;obtain⟨ob,gd,_,dat⟩:=x;unfold pyNext;refine Ti (XG (Uu (name:=Str.ofString "__next__") ti Vo (UQ Vo ti WV
  (Ti (Tv (Ti (Ti ?_)))) (WQ _))))
 refine Ti (Vk ti (Tv (Ti (wpAny_fieldsOf g od ?_))));have Lv:Builtin.Dict_items.ownsTuple "dict_keyiterator" = false:=by decide
 simp only[Lv,VG,Xk];show wpAny _ _ (if(Value.ref d==Value.none)=true then _ else _) _ _ s;have nz:¬ ((Value.ref d==Value.none)=true):=TB;rw[TC nz];refine Ti (Tv (Ti (WI gd dat ?_)));rw[TC (by simp)];refine Ti (Tv (Ti (Ya gd dat ?_)));rw[TC (by simp)];refine Tv ?_;simp only[TC (show ¬ ((i:Int)<0) by lia),Uk,hx];refine Ti (Ti (Vk ti (Tv ?_)));show wpAny _ _ (setField (.ref it) 0 .none >>= fun _=>_) _ _ s;refine Ti (Xr g od (by simp) ?_);show wpAny _ _ (newExc (.type "StopIteration") [] >>= fun _=>_) _ _ _;refine Ti ?_;simp only[newExc,newTuple];refine Ti (UJ (Ti (m:=firstArgMember _ _) (wpAny_of_eq (a:=Value.none) (by first|rfl|(simp only[firstArgMember];rfl)) (UJ ?_ (by size_fits)))) (by size_fits));simp only[raiseNew];refine Ti (wpAny_handled ?_);rw[show A.in1.handled=none from hh];refine Ti (Tv (wpAny_throw ?_));refine Ti (wpAny_isInstance (b:=true) (T:="StopIteration") ⟨_,TJ _ rfl,rfl⟩ isSubtype_stop ?_);exact Tv (q _ (((Wr ..).extBut.push _).push _))
theorem tP(hh:A.handled=none)(I:Addr)(ne:d≠I):Walks prog w A I [I,d] [I] es.size (fun i v=>∃e,es[i]?=some e/\v=e.key) (fun i h=>h.IsKeyIter I d i es.size ep/\RawD h d es ep) where
 sub:=fun b hb=>by
  rw[Ul]at hb;rw[hb];exact Tq
 frame:=fun _ _ _ st hk=>⟨st.1.at fun o e=>hk I Tq o e,st.2.at fun o e=>hk d (Tu _ Tq) o e⟩
 item:=fun i s Q E hi st hQ=>by
  refine wN st.1 st.2 (Xt hi) fun h' it' sb=>?_
  exact hQ _ h' s.toks ⟨_,Xt hi,rfl⟩ ⟨it',st.2.at fun o e=>sb.extBut d o ne e⟩ fun b o hb e=>sb.extBut b o (fun z=>hb (by rw[z];exact Tq)) e
 done:=fun s Q E st hQ=>zj hh st.1 st.2 (Array.getElem?_eq_none (Tn _)) fun h' ext=>hQ h' s.toks fun b o hb e=>ext b o (fun z=>hb (by rw[z];exact Tq)) e
 self:=fun _ _ _ _ st hQ=>wpAny_pyIter_keyiter st.1 hQ
theorem zk(nm:(d==sysModules)=false):PySem.W.KdlSrc prog w "dict" d d es.size (fun i v=>∃e,es[i]?=some e/\v=e.key) (fun h=>RawD h d es ep) where
 type:=fun _ x=>jq x
 there:=fun _ x=>by
  obtain⟨o,g,_⟩:=x;exact⟨Tz g,Tz g⟩
 keep:=fun _ _ x hk=>x.at fun o e=>hk d (.inl rfl) o e
 notList:=by decide
 notTuple:=by decide
 hint:=fun _ _ _ _ x q=>PySem.W.kdl_hint_dict (jq x) q
 iter:=fun _ s hh x=>⟨_,_,(fun _ _ q=>wM nm x q),tP hh _ (by obtain⟨o,g,_⟩:=x;exact TK (Tz g)),⟨⟨_,TJ _ rfl,rfl,rfl⟩,x.at fun o e=>Tj _ e⟩⟩
end
end NX
namespace NX
open PySem PySem.W PySem.Spec PyProof.Rows L2
section
variable{prog:Program}{w:World}{A:Around}{E:Value->Shared->Prop}{s:Shared}
theorem rB{O:KeyOrd}{key:Nat->O.α}{kd:SortKind}{l:Addr}{vs:List Value}{Q:Value->Shared->Prop}
  (hcol:∀Q':List Value->Shared->Prop,(∀h' tk,(∀b o,s.heap.get? b=some o->h'.get? b=some o)->Q' vs {s with heap:=h',toks:=tk})->wpAny (model prog w) A.in1 (collect (.ref l)) Q' E s) (LH:vs.length<64)
  (JH:2<=vs.length->∀(A':Around) (E':Value->Shared->Prop) (s':Shared),(∀b o,s.heap.get? b=some o->s'.heap.get? b=some o)->∀Q:SortKind->Shared->Prop,Q kd s'->wpAny (model prog w) A' (keyKind' vs.toArray) Q E' s')
  (LZ:∀i j,i<vs.length->j<vs.length->∀s':Shared,(∀b o,s.heap.get? b=some o->s'.heap.get? b=some o)->∀C:Bool->Shared->Prop,C (O.blt (key i) (key j)) s'->kas_ask prog w A.in1.in1 kd vs i j C s')
  (h:∀(p:Array Nat) (h5 h':Heap) (tk e:Nat),POk vs.length p->a8 key p vs.length->(∀b o,s.heap.get? b=some o->h5.get? b=some o)->(∀b o,h5.get? b=some o->h'.get? b=some o)->h'.get? h5.objs.size=some (seqObj "list" (List.toArray (p.toList.map fun i=>vs.getD i .none)) e)->Q (.ref h5.objs.size) {s with heap:=h',toks:=tk}):
  wpAny (model prog w) A (call (.builtin "sorted") [.ref l]) Q E s:=by
 refine Wl kind_sorted plain_sorted entry_sorted (args_sorted1 _) ?_;unfold Builtin.«sorted»;refine Ti (m:=checkCount "sorted" 1 1 _) (Tv (Ti (hcol _ fun h5 tk k5=>?_)));refine Ti (YQ ?_ (by rw[UE];lia));have k6:∀b o,s.heap.get? b=some o->(h5.push (seqObj "list" vs.toArray 0)).get? b=some o:=fun b o e=>Tj _ (k5 b o e)
 have hL:(h5.push (seqObj "list" vs.toArray 0)).get? h5.objs.size=some (seqObj "list" vs.toArray 0):=TJ _ rfl;have Su:∀b o,s.heap.get? b=some o->b<h5.objs.size:=fun b o e=>Tz (k5 b o e)
 show wpAny _ _ _ _ _ {s with heap:=h5.push (seqObj "list" vs.toArray 0),toks:=tk};refine Ti (Wf (UQ slot_list_sort ⟨_,hL,rfl⟩ entry_list_sort (hV (key:=key) (kd:=kd) hL LH (fun h2 h' kk Q' q=>JH h2 _ _ _ (fun b o e=>kk b o (TK (Su b o e)) (k6 b o e)) Q' q)
  (fun i j hi hj h' kk C q=>LZ i j hi hj _ (fun b o e=>kk b o (TK (Su b o e)) (k6 b o e)) C q) fun p h' hp hs ⟨e,he⟩ kk=>⟨_,rfl,?_⟩) (args_list_sort _)))
 exact Tv ⟨_,rfl,h p h5 h' tk e hp hs k5 (fun b o q=>kk b o (TK (Tz q)) (Tj _ q)) he⟩
end
section
variable{X:Cx}{pr:List (Addr×Obj)}{σ:L2.St}{H:Hp}{s:Shared}
theorem zm{H:Hp}{GU:List (List Key×V)}{xs:List (List Key×Addr×Value)}(r:KT H GU xs):xs.map (·.1)=GU.map (·.1):=by
 induction r with
 |nil=>rfl
 |cons hq _ ih=>rw[TY,TY,ih,hq.1]
theorem Ek{H:Hp}{GU:List (List Key×V)}{xs:List (List Key×Addr×Value)}(r:KT H GU xs):∀y∈xs,H y.2.1=some (.tup (y.1.map kV)):=by
 induction r with
 |nil=>exact fun y hy=>nomatch hy
 |cons hq _ ih=>
  intro y hy;rcases TF.mp hy with rfl|hy
  ·rw[<-hq.1];exact hq.2.1
  ·exact ih y hy
theorem zo(I:Inv X pr σ H s){a:Addr}{GU:List (List Key×V)}(h:Rd H a (.dT GU)):(a==sysModules)=false/\∃(al:List (Addr×List Key)) (es:Array DictEntry) (ep:Nat),
  RawD s.heap a es ep/\es.toList.map (·.key)=al.map (fun x=>Value.ref x.1)/\al.map (·.2)=GU.map (·.1)/\∀x∈al,H x.1=some (.tup (x.2.map kV)):=by
 obtain⟨_,nm,xs,r,o,es,ep,h1,h2,h3,h4,_⟩:=h.ok I.hok;refine⟨nm,xs.map fun x=>(x.2.1,x.1),es,ep,⟨o,h1,h2,h3⟩,?_,?_,?_⟩
 ·rw[h4,TV,TV];rfl
 ·rw[TV];exact zm r
 ·intro x hx;obtain⟨y,hy,rfl⟩:=U3.mp hx;exact Ek r y hy
theorem ku(hc:X.calm=true):dC X (.builtin "sorted") (fun vs H Q=>∃(p:Addr) (GU:List (List Key×V)) (top:Bool) (t:List Bool),vs=[.ref p]/\Rd H p (.dT GU)/\(∀kv∈GU,kinds kv.1=top::t)/\GU.length<64/\
  ∀(D:Addr) (ms:List (Addr×List Key)),H D=none->(∀a∈ms,H a.1=some (.tup (a.2.map kV)))->(ms.map (·.2)).Perm (GU.map (·.1))->ms.Pairwise (fun a b=>dI b.2 a.2=false)->Q (.ref D) (upd H D (.lst (ms.map fun a=>V.ref a.1)))):=by
 intro pr s σ H vs us Q I r h;obtain⟨p,GU,top,kt,rfl,hp,hk,LH,q⟩:=h;obtain⟨u,rfl,r1⟩:=jy r;cases r1;obtain⟨nm,al,es,ep,raw,L0,QU,Oc⟩:=zo I hp;have LV:al.length=GU.length:=by
  have:=UN List.length QU;simpa using this
 have Lk:∀a∈al,SqT X.K H a.1 (a.2.map kV)/\kinds a.2=top::kt:=fun a ha=>by
  refine⟨SqT.of (Oc a ha),?_⟩;have:a.2∈GU.map (·.1):=by rw[<-QU];exact U3.mpr ⟨a,ha,rfl⟩
  obtain⟨kv,K3,e⟩:=U3.mp this;rw[<-e];exact hk kv K3
 have rv:Vals (al.map fun a=>V.ref a.1) (al.map fun a=>Value.ref a.1):=by
  clear L0 QU Oc LV Lk;induction al with
  |nil=>exact .nil
  |cons a al ih=>exact .cons rfl ih
 have hl:(al.map fun a=>Value.ref a.1).length=al.length:=Tt ..;refine rB (O:=Dz) (key:=fun i=>(al.getD i (0,[])).2) (kd:=tuples' true) (vs:=al.map fun a=>Value.ref a.1) (fun Q' hq=>?_) (by lia) (fun h2 A' E' s' kk Q' q'=>?_) (fun i j hi hj s' kk C q'=>?_) fun pp h5 h' tk e Jn hs k5 k' he=>?_
 ·refine kdu_collect (zk nm) (I.ok.hd hc) raw (by have:=UN List.length L0;simp only[Tt,U9]at this;rw[UE];lia) fun h' tk acc kk LB=>?_
  have ea:acc.toList=al.map fun a=>Value.ref a.1:=by
   rw[<-L0];apply WH;intro j;rw[TN,Yc,Yc];cases hj:acc[j]? with
   |none=>
    have:es[j]?=none:=by
     rw[Array.getElem?_eq_none_iff]at hj ⊢;rw[<-LB.1];exact hj
    rw[this];rfl
   |some v=>
    obtain⟨en,h1,h2⟩:=LB.2 j v hj;rw[h1,h2];rfl
  have:=hq h' tk kk;rw[<-ea]at this;exact this
 ·obtain⟨fs,t1,t2,t3⟩:=pV (h':=s'.heap) I kk top rv fun a ha=>⟨(Lk a ha).1,kt,(Lk a ha).2⟩
  refine kat_kind (T:=.type (if top then "int" else "str")) t1 (by lia) (fun v hv=>t3 v hv _) (by simp) ?_;have:((Value.type (if top then "int" else "str")) != Value.type "tuple")=true:=by cases top <;> decide
  rw[this];exact q'
 ·unfold kas_ask;have Mt:i<al.length:=by lia
  have MJ:j<al.length:=by lia
  rw[lD rv Mt,lD rv MJ];have mi:al.getD i (0,[])∈al:=by rw[bH _ _ _ Mt];exact VF _
  have mj:al.getD j (0,[])∈al:=by rw[bH _ _ _ MJ];exact VF _
  obtain⟨u1,o1,n1,r1,g1,_,d1⟩:=m8 I (Lk _ mi).1;obtain⟨u2,o2,n2,r2,g2,_,d2⟩:=m8 I (Lk _ mj).1;have ek:kinds (al.getD i (0,[])).2=kinds (al.getD j (0,[])).2:=by rw[(Lk _ mi).2,(Lk _ mj).2]
  have el:u1.length=u2.length:=by
   have a1:=r1.length;have a2:=r2.length;have a3:=UN List.length ek;simp only[kinds,Tt]at a1 a2 a3;lia
  refine kat_lt (kk _ _ g1) d1 (kk _ _ g2) d2 ?_;have ef:decide (u1.toArray.size<u2.toArray.size)=false:=by simp[el]
  rw[ef];exact jF _ _ _ _ 0 r1 r2 ek q'
 ·rw[hl]at Jn hs;have Ob:POk (al.map fun a=>V.ref a.1).length pp:=by rw[Tt];exact Jn
  have eo:rA pp (al.map fun a=>V.ref a.1)=(pp.toList.map fun i=>al.getD i (0,[])).map fun a=>V.ref a.1:=by
   unfold rA;rw[TV];refine Uo fun i hi=>?_
   have hi:=UB.mp (Jn.perm.mem_iff.mp hi);show(al.map fun a=>V.ref a.1).getD i .non=V.ref (al.getD i (0,[])).1;rw[bH _ _ _ (by rw[Tt];exact hi),bH _ _ _ hi];simp
  have I5:Inv X pr σ H {s with heap:=h5,toks:=tk}:=I.kept k5;have hn:H h5.objs.size=none:=I5.hok.fresh (Tn _);refine⟨.ref h5.objs.size,_,hW (s:={s with heap:=h5,toks:=tk}) I5 k' (Tn _) he (jn rv Ob) ?_,rfl,?_⟩
  ·show(rA pp (al.map fun a=>V.ref a.1)).length<=sizeLine;rw[eo,Tt,Tt,Jn.perm.length_eq,TU,UE];lia
  ·rw[eo];have pm:=jm (0,[]) Jn;refine q _ _ hn (fun a ha=>Oc a (pm.mem_iff.mp ha)) ?_ ?_
   ·rw[<-QU];exact pm.map _
   ·exact gj (O:=Dz) (0,[]) (fun a:Addr×List Key=>a.2) Jn hs
end
end NX
namespace NX
open PySem PySem.Spec PyProof.Rows L2
section
open PySem.SeqAt
open PySem.AutoSeq1 (wpAny_loadPart')
open PySem.MeetsSeq PySem.MeetsSeq2 PySem.MeetsSeq3
theorem wO{A:Around}{s:Shared}{a c:Key}{u v:Value}(ra:RelV (kV a) u)(rc:RelV (kV c) v):EqAt A s u v (decide (a=c)):=by
 have h:=xP (A:=A) (s:=s) ra rc (jo a) (jo c);rw[tG]at h;exact h
theorem wQ{prog:Program}{w:World}{A:Around}{E:Value->Shared->Prop}{s:Shared}{Q:Value->Shared->Prop}{a c:Key}{u v:Value}(ra:RelV (kV a) u)(rc:RelV (kV c) v)(hk:a.isLeft=c.isLeft)(h:Q (.bool (pU.blt a c)) s):
  wpAny (model prog w) A (richCompare .Lt u v) Q E s:=by
 cases a with
 |inl i=>
  cases c with
  |inr _=>cases hk
  |inl j=>
   obtain⟨t,rfl⟩:=ra;obtain⟨t',rfl⟩:=rc;exact(PyProof.Rows.lt_int h:wpAny (model prog w) A (compareOp .Lt (.int i t) (.int j t')) Q E s)
 |inr x=>
  cases c with
  |inl _=>cases hk
  |inr y=>
   obtain⟨t,rfl⟩:=ra;obtain⟨t',rfl⟩:=rc;exact(PyProof.Rows.lt_str h:wpAny (model prog w) A (compareOp .Lt (.str x t) (.str y t')) Q E s)
theorem tR(a c:Key)(r t:List Key):dI (a::r) (c::t)=if a=c then dI r t else pU.blt a c:=rfl
theorem lG(l b:Addr)(items JM:Array Value)(n n2:Nat)(dd Mr:Option Addr)(sl Ms:Array (Option Value))(ks js:List Key)(hi:Vals (ks.map kV) items.toList)(hj:Vals (js.map kV) JM.toList)(hk:kinds ks=kinds js):
  Meets (Builtin.«tuple.__lt__» ⟨[.ref l,.ref b],[]⟩)
   (fun _ R s=>s.heap.get? l=some {cls:=.type "tuple",dict:=dd,data:=.seq items n,slots:=sl}/\s.heap.get? b=some {cls:=.type "tuple",dict:=Mr,data:=.seq JM n2,slots:=Ms}/\R (.ok (.ret (.bool (dI ks js)))) s):=
 .of_wp fun prog w A R s h=>by
  obtain⟨hp,g,d,tk,os⟩:=s;obtain⟨hl,hb,h⟩:=h;have f2:=AutoSeq1.sub_tuple_tuple;have z1:items.size=ks.length:=by have:=hi.length;simp at this;lia
  have z2:JM.size=js.length:=by have:=hj.length;simp at this;lia
  have z3:ks.length=js.length:=by have:=UN List.length hk;simpa[kinds] using this
  wp_walk using wpAny_loadPart' hl,wpAny_loadPart' hb,wpAny_forIn_list _ (fun bG b s'=>b.1=none/\s'=⟨hp,g,d,tk,os⟩/\∃(vs ws:List Value) (KU LI:List Key),bG=vs.zip ws/\
   Vals (KU.map kV) vs/\Vals (LI.map kV) ws/\kinds KU=kinds LI/\R (.ok (.ret (.bool (dI KU LI)))) ⟨hp,g,d,tk,os⟩) _
  case turn=>
   rintro⟨y,x⟩ bG b s' ⟨Rz,rfl,vs,ws,KU,LI,hz,QV,RA,KW,hR⟩;cases KU with
   |nil=>
    cases QV;rw[List.zip_nil_left]at hz;cases hz
   |cons a KU=>
    cases LI with
    |nil=>cases KW
    |cons c LI=>
     cases QV with
     | @cons _ va _ Kv ra hvi'=>
      cases RA with
      | @cons _ vc _ PY rc hwi'=>
       rw[WB]at hz;injection hz with hyx hrest;injection hyx with hy hx;subst hy hx;have RB:a.isLeft=c.isLeft:=(W5 KW).1;have JZ:kinds KU=kinds LI:=(W5 KW).2;rw[tR]at hR;have he:=wO (A:=A.in1) (s:=⟨hp,g,d,tk,os⟩) ra rc;refine Ti (he prog w _ _ ?_);by_cases hac:a=c
       ·rw[Tw hac]at hR;rw[Ux hac]
        wp_walk
        exact⟨rfl,rfl,_,_,_,_,hrest,hvi',hwi',JZ,hR⟩
       ·rw[TC hac]at hR;rw[Ua hac];have hri:=fun E Q=>wQ (prog:=prog) (w:=w) (A:=A.in1) (E:=E) (s:=⟨hp,g,d,tk,os⟩) (Q:=Q) ra rc RB
        wp_walk using hri
        exact⟨_,rfl,by simpa using hR⟩
  case fin=>
   rintro⟨b1,b2⟩ s' ⟨Rz,rfl,vs,ws,KU,LI,hz,QV,RA,KW,hR⟩;simp only at Rz;subst Rz;have hv:dI KU LI=decide (items.size<JM.size):=by
    cases KU with
    |nil=>
     cases LI with
     |nil=>exact(Ua (by lia)).symm
     |cons c LI=>cases KW
    |cons a KU=>
     cases LI with
     |nil=>cases KW
     |cons c LI=>
      cases QV;cases RA;rw[WB]at hz;cases hz
   rw[hv]at hR
   wp_walk
   exact⟨_,rfl,by simpa[Builtin.Tuple.tupleCompareSizes] using hR⟩
  case h=>
   exact⟨rfl,rfl,items.toList,JM.toList,ks,js,rfl,hi,hj,hk,h⟩
end
section
variable{X:Cx}
def Gr(K:W.Frag)(neg:Bool):R2:=fun x y H Q=>∃a b ks js,x=.ref a/\y=.ref b/\SqT K H a (ks.map kV)/\SqT K H b (js.map kV)/\kinds ks=kinds js/\Q (.bl (if neg then !dI ks js else dI ks js)) H
theorem BQ(hu:X.A.units<cLine):HI X (compareOp .Lt) (Gr X.K false):=by
 intro pr s σ H x y v u Q I rx ry h;obtain⟨a,b,ks,js,rfl,rfl,ha,hb,hk,q⟩:=h;cases rx;cases ry;obtain⟨GX,r1,p1,_⟩:=I.tuple ha;obtain⟨Lx,r2,p2,_⟩:=I.tuple hb;obtain⟨⟨cls,dd,data,sl⟩,ho,hc,n,hd⟩:=id p1;obtain⟨⟨NY,Mr,data2,Ms⟩,IA,Lh,n2,hd2⟩:=id p2;simp only at hc hd Lh hd2;subst hc hd Lh hd2;exact richCompare_meets_room (op:=.Lt) ⟨_,ho,rfl⟩ ⟨_,IA,rfl⟩ PySem.F.slot_tuple_lt PySem.F.entry_tuple_lt (PySem.F.args_tuple_lt_2 _ _) (lG a b _ _ n n2 dd Mr sl Ms ks js (by simpa using r1) (by simpa using r2) hk)
  ⟨ho,IA,show Value.bool (dI ks js)≠Value.notImplemented/\EP X pr σ Q (.bool (dI ks js)) s from⟨(fun x=>nomatch x),⟨.bl (dI ks js),H,I,rfl,q⟩⟩⟩ hu
end
section
variable{prog:Program}{w:World}{A:Around}{E:Value->Shared->Prop}{s:Shared}
end
theorem wp_blockEnv{M:Model}{A:Around}{E:Value->Shared->Prop}{s:Shared}{scope:Scope}{globals:Addr}{cl:List (Str×Addr)}{qual:Str}{outer:Env}{Q:Env->Shared->Prop}
  (hQ:Q (newEnv scope s.heap.objs.size globals (cellsFrom (s.heap.objs.size+1) scope.names cl) qual none .none (some outer) builtinsNs) {s with heap:=pushCells (s.heap.push {cls:=.type "dict",data:=.dict #[]}) scope.names}):
  wpAny M A (newFunctionEnv scope globals cl [] qual none .none (some outer)) Q E s:=by
 simp only[newFunctionEnv,YS,Wq];refine Ti (wpAny_alloc ?_);refine Ti (wpAny_layCells _ (fun name kind cells=>by cases Od:kind==NameKind.cell <;> simp[Od]) _ _ _ _ ?_);rw[show({s with heap:=s.heap.push {cls:=.type "dict",data:=.dict #[]}}:Shared).heap.objs.size=s.heap.objs.size+1 from UR ..];refine Ti ?_;rw[Ys];exact Tv (Tv hQ)
theorem jr{x:Str}{c:Addr}:∀(nY:List (Str×NameKind)) (h:Heap) (acc:List (Str×Addr)),(cellsFrom h.objs.size nY acc).lookup x=some c->acc.lookup x=some c\/(h.objs.size<=c/\(pushCells h nY).IsCell c none)
 |[],_,_,e=>.inl e
 |(name,kind)::r,h,acc,e=>by
  unfold cellsFrom at e;unfold pushCells;split at e
  ·rename_i hk;rw[Tw hk];have sz:h.objs.size+1=(h.push {cls:=.type "cell",data:=.cell none}).objs.size:=(UR ..).symm;rw[sz]at e;rcases jr r _ _ e with e|⟨e1,e2⟩
   ·rw[T4]at e;cases hx:x==name with
    |true=>
     rw[hx]at e;cases e;exact .inr ⟨Tn _,_,Yd r _ _ _ (TJ _ rfl),rfl⟩
    |false=>
     rw[hx]at e;exact .inl e
   ·rw[<-sz]at e1;exact .inr ⟨Wg e1,e2⟩
  ·rename_i hk;rw[TC hk];exact jr r h acc e
theorem tS:∀(nY:List (Str×NameKind)) (n:Nat) (acc:List (Str×Addr)),(∀x y c,acc.lookup x=some c->acc.lookup y=some c->x=y)->(∀x c,acc.lookup x=some c->c<n)->
  ∀x y c,(cellsFrom n nY acc).lookup x=some c->(cellsFrom n nY acc).lookup y=some c->x=y
 |[],_,_,h,_=>h
 |(name,kind)::r,n,acc,h,hl=>by
  unfold cellsFrom;split
  ·refine tS r (n+1) ((name,n)::acc) (fun x y c e1 e2=>?_) (fun x c e=>?_)
   ·rw[T4]at e1 e2;cases hx:x==name with
    |true=>
     rw[hx]at e1;cases e1;cases hy:y==name with
     |true=>exact(Uc.mp hx).trans (Uc.mp hy).symm
     |false=>
      rw[hy]at e2;exact absurd (hl y _ e2) (U0 _)
    |false=>
     rw[hx]at e1;cases hy:y==name with
     |true=>
      rw[hy]at e2;cases e2;exact absurd (hl x _ e1) (U0 _)
     |false=>
      rw[hy]at e2;exact h x y c e1 e2
   ·rw[T4]at e;cases hx:x==name with
    |true=>rw[hx]at e;cases e;exact T9 _
    |false=>rw[hx]at e;exact VS (hl x c e)
  ·exact tS r n acc h hl
theorem tU{x:Str}:∀(nY:List (Str×NameKind)) (n:Nat) (acc:List (Str×Addr)),((∃d,acc.lookup x=some d)\/(x,NameKind.cell)∈nY)->∃d,(cellsFrom n nY acc).lookup x=some d
 |[],_,_,h=>h.elim id fun z=>nomatch z
 |(name,kind)::r,n,acc,h=>by
  unfold cellsFrom;split
  ·rename_i hk;refine tU r _ _ ?_;rw[T4];cases hx:x==name with
   |true=>exact .inl ⟨_,rfl⟩
   |false=>
    rcases h with h|h
    ·exact .inl h
    ·rcases TF.mp h with h|h
     ·cases h;rw[UH]at hx;cases hx
     ·exact .inr h
  ·rename_i hk;refine tU r _ _ ?_;rcases h with h|h
   ·exact .inl h
   ·rcases TF.mp h with h|h
    ·cases h;exact absurd rfl hk
    ·exact .inr h
theorem tV{x:Str}{c:Addr}{lo:Nat}:∀(nY:List (Str×NameKind)) (n:Nat) (acc:List (Str×Addr)),((∀c,acc.lookup x=some c->lo<=c)\/(x,NameKind.cell)∈nY)->lo<=n->(cellsFrom n nY acc).lookup x=some c->lo<=c
 |[],_,_,h,_,e=>h.elim (fun h=>h c e) fun z=>nomatch z
 |(name,kind)::r,n,acc,h,hn,e=>by
  unfold cellsFrom at e;split at e
  ·refine tV r _ _ ?_ (Nat.le_succ_of_le hn) e;cases hx:x==name with
   |true=>exact .inl fun c e=>by rw[T4,hx]at e;cases e;exact hn
   |false=>
    rcases h with h|h
    ·exact .inl fun c e=>by rw[T4,hx]at e;exact h c e
    ·rcases TF.mp h with h|h
     ·cases h;rw[UH]at hx;cases hx
     ·exact .inr h
  ·rename_i hk;refine tV r _ _ ?_ hn e;rcases h with h|h
   ·exact .inl h
   ·rcases TF.mp h with h|h
    ·cases h;exact absurd rfl hk
    ·exact .inr h
theorem tW{x:Str}:∀(nY:List (Str×NameKind)) (n:Nat) (acc:List (Str×Addr)),(x,NameKind.cell)∉nY->(cellsFrom n nY acc).lookup x=acc.lookup x
 |[],_,_,_=>rfl
 |(name,kind)::r,n,acc,h=>by
  unfold cellsFrom;split
  ·rename_i hk;rw[tW r _ _ fun z=>h (Tu _ z),T4];cases hx:x==name with
   |true=>
    refine absurd ?_ h;rw[Uc.mp hx,<-Uc.mp hk];exact Tq
   |false=>rfl
  ·exact tW r _ _ fun z=>h (Tu _ z)
theorem lH{scope:Scope}{env:Env}{x:Str}(h:(relabel scope env).names.lookup x=some .cell\/(relabel scope env).names.lookup x=some .free):(x,NameKind.free)∈scope.names\/(x,NameKind.cell)∈scope.names:=by
 unfold relabel at h;dsimp only at h;generalize scope.names=l at h;induction l with
 |nil=>rcases h with h|h <;> cases h
 |cons y l ih=>
  obtain⟨n,k⟩:=y;rw[TY]at h;dsimp only at h;have up:((x,NameKind.free)∈l\/(x,NameKind.cell)∈l)->(x,NameKind.free)∈(n,k)::l\/(x,NameKind.cell)∈(n,k)::l:=fun z=>z.imp (Tu _) (Tu _)
  by_cases cnd:(k==NameKind.free&&env.scope.kind==.function&&env.kindOf n==some .cell)=true
  ·rw[Tw cnd,T4]at h;have kf:k=.free:=by
    have:(k==NameKind.free)=true:=by
     simp only[TL]at cnd;exact cnd.1.1
    simpa using this
   cases hx:x==n with
   |true=>
    have:x=n:=by simpa using hx
    rw[this,kf];exact .inl Tq
   |false=>
    rw[hx]at h;exact up (ih h)
  ·rw[TC cnd,T4]at h;cases hx:x==n with
   |true=>
    rw[hx]at h;have:x=n:=by simpa using hx
    rw[this];rcases h with h|h
    ·rw[<-T6 h];exact .inr Tq
    ·rw[<-T6 h];exact .inl Tq
   |false=>
    rw[hx]at h;exact up (ih h)
noncomputable def ba(X:Cx)(scope:Scope)(N:List Str)(C:Addr)(s:Shared)(H:Hp)(fp:List Addr)(pn:List (Addr×Obj)):Cx:=
 {X with N:=N,s₀:=s,H₀:=H,env:=compEnvC scope (cellsFrom (C+1) scope.names (clOf scope X.env)) C X.env,outer:=X.stack,ex:=fp,fn:=fun x=>scope.names.lookup x==some .cell,pn:=pn,xe:=fun _ _=>False}
section
variable{X:Cx}{pr:List (Addr×Obj)}{σ:L2.St}{H:Hp}{s:Shared}{scope:Scope}{N:List Str}{ix:List (Option Nat)}{fp:List Addr}
theorem _root_.L2.Inv.blockK(I:Inv X pr σ H s)(hf:c9 scope X.env=true)(hk:scope.kind=.function)(Hk:∀y∈scope.names,y.2=.cell->scope.names.lookup y.1=some .cell)(HZ:mY X scope N ix=true)(fo:∀b∈fp,mM X pr H b)(fin:∀b∈fp,∃o,s.heap.get? b=some o)
  {h0:Heap}{t1:Nat}{D C:Addr}(hD:D=s.heap.objs.size) (hC:C=s.heap.objs.size+1) (hsz:h0.objs.size=C+1) (MK:∀b o,s.heap.get? b=some o->h0.get? b=some o) {n:Nat}(acc0:h0.get? D=some {cls:=.type "list",data:=.seq #[] n})
  {m:Str->Option Value}(ns0:h0.Ns C m):Inv (ba X scope N C s H fp (X.pn++pr)) [] (fH ix σ) (upd H D (.lst [])) {s with heap:=pushCells h0 scope.names,toks:=t1}:=by
 have kp:=Yd scope.names h0;have old:∀b o,s.heap.get? b=some o->(pushCells h0 scope.names).get? b=some o:=fun b o e=>kp b o (MK b o e)
 have HN:s.heap.objs.size<=C:=by rw[hC];exact Vv _
 have freshD:s.heap.objs.size<=D:=by rw[hD];exact Tn _
 have nD:H D=none:=I.hok.fresh freshD;have DC:D≠C:=by rw[hD,hC];exact TK (T9 _)
 have KG:∀b,H b=none->b≠D->upd H D (.lst []) b=none:=fun b n z=>by rw[ak z];exact n
 have MH:∀b o,s.heap.get? b=some o->b≠D:=fun b o e=>TK (Ts (Tz e) freshD)
 have Ku:∀b o,s.heap.get? b=some o->b≠C:=fun b o e=>TK (Ts (Tz e) HN)
 have cs:∀{x c},(cellsFrom (C+1) scope.names (clOf scope X.env)).lookup x=some c->X.env.cells.lookup x=some c\/(C+1<=c/\(pushCells h0 scope.names).IsCell c none):=fun{x c} e=>by
  rw[<-hsz]at e;rcases jr scope.names h0 _ e with e|⟨e1,e2⟩
  ·exact .inl (e9 I.ok hf e)
  ·exact .inr ⟨hsz▸e1,e2⟩
 have Rp:(ba X scope N C s H fp (X.pn++pr)).Ok:=by
  refine⟨I.ok.mod,hk,I.ok.glob,I.ok.blt,HN,fun x y c e1 e2=>?_,fun x hx=>?_,fun x c z e=>?_,I.ok.hd,I.ok.frames,.inl rfl,fun b hb=>?_,I.bs,?_,fun b o e hb=>?_,fun b hb hs=>?_,I.stack,I.stkFree⟩
  ·refine tS scope.names (C+1) (clOf scope X.env) (fun x y c e1 e2=>I.ok.inj x y c (e9 I.ok hf e1) (e9 I.ok hf e2)) (fun x c e=>?_) x y c e1 e2;obtain⟨v,q⟩:=I.cell x c (e9 I.ok hf e);exact Ts q.lt (T2 HN (Vv _))
  ·refine tU scope.names (C+1) _ ?_;rcases lH hx with h|h
   ·obtain⟨c,e,_⟩:=lu I.ok hf h;exact .inl ⟨c,e⟩
   ·exact .inr h
  ·have z:(scope.names.lookup x==some NameKind.cell)=true:=z;have z:scope.names.lookup x=some .cell:=by simpa using z
   have:=tV (lo:=C+1) scope.names (C+1) _ (.inr (U2 z)) (Tn _) e;exact T2 HN (Wg this)
  ·obtain⟨f0,f1,f2,f3,f4,f5⟩:=fo b hb;obtain⟨o,ho⟩:=fin b hb;refine⟨?_,fun x c e=>?_⟩
   ·intro z;exact Ku b o ho z
   ·rcases cs e with e|⟨e1,_⟩
    ·exact f4 x c e
    ·intro z;subst z;exact absurd (Ts (Tz ho) (T2 HN (Wg e1))) (U0 _)
  ·exact T2 I.ok.bsz I.sz
  ·obtain⟨f0,f1,f2,f3,f4,f5⟩:=fo b hb;rcases f3 with q|q
   ·exact I.ok.noex b o e q
   ·exact absurd (Ts (Tz e) (T2 I.ok.bsz q)) (U0 _)
  ·obtain⟨f0,f1,f2,_⟩:=fo b hb;exact(TF.mp (I.stkSub b hs)).elim f1 f2
 refine⟨Rp,rfl,I.bare,Un.laid old freshD nD,⟨m,ns0.keeps kp,fun i x v e1 e2 e3=>?_⟩,fun x c e=>?_,?_,fun x c e=>?_,fun p hp=>?_,I.hok.laid old freshD ⟨Um _,[],n,.nil,kp _ _ acc0⟩,?_⟩
 ·have e2:(ix.map fun i=>i.bind fun i=>(σ[i]?).bind id)[i]?=some (some v):=e2;have e1:N[i]?=some x:=e1;unfold mY at HZ;rw[TL]at HZ;rw[TN]at e2;cases q:ix[i]? with
  |none=>rw[q]at e2;cases e2
  |some o=>
   rw[q]at e2;have e2:(o.bind fun i=>(σ[i]?).bind id)=some v:=T6 e2;cases o with
   |none=>cases e2
   |some j=>
    have e2:(σ[j]?).bind id=some v:=e2;have hσ:σ[j]?=some (some v):=by
     cases w':σ[j]? with
     |none=>rw[w']at e2;cases e2
     |some y=>rw[w']at e2;exact UN some e2
    have hz:(N.zip ix)[i]?=some (x,some j):=by
     rw[VL];exact⟨e1,q⟩
    have hy:=Uh.mp HZ.2 _ (UL hz);simp only[TL,Uc]at hy;have PR:(x,NameKind.free)∈scope.names:=U2 hy.2;obtain⟨c,c1,c2⟩:=lu I.ok hf PR;have nc:(x,NameKind.cell)∉scope.names:=fun z=>by
     have:=(Hk _ z rfl).symm.trans hy.2;cases this
    have c1:(cellsFrom (C+1) scope.names (clOf scope X.env)).lookup x=some c:=(tW _ _ _ nc).trans c1;have PU:X.env.kindOf x=some .cell\/X.env.kindOf x=some .free:=by
     have:=Uh.mp hf _ PR;simpa using this
    obtain⟨mo,N1,KD⟩:=I.loc;obtain⟨u,r,l⟩:=KD j x v hy.1 hσ (.inr PU);refine⟨u,r,.inr ⟨iY hy.2,c,c1,?_⟩⟩;rcases l with⟨k1,_⟩|⟨_,c',e',LS⟩
    ·rcases PU with k2|k2 <;> (rw[k1]at k2;cases k2)
    ·rw[c2]at e';cases e';obtain⟨o,ho,hd⟩:=LS;exact⟨o,old c o ho,hd⟩
 ·rcases cs e with e|⟨_,e2⟩
  ·obtain⟨v,q⟩:=I.cell x c e;exact⟨v,q.keeps old⟩
  ·exact⟨none,e2⟩
 ·exact KG C (I.hok.fresh HN) (Vn DC)
 ·rcases cs e with e|⟨e1,_⟩
  ·obtain⟨v,o,ho,hd⟩:=I.cell x c e;exact KG c (I.freeC x c e) (MH c o ho)
  ·refine KG c (I.hok.fresh (T2 HN (Wg e1))) fun z=>?_
   subst z;rw[hD,hC]at e1;exact absurd (T2 (Vv _) e1) (Nat.not_succ_le_self _)
 ·have hp:p∈X.pn++pr:=by
   have:p∈(X.pn++pr)++[]:=hp
   rwa [Ui]at this
  obtain⟨e,nn,ne,nf,d⟩:=I.pin p hp;refine⟨old _ _ e,KG _ nn (MH _ _ e),Ku _ _ e,fun z=>?_,d⟩;exact(TF.mp (I.stkSub p.1 z)).elim ne nf
 ·unfold mY at HZ;rw[TL]at HZ;have:N.length=ix.length:=by simpa using HZ.1
  show(ix.map _).length=N.length;rw[Tt,this]
theorem _root_.L2.Inv.unblockK{C:Addr}{σ1:L2.St}{H1:Hp}{s1:Shared}{h2:Heap}(I:Inv X pr σ H s)(fo:∀b∈fp,mM X pr H b)(hC:s.heap.objs.size<=C)(J:Inv (ba X scope N C s H fp (X.pn++pr)) [] σ1 H1 s1)(hs:Heap.SameBut C s1.heap h2):
  Inv X pr σ H1 {s1 with heap:=h2}:=by
 have Ku:∀b o,s.heap.get? b=some o->b≠C:=fun b o e=>TK (Ts (Tz e) hC)
 have bb:Un (K0 X.stack) fp H H1 s.heap s1.heap:=J.base;have jf:H1 C=none:=J.free;refine I.call' (s':={s1 with heap:=h2}) (ch:=fp) J.os ⟨fun b o e n hb hx=>?_,fun b o e n hb hx=>?_,bb.free,fun b o e hx=>?_,bb.tups,bb.frzs,bb.tbls⟩ (fun b ob e=>?_) J.bare fun b hb=>?_
 ·exact(hs.2 b (Ku b o e)).trans (bb.keep b o e n hb hx)
 ·obtain⟨sl,q⟩:=bb.slot b o e n hb hx;exact⟨sl,(hs.2 b (Ku b o e)).trans q⟩
 ·obtain⟨o',q⟩:=bb.there b o e hx;exact⟨o',(hs.2 b (Ku b o e)).trans q⟩
 ·refine(J.hok b ob e).stay (fun c w' hc q=>(hs.2 c ?_).trans q) (fun _ q=>q) fun _ _ q=>q
  rintro rfl;rcases hc with rfl|hc
  ·rw[jf]at e;cases e
  ·rw[jf]at hc;cases hc
 ·obtain⟨f0,f1,f2,f3,f4,f5⟩:=fo b hb;exact⟨f3,f1,f4,f5⟩
end
section
variable{X:Cx}{scope:Scope}{N:List Str}{ix:List (Option Nat)}{tg iter elt:Expr}{ifs:List Expr}{pos:Pos}{wi:TI}{g:TG}{tc:TT}{te:TE}
theorem jH{pr:List (Addr×Obj)}{σ:L2.St}{H2:Hp}{s2:Shared}{J:It}{fp:List Addr}{it:Addr}{tn:Nat->Heap->Prop}{Q:VK}{RR:Value->Addr->Result->Shared->Prop}{E:Value->Shared->Prop}
  (hc:X.calm=true) (I2:Inv X pr σ H2 s2) (T:Turn X.prog X.w X.K tg J fp it tn) (G9:tn 0 s2.heap) (f2:∀b∈fp,mM X pr H2 b)
  (hg:∀C s H fp pn,PG (ba X scope N C s H fp pn) tg g) (ht:∀C s H fp pn,MG (ba X scope N C s H fp pn) ifs tc) (he:∀C s H fp pn,PE (ba X scope N C s H fp pn) elt te)
  (hf:c9 scope X.env=true) (hk:scope.kind=.function) (Hk:∀y∈scope.names,y.2=.cell->scope.names.lookup y.1=some .cell) (HZ:mY X scope N ix=true)
  (q:∀D,H2 D=none->∃W:Nat->Nat->L2.St->Hp->Prop,(∃m,W 0 m (fH ix σ) (upd H2 D (.lst [])))/\
   ∀i m σ1 H3,W i m σ1 H3->(J.stop i H3/\Q (.ref D) H3)\/(J.go i H3/\∀x H4,J.yld i H3 x H4->g x σ1 H4 fun σ2 H5=>tc σ2 H5 fun b H6=>if b=true then te σ2 H6 fun v H7=>
    ∃ys,H7 D=some (.lst ys)/\ys.length<sizeLine/\∃m',m'<m/\W (i+1) m' σ2 (upd H7 D (.lst (ys++[v]))) else ∃m',m'<m/\W (i+1) m' σ2 H6))
  (Rq:∀(D C:Addr) (σ1:L2.St) (H1:Hp) (s1:Shared),s2.heap.objs.size<=C->Inv (ba X scope N C s2 H2 fp (X.pn++pr)) [] σ1 H1 s1->Q (.ref D) H1->RR (.ref D) C (.ok .next) s1):
  wpAny (model X.prog X.w) X.A (newList []) (fun acc s₃=>wpAny (model X.prog X.w) X.A (newFunctionEnv scope X.env.globals (clOf scope X.env) [] X.env.qual none .none (some X.env)) (fun LY s₄=>
   codeAny (model X.prog X.w) X.A (.compStart (.ListComp elt [⟨tg,iter,ifs,0⟩] scope pos) 0 (.ref it) acc {LY with scope:=relabel scope X.env}) (RR acc LY.locals) s₄) E s₃) E s2:=by
 refine UJ (wp_blockEnv ?_);dsimp only;generalize hH2:s2.heap.push {cls:=.type "list",dict:=none,data:=.seq ([]:List Value).toArray}=HH;have hC:HH.objs.size=s2.heap.objs.size+1:=by rw[<-hH2,UR]
 have Sq:s2.heap.objs.size≠HH.objs.size:=by rw[hC];exact TK (T9 _)
 have Lz:s2.heap.objs.size<=HH.objs.size:=by rw[hC];exact Vv _
 have Ku:∀b o,s2.heap.get? b=some o->b≠HH.objs.size:=fun b o e=>TK (Ts (Tz e) Lz)
 have MK:∀b o,s2.heap.get? b=some o->(HH.push {cls:=.type "dict",data:=.dict #[]}).get? b=some o:=fun b o e=>Tj _ (hH2▸Tj _ e)
 have old:∀b o,s2.heap.get? b=some o->(pushCells (HH.push {cls:=.type "dict",data:=.dict #[]}) scope.names).get? b=some o:=fun b o e=>Yd _ _ b o (MK b o e)
 have LB:(HH.push {cls:=.type "dict",data:=.dict #[]}).get? s2.heap.objs.size=some {cls:=.type "list",data:=.seq #[] 0}:=Tj _ (hH2▸TJ _ rfl);obtain⟨W,⟨m0,w0⟩,turn⟩:=q s2.heap.objs.size (I2.hok.fresh (Tn _));have fin:∀b∈fp,∃o,s2.heap.get? b=some o:=fun b hb=>let⟨o,e,_⟩:=T.obj 0 _ G9 b hb;⟨o,e⟩
 have JF:∀{H':Hp},(∀b∈fp,H' b=none)->∀b∈fp,mM (ba X scope N HH.objs.size s2 H2 fp (X.pn++pr)) [] H' b:=fun{H'} hn b hb=>by
  obtain⟨f0,f1,ff,f3,f4,f5⟩:=f2 b hb;refine⟨hn b hb,?_,fun z=>?_,.inl hb,fun x c e=>?_,fun p hp=>?_⟩
  ·intro z;have z:b=HH.objs.size:=z;obtain⟨o,ho⟩:=fin b hb;exact Ku b o ho z
  ·exact(TF.mp (I2.stkSub b z)).elim f1 ff
  ·have e:(cellsFrom (HH.objs.size+1) scope.names (clOf scope X.env)).lookup x=some c:=e;have sz:(HH.push {cls:=.type "dict",data:=.dict #[]}).objs.size=HH.objs.size+1:=UR ..;rw[<-sz]at e;rcases jr scope.names _ _ e with e|⟨e1,_⟩
   ·exact f4 x c (e9 I2.ok hf e)
   ·intro z;subst z;obtain⟨o,ho⟩:=fin c hb;rw[sz]at e1;exact absurd (Ts (Tz ho) (T2 Lz (Wg e1))) (U0 _)
  ·have hp:p∈X.pn++pr:=by
    have:p∈(X.pn++pr)++[]:=hp
    rwa [Ui]at this
   exact f5 p hp
 have loop:∀s₃:Shared,s₃={s2 with heap:=pushCells (HH.push {cls:=.type "dict",data:=.dict #[]}) scope.names}->
   codeAny (model X.prog X.w) X.A (.compLoop (.ListComp elt [⟨tg,iter,ifs,0⟩] scope pos) 0 (.ref it) (.ref s2.heap.objs.size) (compEnvC scope (cellsFrom (HH.objs.size+1) scope.names (clOf scope X.env)) HH.objs.size X.env)) (RR (.ref s2.heap.objs.size) HH.objs.size) s₃:=by
  rintro s₃ rfl;refine mX (fun n s'=>∃i σ' H',Inv (ba X scope N HH.objs.size s2 H2 fp (X.pn++pr)) [] σ' H' s'/\tn i s'.heap/\(∀b∈fp,H' b=none)/\W i n σ' H') ?_ m0
   ⟨0,_,_,I2.blockK hf hk Hk HZ f2 fin rfl hC (UR ..) MK LB (Heap.Ns.new ..),T.keep 0 _ _ G9 fun b _ o e=>old b o e,fun b hb=>?_,w0⟩
  ·rintro n s3 ⟨i,σ3,H3,I3,Hx,Ny,w3⟩;rcases turn i n σ3 H3 w3 with⟨stop,qn⟩|⟨go,step⟩
   ·refine Hl (T.done (ba X scope N HH.objs.size s2 H2 fp (X.pn++pr)) rfl rfl rfl hc i [] s3 σ3 H3 LX I3 (JF Ny) Hx stop) fun r s4 Hm=>?_
    obtain⟨hr,I4⟩:=Hm;subst hr;exact Rq _ _ σ3 H3 s4 Lz I4 qn
   ·refine Hl (T.item (ba X scope N HH.objs.size s2 H2 fp (X.pn++pr)) rfl rfl rfl hc i [] s3 σ3 H3 LX I3 (JF Ny) Hx go) fun r s4 Hm=>?_
    obtain⟨u,hr,h4⟩:=Hm;subst hr;refine Hl h4 fun _ s5 Hm=>?_
    obtain⟨x,H5,I5,r5,y5,Ja,PD⟩:=Hm;have PF:=I5.pinned (JF PD) (T.obj _ _ Ja);refine Hl (hg _ _ _ _ _ _ s5 σ3 H5 x u _ PF r5 (step x H5 y5)) fun _ s6 Hm=>?_
    obtain⟨σ6,H6,I6,q6⟩:=Hm;refine Hl (ht _ _ _ _ _ _ s6 σ6 H6 _ I6 q6) fun ok s7 Hm=>?_
    obtain⟨H7,I7,q7⟩:=Hm;have again:∀{H8:Hp}{s8:Shared},Inv (ba X scope N HH.objs.size s2 H2 fp (X.pn++pr)) ([]++kM fp s5.heap) σ6 H8 s8->(∃m',m'<n/\W (i+1) m' σ6 H8)->
      ∃m,m<n/\∃i σ' H',Inv (ba X scope N HH.objs.size s2 H2 fp (X.pn++pr)) [] σ' H' s8/\tn i s8.heap/\(∀b∈fp,H' b=none)/\W i m σ' H':=fun{H8 s8} I8 ⟨m',hm,w8⟩=>by
     refine⟨m',hm,i+1,σ6,H8,I8.unpinned,T.keep _ _ _ Ja fun b hb o e=>(I8.pin (b,o) (Tp _ (Tp _ (dg hb e)))).1,fun b hb=>?_,w8⟩;obtain⟨o,e,d⟩:=T.obj _ _ Ja b hb;exact(I8.pin (b,o) (Tp _ (Tp _ (dg hb e)))).2.1
    cases ok with
    |false=>exact again I7 q7
    |true=>
     show wpAny _ _ _ _ _ _;refine Hl (he _ _ _ _ _ _ s7 σ6 H7 _ I7 q7) fun x8 s8 Hm=>?_
     obtain⟨v8,H8,I8,r8,ys,Rr,Hr,q8⟩:=Hm;refine Hl (jB _ s8 σ6 H8 (.ref s2.heap.objs.size) [v8] (.ref s2.heap.objs.size) [x8] (fun _ H9=>∃m',m'<n/\W (i+1) m' σ6 H9) I8 rfl (.cons r8 .nil) ⟨_,ys,v8,rfl,rfl,Rr,Hr,q8⟩) fun _ s9 Hm=>?_
     obtain⟨_,H9,I9,_,q9⟩:=Hm;exact again I9 q9
  ·rw[ak (fun z=>by
    obtain⟨o,ho⟩:=fin b hb;exact absurd z (TK (Tz ho)))]
   exact(f2 b hb).1
 exact codeAny_compStart_list (loop _ rfl) (T.self _ 0 _ _ _ (T.keep 0 _ _ G9 fun b _ o e=>old b o e) (loop _ rfl))
theorem wR(ix:List (Option Nat))(N:List Str)(hc:X.calm=true)(hi:PI X tg iter wi)(hg:∀C s H fp pn,PG (ba X scope N C s H fp pn) tg g)(ht:∀C s H fp pn,MG (ba X scope N C s H fp pn) ifs tc)(he:∀C s H fp pn,PE (ba X scope N C s H fp pn) elt te)
  (hf:c9 scope X.env=true:=by rfl) (hk:scope.kind=.function:=by rfl) (Hk:∀y∈scope.names,y.2=.cell->scope.names.lookup y.1=some .cell:=by decide +kernel) (Hu:∀y∈scope.names,y.2=.local->scope.names.lookup y.1=some .local:=by decide +kernel) (HZ:mY X scope N ix=true:=by rfl)
  (hs:∀x,foldedSetIterable iter X.env x=pure x:=by intro _;rfl):PE X (.ListComp elt [⟨tg,iter,ifs,0⟩] scope pos) (rj wi ix g tc te):=by
 intro pr s σ H Q I h;rw[eval_ListComp];have JK:closureFor scope X.env=pure (clOf scope X.env):=by
  unfold closureFor clOf;have:=dh X.env scope.names [] (hU I.ok hf);simpa using this
 refine VR (use:=none) rfl hs JK hk Hu (Hl (hi pr s σ H _ I h) fun v s1 h1=>Hl h1 fun Pc s2 h2=>?_);obtain⟨it,fp,tn,J,H2,e,I2,T,G9,f2,q⟩:=h2;subst e;refine jH (RR:=fun acc C=>compPost (model X.prog X.w) X.A X.xe none (EP X pr σ Q) acc C) (Q:=Q) (iter:=iter) hc I2 T G9 f2 hg ht he hf hk Hk HZ q fun D C σ1 H1 s1 hC J1 q1=>?_
 obtain⟨m,ns,_⟩:=J1.loc;exact⟨m,ns,fun h' N7=>⟨.ref D,H1,I2.unblockK f2 hC J1 N7,rfl,q1⟩⟩
end
noncomputable def CXC(P:Program)(w:World)(base:Heap)(C:Addr):CXT:=fun outer H s E e s'=>
 ∃(a t:Addr) (B:Heap) (H':Hp),e=.ref a/\s'.os=s.os/\AllBare s'.gens/\Un (K0 outer) [] H H' s.heap s'.heap/\HOk P w H' s'.heap/\Heap.FlyingW B outer a (.ref C) (.ref t) s'.heap/\
  (∀b u,s'.heap.get? b=some u->(H' b≠none\/∃o,s.heap.get? b=some o)->b∉K0 outer->B.get? b=some u)/\E (.ref C) none H'
section
variable{X:Cx}{st:Stmt}{bG:List Stmt}{t:TS}{u u':L2.St->Hp->Prop}{e:Expr}{es:List Expr}{x:Str}{C:Addr}{Ww:Hp->Prop}{np Hy pos:Pos}
end
def XP(X:Cx)(pr:List (Addr×Obj))(σ:L2.St)(C:Addr)(Ww:Hp->Prop)(e:Value)(s':Shared):Prop:=∃(s1:Shared) (H1:Hp),Inv X pr σ H1 s1/\CXC X.prog X.w X.base C X.stack H1 s1 (fun _ _ H'=>Ww H') e s'
abbrev TX:=L2.St->Hp->(Hp->Prop)->Prop
section
variable{X:Cx}{st:Stmt}{bG:List Stmt}{tx:TX}{e a b:Expr}{es:List Expr}{x:Str}{C:Addr}{k:Nat}{sp:Sp}{p pos:Pos}
end
open PySem.Builtin.ObjectAttr PySem.Builtin.Getset_descriptor
section
variable{prog:Program}{w:World}{A:Around}{E:Value->Shared->Prop}{s:Shared}{K:W.Frag}{x D:Addr}
end
section
variable{X:Cx}{pr:List (Addr×Obj)}{σ:L2.St}{H:Hp}{s:Shared}{a:Addr}{o:Obj}
end
end NX
namespace NX
open PySem PySem.W PySem.Spec PyProof.Rows L2
section
variable{prog:Program}{w:World}{A:Around}{E:Value->Shared->Prop}{s:Shared}
end
section
variable{X:Cx}
end
end NX
namespace NX
open PySem PySem.Spec PyProof.Rows L2
abbrev eB(h:Heap)(k:Bool)(l:Addr):Heap:=(zA h k l).push {cls:=.type "enumerate",data:=.fields #[.none,.bool false,.ref h.objs.size,rawInt 0,.none,.none]}
set_option maxHeartbeats 8000000 in
theorem BR(k:Bool)(l:Addr)(xs:Array Value):
  Meets (Builtin.«enumerate.__new__» ⟨[.type "enumerate",.ref l],[]⟩) (fun _ R s=>IsSq k s.heap l xs/\R (.ok (.ret (.ref (zA s.heap k l).objs.size))) {s with heap:=eB s.heap k l}):=
 .of_wp fun prog w A R s h=>by
  obtain⟨hp,g,d,tk,os⟩:=s;obtain⟨g1,q⟩:=h;have hsub:=sub_enumerate;cases k with
  |true=>
   obtain⟨o,ho,_⟩:=id (show Heap.IsList hp l xs from g1);have e1:Heap.IsList (Shared.heap ⟨hp,g,d,tk,os⟩) l xs:=g1;have hl:(Shared.heap ⟨hp,g,d,tk,os⟩).get? l=some o:=ho
   wp_walk using U4 hl
   refine wpAny_stack_any fun sk=>Tv ?_
   split
   ·rename_i c _ _ _ _ _;cases(c==Value.type "enumerate") <;> (wp_walk using U4 hl,Va e1;exact⟨_,rfl,q⟩)
   ·wp_walk using U4 hl,Va e1
    exact⟨_,rfl,q⟩
  |false=>
   obtain⟨o,ho,_⟩:=id (show Heap.IsTuple hp l xs from g1);have e1:Heap.IsTuple (Shared.heap ⟨hp,g,d,tk,os⟩) l xs:=g1;have hl:(Shared.heap ⟨hp,g,d,tk,os⟩).get? l=some o:=ho
   wp_walk using U4 hl
   refine wpAny_stack_any fun sk=>Tv ?_
   split
   ·rename_i c _ _ _ _ _;cases(c==Value.type "enumerate") <;> (wp_walk using U4 hl,U5 e1;exact⟨_,rfl,q⟩)
   ·wp_walk using U4 hl,U5 e1
    exact⟨_,rfl,q⟩
def ES(k:Bool)(e it l:Addr)(i:Nat)(h:Heap):Prop:=(∃old,IsEnum h e it i old)/\IsIt k h it l i
theorem zp{prog:Program}{w:World}{A:Around}{E:Value->Shared->Prop}{s:Shared}{k:Bool}{l:Addr}{xs:Array Value}{Q:Value->Shared->Prop}(g1:IsSq k s.heap l xs)
  (q:∀h',ES k (s.heap.objs.size+1) (s.heap.objs.size+0) l 0 h'->(∀c o,s.heap.get? c=some o->h'.get? c=some o)->Q (.ref (s.heap.objs.size+1)) {s with heap:=h'}):
  wpAny (model prog w) A (call (.type "enumerate") [.ref l]) Q E s:=by
 refine callType_new F.called_enumerate (by decide) (F.typeCall_enumerate_1 _) (F.newCall_enumerate_1 _) (fun obj=>F.args_object_init_2 obj _) F.entry_enumerate_new (BR k l xs) ⟨g1,?_⟩;have nA:(zA s.heap k l).objs.size=s.heap.objs.size+1:=UR ..;have gz:(eB s.heap k l).get? (zA s.heap k l).objs.size=some _:=TJ _ rfl;have j1:IsIt k (eB s.heap k l) s.heap.objs.size l 0:=(lz k s.heap l).at fun o e=>Tj _ e
 show _/\_;rw[nA]at gz ⊢;exact⟨⟨_,gz,rfl⟩,q _ ⟨⟨_,gz⟩,j1⟩ fun c o x=>Tj _ (Tj _ x)⟩
theorem pX{prog:Program}{w:World}{A:Around}(k:Bool)(hh:A.handled=none)(it l:Addr)(ne:l≠it)(xs:Array Value):
  Draws prog w A it [it,l] xs.size (fun i v=>xs[i]?=some v) (fun i h=>IsIt k h it l i/\IsSq k h l xs) where
 live:=fun i h st=>by obtain⟨o,e,_⟩:=st.1.obj;exact⟨o,e⟩
 frame:=fun i h h' st kk=>⟨st.1.at fun o e=>kk it (by simp) o e,st.2.at fun o e=>kk l (by simp) o e⟩
 item:=fun i s Q E hi st q=>ly st.1 st.2 (x:=xs[i]) (by simp[hi]) fun h' j sb=>q _ h' s.toks (by simp[hi]) ⟨j,st.2.at fun o e=>sb.extBut _ _ ne e⟩ sb
 done:=fun s Q E st q=>tq hh st.1 st.2 (by simp) q
noncomputable def RC(K:W.Frag)(k:Bool)(a:Addr):It:=
 ⟨fun i H=>∃xs x,(if k then SqL K H a xs else SqT K H a xs)/\xs[i]?=some x,
  fun i H v H'=>∃T,H T=none/\v=.ref T/\∀xs x,(if k then SqL K H a xs else SqT K H a xs)->xs[i]?=some x->H'=upd H T (.tup [.int (i:Int),x]),
  fun i H=>∃xs,(if k then SqL K H a xs else SqT K H a xs)/\i=xs.length⟩
theorem tX{P:Program}{w:World}{K:W.Frag}{es:List Expr}{kt:Nat}{pt:Pos}(k:Bool)(a e it:Addr)(ne:e≠it):
  Turn P w K (.Tuple es kt pt) (RC K k a) [e,it] e (ES k e it a) where
 mem:=by simp
 obj:=fun i h st c hc=>by
  obtain⟨⟨old,he⟩,h1⟩:=st;simp only[TF,U1,Xl]at hc;rcases hc with rfl|rfl
  ·exact⟨_,he,fun v q=>by cases q⟩
  ·exact h1.obj
 keep:=fun i h h' st k=>by
  obtain⟨⟨old,he⟩,h1⟩:=st;exact⟨⟨old,k e (by simp) _ he⟩,h1.at fun o x=>k it (by simp) o x⟩
 item:=by
  intro X hP hw hK hc i pr s σ H E I hf st hg;subst hP hw hK;obtain⟨xs,x,s1,hx⟩:=hg;obtain⟨us,r1,q1⟩:=lA I s1;obtain⟨u,hu,ru⟩:=r1.get hx;have fe:=hf e (by simp);have fi:=hf it (by simp);have na:a≠it:=eF I s1 fi;have nb:a≠e:=eF I s1 fe;obtain⟨⟨old,he⟩,h1⟩:=st;have lt:i<us.toArray.size:=by
   rw[Tr];exact(TH.mp hu).1
  have dr:Draws X.prog X.w X.A.in1 it [it,a] us.toArray.size (fun i v=>us.toArray[i]?=some v) (fun i h=>IsIt k h it a i/\IsSq k h a us.toArray):=pX k (show X.A.in1.handled=none from I.ok.hd hc) it a na us.toArray;refine wpAny_pyNext_enum_itemD dr he ⟨h1,q1⟩ lt ne (by simp[ne,nb.symm]) fun v h' tk hv z1 j1 tp sz kk=>⟨_,rfl,?_⟩
  have hv:v=u:=by
   have QX:us[i]?=some v:=by simpa using hv
   rw[hu]at QX;cases QX;rfl
  subst hv;refine wpAny_letOwnedTupleGo_enum z1 fun h2 z2 sb=>?_
  have nT:H s.heap.objs.size=none:=I.hok.fresh (Tn _);have tT:s.heap.objs.size≠e:=WM (Tz he);have tI:s.heap.objs.size≠it:=by
   obtain⟨o,x,_⟩:=h1.obj;exact WM (Tz x)
  have all:∀c o,c≠e->c≠it->s.heap.get? c=some o->h2.get? c=some o:=fun c o c1 c2 x=>(sb.2 c c1).trans (kk c o c1 c2 x)
  have K2:∀c ob,H c=some ob->c≠e/\c≠it:=fun c ob x=>⟨(fun q=>by rw[q,fe.1]at x;cases x),fun q=>by rw[q,fi.1]at x;cases x⟩
  refine⟨.ref s.heap.objs.size,upd H s.heap.objs.size (.tup [.int (i:Int),x]),?_,rfl,⟨_,nT,rfl,fun IW x' a1 a2=>?_⟩,⟨⟨v,z2⟩,j1.1.at fun o y=>(sb.2 it ne.symm).trans y⟩,fun c hc=>?_⟩
  ·have N9:h2.get? s.heap.objs.size=some {cls:=.type "tuple",data:=.seq #[.int i tk,v]}:=(sb.2 _ tT).trans tp;have S0:Inv X pr σ (upd H s.heap.objs.size (.tup [.int (i:Int),x])) {s with heap:=h2,gens:=s.gens,drawn:=s.drawn,toks:=tk+1}:=by
    refine I.step (ch:=[e,it]) (fun c hc=>?_) (fun c o _ _ nc y _=>all c o (fun q=>nc (by simp[q])) (fun q=>nc (by simp[q])) y)
     (fun c o _ _ nc y _=>⟨o.slots,all c o (fun q=>nc (by simp[q])) (fun q=>nc (by simp[q])) y⟩) (fun c o _ y n=>by rw[ak (TK (Tz y))];exact n)
     (fun c o nc y=>⟨o,all c o (fun q=>nc (by simp[q])) (fun q=>nc (by simp[q])) y⟩) (fun c l y=>by rw[ak (aG y nT)];exact y) (fun c o u' y=>by rw[ak (aG y nT)];exact y)
     (fun c ps y=>⟨#[],by rw[ak (aG y nT),y];simp⟩) (fun m hm=>?_) (fun c ob y=>?_) I.bare
    ·simp only[TF,U1,Xl]at hc;rcases hc with rfl|rfl
     ·exact⟨fe.2.2.2.1,fe.2.1,fe.2.2.2.2.1,fe.2.2.2.2.2⟩
     ·exact⟨fi.2.2.2.1,fi.2.1,fi.2.2.2.2.1,fi.2.2.2.2.2⟩
    ·obtain⟨o,es,ep,ho,r⟩:=hm;exact⟨o,es,ep,all _ o (Vn fe.2.1) (Vn fi.2.1) ho,r⟩
    ·by_cases ec:c=s.heap.objs.size
     ·subst ec;rw[aD]at y;cases y;exact⟨by simp only[TQ,UI];rw[UE];decide,[.int i tk,v],.cons ⟨tk,rfl⟩ (.cons ru .nil),⟨_,N9,rfl,⟨0,rfl⟩,rfl⟩⟩
     ·rw[ak ec]at y;refine(I.hok c ob y).stay (fun d w' hd q=>?_) (fun d q=>by rw[ak (aG q nT)];exact q) fun d l q=>by rw[ak (aG q nT)];exact q
      have MC:∃oo,H d=some oo:=by
       rcases hd with rfl|hd
       ·exact⟨_,y⟩
       ·exact⟨_,hd⟩
      obtain⟨oo,Oa⟩:=MC;obtain⟨m1,m2⟩:=K2 d oo Oa;exact all d w' m1 m2 q
   exact S0
  ·have e1:=tu I a1 s1;subst e1;rw[hx]at a2;cases a2;rfl
  ·have cs:c≠s.heap.objs.size:=by
    simp only[TF,U1,Xl]at hc;rcases hc with rfl|rfl
    ·exact tT.symm
    ·exact tI.symm
   rw[ak cs];exact(hf c hc).1
 done:=by
  intro X hP hw hK hc i pr s σ H E I hf st hg;subst hP hw hK;obtain⟨xs,s1,hi⟩:=hg;obtain⟨us,r1,q1⟩:=lA I s1;have l1:=r1.length;have fe:=hf e (by simp);have fi:=hf it (by simp);have na:a≠it:=eF I s1 fi;obtain⟨⟨old,he⟩,h1⟩:=st;have hn:i=us.toArray.size:=by rw[Tr,hi,l1]
  subst hn;have dr:Draws X.prog X.w X.A.in1 it [it,a] us.toArray.size (fun i v=>us.toArray[i]?=some v) (fun i h=>IsIt k h it a i/\IsSq k h a us.toArray):=pX k (show X.A.in1.handled=none from I.ok.hd hc) it a na us.toArray;refine wpAny_pyNext_enum_endD dr he ⟨h1,q1⟩ fun h' kk=>⟨rfl,?_⟩
  have K2:∀c ob,H c=some ob->c≠it:=fun c ob x q=>by rw[q,fi.1]at x;cases x
  have S0:Inv X pr σ H {s with heap:=h',gens:=s.gens,drawn:=s.drawn,toks:=s.toks}:=by
   refine I.step (ch:=[it]) (fun c hc=>?_) (fun c o _ _ nc y _=>kk c o (fun q=>nc (by simp[q])) y)
    (fun c o _ _ nc y _=>⟨o.slots,kk c o (fun q=>nc (by simp[q])) y⟩) (fun c o _ y n=>n)
    (fun c o nc y=>⟨o,kk c o (fun q=>nc (by simp[q])) y⟩) (fun c l y=>y) (fun c o u' y=>y)
    (fun c ps y=>⟨#[],by rw[y];simp⟩) (fun m hm=>?_) (fun c ob y=>?_) I.bare
   ·rw[Ul.mp hc];exact⟨fi.2.2.2.1,fi.2.1,fi.2.2.2.2.1,fi.2.2.2.2.2⟩
   ·obtain⟨o,es,ep,ho,r⟩:=hm;exact⟨o,es,ep,kk _ o (Vn fi.2.1) ho,r⟩
   ·refine(I.hok c ob y).stay (fun d w' hd q=>?_) (fun d q=>q) fun d l q=>q
    have MC:∃oo,H d=some oo:=by
     rcases hd with rfl|hd
     ·exact⟨_,y⟩
     ·exact⟨_,hd⟩
    obtain⟨oo,Oa⟩:=MC;exact kk d w' (K2 d oo Oa) q
  exact S0
 self:=fun _ _ _ _ _ st h=>by
  obtain⟨⟨old,he⟩,_⟩:=st;exact wpAny_pyIter_enum he h
section
variable{X:Cx}{es:List Expr}{kt:Nat}{pt:Pos}
def El(K:W.Frag)(k:Bool)(ta:TA):TI:=fun σ H R=>ta σ H fun vs H1=>∃a xs,vs=[.ref a]/\(if k then SqL K H1 a xs else SqT K H1 a xs)/\R (RC K k a) H1
theorem zq(k:Bool){e1:Expr}{ta:TA}{p pos:Pos}(hg:Gl X "enumerate")(hm:X.mg "enumerate" = none)(ha:PA X [e1] ta)(he:starEach [e1] X.env=[(false,eval e1 X.env)]:=by rfl):
  PI X (.Tuple es kt pt) (.Call (.Name "enumerate" p) [e1] [] pos) (El X.K k ta):=by
 intro pr s σ H R I h;refine V4 (kK I hg hm (by decide +kernel:bootBuiltins "enumerate" = some (.type "enumerate")) ?_ (by decide) (by decide));refine Vu (Hl (ha pos pr s σ H _ I h) fun us s1 ⟨vs,H1,I1,r1,a,xs,e,Rv,q⟩=>?_) he rfl;subst e;cases r1 with
 |cons r rr=>
  cases rr;cases r;obtain⟨us,v1,q1⟩:=lA I1 Rv;refine zp q1 fun h' st kk=>?_
  obtain⟨⟨old,ho⟩,hi⟩:=id st;refine wpAny_pyIter_enum ho ?_;have fr:∀j,mM X pr H1 (s1.heap.objs.size+j):=fun j=>I1.fpOk (WT _ _) (I1.hok.fresh (WT _ _))
  refine⟨_,_,_,_,H1,rfl,I1.kept (t':=s1.toks) kk,tX k a (s1.heap.objs.size+1) (s1.heap.objs.size+0) (fun z=>by have:=Yx z;cases this),st,fun c hc=>?_,q⟩;simp only[TF,U1,Xl]at hc;rcases hc with rfl|rfl
  ·exact fr 1
  ·exact fr 0
end
section
variable{X:Cx}{scope:Scope}{N:List Str}{ix:List (Option Nat)}{tg iter elt:Expr}{ifs:List Expr}{pos:Pos}{wi:TI}{g:TG}{tc:TT}{te:TE}
theorem wU{i:Nat}{y:Str}{py JL:Pos}(ix:List (Option Nat))(N:List Str)(hN:X.N.Nodup)(N8:X.N[i]?=some y)(hy:Loc X.env.scope y)(hc:X.calm=true)(hi:PI X tg iter wi)(hg:∀C s H fp pn,PG (ba X scope N C s H fp pn) tg g)(ht:∀C s H fp pn,MG (ba X scope N C s H fp pn) ifs tc)
  (he:∀C s H fp pn,PE (ba X scope N C s H fp pn) elt te) (MI:swapsWith (.ListComp elt [⟨tg,iter,ifs,0⟩] scope pos) (some (.Name y py)) JL.line X.env=pure true:=by rfl)
  (hf:c9 scope X.env=true:=by rfl) (hk:scope.kind=.function:=by rfl) (Hk:∀y∈scope.names,y.2=.cell->scope.names.lookup y.1=some .cell:=by decide +kernel) (Hu:∀y∈scope.names,y.2=.local->scope.names.lookup y.1=some .local:=by decide +kernel) (HZ:mY X scope N ix=true:=by rfl)
  (hs:∀x,foldedSetIterable iter X.env x=pure x:=by intro _;rfl) (Lg:X.fn y=true\/X.env.scope.names.lookup y=some .local:=by first|exact .inl rfl|exact .inr rfl):
  PS X (.Assign [.Name y py] (.ListComp elt [⟨tg,iter,ifs,0⟩] scope pos) JL) (fun D σ H=>rj wi ix g tc te σ H fun v H'=>D.nx (σ.set i (some v)) H'):=by
 intro pr s σ H Dd I h;rw[exec_Assign_Name_used _ _ _ _ MI];have JK:closureFor scope X.env=pure (clOf scope X.env):=by
  unfold closureFor clOf;have:=dh X.env scope.names [] (hU I.ok hf);simpa using this
 refine Ti (YM (Ti ?_));show wpAny _ X.A (do let _ <-comprehension (.ListComp elt [⟨tg,iter,ifs,0⟩] scope pos) scope X.env _ (newList []) false (eval iter X.env) (some (assign (.Name y py) X.env))) _ _ s;refine Ti (Wd (VR (use:=some (assign (.Name y py) X.env)) (Q:=fun _ s'=>SP X pr Dd .next s') rfl hs JK hk Hu
  (Hl (hi pr s σ H _ I h) fun v s1 h1=>Hl h1 fun Pc s2 h2=>?_)) (fun _ s' hq=>Tv (Tv hq)) fun _ _ e=>e)
 obtain⟨it,fp,tn,J,H2,e,I2,T,G9,f2,q⟩:=h2;subst e;refine jH (RR:=fun acc C=>compPost (model X.prog X.w) X.A X.xe (some (assign (.Name y py) X.env)) (fun _ s'=>SP X pr Dd .next s') acc C) (Q:=fun v H'=>Dd.nx (σ.set i (some v)) H') (iter:=iter) hc I2 T G9 f2 hg ht he hf hk Hk HZ q fun D C σ1 H1 s1 hC J1 q1=>?_
 obtain⟨m,ns,_⟩:=id J1.loc;have ns:s1.heap.Ns C m:=ns;have I3:Inv X pr σ H1 s1:=I2.unblockK f2 hC J1 (.refl ..);show wpAny _ X.A (assign (.Name y py) X.env (.ref D)) _ _ s1;refine Xx (jx I3 hN N8 hy (v:=.ref D) rfl (fun s4 I4 ⟨a,sb,ha⟩=>?_) Lg);have aC:C≠a:=by
  intro z;rcases ha with ha|ha
  ·exact TK (Ts I2.lt hC) (ha▸z.symm)
  ·obtain⟨v,o,ho,_⟩:=I2.cell y a ha;exact TK (Ts (Tz ho) hC) z.symm
 refine⟨m,ns.sameBut sb aC,fun h' N7=>?_⟩;have jf:H1 C=none:=J1.free;have kk:∀b o,b≠C->s4.heap.get? b=some o->h'.get? b=some o:=fun b o hb e=>(N7.2 b hb).trans e
 refine⟨σ.set i (some (.ref D)),H1,?_,q1⟩;have z:=I4.turned (t':=s4.toks) kk jf (fun z=>TK (Ts I2.lt hC) z.symm) (.inr (T2 I2.sz hC)) (fun x c e z=>by
  obtain⟨v,o,ho,_⟩:=I2.cell x c e;exact TK (Ts (Tz ho) hC) z) (fun p hp z=>TK (Ts (Tz (I2.pin p hp).1) hC) z)
 exact z
end
end NX
namespace PV
open PySem L2 NX
inductive D where
 |non|bl (b:Bool)|int (i:Int)|str (l:List Nat)|tup (ds:List D)|lst (ds:List D)|dct (tk:Bool) (ks vs:List D)
inductive O where
 |f|l (c:O)|t (cs:List O)|d|pin (p:Addr) (c:O)
abbrev R:=O×D
abbrev Env:=List (Option R)
inductive Res(α:Type) where
 |ok (a:α)|exc (c:List Nat)|bad
def kD:Key->D
 | .inl i=>.int i
 | .inr x=>.str x.cps.toList
def isM:HO->Bool
 | .lst _=>true
 | .dK _=>true
 | .dT _=>true
 |_=>false
def isT:HO->Bool
 | .tup _=>true
 | .frz _ (.tup _)=>true
 |_=>false
def fitK:Key->Prop
 | .inl _=>True
 | .inr x=>x.cps.toList.length<=sizeLine
def DictO(o:HO)(tk:Bool)(ks:List D)(xs:List V):Prop:=match tk with
 |true=>∃GU:List (List Key×V),o=.dT GU/\ks=GU.map (fun kv=>D.tup (kv.1.map kD))/\xs=GU.map (·.2)/\∀kv∈GU,∀k∈kv.1,fitK k
 |false=>∃GU:List (Key×V),o=.dK GU/\ks=GU.map (fun kv=>kD kv.1)/\xs=GU.map (·.2)/\∀kv∈GU,fitK kv.1
mutual
noncomputable def Rep(K:W.Frag)(G:Hp):D->V->Prop
 | .non,v=>v=.non
 | .bl b,v=>v=.bl b
 | .int i,v=>v=.int i
 | .str l,v=>v=.str (S l)/\l.length<=sizeLine
 | .tup ds,v=>∃p xs,v=.ref p/\G p=some (.tup xs)/\Reps K G ds xs
 | .lst ds,v=>∃p xs,v=.ref p/\SqL K G p xs/\Reps K G ds xs
 | .dct tk ks vs,v=>∃p xs o,v=.ref p/\Rd G p o/\DictO o tk ks xs/\Reps K G vs xs
noncomputable def Reps(K:W.Frag)(G:Hp):List D->List V->Prop
 |[],xs=>xs=[]
 |d::ds,xs=>∃y ys,xs=y::ys/\Rep K G d y/\Reps K G ds ys
end
def AllO(P:D->V->List Addr->Prop):List D->List V->List Addr->Prop
 |[],xs,fp=>xs=[]/\fp=[]
 |d::ds,xs,fp=>∃y ys a b,xs=y::ys/\fp=a++b/\P d y a/\AllO P ds ys b
mutual
noncomputable def RepO(K:W.Frag)(G H:Hp):O->D->V->List Addr->Prop
 | .f,d,v,fp=>Rep K G d v/\fp=[]
 | .l c,.lst ds,v,fp=>∃p xs GZ,v=.ref p/\H p=some (.lst xs)/\fp=p::GZ/\AllO (RepO K G H c) ds xs GZ
 | .t cs,.tup ds,v,fp=>∃p xs,v=.ref p/\G p=some (.tup xs)/\RepT K G H cs ds xs fp
 | .d,.dct tk ks vs,v,fp=>∃p xs o,v=.ref p/\H p=some o/\DictO o tk ks xs/\fp=[p]/\Reps K G vs xs
 | .pin p c,d,v,fp=>v=.ref p/\RepO K G H c d v fp
 |_,_,_,_=>False
noncomputable def RepT(K:W.Frag)(G H:Hp):List O->List D->List V->List Addr->Prop
 |[],[],xs,fp=>xs=[]/\fp=[]
 |c::cs,d::ds,xs,fp=>∃y ys a b,xs=y::ys/\fp=a++b/\RepO K G H c d y a/\RepT K G H cs ds ys b
 |_,_,_,_=>False
end
section
variable{K:W.Frag}{G G' H H':Hp}
theorem Rd.mono{p:Addr}{u:HO}(h:Same G G')(r:Rd G p u):Rd G' p u:=by
 rcases r with r|⟨o,r⟩
 ·exact .inl (h _ _ r)
 ·exact .inr ⟨o,h _ _ r⟩
theorem gm{p:Addr}{xs:List V}(h:Same G G')(r:SqL K G p xs):SqL K G' p xs:=r.elim (fun r=>.inl (Rd.mono h r)) .inr
theorem bB{p:Addr}{xs:List V}(h:Same G G')(r:SqT K G p xs):SqT K G' p xs:=r.elim (fun r=>.inl (Rd.mono h r)) .inr
mutual
theorem Rep.mono(h:Same G G'):∀{d:D}{v:V},Rep K G d v->Rep K G' d v
 | .non,_,r=>by simpa only[Rep] using r
 | .bl _,_,r=>by simpa only[Rep] using r
 | .int _,_,r=>by simpa only[Rep] using r
 | .str _,_,r=>by simpa only[Rep] using r
 | .tup ds,_,r=>by
  simp only[Rep]at r ⊢;obtain⟨p,xs,e,q,rs⟩:=r;exact⟨p,xs,e,h _ _ q,Reps.mono h rs⟩
 | .lst ds,_,r=>by
  simp only[Rep]at r ⊢;obtain⟨p,xs,e,q,rs⟩:=r;exact⟨p,xs,e,gm h q,Reps.mono h rs⟩
 | .dct tk ks vs,_,r=>by
  simp only[Rep]at r ⊢;obtain⟨p,xs,o,e,q,dd,rs⟩:=r;exact⟨p,xs,o,e,Rd.mono h q,dd,Reps.mono h rs⟩
theorem Reps.mono(h:Same G G'):∀{ds:List D}{xs:List V},Reps K G ds xs->Reps K G' ds xs
 |[],_,r=>by simpa only[Reps] using r
 |d::ds,_,r=>by
  simp only[Reps]at r ⊢;obtain⟨y,ys,e,r1,r2⟩:=r;exact⟨y,ys,e,Rep.mono h r1,Reps.mono h r2⟩
end
theorem AllO.imp{P P':D->V->List Addr->Prop}:∀{ds:List D}{xs:List V}{fp:List Addr},(∀d v a,(∀p∈a,p∈fp)->P d v a->P' d v a)->AllO P ds xs fp->AllO P' ds xs fp
 |[],_,_,_,r=>r
 |d::ds,xs,fp,h,r=>by
  obtain⟨y,ys,a,b,e1,e2,p,q⟩:=r;subst e2;exact⟨y,ys,a,b,e1,rfl,h _ _ _ (fun p hp=>Tx _ hp) p,AllO.imp (fun d v c hc=>h d v c fun p hp=>Tp _ (hc p hp)) q⟩
mutual
theorem RepO.step(h:Same G G'):∀{o:O}{d:D}{v:V}{fp:List Addr},(∀p∈fp,H' p=H p)->RepO K G H o d v fp->RepO K G' H' o d v fp
 | .f,d,v,fp,hk,r=>by
  simp only[RepO]at r ⊢;exact⟨Rep.mono h r.1,r.2⟩
 | .pin p c,d,v,fp,hk,r=>by
  simp only[RepO]at r ⊢;exact⟨r.1,RepO.step h hk r.2⟩
 | .l c,.lst ds,v,fp,hk,r=>by
  simp only[RepO]at r ⊢;obtain⟨p,xs,GZ,e,q,e2,a⟩:=r;subst e2;exact⟨p,xs,GZ,e,(hk p Tq).trans q,rfl,AllO.imp (fun d v c hc=>RepO.step h fun z hz=>hk z (Tu _ (hc z hz))) a⟩
 | .t cs,.tup ds,v,fp,hk,r=>by
  simp only[RepO]at r ⊢;obtain⟨p,xs,e,q,a⟩:=r;exact⟨p,xs,e,h _ _ q,RepT.step h hk a⟩
 | .d,.dct tk ks vs,v,fp,hk,r=>by
  simp only[RepO]at r ⊢;obtain⟨p,xs,o,e,q,dd,e2,rs⟩:=r;subst e2;exact⟨p,xs,o,e,(hk p Tq).trans q,dd,rfl,Reps.mono h rs⟩
 | .l _,.non,_,_,_,r | .l _,.bl _,_,_,_,r | .l _,.int _,_,_,_,r | .l _,.str _,_,_,_,r | .l _,.tup _,_,_,_,r | .l _,.dct _ _ _,_,_,_,r=>by simp only[RepO]at r
 | .t _,.non,_,_,_,r | .t _,.bl _,_,_,_,r | .t _,.int _,_,_,_,r | .t _,.str _,_,_,_,r | .t _,.lst _,_,_,_,r | .t _,.dct _ _ _,_,_,_,r=>by simp only[RepO]at r
 | .d,.non,_,_,_,r | .d,.bl _,_,_,_,r | .d,.int _,_,_,_,r | .d,.str _,_,_,_,r | .d,.tup _,_,_,_,r | .d,.lst _,_,_,_,r=>by simp only[RepO]at r
theorem RepT.step(h:Same G G'):∀{cs:List O}{ds:List D}{xs:List V}{fp:List Addr},(∀p∈fp,H' p=H p)->RepT K G H cs ds xs fp->RepT K G' H' cs ds xs fp
 |[],[],_,_,_,r=>by simpa only[RepT] using r
 |c::cs,d::ds,xs,fp,hk,r=>by
  simp only[RepT]at r ⊢;obtain⟨y,ys,a,b,e1,e2,r1,r2⟩:=r;subst e2;exact⟨y,ys,a,b,e1,rfl,RepO.step h (fun p hp=>hk p (Tx _ hp)) r1,RepT.step h (fun p hp=>hk p (Tp _ hp)) r2⟩
 |[],_::_,_,_,_,r=>by simp only[RepT]at r
 |_::_,[],_,_,_,r=>by simp only[RepT]at r
end
theorem AllO.frozen{P:D->V->List Addr->Prop}:∀{ds:List D}{xs:List V}{fp:List Addr},(∀d v a,(∀p∈a,p∈fp)->P d v a->Rep K G' d v)->AllO P ds xs fp->Reps K G' ds xs
 |[],_,_,_,r=>by simp only[Reps];exact r.1
 |d::ds,xs,fp,h,r=>by
  obtain⟨y,ys,a,b,e1,e2,p,q⟩:=r;subst e2;simp only[Reps];exact⟨y,ys,e1,h _ _ _ (fun p hp=>Tx _ hp) p,AllO.frozen (fun d v c hc=>h d v c fun p hp=>Tp _ (hc p hp)) q⟩
mutual
theorem RepO.frozen(h:Same G G'):∀{o:O}{d:D}{v:V}{fp:List Addr},(∀p∈fp,∀u,H p=some u->G' p=some u)->RepO K G H o d v fp->Rep K G' d v
 | .f,d,v,fp,hk,r=>by
  simp only[RepO]at r;exact Rep.mono h r.1
 | .pin p c,d,v,fp,hk,r=>by
  simp only[RepO]at r;exact RepO.frozen h hk r.2
 | .l c,.lst ds,v,fp,hk,r=>by
  simp only[RepO]at r;simp only[Rep];obtain⟨p,xs,GZ,e,q,e2,a⟩:=r;subst e2;exact⟨p,xs,e,SqL.of (hk p Tq _ q),AllO.frozen (fun d v c hc=>RepO.frozen h fun z hz=>hk z (Tu _ (hc z hz))) a⟩
 | .t cs,.tup ds,v,fp,hk,r=>by
  simp only[RepO]at r;simp only[Rep];obtain⟨p,xs,e,q,a⟩:=r;exact⟨p,xs,e,h _ _ q,RepT.frozen h hk a⟩
 | .d,.dct tk ks vs,v,fp,hk,r=>by
  simp only[RepO]at r;simp only[Rep];obtain⟨p,xs,o,e,q,dd,e2,rs⟩:=r;subst e2;exact⟨p,xs,o,e,.inl (hk p Tq _ q),dd,Reps.mono h rs⟩
 | .l _,.non,_,_,_,r | .l _,.bl _,_,_,_,r | .l _,.int _,_,_,_,r | .l _,.str _,_,_,_,r | .l _,.tup _,_,_,_,r | .l _,.dct _ _ _,_,_,_,r=>by simp only[RepO]at r
 | .t _,.non,_,_,_,r | .t _,.bl _,_,_,_,r | .t _,.int _,_,_,_,r | .t _,.str _,_,_,_,r | .t _,.lst _,_,_,_,r | .t _,.dct _ _ _,_,_,_,r=>by simp only[RepO]at r
 | .d,.non,_,_,_,r | .d,.bl _,_,_,_,r | .d,.int _,_,_,_,r | .d,.str _,_,_,_,r | .d,.tup _,_,_,_,r | .d,.lst _,_,_,_,r=>by simp only[RepO]at r
theorem RepT.frozen(h:Same G G'):∀{cs:List O}{ds:List D}{xs:List V}{fp:List Addr},(∀p∈fp,∀u,H p=some u->G' p=some u)->RepT K G H cs ds xs fp->Reps K G' ds xs
 |[],[],_,_,_,r=>by simp only[RepT]at r;simp only[Reps];exact r.1
 |c::cs,d::ds,xs,fp,hk,r=>by
  simp only[RepT]at r;simp only[Reps];obtain⟨y,ys,a,b,e1,e2,r1,r2⟩:=r;subst e2;exact⟨y,ys,e1,RepO.frozen h (fun p hp=>hk p (Tx _ hp)) r1,RepT.frozen h (fun p hp=>hk p (Tp _ hp)) r2⟩
 |[],_::_,_,_,_,r=>by simp only[RepT]at r
 |_::_,[],_,_,_,r=>by simp only[RepT]at r
end
theorem AllO.live{P:D->V->List Addr->Prop}:∀{ds:List D}{xs:List V}{fp:List Addr},(∀d v a,P d v a->∀p∈a,∃u,H p=some u)->AllO P ds xs fp->∀p∈fp,∃u,H p=some u
 |[],_,_,_,r=>by rw[r.2];intro p hp;cases hp
 |d::ds,xs,fp,h,r=>by
  obtain⟨y,ys,a,b,e1,e2,p,q⟩:=r;subst e2;intro z hz;rcases T3.mp hz with hz|hz
  ·exact h _ _ _ p z hz
  ·exact AllO.live h q z hz
mutual
theorem RepO.live:∀{o:O}{d:D}{v:V}{fp:List Addr},RepO K G H o d v fp->∀p∈fp,∃u,H p=some u
 | .f,d,v,fp,r=>by
  simp only[RepO]at r;rw[r.2];intro p hp;cases hp
 | .pin p c,d,v,fp,r=>by
  simp only[RepO]at r;exact RepO.live r.2
 | .l c,.lst ds,v,fp,r=>by
  simp only[RepO]at r;obtain⟨p,xs,GZ,e,q,e2,a⟩:=r;subst e2;intro z hz;rcases TF.mp hz with rfl|hz
  ·exact⟨_,q⟩
  ·exact AllO.live (fun d v a=>RepO.live) a z hz
 | .t cs,.tup ds,v,fp,r=>by
  simp only[RepO]at r;obtain⟨p,xs,e,q,a⟩:=r;exact RepT.live a
 | .d,.dct tk ks vs,v,fp,r=>by
  simp only[RepO]at r;obtain⟨p,xs,o,e,q,dd,e2,rs⟩:=r;subst e2;intro z hz;rw[Ul]at hz;exact⟨_,hz▸q⟩
 | .l _,.non,_,_,r | .l _,.bl _,_,_,r | .l _,.int _,_,_,r | .l _,.str _,_,_,r | .l _,.tup _,_,_,r | .l _,.dct _ _ _,_,_,r=>by simp only[RepO]at r
 | .t _,.non,_,_,r | .t _,.bl _,_,_,r | .t _,.int _,_,_,r | .t _,.str _,_,_,r | .t _,.lst _,_,_,r | .t _,.dct _ _ _,_,_,r=>by simp only[RepO]at r
 | .d,.non,_,_,r | .d,.bl _,_,_,r | .d,.int _,_,_,r | .d,.str _,_,_,r | .d,.tup _,_,_,r | .d,.lst _,_,_,r=>by simp only[RepO]at r
theorem RepT.live:∀{cs:List O}{ds:List D}{xs:List V}{fp:List Addr},RepT K G H cs ds xs fp->∀p∈fp,∃u,H p=some u
 |[],[],_,_,r=>by
  simp only[RepT]at r;rw[r.2];intro p hp;cases hp
 |c::cs,d::ds,xs,fp,r=>by
  simp only[RepT]at r;obtain⟨y,ys,a,b,e1,e2,r1,r2⟩:=r;subst e2;intro z hz;rcases T3.mp hz with hz|hz
  ·exact RepO.live r1 z hz
  ·exact RepT.live r2 z hz
 |[],_::_,_,_,r=>by simp only[RepT]at r
 |_::_,[],_,_,r=>by simp only[RepT]at r
end
theorem DictO.isM{o:HO}{tk:Bool}{ks:List D}{xs:List V}(h:DictO o tk ks xs):PV.isM o=true:=by
 cases tk with
 |true=>
  obtain⟨GU,e,_⟩:=h;rw[e];rfl
 |false=>
  obtain⟨GU,e,_⟩:=h;rw[e];rfl
theorem AllO.mut{P:D->V->List Addr->Prop}:∀{ds:List D}{xs:List V}{fp:List Addr},(∀d v a,P d v a->∀p∈a,∃u,H p=some u/\isM u=true)->AllO P ds xs fp->∀p∈fp,∃u,H p=some u/\isM u=true
 |[],_,_,_,r=>by rw[r.2];intro p hp;cases hp
 |d::ds,xs,fp,h,r=>by
  obtain⟨y,ys,a,b,e1,e2,p,q⟩:=r;subst e2;intro z hz;rcases T3.mp hz with hz|hz
  ·exact h _ _ _ p z hz
  ·exact AllO.mut h q z hz
mutual
theorem RepO.mut:∀{o:O}{d:D}{v:V}{fp:List Addr},RepO K G H o d v fp->∀p∈fp,∃u,H p=some u/\isM u=true
 | .f,d,v,fp,r=>by
  simp only[RepO]at r;rw[r.2];intro p hp;cases hp
 | .pin p c,d,v,fp,r=>by
  simp only[RepO]at r;exact RepO.mut r.2
 | .l c,.lst ds,v,fp,r=>by
  simp only[RepO]at r;obtain⟨p,xs,GZ,e,q,e2,a⟩:=r;subst e2;intro z hz;rcases TF.mp hz with rfl|hz
  ·exact⟨_,q,rfl⟩
  ·exact AllO.mut (fun d v a=>RepO.mut) a z hz
 | .t cs,.tup ds,v,fp,r=>by
  simp only[RepO]at r;obtain⟨p,xs,e,q,a⟩:=r;exact RepT.mut a
 | .d,.dct tk ks vs,v,fp,r=>by
  simp only[RepO]at r;obtain⟨p,xs,o,e,q,dd,e2,rs⟩:=r;subst e2;intro z hz;rw[Ul]at hz;exact⟨_,hz▸q,dd.isM⟩
 | .l _,.non,_,_,r | .l _,.bl _,_,_,r | .l _,.int _,_,_,r | .l _,.str _,_,_,r | .l _,.tup _,_,_,r | .l _,.dct _ _ _,_,_,r=>by simp only[RepO]at r
 | .t _,.non,_,_,r | .t _,.bl _,_,_,r | .t _,.int _,_,_,r | .t _,.str _,_,_,r | .t _,.lst _,_,_,r | .t _,.dct _ _ _,_,_,r=>by simp only[RepO]at r
 | .d,.non,_,_,r | .d,.bl _,_,_,r | .d,.int _,_,_,r | .d,.str _,_,_,r | .d,.tup _,_,_,r | .d,.lst _,_,_,r=>by simp only[RepO]at r
theorem RepT.mut:∀{cs:List O}{ds:List D}{xs:List V}{fp:List Addr},RepT K G H cs ds xs fp->∀p∈fp,∃u,H p=some u/\isM u=true
 |[],[],_,_,r=>by
  simp only[RepT]at r;rw[r.2];intro p hp;cases hp
 |c::cs,d::ds,xs,fp,r=>by
  simp only[RepT]at r;obtain⟨y,ys,a,b,e1,e2,r1,r2⟩:=r;subst e2;intro z hz;rcases T3.mp hz with hz|hz
  ·exact RepO.mut r1 z hz
  ·exact RepT.mut r2 z hz
 |[],_::_,_,_,r=>by simp only[RepT]at r
 |_::_,[],_,_,r=>by simp only[RepT]at r
end
noncomputable def RepE(K:W.Frag)(G H:Hp):Env->List (Option V)->List Addr->Prop
 |[],vs,fp=>vs=[]/\fp=[]
 |e::es,vs,fp=>∃y ys,vs=y::ys/\match e with
  |none=>RepE K G H es ys fp
  |some r=>∃v a b,y=some v/\fp=a++b/\RepO K G H r.1 r.2 v a/\RepE K G H es ys b
theorem RepE.step(h:Same G G'):∀{es:Env}{vs:List (Option V)}{fp:List Addr},(∀p∈fp,H' p=H p)->RepE K G H es vs fp->RepE K G' H' es vs fp
 |[],_,_,_,r=>r
 |none::es,vs,fp,hk,r=>by
  obtain⟨y,ys,e,r⟩:=r;exact⟨y,ys,e,RepE.step h hk r⟩
 |some r::es,vs,fp,hk,q=>by
  obtain⟨y,ys,e,v,a,b,e1,e2,r1,r2⟩:=q;subst e2;exact⟨y,ys,e,v,a,b,e1,rfl,RepO.step h (fun p hp=>hk p (Tx _ hp)) r1,RepE.step h (fun p hp=>hk p (Tp _ hp)) r2⟩
theorem RepE.live:∀{es:Env}{vs:List (Option V)}{fp:List Addr},RepE K G H es vs fp->∀p∈fp,∃u,H p=some u
 |[],_,_,r=>by
  rw[r.2];intro p hp;cases hp
 |none::es,vs,fp,r=>by
  obtain⟨y,ys,e,r⟩:=r;exact RepE.live r
 |some r::es,vs,fp,q=>by
  obtain⟨y,ys,e,v,a,b,e1,e2,r1,r2⟩:=q;subst e2;intro z hz;rcases T3.mp hz with hz|hz
  ·exact r1.live z hz
  ·exact RepE.live r2 z hz
theorem RepE.mut:∀{es:Env}{vs:List (Option V)}{fp:List Addr},RepE K G H es vs fp->∀p∈fp,∃u,H p=some u/\isM u=true
 |[],_,_,r=>by
  rw[r.2];intro p hp;cases hp
 |none::es,vs,fp,r=>by
  obtain⟨y,ys,e,r⟩:=r;exact RepE.mut r
 |some r::es,vs,fp,q=>by
  obtain⟨y,ys,e,v,a,b,e1,e2,r1,r2⟩:=q;subst e2;intro z hz;rcases T3.mp hz with hz|hz
  ·exact r1.mut z hz
  ·exact RepE.mut r2 z hz
theorem RepE.length:∀{es:Env}{vs:List (Option V)}{fp:List Addr},RepE K G H es vs fp->vs.length=es.length
 |[],_,_,r=>by rw[r.1];rfl
 |none::es,vs,fp,r=>by
  obtain⟨y,ys,e,r⟩:=r;rw[e,TQ,TQ,RepE.length r]
 |some r::es,vs,fp,q=>by
  obtain⟨y,ys,e,v,a,b,e1,e2,r1,r2⟩:=q;rw[e,TQ,TQ,RepE.length r2]
theorem RepE.take:∀{es:Env}{vs:List (Option V)}{fp:List Addr}{i:Nat}{r:R},RepE K G H es vs fp->es[i]?=some (some r)->
  ∃v a b,vs[i]?=some (some v)/\RepO K G H r.1 r.2 v a/\RepE K G H (es.set i none) vs b/\fp.Perm (a++b)
 |[],_,_,_,_,_,e=>by simp at e
 |none::es,vs,fp,0,r,q,e=>by simp at e
 |some r'::es,vs,fp,0,r,q,e=>by
  obtain⟨y,ys,e0,v,a,b,e1,e2,r1,r2⟩:=q;simp at e;subst e;subst e0;subst e1;exact⟨v,a,b,rfl,r1,⟨some v,ys,rfl,r2⟩,by rw[e2]⟩
 |none::es,vs,fp,i+1,r,q,e=>by
  obtain⟨y,ys,e0,q⟩:=q;obtain⟨v,a,b,g1,g2,g3,g4⟩:=RepE.take q (i:=i) (r:=r) (by simpa using e);subst e0;exact⟨v,a,b,by simpa using g1,g2,⟨y,ys,rfl,g3⟩,g4⟩
 |some r'::es,vs,fp,i+1,r,q,e=>by
  obtain⟨y,ys,e0,v',a',b',e1,e2,r1,r2⟩:=q;obtain⟨v,a,b,g1,g2,g3,g4⟩:=RepE.take r2 (i:=i) (r:=r) (by simpa using e);subst e0;refine⟨v,a,a'++b,by simpa using g1,g2,⟨y,ys,rfl,v',a',b,e1,rfl,r1,g3⟩,?_⟩;rw[e2];refine(Ye a' g4).trans ?_;rw[<-US,<-US];exact XY b Yf
theorem RepE.put:∀{es:Env}{vs:List (Option V)}{b:List Addr}{i:Nat}{r:R}{v:V}{a:List Addr},RepE K G H es vs b->es[i]?=some none->RepO K G H r.1 r.2 v a->
  ∃fp,RepE K G H (es.set i (some r)) (vs.set i (some v)) fp/\fp.Perm (a++b)
 |[],_,_,_,_,_,_,_,e,_=>by simp at e
 |none::es,vs,b,0,r,v,a,q,e,ro=>by
  obtain⟨y,ys,e0,q⟩:=q;subst e0;exact⟨a++b,⟨some v,ys,rfl,v,a,b,rfl,rfl,ro,q⟩,.refl _⟩
 |some r'::es,vs,b,0,r,v,a,q,e,ro=>by simp at e
 |none::es,vs,b,i+1,r,v,a,q,e,ro=>by
  obtain⟨y,ys,e0,q⟩:=q;obtain⟨fp,g1,g2⟩:=RepE.put q (i:=i) (r:=r) (by simpa using e) ro;subst e0;exact⟨fp,⟨y,_,rfl,g1⟩,g2⟩
 |some r'::es,vs,b,i+1,r,v,a,q,e,ro=>by
  obtain⟨y,ys,e0,v',a',b',e1,e2,r1,r2⟩:=q;obtain⟨fp,g1,g2⟩:=RepE.put r2 (i:=i) (r:=r) (by simpa using e) ro;subst e0;refine⟨a'++fp,⟨y,_,rfl,v',a',fp,e1,rfl,r1,g1⟩,?_⟩;rw[e2];refine(Ye a' g2).trans ?_;rw[<-US,<-US];exact XY b' Yf
structure Rel(K:W.Frag)(G H:Hp)(es:Env)(vs:List (Option V))(fp:List Addr):Prop where
 rep:RepE K G H es vs fp
 nd:fp.Nodup
 gn:∀p∈fp,G p=none
 gh:Same G H
structure Step(G H:Hp)(fp:List Addr)(G' H':Hp)(GZ:List Addr):Prop where
 gg:Same G G'
 keep:∀q u,H q=some u->q∉fp->H' q=some u
 fpn:∀q∈GZ,q∈fp\/H q=none
 gnew:∀q u,G' q=some u->G q=some u\/q∈fp\/H q=none\/isT u=true/\H q=some u
 there:∀q u,H q=some u->∃u',H' q=some u'
theorem Step.refl{fp:List Addr}:Step G H fp G H fp:=⟨.refl _,fun _ _ h _=>h,fun _ h=>.inl h,fun _ _ h=>.inl h,fun _ u h=>⟨u,h⟩⟩
theorem Step.trans{G1 H1 G2 H2:Hp}{fp Hq Hz:List Addr}(a:Step G H fp G1 H1 Hq)(b:Step G1 H1 Hq G2 H2 Hz):Step G H fp G2 H2 Hz:=by
 refine⟨a.gg.trans b.gg,fun q u h n=>?_,fun q hq=>?_,fun q u hq=>?_,fun q u h=>?_⟩
 ·refine b.keep q u (a.keep q u h n) fun hq=>?_
  rcases a.fpn q hq with z|z
  ·exact n z
  ·rw[z]at h;cases h
 ·rcases b.fpn q hq with z|z
  ·exact a.fpn q z
  ·cases e:H q with
   |none=>exact .inr rfl
   |some u=>
    obtain⟨u',e'⟩:=a.there q u e;rw[z]at e';cases e'
 ·rcases b.gnew q u hq with z|z|z|⟨t,z⟩
  ·exact a.gnew q u z
  ·exact .inr ((a.fpn q z).imp_right .inl)
  ·cases e:H q with
   |none=>exact .inr (.inr (.inl rfl))
   |some u=>
    obtain⟨u',e'⟩:=a.there q u e;rw[z]at e';cases e'
  ·cases e:H q with
   |none=>exact .inr (.inr (.inl rfl))
   |some u2=>
    by_cases hf:q∈fp
    ·exact .inr (.inl hf)
    ·rw[a.keep q u2 e hf]at z;cases z;exact .inr (.inr (.inr ⟨t,rfl⟩))
 ·obtain⟨u',h'⟩:=a.there q u h;exact b.there q u' h'
theorem Step.perm{fp fq GZ PZ:List Addr}(a:Step G H fp G' H' GZ)(h:∀q,q∈fp<->q∈fq)(h':∀q∈PZ,q∈GZ):Step G H fq G' H' PZ:=
 ⟨a.gg,fun q u e n=>a.keep q u e fun z=>n ((h q).mp z),fun q hq=>(a.fpn q (h' q hq)).imp_left (h q).mp,fun q u e=>(a.gnew q u e).imp_right (Or.imp_left (h q).mp),a.there⟩
theorem Step.wide{fp fq GZ PZ:List Addr}(a:Step G H fp G' H' GZ)(h:∀q∈fp,q∈fq)(h':∀q∈PZ,q∈GZ\/q∈fq):Step G H fq G' H' PZ:=
 ⟨a.gg,fun q u e n=>a.keep q u e fun z=>n (h q z),fun q hq=>(h' q hq).elim (fun z=>(a.fpn q z).imp_left (h q)) .inl,fun q u e=>(a.gnew q u e).imp_right (Or.imp_left (h q)),a.there⟩
theorem Rel.perm{es:Env}{vs:List (Option V)}{fp fq:List Addr}(r:RepE K G H es vs fq)(nd:fp.Nodup)(gn:∀p∈fp,G p=none)(gh:Same G H)(h:fp.Perm fq):Rel K G H es vs fq:=
 ⟨r,h.nodup_iff.mp nd,fun p hp=>gn p (h.mem_iff.mpr hp),gh⟩
theorem Rel.frame{r:R}{v:V}{es:Env}{vs:List (Option V)}{fp:List Addr}(q:Rel K G H (some r::es) (some v::vs) fp):
  ∃a b,fp=a++b/\RepO K G H r.1 r.2 v a/\Rel K G H es vs b/\∀(G' H':Hp) (Ky:Env) (Kv:List (Option V)) (b':List Addr),Step G H b G' H' b'->Rel K G' H' Ky Kv b'->
   Rel K G' H' (some r::Ky) (some v::Kv) (a++b')/\Step G H (a++b) G' H' (a++b'):=by
 obtain⟨y,ys,e,v',a,b,e1,e2,r1,r2⟩:=q.rep;cases e;cases e1;subst e2;have nd:=T7.mp q.nd;refine⟨a,b,rfl,r1,⟨r2,nd.2.1,fun p hp=>q.gn p (Tp _ hp),q.gh⟩,fun G' H' Ky Kv b' st k=>?_⟩;have nb:∀p∈a,p∉b:=fun p hp hb=>nd.2.2 p hp p hb rfl
 have same:∀p∈a,H' p=H p:=fun p hp=>by
  obtain⟨u,hu⟩:=r1.live p hp;rw[hu];exact st.keep p u hu (nb p hp)
 refine⟨⟨⟨some v,Kv,rfl,v,a,b',rfl,rfl,r1.step st.gg same,k.rep⟩,?_,fun p hp=>?_,k.gh⟩,st.wide (fun p hp=>Tp _ hp) fun p hp=>?_⟩
 ·rw[T7];refine⟨nd.1,k.nd,fun p hp z hz e=>?_⟩;subst e;obtain⟨u,hu⟩:=r1.live p hp;rcases st.fpn p hz with z|z
  ·exact nb p hp z
  ·rw[z]at hu;cases hu
 ·rcases T3.mp hp with hp|hp
  ·cases e:G' p with
   |none=>rfl
   |some u=>
    exfalso;obtain⟨u',hu⟩:=r1.live p hp;rcases st.gnew p u e with z|z|z|⟨t,z⟩
    ·rw[q.gn p (Tx _ hp)]at z;cases z
    ·exact nb p hp z
    ·rw[z]at hu;cases hu
    ·obtain⟨u2,h2,hm⟩:=r1.mut p hp;rw[z]at h2;cases h2;cases u with
     |tup _=>cases hm
     |frz _ _=>cases hm
     |_=>cases t
  ·exact k.gn p hp
 ·rcases T3.mp hp with hp|hp
  ·exact .inr (Tx _ hp)
  ·exact .inl hp
theorem Rel.freeze{r:R}{v:V}{es:Env}{vs:List (Option V)}{fp:List Addr}(q:Rel K G H (some r::es) (some v::vs) fp):
  ∃G' b,Rep K G' r.2 v/\Rel K G' H es vs b/\Step G H fp G' H b:=by
 obtain⟨y,ys,e,v',a,b,e1,e2,r1,r2⟩:=q.rep;cases e;cases e1;subst e2;have nd:=T7.mp q.nd;have nb:∀p∈a,p∉b:=fun p hp hb=>nd.2.2 p hp p hb rfl
 have hg:Same G (fun p=>if p∈a then H p else G p):=fun p u e=>by
  show(if p∈a then H p else G p)=some u;by_cases hp:p∈a
  ·rw[Tw hp];exact q.gh p u e
  ·rw[TC hp];exact e
 refine⟨fun p=>if p∈a then H p else G p,b,r1.frozen hg fun p hp u e=>?_,⟨r2.step hg fun _ _=>rfl,nd.2.1,fun p hp=>?_,fun p u e=>?_⟩,⟨hg,fun _ _ e _=>e,fun p hp=>.inl (Tp _ hp),fun p u e=>?_,fun _ u e=>⟨u,e⟩⟩⟩
 ·show(if p∈a then H p else G p)=some u;rw[Tw hp];exact e
 ·show(if p∈a then H p else G p)=none;rw[TC (fun z=>nb p z hp)];exact q.gn p (Tp _ hp)
 ·have e:(if p∈a then H p else G p)=some u:=e;by_cases hp:p∈a
  ·rw[Tw hp]at e;exact e
  ·rw[TC hp]at e;exact q.gh p u e
 ·have e:(if p∈a then H p else G p)=some u:=e;by_cases hp:p∈a
  ·exact .inr (.inl (Tx _ hp))
  ·rw[TC hp]at e;exact .inl e
end
section
variable{K:W.Frag}{G G' H H':Hp}{es:Env}{vs:List (Option V)}{fp:List Addr}
theorem pY:∀{ds:List D}{xs:List V}{fp:List Addr},AllO (RepO K G H .f) ds xs fp<->Reps K G ds xs/\fp=[]
 |[],xs,fp=>by simp only[AllO,Reps]
 |d::ds,xs,fp=>by
  simp only[AllO,Reps,RepO];constructor
  ·rintro⟨y,ys,a,b,e1,e2,⟨r,e3⟩,q⟩;obtain⟨q1,q2⟩:=pY.mp q;subst e3;subst q2;exact⟨⟨y,ys,e1,r,q1⟩,e2⟩
  ·rintro⟨⟨y,ys,e1,r,q1⟩,e⟩;exact⟨y,ys,[],[],e1,e,⟨r,rfl⟩,pY.mpr ⟨q1,rfl⟩⟩
theorem d3{d:D}{v:V}{a:List Addr}:RepO K G H .f d v a<->Rep K G d v/\a=[]:=by simp only[RepO]
theorem gP{ds:List D}{v:V}{a:List Addr}:RepO K G H (.l .f) (.lst ds) v a<->∃p xs,v=.ref p/\H p=some (.lst xs)/\a=[p]/\Reps K G ds xs:=by
 rw[RepO];constructor
 ·rintro⟨p,xs,b,e,q,e2,r⟩;obtain⟨r',eb⟩:=pY.mp r;subst eb;exact⟨p,xs,e,q,e2,r'⟩
 ·rintro⟨p,xs,e,q,e2,r⟩;exact⟨p,xs,[],e,q,e2,pY.mpr ⟨r,rfl⟩⟩
theorem Reps.length:∀{ds:List D}{xs:List V},Reps K G ds xs->xs.length=ds.length
 |[],xs,r=>by simp only[Reps]at r;rw[r];rfl
 |d::ds,xs,r=>by
  simp only[Reps]at r;obtain⟨y,ys,e,_,q⟩:=r;rw[e,TQ,TQ,Reps.length q]
theorem Reps.get:∀{ds:List D}{xs:List V}{i:Nat}{d:D},Reps K G ds xs->ds[i]?=some d->∃v,xs[i]?=some v/\Rep K G d v
 |[],_,_,_,_,e=>by simp at e
 |d'::ds,xs,0,d,r,e=>by
  simp only[Reps]at r;obtain⟨y,ys,e1,q,_⟩:=r;simp at e;subst e;exact⟨y,by rw[e1];rfl,q⟩
 |d'::ds,xs,i+1,d,r,e=>by
  simp only[Reps]at r;obtain⟨y,ys,e1,_,q⟩:=r;obtain⟨v,a,b⟩:=Reps.get q (i:=i) (d:=d) (by simpa using e);exact⟨v,by rw[e1];simpa using a,b⟩
theorem Reps.app:∀{ds es:List D}{xs ys:List V},Reps K G ds xs->Reps K G es ys->Reps K G (ds++es) (xs++ys)
 |[],_,_,_,r,q=>by simp only[Reps]at r;rw[r];exact q
 |d::ds,es,xs,ys,r,q=>by
  simp only[Reps]at r;obtain⟨z,zs,e,r1,r2⟩:=r;rw[e];simp only[VZ,Reps];exact⟨z,_,rfl,r1,r2.app q⟩
theorem Reps.one{d:D}{v:V}(r:Rep K G d v):Reps K G [d] [v]:=by
 simp only[Reps];exact⟨v,[],rfl,r,rfl⟩
theorem Reps.nil:Reps K G [] []:=by simp only[Reps]
theorem Reps.cons{d:D}{v:V}{ds:List D}{xs:List V}(r:Rep K G d v)(q:Reps K G ds xs):Reps K G (d::ds) (v::xs):=by
 simp only[Reps];exact⟨v,xs,rfl,r,q⟩
theorem Reps.cons_iff{d:D}{v:V}{ds:List D}{xs:List V}:Reps K G (d::ds) (v::xs)<->Rep K G d v/\Reps K G ds xs:=by
 simp only[Reps];constructor
 ·rintro⟨y,ys,e,r,q⟩;cases e;exact⟨r,q⟩
 ·rintro⟨r,q⟩;exact⟨v,xs,rfl,r,q⟩
theorem Reps.take:∀{ds:List D}{xs:List V}(n:Nat),Reps K G ds xs->Reps K G (ds.take n) (xs.take n)
 |_,_,0,_=>by rw[Xu,Xu];exact Reps.nil
 |[],xs,n+1,r=>by simp only[Reps]at r;rw[r];exact Reps.nil
 |d::ds,xs,n+1,r=>by
  simp only[Reps]at r;obtain⟨y,ys,e,r1,r2⟩:=r;rw[e,Yz,Yz];exact .cons r1 (r2.take n)
theorem Reps.drop:∀{ds:List D}{xs:List V}(n:Nat),Reps K G ds xs->Reps K G (ds.drop n) (xs.drop n)
 |_,_,0,r=>r
 |[],xs,n+1,r=>by simp only[Reps]at r;rw[r];exact Reps.nil
 |d::ds,xs,n+1,r=>by
  simp only[Reps]at r;obtain⟨y,ys,e,r1,r2⟩:=r;rw[e,YA,YA];exact r2.drop n
theorem Reps.set:∀{ds:List D}{xs:List V}(n:Nat) {d:D}{v:V},Reps K G ds xs->Rep K G d v->Reps K G (ds.set n d) (xs.set n v)
 |[],xs,n,d,v,r,q=>by simp only[Reps]at r;rw[r];exact Reps.nil
 |d'::ds,xs,0,d,v,r,q=>by
  simp only[Reps]at r;obtain⟨y,ys,e,r1,r2⟩:=r;rw[e];exact .cons q r2
 |d'::ds,xs,n+1,d,v,r,q=>by
  simp only[Reps]at r;obtain⟨y,ys,e,r1,r2⟩:=r;rw[e];exact .cons r1 (r2.set n q)
theorem Step.cut{fq:List Addr}(h:∀q∈fq,q∈fp):Step G H fp G H fq:=⟨.refl _,fun _ _ e _=>e,fun q hq=>.inl (h q hq),fun _ _ e=>.inl e,fun _ u e=>⟨u,e⟩⟩
theorem Rel.drop{r:R}{y:Option V}(q:Rel K G H (some r::es) (y::vs) fp):∃b,Rel K G H es vs b/\Step G H fp G H b:=by
 obtain⟨y,ys,e,v',a,b,e1,e2,r1,r2⟩:=q.rep;cases e;cases e1;subst e2;have nd:=T7.mp q.nd;exact⟨b,⟨r2,nd.2.1,fun p hp=>q.gn p (Tp _ hp),q.gh⟩,Step.cut fun p hp=>Tp _ hp⟩
theorem Rel.top{r:R}{v:V}(q:Rel K G H (some r::es) (some v::vs) fp):Rep K H r.2 v:=by
 obtain⟨y,ys,e,v',a,b,e1,e2,r1,r2⟩:=q.rep;cases e;cases e1;exact r1.frozen q.gh fun p hp u e=>e
theorem Rel.out{i:Nat}{r:R}(q:Rel K G H es vs fp)(e:es[i]?=some (some r)):∃v fq,vs[i]?=some (some v)/\Rel K G H (some r::es.set i none) (some v::vs) fq/\Step G H fp G H fq/\Step G H fq G H fp:=by
 obtain⟨v,a,b,e1,r1,r2,pm⟩:=q.rep.take e;exact⟨v,a++b,e1,Rel.perm ⟨some v,vs,rfl,v,a,b,rfl,rfl,r1,r2⟩ q.nd q.gn q.gh pm,Step.cut fun p hp=>pm.mem_iff.mpr hp,Step.cut fun p hp=>pm.mem_iff.mp hp⟩
theorem Rel.view{i:Nat}{r:R}(q:Rel K G H es vs fp)(e:es[i]?=some (some r)):∃v,vs[i]?=some (some v)/\Rep K H r.2 v:=by
 obtain⟨v,fq,e1,r1,_⟩:=q.out e;exact⟨v,e1,r1.top⟩
theorem hZ{α:Type}{l:List α}{i:Nat}{x:α}(h:l[i]?=some x):l.set i x=l:=by
 apply WH;intro j;by_cases e:i=j
 ·subst e;rw[U8 (TH.mp h).1,h]
 ·rw[WY e]
theorem Rel.store{i:Nat}{r:R}{v:V}(q:Rel K G H (some r::es) (some v::vs) fp)(hi:i<es.length):∃fq,Rel K G H (es.set i (some r)) (vs.set i (some v)) fq/\Step G H fp G H fq:=by
 obtain⟨y,ys,e,v',a,b,e1,e2,r1,r2⟩:=q.rep;cases e;cases e1;subst e2;obtain⟨c,hc⟩:∃c,es[i]?=some c:=⟨_,To hi⟩
 have nd:=T7.mp q.nd;have key:∃b',RepE K G H (es.set i none) vs b'/\(∀p∈b',p∈b)/\b'.Nodup:=by
  cases c with
  |none=>exact⟨b,by rw[hZ hc];exact r2,fun _ h=>h,nd.2.1⟩
  |some r'=>
   obtain⟨v2,a2,b2,_,_,g,pm⟩:=r2.take hc;refine⟨b2,g,fun p hp=>pm.mem_iff.mpr (Tp _ hp),?_⟩;exact(T7.mp (pm.nodup_iff.mp nd.2.1)).2.1
 obtain⟨b',g,sub,ndb⟩:=key;obtain⟨fq,g2,pm⟩:=g.put (i:=i) (r:=r) (v:=v) (by rw[U8 hi]) r1;rw[VI]at g2;have hnd:(a++b').Nodup:=by
  rw[T7];exact⟨nd.1,ndb,fun p hp z hz=>nd.2.2 p hp z (sub z hz)⟩
 refine⟨fq,Rel.perm g2 hnd (fun p hp=>?_) q.gh pm.symm,Step.cut fun p hp=>?_⟩
 ·refine q.gn p ?_;rcases T3.mp hp with hp|hp
  ·exact Tx _ hp
  ·exact Tp _ (sub p hp)
 ·rcases T3.mp (pm.mem_iff.mp hp) with hp|hp
  ·exact Tx _ hp
  ·exact Tp _ (sub p hp)
theorem Rel.back{i:Nat}{r:R}{v:V}(q:Rel K G H (some r::es) (some v::vs) fp)(hi:i<es.length)(hv:vs[i]?=some (some v)):∃fq,Rel K G H (es.set i (some r)) vs fq/\Step G H fp G H fq:=by
 obtain⟨fq,g,st⟩:=q.store hi;rw[hZ hv]at g;exact⟨fq,g,st⟩
theorem Rel.freezeAt{i:Nat}{r:R}(q:Rel K G H es vs fp)(e:es[i]?=some (some r)):∃v G' fq,vs[i]?=some (some v)/\Rep K G' r.2 v/\Rel K G' H (es.set i (some (.f,r.2))) vs fq/\Step G H fp G' H fq:=by
 obtain⟨v,fq,ev,g,st,_⟩:=q.out e;obtain⟨G',b,rv,g2,G9⟩:=g.freeze;have g3:Rel K G' H (some (.f,r.2)::es.set i none) (some v::vs) b:=by
  refine⟨⟨some v,vs,rfl,v,[],b,rfl,rfl,?_,g2.rep⟩,g2.nd,g2.gn,g2.gh⟩;exact d3.mpr ⟨rv,rfl⟩
 obtain⟨fz,g4,H0⟩:=g3.back (i:=i) (by rw[UA];exact(TH.mp e).1) ev;rw[VI]at g4;exact⟨v,G',fz,ev,rv,g4,st.trans (G9.trans H0)⟩
theorem Rel.push{d:D}{v:V}(q:Rel K G H es vs fp)(r:Rep K G d v):Rel K G H (some (.f,d)::es) (some v::vs) fp:=by
 refine⟨⟨some v,vs,rfl,v,[],fp,rfl,rfl,?_,q.rep⟩,q.nd,q.gn,q.gh⟩;exact d3.mpr ⟨r,rfl⟩
theorem Rel.newF{p:Addr}{u:HO}(q:Rel K G H es vs fp)(hp:H p=none):Rel K (upd G p u) (upd H p u) es vs fp/\Step G H fp (upd G p u) (upd H p u) fp:=by
 have gp:G p=none:=by
  cases e:G p with
  |none=>rfl
  |some o=>rw[q.gh p o e]at hp;cases hp
 have np:p∉fp:=fun z=>by
  obtain⟨u,e⟩:=q.rep.live p z;rw[hp]at e;cases e
 have sg:Same G (upd G p u):=fun b o e=>by rw[ak (aG e gp)];exact e
 have sh:Same H (upd H p u):=fun b o e=>by rw[ak (aG e hp)];exact e
 refine⟨⟨q.rep.step sg fun z hz=>ak fun e=>np (e▸hz),q.nd,fun z hz=>?_,fun b o e=>?_⟩,⟨sg,fun b o e _=>sh b o e,fun _ h=>.inl h,fun b o e=>?_,fun b o e=>⟨o,sh b o e⟩⟩⟩
 ·have:z≠p:=fun e=>np (e▸hz)
  rw[ak this];exact q.gn z hz
 ·by_cases hb:b=p
  ·subst hb;rw[aD]at e ⊢;exact e
  ·rw[ak hb]at e ⊢;exact q.gh b o e
 ·by_cases hb:b=p
  ·subst hb;exact .inr (.inr (.inl hp))
  ·rw[ak hb]at e;exact .inl e
theorem Rel.newL{p:Addr}{ds:List D}{xs:List V}(q:Rel K G H es vs fp)(hp:H p=none)(r:Reps K G ds xs):
  Rel K G (upd H p (.lst xs)) (some (.l .f,.lst ds)::es) (some (.ref p)::vs) (p::fp)/\Step G H fp G (upd H p (.lst xs)) (p::fp):=by
 have gp:G p=none:=by
  cases e:G p with
  |none=>rfl
  |some o=>rw[q.gh p o e]at hp;cases hp
 have np:p∉fp:=fun z=>by
  obtain⟨u,e⟩:=q.rep.live p z;rw[hp]at e;cases e
 have sh:Same H (upd H p (.lst xs)):=fun b o e=>by rw[ak (aG e hp)];exact e
 refine⟨⟨⟨some (.ref p),vs,rfl,.ref p,[p],fp,rfl,rfl,gP.mpr ⟨p,xs,rfl,aD,rfl,r⟩,q.rep.step (.refl _) fun z hz=>ak fun e=>np (e▸hz)⟩,UG.mpr ⟨np,q.nd⟩,fun z hz=>?_,fun b o e=>?_⟩,
  ⟨.refl _,fun b o e _=>sh b o e,fun b hb=>?_,fun b o e=>.inl e,fun b o e=>⟨o,sh b o e⟩⟩⟩
 ·rcases TF.mp hz with rfl|hz
  ·exact gp
  ·exact q.gn z hz
 ·exact sh b o (q.gh b o e)
 ·rcases TF.mp hb with rfl|hb
  ·exact .inr hp
  ·exact .inl hb
theorem Rel.chg{i:Nat}{ds ds':List D}(q:Rel K G H es vs fp)(e:es[i]?=some (some (.l .f,.lst ds))):∃p xs,vs[i]?=some (some (.ref p))/\H p=some (.lst xs)/\Reps K G ds xs/\
  ∀IW,Reps K G ds' IW->∃fq,Rel K G (upd H p (.lst IW)) (es.set i (some (.l .f,.lst ds'))) vs fq/\Step G H fp G (upd H p (.lst IW)) fq:=by
 obtain⟨v,fq,ev,g,st,Kd⟩:=q.out e;obtain⟨y,ys,e0,v',a,b,e1,e2,r1,r2⟩:=g.rep;cases e0;cases e1;obtain⟨p,xs,e3,hp,e4,rs⟩:=gP.mp r1;subst e3;subst e4;subst e2;have nd:=UG.mp (show(p::b).Nodup from g.nd);refine⟨p,xs,ev,hp,rs,fun IW Jx=>?_⟩;have g2:Rel K G (upd H p (.lst IW)) (some (.l .f,.lst ds')::es.set i none) (some (.ref p)::vs) (p::b):=by
  refine⟨⟨some (.ref p),vs,rfl,.ref p,[p],b,rfl,rfl,gP.mpr ⟨p,IW,rfl,aD,rfl,Jx⟩,r2.step (.refl _) fun z hz=>ak fun e=>nd.1 (e▸hz)⟩,g.nd,g.gn,fun z o ez=>?_⟩;have:z≠p:=fun w=>by
   subst w;rw[g.gn z Tq]at ez;cases ez
  rw[ak this];exact g.gh z o ez
 have RD:Step G H (p::b) G (upd H p (.lst IW)) (p::b):=by
  refine⟨.refl _,fun z o ez nz=>?_,fun z hz=>.inl hz,fun z o ez=>.inl ez,fun z o ez=>?_⟩
  ·have:z≠p:=fun w=>nz (by rw[w];exact Tq)
   rw[ak this];exact ez
  ·by_cases w:z=p
   ·subst w;exact⟨_,aD⟩
   ·exact⟨o,by rw[ak w];exact ez⟩
 obtain⟨fz,g3,Hx⟩:=g2.back (i:=i) (by rw[UA];exact(TH.mp e).1) ev;rw[VI]at g3;exact⟨fz,g3,st.trans (RD.trans Hx)⟩
end
mutual
noncomputable def cz:D->Bool
 | .tup ds=>G0 ds
 | .lst _=>false
 | .dct _ _ _=>false
 |_=>true
noncomputable def G0:List D->Bool
 |[]=>true
 |d::ds=>cz d&&G0 ds
end
mutual
noncomputable def aP:O->D->Bool
 | .f,d=>cz d
 | .l c,.lst ds=>ds.all (aP c)
 | .t cs,.tup ds=>pZ cs ds
 | .d,.dct _ _ vs=>G0 vs
 | .pin _ c,d=>aP c d
 |_,_=>false
noncomputable def pZ:List O->List D->Bool
 |[],[]=>true
 |c::cs,d::ds=>aP c d&&pZ cs ds
 |_,_=>false
end
def frz:Option R->Option R:=Option.map fun r=>(.f,r.2)
theorem cw:∀ds,G0 ds=ds.all cz
 |[]=>rfl
 |d::ds=>by rw[G0,VU,cw ds]
section
variable{K:W.Frag}{G G' G2 G3 H H' H2:Hp}{es:Env}{vs:List (Option V)}{fp:List Addr}
mutual
theorem Rep.flat(h:∀p u,isT u=true->G2 p=some u->G3 p=some u):∀{d:D}{v:V},cz d=true->Rep K G2 d v->Rep K G3 d v
 | .non,_,_,r=>by simpa only[Rep] using r
 | .bl _,_,_,r=>by simpa only[Rep] using r
 | .int _,_,_,r=>by simpa only[Rep] using r
 | .str _,_,_,r=>by simpa only[Rep] using r
 | .tup ds,_,e,r=>by
  simp only[Rep]at r ⊢;simp only[cz]at e;obtain⟨p,xs,ev,q,rs⟩:=r;exact⟨p,xs,ev,h _ _ rfl q,Reps.flat h e rs⟩
 | .lst ds,_,e,r=>by simp only[cz]at e;cases e
 | .dct _ _ _,_,e,r=>by simp only[cz]at e;cases e
theorem Reps.flat(h:∀p u,isT u=true->G2 p=some u->G3 p=some u):∀{ds:List D}{xs:List V},G0 ds=true->Reps K G2 ds xs->Reps K G3 ds xs
 |[],_,_,r=>by simpa only[Reps] using r
 |d::ds,_,e,r=>by
  simp only[Reps]at r ⊢;simp only[G0,TL]at e;obtain⟨y,ys,ev,r1,r2⟩:=r;exact⟨y,ys,ev,Rep.flat h e.1 r1,Reps.flat h e.2 r2⟩
end
theorem AllO.clean{P P':D->V->List Addr->Prop}{c:D->Bool}:∀{ds:List D}{xs:List V}{fp:List Addr},(∀d v a,c d=true->P d v a->P' d v a)->ds.all c=true->AllO P ds xs fp->AllO P' ds xs fp
 |[],_,_,_,_,r=>r
 |d::ds,xs,fp,h,e,r=>by
  obtain⟨y,ys,a,b,e1,e2,p,q⟩:=r;rw[VU,TL]at e;exact⟨y,ys,a,b,e1,e2,h _ _ _ e.1 p,AllO.clean h e.2 q⟩
mutual
theorem RepO.clean(h:∀p u,isT u=true->G2 p=some u->G3 p=some u):∀{o:O}{d:D}{v:V}{fp:List Addr},aP o d=true->RepO K G2 H o d v fp->RepO K G3 H o d v fp
 | .f,d,v,fp,e,r=>by
  simp only[RepO]at r ⊢;simp only[aP]at e;exact⟨r.1.flat h e,r.2⟩
 | .pin p c,d,v,fp,e,r=>by
  simp only[RepO]at r ⊢;simp only[aP]at e;exact⟨r.1,RepO.clean h e r.2⟩
 | .l c,.lst ds,v,fp,e,r=>by
  rw[RepO]at r ⊢;rw[aP]at e;obtain⟨p,xs,GZ,ev,q,e2,a⟩:=r;exact⟨p,xs,GZ,ev,q,e2,AllO.clean (fun d v a=>RepO.clean h) e a⟩
 | .t cs,.tup ds,v,fp,e,r=>by
  rw[RepO]at r ⊢;rw[aP]at e;obtain⟨p,xs,ev,q,a⟩:=r;exact⟨p,xs,ev,h _ _ rfl q,RepT.clean h e a⟩
 | .d,.dct tk ks vs,v,fp,e,r=>by
  rw[RepO]at r ⊢;rw[aP]at e;obtain⟨p,xs,o,ev,q,dd,e2,rs⟩:=r;exact⟨p,xs,o,ev,q,dd,e2,rs.flat h e⟩
 | .l _,.non,_,_,_,r | .l _,.bl _,_,_,_,r | .l _,.int _,_,_,_,r | .l _,.str _,_,_,_,r | .l _,.tup _,_,_,_,r | .l _,.dct _ _ _,_,_,_,r=>by simp only[RepO]at r
 | .t _,.non,_,_,_,r | .t _,.bl _,_,_,_,r | .t _,.int _,_,_,_,r | .t _,.str _,_,_,_,r | .t _,.lst _,_,_,_,r | .t _,.dct _ _ _,_,_,_,r=>by simp only[RepO]at r
 | .d,.non,_,_,_,r | .d,.bl _,_,_,_,r | .d,.int _,_,_,_,r | .d,.str _,_,_,_,r | .d,.tup _,_,_,_,r | .d,.lst _,_,_,_,r=>by simp only[RepO]at r
theorem RepT.clean(h:∀p u,isT u=true->G2 p=some u->G3 p=some u):∀{cs:List O}{ds:List D}{xs:List V}{fp:List Addr},pZ cs ds=true->RepT K G2 H cs ds xs fp->RepT K G3 H cs ds xs fp
 |[],[],_,_,_,r=>by simpa only[RepT] using r
 |c::cs,d::ds,xs,fp,e,r=>by
  rw[RepT]at r ⊢;rw[pZ,TL]at e;obtain⟨y,ys,a,b,e1,e2,r1,r2⟩:=r;exact⟨y,ys,a,b,e1,e2,RepO.clean h e.1 r1,RepT.clean h e.2 r2⟩
 |[],_::_,_,_,_,r=>by simp only[RepT]at r
 |_::_,[],_,_,_,r=>by simp only[RepT]at r
end
theorem RepE.frz(h:Same G G'):∀{es:Env}{vs:List (Option V)}{fp:List Addr},(∀p∈fp,∀u,H p=some u->G' p=some u)->RepE K G H es vs fp->RepE K G' H' (es.map PV.frz) vs []
 |[],_,_,_,r=>⟨r.1,rfl⟩
 |none::es,vs,fp,hk,r=>by
  obtain⟨y,ys,e,r⟩:=r;exact⟨y,ys,e,RepE.frz h hk r⟩
 |some r::es,vs,fp,hk,q=>by
  obtain⟨y,ys,e,v,a,b,e1,e2,r1,r2⟩:=q;subst e2;exact⟨y,ys,e,v,[],[],e1,rfl,d3.mpr ⟨r1.frozen h (fun p hp=>hk p (Tx _ hp)),rfl⟩,RepE.frz h (fun p hp=>hk p (Tp _ hp)) r2⟩
theorem RepE.rep(h:Same G G'):∀{es:Env}{vs:List (Option V)}{fp:List Addr}{i:Nat}{r:R}{v:V},(∀p∈fp,∀u,H p=some u->G' p=some u)->RepE K G H es vs fp->es[i]?=some (some r)->vs[i]?=some (some v)->Rep K G' r.2 v:=fun{es vs fp i r v} hk q e ev=>by
 obtain⟨v',a,b,e1,r1,_,pm⟩:=q.take e;rw[ev]at e1;cases e1;exact r1.frozen h fun p hp=>hk p (pm.mem_iff.mpr (Tx _ hp))
theorem Rel.lend(q:Rel K G H es vs fp):∃G1,Same G G1/\Same G1 H/\(∀(i:Nat) (r:R) (v:V),es[i]?=some (some r)->vs[i]?=some (some v)->Rep K G1 r.2 v)/\
  RepE K G1 H (es.map PV.frz) vs []/\
  ∀(H2 G2:Hp) (Hz:List Addr) (r:R) (v:V),Step G1 H [] G2 H2 Hz->Rel K G2 H2 [some r] [some v] Hz->
   (aP r.1 r.2=true->∃G3 IY,Step G H fp G3 H2 IY/\Rel K G3 H2 (some r::es) (some v::vs) IY)/\
   ∃G3 IY,Step G H fp G3 H2 IY/\Rel K G3 H2 (some r::es.map PV.frz) (some v::vs) IY:=by
 have hg:Same G (fun p=>if p∈fp then H p else G p):=fun p u e=>by
  show(if p∈fp then H p else G p)=some u;by_cases hp:p∈fp
  ·rw[Tw hp];exact q.gh p u e
  ·rw[TC hp];exact e
 have hh:Same (fun p=>if p∈fp then H p else G p) H:=fun p u e=>by
  have e:(if p∈fp then H p else G p)=some u:=e;by_cases hp:p∈fp
  ·rw[Tw hp]at e;exact e
  ·rw[TC hp]at e;exact q.gh p u e
 have hk:∀p∈fp,∀u,H p=some u->(fun p=>if p∈fp then H p else G p) p=some u:=fun p hp u e=>by
  show(if p∈fp then H p else G p)=some u;rw[Tw hp];exact e
 refine⟨fun p=>if p∈fp then H p else G p,hg,hh,fun i r v e ev=>q.rep.rep hg hk e ev,q.rep.frz hg hk,fun H2 G2 Hz r v st k=>?_⟩;obtain⟨y,ys,e0,v',a,b,e1,e2,r1,r2⟩:=k.rep;cases e0;cases e1;obtain⟨_,e3⟩:=r2;subst e3;rw[Ui]at e2;subst e2;have fresh:∀p∈Hz,H p=none:=fun p hp=>by
  rcases st.fpn p hp with z|z
  ·cases z
  ·exact z
 have kept:∀p∈fp,H2 p=H p:=fun p hp=>by
  obtain⟨u,hu⟩:=q.rep.live p hp;rw[hu];exact st.keep p u hu (by simp)
 refine⟨fun cl=>?_,⟨G2,Hz,⟨hg.trans st.gg,fun p u e n=>st.keep p u e (by simp),fun p hp=>.inr (fresh p hp),fun p u e=>?_,st.there⟩,?_⟩⟩
 ·have apart:∀p∈Hz,p∉fp:=fun p hp hf=>by
   obtain⟨u,hu⟩:=q.rep.live p hf;rw[fresh p hp]at hu;cases hu
  have g3:Same G (fun p=>if p∈fp then none else G2 p):=fun p u e=>by
   show(if p∈fp then none else G2 p)=some u;rw[TC (fun z=>by rw[q.gn p z]at e;cases e)];exact st.gg p u (hg p u e)
  refine⟨fun p=>if p∈fp then none else G2 p,Hz++fp,⟨g3,fun p u e n=>st.keep p u e (by simp),fun p hp=>?_,fun p u e=>?_,st.there⟩,⟨⟨some v,vs,rfl,v,Hz,fp,rfl,rfl,r1.clean (fun p u t e=>?_) cl,q.rep.step g3 kept⟩,?_,fun p hp=>?_,fun p u e=>?_⟩⟩
  ·rcases T3.mp hp with hp|hp
   ·exact .inr (fresh p hp)
   ·exact .inl hp
  ·have e:(if p∈fp then none else G2 p)=some u:=e;by_cases hp:p∈fp
   ·rw[Tw hp]at e;cases e
   ·rw[TC hp]at e;rcases st.gnew p u e with z|z|z
    ·have z:(if p∈fp then H p else G p)=some u:=z;rw[TC hp]at z;exact .inl z
    ·cases z
    ·exact .inr (.inr z)
  ·show(if p∈fp then none else G2 p)=some u;by_cases hp:p∈fp
   ·exfalso;obtain⟨u',hu,hm⟩:=q.rep.mut p hp;have:=st.gg p u' (hk p hp u' hu);rw[e]at this;cases this;cases u with
    |lst _=>cases t
    |dK _=>cases t
    |dT _=>cases t
    |_=>cases hm
   ·rw[TC hp];exact e
  ·rw[T7];exact⟨k.nd,q.nd,fun p hp z hz e=>apart p hp (e▸hz)⟩
  ·show(if p∈fp then none else G2 p)=none;by_cases hf:p∈fp
   ·rw[Tw hf]
   ·rw[TC hf];rcases T3.mp hp with hp|hp
    ·exact k.gn p hp
    ·exact absurd hp hf
  ·have e:(if p∈fp then none else G2 p)=some u:=e;by_cases hp:p∈fp
   ·rw[Tw hp]at e;cases e
   ·rw[TC hp]at e;exact k.gh p u e
 ·rcases st.gnew p u e with z|z|z
  ·have z:(if p∈fp then H p else G p)=some u:=z;by_cases hp:p∈fp
   ·exact .inr (.inl hp)
   ·rw[TC hp]at z;exact .inl z
  ·cases z
  ·exact .inr (.inr z)
 ·refine⟨⟨some v,vs,rfl,v,Hz,[],rfl,(Ui _).symm,r1,q.rep.frz (hg.trans st.gg) fun p hp u e=>st.gg p u (hk p hp u e)⟩,k.nd,k.gn,k.gh⟩
end
end PV
namespace PV
open PySem PySem.Spec PyProof.Rows L2 NX
def Res.bind{α β:Type}:Res α->(α->Res β)->Res β
 | .ok a,f=>f a
 | .exc c,_=>.exc c
 | .bad,_=>.bad
inductive BindOk{α β:Type}(x:Res α)(f:α->Res β)(b:β):Prop
 |mk (a:α) (h:x=.ok a) (k:f a=.ok b):BindOk x f b
theorem ai{α β:Type}{x:Res α}{f:α->Res β}{b:β}(h:x.bind f=.ok b):BindOk x f b:=by
 cases x with
 |ok a=>exact⟨a,rfl,h⟩
 |exc c=>cases h
 |bad=>cases h
inductive Opd where
 |val (d:D)|var (i:Nat)
def OpdOk(K:W.Frag)(G:Hp)(σ:L2.St):Opd->V->Prop
 | .val d,v=>Rep K G d v
 | .var i,v=>σ[i]?=some (some v)
theorem OpdOk.mono{K:W.Frag}{G G':Hp}{σ:L2.St}{o:Opd}{v:V}(h:Same G G')(r:OpdOk K G σ o v):OpdOk K G' σ o v:=by
 cases o with
 |val d=>exact Rep.mono h r
 |var i=>exact r
def p0(K:W.Frag)(G:Hp)(σ:L2.St):List Opd->List V->Prop
 |[],vs=>vs=[]
 |o::os,vs=>∃y ys,vs=y::ys/\OpdOk K G σ o y/\p0 K G σ os ys
def xU:O->Bool
 | .f=>true
 | .l .f=>true
 | .d=>true
 | .pin _ .f=>true
 | .pin _ (.l .f)=>true
 | .pin _ .d=>true
 |_=>false
def Jl(env:PV.Env):Opd->Res D
 | .val d=>.ok d
 | .var i=>match env[i]? with
  |some (some r)=>if xU r.1 then .ok r.2 else .bad
  |_=>.bad
def oE(env:PV.Env):Opd->Res D
 | .val d=>.ok d
 | .var i=>match env[i]? with
  |some (some r)=>.ok r.2
  |_=>.bad
def se(env:PV.Env):List Opd->Res (List D)
 |[]=>.ok []
 |o::os=>(Jl env o).bind fun d=>(se env os).bind fun ds=>.ok (d::ds)
def kx(env:PV.Env):List Opd->Res (List D)
 |[]=>.ok []
 |o::os=>(oE env o).bind fun d=>(kx env os).bind fun ds=>.ok (d::ds)
def Vw(K:W.Frag)(G H:Hp):D->V->Prop
 | .lst ds,v=>∃p xs,v=.ref p/\SqL K H p xs/\Reps K G ds xs
 | .dct tk ks vs,v=>∃p xs o,v=.ref p/\Rd H p o/\DictO o tk ks xs/\Reps K G vs xs
 |d,v=>Rep K G d v
def QY(K:W.Frag)(G H:Hp):List D->List V->Prop
 |[],vs=>vs=[]
 |d::ds,vs=>∃y ys,vs=y::ys/\Vw K G H d y/\QY K G H ds ys
section
variable{K:W.Frag}{G G' H H':Hp}{es:PV.Env}{σ:L2.St}{fp:List Addr}
theorem Vw.of{d:D}{v:V}(gh:Same G H)(r:Rep K G d v):Vw K G H d v:=by
 cases d with
 |lst ds=>
  rw[Rep]at r;obtain⟨p,xs,e,q,rs⟩:=r;exact⟨p,xs,e,gm gh q,rs⟩
 |dct tk ks vs=>
  rw[Rep]at r;obtain⟨p,xs,o,e,q,dd,rs⟩:=r;exact⟨p,xs,o,e,PV.Rd.mono gh q,dd,rs⟩
 |_=>exact r
theorem RepO.vw0{o:O}{d:D}{v:V}{a:List Addr}(gh:Same G H)(hs:o=.f\/o=.l .f\/o=.d)(r:RepO K G H o d v a):Vw K G H d v:=by
 rcases hs with rfl|rfl|rfl
 ·exact Vw.of gh (d3.mp r).1
 ·cases d with
  |lst ds=>
   obtain⟨p,xs,e,q,_,rs⟩:=gP.mp r;exact⟨p,xs,e,SqL.of q,rs⟩
  |_=>simp only[RepO]at r
 ·cases d with
  |dct tk ks vs=>
   rw[RepO]at r;obtain⟨p,xs,o,e,q,dd,_,rs⟩:=r;exact⟨p,xs,o,e,.inl q,dd,rs⟩
  |_=>simp only[RepO]at r
theorem RepO.vw{o:O}{d:D}{v:V}{a:List Addr}(gh:Same G H)(hs:xU o=true)(r:RepO K G H o d v a):Vw K G H d v:=by
 unfold xU at hs;split at hs
 ·exact r.vw0 gh (.inl rfl)
 ·exact r.vw0 gh (.inr (.inl rfl))
 ·exact r.vw0 gh (.inr (.inr rfl))
 ·rw[RepO]at r;exact r.2.vw0 gh (.inl rfl)
 ·rw[RepO]at r;exact r.2.vw0 gh (.inr (.inl rfl))
 ·rw[RepO]at r;exact r.2.vw0 gh (.inr (.inr rfl))
 ·cases hs
theorem Rel.vw{o:Opd}{v:V}{d:D}(q:Rel K G H es σ fp)(k:OpdOk K G σ o v)(e:Jl es o=.ok d):Vw K G H d v:=by
 cases o with
 |val d'=>
  cases e;exact Vw.of q.gh k
 |var i=>
  unfold Jl at e;dsimp only at e;split at e
  ·rename_i r hr;split at e
   ·rename_i hs;cases e;obtain⟨v',a,b,ev,r1,_⟩:=q.rep.take hr;have k:σ[i]?=some (some v):=k;rw[k]at ev;cases ev;exact r1.vw q.gh hs
   ·cases e
  ·cases e
theorem Rel.vwA{o:Opd}{v:V}{d:D}(q:Rel K G H es σ fp)(k:OpdOk K G σ o v)(e:oE es o=.ok d):Rep K H d v:=by
 cases o with
 |val d'=>
  cases e;exact Rep.mono q.gh k
 |var i=>
  unfold oE at e;dsimp only at e;split at e
  ·rename_i r hr;cases e;obtain⟨v',ev,r1⟩:=q.view hr;have k:σ[i]?=some (some v):=k;rw[k]at ev;cases ev;exact r1
  ·cases e
theorem Rel.vws(q:Rel K G H es σ fp):∀{os:List Opd}{vs:List V}{ds:List D},p0 K G σ os vs->se es os=.ok ds->QY K G H ds vs
 |[],_,_,k,e=>by
  cases e;exact k
 |o::os,_,_,⟨y,ys,e0,k1,k2⟩,e=>by
  unfold se at e;obtain⟨d,e1,e⟩:=ai e;obtain⟨ds,e2,e⟩:=ai e;cases e;exact⟨y,ys,e0,q.vw k1 e1,Rel.vws q k2 e2⟩
theorem jI{G1:Hp}(gg:Same G G1)(ht:∀(i:Nat) (r:R) (v:V),es[i]?=some (some r)->σ[i]?=some (some v)->Rep K G1 r.2 v):∀{os:List Opd}{vs:List V}{ds:List D},p0 K G σ os vs->kx es os=.ok ds->Reps K G1 ds vs
 |[],_,_,k,e=>by
  cases e;have k:_=_:=k;rw[k];exact Reps.nil
 |o::os,_,_,⟨y,ys,e0,k1,k2⟩,e=>by
  unfold kx at e;obtain⟨d,e1,e⟩:=ai e;obtain⟨ds,e2,e⟩:=ai e;cases e;rw[e0];refine .cons ?_ (jI gg ht k2 e2);cases o with
  |val d'=>
   cases e1;exact Rep.mono gg k1
  |var i=>
   unfold oE at e1;dsimp only at e1;split at e1
   ·rename_i r hr;cases e1;exact ht i r y hr k1
   ·cases e1
end
abbrev FX:=PV.Env->Res (R×PV.Env)
abbrev FO:=PV.Env->Res (Opd×PV.Env)
abbrev FOs:=PV.Env->Res (List Opd×PV.Env)
abbrev FT:=PV.Env->Res (Bool×PV.Env)
inductive Out where
 |nx (env:PV.Env)|rt (r:R)|bk (env:PV.Env)|ct (env:PV.Env)
abbrev FS:=PV.Env->Res Out
inductive tQ(K:W.Frag)(f:FX)(σ:L2.St)(H:Hp)(Q:VK):Prop
 |mk:∀G env fp r env',Rel K G H env σ fp->f env=.ok (r,env')->(∀v H' G' GZ,Step G H fp G' H' GZ->Rel K G' H' (some r::env') (some v::σ) GZ->Q v H')->tQ K f σ H Q
inductive tO(K:W.Frag)(f:FO)(σ:L2.St)(H:Hp)(Q:VK):Prop
 |mk:∀G env fp o env',Rel K G H env σ fp->f env=.ok (o,env')->(∀v H' G' GZ,Step G H fp G' H' GZ->Rel K G' H' env' σ GZ->OpdOk K G' σ o v->Q v H')->tO K f σ H Q
inductive tOs(K:W.Frag)(f:FOs)(σ:L2.St)(H:Hp)(Q:List V->Hp->Prop):Prop
 |mk:∀G env fp o env',Rel K G H env σ fp->f env=.ok (o,env')->(∀v H' G' GZ,Step G H fp G' H' GZ->Rel K G' H' env' σ GZ->p0 K G' σ o v->Q v H')->tOs K f σ H Q
inductive tQT(K:W.Frag)(f:FT)(σ:L2.St)(H:Hp)(Q:Bool->Hp->Prop):Prop
 |mk:∀G env fp b env',Rel K G H env σ fp->f env=.ok (b,env')->(∀H' G' GZ,Step G H fp G' H' GZ->Rel K G' H' env' σ GZ->Q b H')->tQT K f σ H Q
inductive Mode where
 |plain|mut
def Fu(md:Mode)(K:W.Frag)(G H:Hp)(r:R)(v:V)(fp:List Addr):Prop:=match md with
 | .plain=>Rel K G H [some r] [some v] fp
 | .mut=>∃o d p c d0,r=(.t [o,.pin p c],.tup [d,d0])/\Rel K G H [some (o,d),some (.pin p c,d0)] [some v,some (.ref p)] fp
noncomputable def OutOk{md:Mode}(K:W.Frag)(G H:Hp)(fp:List Addr)(Dd:Ends):Res Out->Prop
 | .ok (.nx env')=>∀σ' H' G' GZ,Step G H fp G' H' GZ->Rel K G' H' env' σ' GZ->Dd.nx σ' H'
 | .ok (.bk env')=>∀σ' H' G' GZ,Step G H fp G' H' GZ->Rel K G' H' env' σ' GZ->Dd.bk σ' H'
 | .ok (.ct env')=>∀σ' H' G' GZ,Step G H fp G' H' GZ->Rel K G' H' env' σ' GZ->Dd.ct σ' H'
 | .ok (.rt r)=>∀v H' G' GZ,Step G H fp G' H' GZ->Fu md K G' H' r v GZ->Dd.rt v H'
 |_=>False
inductive tQS{md:Mode}(K:W.Frag)(g:FS)(Dd:Ends)(σ:L2.St)(H:Hp):Prop
 |mk:∀G env fp,Rel K G H env σ fp->OutOk (md:=md) K G H fp Dd (g env)->tQS (md:=md) K g Dd σ H
def QE(X:Cx)(e:Expr)(f:FX):Prop:=PE X e (tQ X.K f)
def QO(X:Cx)(e:Expr)(f:FO):Prop:=PE X e (tO X.K f)
def L1(X:Cx)(es:List Expr)(f:FOs):Prop:=PA X es (tOs X.K f)
def QT(X:Cx)(e:Expr)(f:FT):Prop:=PT X e (tQT X.K f)
def QW(X:Cx)(e:Expr)(f:FT):Prop:=PW X e (tQT X.K f)
def QS{md:Mode}(X:Cx)(st:Stmt)(g:FS):Prop:=PS X st (tQS (md:=md) X.K g)
def LJ{md:Mode}(X:Cx)(st:List Stmt)(g:FS):Prop:=PSs X st (tQS (md:=md) X.K g)
theorem bK{X:Cx}{e:Expr}{t t':TE}(h:PE X e t)(k:∀σ H Q,t' σ H Q->t σ H Q):PE X e t':=fun pr s σ H Q I w=>h pr s σ H Q I (k σ H Q w)
theorem nj{X:Cx}{e:Expr}{t t':TT}(h:PT X e t)(k:∀σ H Q,t' σ H Q->t σ H Q):PT X e t':=fun pr s σ H Q I w=>h pr s σ H Q I (k σ H Q w)
theorem xV{X:Cx}{e:Expr}{t t':TT}(h:PW X e t)(k:∀σ H Q,t' σ H Q->t σ H Q):PW X e t':=fun wh pr s σ H Q I w=>h wh pr s σ H Q I (k σ H Q w)
theorem p5{X:Cx}{e:List Expr}{t t':TA}(h:PA X e t)(k:∀σ H Q,t' σ H Q->t σ H Q):PA X e t':=fun pos pr s σ H Q I w=>h pos pr s σ H Q I (k σ H Q w)
theorem d4{X:Cx}{e:Stmt}{t t':TS}(h:PS X e t)(k:∀D σ H,t' D σ H->t D σ H):PS X e t':=fun pr s σ H D I w=>h pr s σ H D I (k D σ H w)
theorem tY{X:Cx}{e:List Stmt}{t t':TS}(h:PSs X e t)(k:∀D σ H,t' D σ H->t D σ H):PSs X e t':=fun pr s σ H D I w=>h pr s σ H D I (k D σ H w)
theorem OutOk.imp{md:Mode}{K:W.Frag}{G H G1 H1:Hp}{fp Hq:List Addr}{Dd P0:Ends}{r:Res Out}(st:Step G H fp G1 H1 Hq)(h:OutOk (md:=md) K G H fp Dd r)(n:∀σ H,Dd.nx σ H->P0.nx σ H)(b:∀σ H,Dd.bk σ H->P0.bk σ H)(c:∀σ H,Dd.ct σ H->P0.ct σ H)(t:∀v H,Dd.rt v H->P0.rt v H):OutOk (md:=md) K G1 H1 Hq P0 r:=by
 match r,h with
 | .ok (.nx env'),h=>exact fun σ' H' G' GZ s q=>n _ _ (h σ' H' G' GZ (st.trans s) q)
 | .ok (.bk env'),h=>exact fun σ' H' G' GZ s q=>b _ _ (h σ' H' G' GZ (st.trans s) q)
 | .ok (.ct env'),h=>exact fun σ' H' G' GZ s q=>c _ _ (h σ' H' G' GZ (st.trans s) q)
 | .ok (.rt r),h=>exact fun v H' G' GZ s q=>t _ _ (h v H' G' GZ (st.trans s) q)
theorem OutOk.after{md:Mode}{K:W.Frag}{G H G1 H1:Hp}{fp Hq:List Addr}{Dd:Ends}{r:Res Out}(st:Step G H fp G1 H1 Hq)(h:OutOk (md:=md) K G H fp Dd r):OutOk (md:=md) K G1 H1 Hq Dd r:=h.imp st (fun _ _ z=>z) (fun _ _ z=>z) (fun _ _ z=>z) fun _ _ z=>z
def aH(d:D):FX:=fun env=>.ok ((.f,d),env)
def fz:O->O
 | .pin p .f=>.pin p .f
 |_=>.f
def aB(i:Nat):FX:=fun env=>match env[i]? with
 |some (some r)=>.ok ((.f,r.2),env.set i (some (fz r.1,r.2)))
 |_=>.bad
def ky(i:Nat):FX:=fun env=>match env[i]? with
 |some (some r)=>.ok (r,env.set i none)
 |_=>.bad
def aq(f:FX):FO:=fun env=>(f env).bind fun p=>.ok (.val p.1.2,p.2)
def aj(i:Nat):FO:=fun env=>match env[i]? with
 |some (some _)=>.ok (.var i,env)
 |_=>.bad
def ay:FOs:=fun env=>.ok ([],env)
def ag(f:FO)(g:FOs):FOs:=fun env=>(f env).bind fun p=>(g p.2).bind fun q=>.ok (p.1::q.1,q.2)
section
variable{X:Cx}
theorem p6{e:Expr}{v:V}{d:D}(h:PE X e (tC v))(r:∀G,Rep X.K G d v):QE X e (aH d):=bK h fun σ H Q Hc=>by
 obtain⟨G,env,fp,rr,env',rel,e,k⟩:=Hc;cases e;exact k v H G fp .refl (rel.push (r G))
theorem av{i j pos}:QE X (.Constant (.int i) j pos) (aH (.int i)):=p6 A1 fun G=>by rw[Rep]
theorem lI{i j pos}:QE X (.Constant (.bool i) j pos) (aH (.bl i)):=p6 DO fun G=>by rw[Rep]
theorem p7{j pos}:QE X (.Constant .none j pos) (aH .non):=p6 A2 fun G=>by rw[Rep]
theorem di{x j pos}{l:List Nat}(h:x=S l)(hl:l.length<=1000):QE X (.Constant (.str x) j pos) (aH (.str l)):=p6 A3 fun G=>by
 rw[Rep,h];exact⟨rfl,by rw[line_eq];lia⟩
theorem au{i:Nat}{e:Expr}(h:PE X e (sd i)):QE X e (aB i):=bK h fun σ H Q Hc=>by
 obtain⟨G,env,fp,rr,env',rel,e,k⟩:=Hc;unfold aB at e;split at e
 ·rename_i r hr;cases e;by_cases hf:fz r.1=.f
  ·obtain⟨v,G',fq,ev,rv,HJ,st⟩:=rel.freezeAt hr;rw[hf]at k;exact⟨v,ev,k v H G' fq st (HJ.push rv)⟩
  ·have hp:∃p,r.1=.pin p .f:=by
    unfold fz at hf;split at hf
    ·rename_i p hp;exact⟨p,hp⟩
    ·exact absurd rfl hf
   obtain⟨p,hp⟩:=hp;obtain⟨v,a,b,ev,r1,_,_⟩:=rel.rep.take hr;rw[hp,RepO]at r1;have es:env.set i (some (fz r.1,r.2))=env:=by
    refine hZ ?_;rw[hr,hp];show some (some r)=some (some (.pin p .f,r.2));rw[<-hp]
   rw[es]at k;exact⟨v,ev,k v H G fp .refl (rel.push (d3.mp r1.2).1)⟩
 ·cases e
theorem gQ{i:Nat}{e:Expr}(h:PE X e (sd i)):QE X e (ky i):=bK h fun σ H Q Hc=>by
 obtain⟨G,env,fp,rr,env',rel,e,k⟩:=Hc;unfold ky at e;split at e
 ·rename_i r hr;cases e;obtain⟨v,fq,ev,HJ,st,_⟩:=rel.out hr;exact⟨v,ev,k v H G fq st HJ⟩
 ·cases e
theorem ab{e:Expr}{f:FX}(h:QE X e f):QO X e (aq f):=bK h fun σ H Q Hc=>by
 obtain⟨G,env,fp,o,env',rel,e,k⟩:=Hc;obtain⟨⟨r,GV⟩,e1,e⟩:=ai e;cases e;refine⟨G,env,fp,r,GV,rel,e1,fun v H' G' GZ st HJ=>?_⟩;obtain⟨G2,b,rv,GW,G9⟩:=HJ.freeze;exact k v H' G2 b (st.trans G9) GW rv
theorem af{i:Nat}{e:Expr}(h:PE X e (sd i)):QO X e (aj i):=bK h fun σ H Q Hc=>by
 obtain⟨G,env,fp,o,env',rel,e,k⟩:=Hc;unfold aj at e;split at e
 ·rename_i r hr;cases e;obtain⟨v,ev,_⟩:=rel.view hr;exact⟨v,ev,k v H G fp .refl rel ev⟩
 ·cases e
theorem ao:L1 X [] ay:=p5 sP fun σ H Q Hc=>by
 obtain⟨G,env,fp,o,env',rel,e,k⟩:=Hc;cases e;exact k [] H G fp .refl rel rfl
theorem ae{e:Expr}{es:List Expr}{f:FO}{g:FOs}(h:QO X e f)(hs:L1 X es g)(NV:starEach (e::es) X.env=(false,eval e X.env)::starEach es X.env:=by rfl):L1 X (e::es) (ag f g):=
 p5 (ll h hs NV) fun σ H Q Hc=>by
  obtain⟨G,env,fp,o,env',rel,e,k⟩:=Hc;obtain⟨⟨o1,GV⟩,e1,e⟩:=ai e;obtain⟨⟨os,Hd⟩,e2,e⟩:=ai e;cases e;exact⟨G,env,fp,o1,GV,rel,e1,fun v H1 G1 Hq Hh GY Jy=>⟨G1,GV,Hq,os,Hd,GY,e2,fun vs H2 G2 Hz G9 GW Oe=>k _ H2 G2 Hz (Hh.trans G9) GW ⟨v,vs,rfl,Jy.mono G9.gg,Oe⟩⟩⟩
def aF(g:D->D->Res R)(fa fb:FO):FX:=fun env=>(fa env).bind fun p=>(fb p.2).bind fun q=>(Jl q.2 p.1).bind fun a=>(Jl q.2 q.1).bind fun b=>(g a b).bind fun r=>.ok (r,q.2)
def a7(g:D->D->Res R)(fa fb:FO):FX:=fun env=>(fa env).bind fun p=>(fb p.2).bind fun q=>(oE q.2 p.1).bind fun a=>(oE q.2 q.1).bind fun b=>(g a b).bind fun r=>.ok (r,q.2)
structure Goes(K:W.Frag)(H:Hp)(G:Hp)(fp:List Addr)(es:PV.Env)(vs:L2.St)(r:R)(Q:VK):Prop where
 rel:Rel K G H es vs fp
 goes:∀v H' G' GZ,Step G H fp G' H' GZ->Rel K G' H' (some r::es) (some v::vs) GZ->Q v H'
inductive rG(K:W.Frag)(g:D->D->Res R)(x:V)(y:V)(H:Hp)(Q:VK):Prop
 |mk:∀G fp es vs a b r,Goes K H G fp es vs r Q->Vw K G H a x->Vw K G H b y->g a b=.ok r->rG K g x y H Q
inductive rGA(K:W.Frag)(g:D->D->Res R)(x:V)(y:V)(H:Hp)(Q:VK):Prop
 |mk:∀G fp es vs a b r,Goes K H G fp es vs r Q->Rep K H a x->Rep K H b y->g a b=.ok r->rGA K g x y H Q
variable{a b c:Expr}{fa fb fc:FO}{pos:Pos}{g g':D->D->Res R}
theorem tZ{σ:L2.St}{H:Hp}{Q:VK}(h:tQ X.K (aF g fa fb) σ H Q):Pe (rG X.K g) (tO X.K fa) (tO X.K fb) σ H Q:=by
 obtain⟨G,env,fp,r,env',rel,e,k⟩:=h;obtain⟨⟨oa,e1⟩,ha,e⟩:=ai e;obtain⟨⟨ob,e2⟩,hb,e⟩:=ai e;obtain⟨da,P1,e⟩:=ai e;obtain⟨db,JG,e⟩:=ai e;obtain⟨r',hr,e⟩:=ai e;cases e;exact⟨G,env,fp,oa,e1,rel,ha,fun x H1 G1 Hq Hh GY Jy=>⟨G1,e1,Hq,ob,e2,GY,hb,fun y H2 G2 Hz G9 GW Oe=>
  ⟨G2,Hz,e2,σ,da,db,r,⟨GW,fun v H' G' GZ st HJ=>k v H' G' GZ (Hh.trans (G9.trans st)) HJ⟩,GW.vw (Jy.mono G9.gg) P1,GW.vw Oe JG,hr⟩⟩⟩
theorem ua{σ:L2.St}{H:Hp}{Q:VK}(h:tQ X.K (a7 g fa fb) σ H Q):Pe (rGA X.K g) (tO X.K fa) (tO X.K fb) σ H Q:=by
 obtain⟨G,env,fp,r,env',rel,e,k⟩:=h;obtain⟨⟨oa,e1⟩,ha,e⟩:=ai e;obtain⟨⟨ob,e2⟩,hb,e⟩:=ai e;obtain⟨da,P1,e⟩:=ai e;obtain⟨db,JG,e⟩:=ai e;obtain⟨r',hr,e⟩:=ai e;cases e;exact⟨G,env,fp,oa,e1,rel,ha,fun x H1 G1 Hq Hh GY Jy=>⟨G1,e1,Hq,ob,e2,GY,hb,fun y H2 G2 Hz G9 GW Oe=>
  ⟨G2,Hz,e2,σ,da,db,r,⟨GW,fun v H' G' GZ st HJ=>k v H' G' GZ (Hh.trans (G9.trans st)) HJ⟩,GW.vwA (Jy.mono G9.gg) P1,GW.vwA Oe JG,hr⟩⟩⟩
theorem aQ{op:Operator}(ho:HI X (binaryOp op) (rG X.K g))(ha:QO X a fa)(hb:QO X b fb):QE X (.BinOp a op b pos) (aF g fa fb):=bK (D2 ho ha hb) fun _ _ _=>tZ
theorem lJ{op:CmpOp}(ho:HI X (compareOp op) (rGA X.K g))(ha:QO X a fa)(hb:QO X b fb)(hm:behindInMarks op b=false):QE X (.Compare a [op] [b] pos) (a7 g fa fb):=bK (yQ ho ha hb hm) fun _ _ _=>ua
def Hs(f:FX):FT:=fun env=>(f env).bind fun p=>match p.1.2 with
 | .bl k=>.ok (k,p.2)
 |_=>.bad
theorem zr{f:FX}{σ:L2.St}{H:Hp}{Q:Bool->Hp->Prop}(h:tQT X.K (Hs f) σ H Q):tQ X.K f σ H fun x H'=>∃k,x=.bl k/\Q k H':=by
 obtain⟨G,env,fp,k,env',rel,e,q⟩:=h;obtain⟨⟨⟨o,d⟩,GV⟩,e1,e⟩:=ai e;dsimp only at e;split at e
 ·cases e;refine⟨G,env,fp,_,_,rel,e1,fun v H' G' GZ st HJ=>?_⟩;have hv:=HJ.top;rw[show((o,D.bl k):R).2=D.bl k from rfl,Rep]at hv;obtain⟨b,GW,G9⟩:=HJ.drop;exact⟨k,hv,q H' G' b (st.trans G9) GW⟩
 ·cases e
theorem kQ{e:Expr}{f:FX}(h:QE X e f)(he:∀whole,isTrue e X.env whole=(do let v <-whole;standAt e.pos;holding [v] (truthy v)):=by intro _;rfl):QT X e (Hs f):=nj (A4 h he) fun _ _ _=>zr
theorem jJ{op:CmpOp}(ho:HI X (compareOp op) (rG X.K g))(ha:QO X a fa)(hb:QO X b fb)(hm:behindInMarks op b=false):QT X (.Compare a [op] [b] pos) (Hs (aF g fa fb)):=
 nj (sO ho ha hb hm) fun _ _ _ h=>tZ (zr h)
theorem aU{op:CmpOp}(ho:HI X (compareOp op) (rGA X.K g))(ha:QO X a fa)(hb:QO X b fb)(hm:behindInMarks op b=false):QT X (.Compare a [op] [b] pos) (Hs (a7 g fa fb)):=
 nj (sO ho ha hb hm) fun _ _ _ h=>ua (zr h)
def BS(f g:FT):FT:=fun env=>(f env).bind fun p=>if p.1 then g p.2 else .ok (false,p.2)
def Pl(f g:FT):FT:=fun env=>(f env).bind fun p=>if p.1 then .ok (true,p.2) else g p.2
def BU(f:FT):FT:=fun env=>(f env).bind fun p=>.ok (!p.1,p.2)
variable{ga gb:FT}{bG:List Expr}
theorem oP(h:QT X a ga):QW X (.BoolOp .And [a] pos) ga:=yI h
theorem p8(h:QT X a ga):QW X (.BoolOp .Or [a] pos) ga:=A5 h
theorem ub(h:QT X a ga)(h2:QW X (.BoolOp .And (b::bG) pos) gb):QW X (.BoolOp .And (a::b::bG) pos) (BS ga gb):=xV (A6 h h2) fun σ H Q Hc=>by
 obtain⟨G,env,fp,k,env',rel,e,q⟩:=Hc;obtain⟨⟨k1,GV⟩,e1,e⟩:=ai e;refine⟨G,env,fp,k1,GV,rel,e1,fun H1 G1 Hq Hh GY=>?_⟩;dsimp only at e;cases k1 with
 |true=>exact⟨G1,GV,Hq,k,env',GY,e,fun H2 G2 Hz G9 GW=>q H2 G2 Hz (Hh.trans G9) GW⟩
 |false=>
  cases e;exact q H1 G1 Hq Hh GY
theorem wV(h:QT X a ga)(h2:QW X (.BoolOp .Or (b::bG) pos) gb):QW X (.BoolOp .Or (a::b::bG) pos) (Pl ga gb):=xV (DP h h2) fun σ H Q Hc=>by
 obtain⟨G,env,fp,k,env',rel,e,q⟩:=Hc;obtain⟨⟨k1,GV⟩,e1,e⟩:=ai e;refine⟨G,env,fp,k1,GV,rel,e1,fun H1 G1 Hq Hh GY=>?_⟩;dsimp only at e;cases k1 with
 |false=>exact⟨G1,GV,Hq,k,env',GY,e,fun H2 G2 Hz G9 GW=>q H2 G2 Hz (Hh.trans G9) GW⟩
 |true=>
  cases e;exact q H1 G1 Hq Hh GY
theorem QW.qt{e:Expr}{f:FT}(h:QW X e f):QT X e f:=h.pt
theorem uc(h:QT X a ga):QT X (.UnaryOp .Not a pos) (BU ga):=nj (A7 h) fun σ H Q Hc=>by
 obtain⟨G,env,fp,k,env',rel,e,q⟩:=Hc;obtain⟨⟨k1,GV⟩,e1,e⟩:=ai e;cases e;exact⟨G,env,fp,k1,GV,rel,e1,fun H1 G1 Hq Hh GY=>q H1 G1 Hq Hh GY⟩
def Em(f g:FX):FX:=fun env=>(f env).bind fun p=>match p.1.2 with
 | .bl true=>g p.2
 | .bl false=>.ok ((.f,.bl false),p.2)
 |_=>.bad
def eOr(f g:FX):FX:=fun env=>(f env).bind fun p=>match p.1.2 with
 | .bl true=>.ok ((.f,.bl true),p.2)
 | .bl false=>g p.2
 |_=>.bad
def En(f:FX):FX:=fun env=>(f env).bind fun p=>match p.1.2 with
 | .bl k=>.ok ((.f,.bl (!k)),p.2)
 |_=>.bad
def eIf(c:FT)(f g:FX):FX:=fun env=>(c env).bind fun p=>if p.1 then f p.2 else g p.2
variable{ea eb:FX}
theorem BV{op}(h:QE X a ea):QE X (.BoolOp op [a] pos) ea:=A8 h
theorem cJ{K:W.Frag}{G:Hp}(k:Bool):Rep K G (.bl k) (.bl k):=by rw[Rep]
theorem rep_int{K:W.Frag}{G:Hp}(k:Int):Rep K G (.int k) (.int k):=by rw[Rep]
theorem lK{K:W.Frag}{G:Hp}:Rep K G .non .non:=by rw[Rep]
theorem gR{K:W.Frag}{G:Hp}{l:List Nat}(h:l.length<=sizeLine):Rep K G (.str l) (.str (S l)):=by
 rw[Rep];exact⟨rfl,h⟩
theorem cA{K:W.Frag}{G:Hp}{k:Bool}{v:V}(h:Rep K G (.bl k) v):v=.bl k:=by rw[Rep]at h;exact h
theorem bA{K:W.Frag}{G:Hp}{k:Int}{v:V}(h:Rep K G (.int k) v):v=.int k:=by rw[Rep]at h;exact h
theorem bT{K:W.Frag}{G:Hp}{v:V}(h:Rep K G .non v):v=.non:=by rw[Rep]at h;exact h
theorem bf{K:W.Frag}{G:Hp}{l:List Nat}{v:V}(h:Rep K G (.str l) v):v=.str (S l)/\l.length<=sizeLine:=by rw[Rep]at h;exact h
inductive OfT(K:W.Frag)(G:Hp)(l:List D)(v:V):Prop
 |mk (p:Addr) (xs:List V) (e:v=.ref p) (q:SqT K G p xs) (r:Reps K G l xs):OfT K G l v
inductive OfL(K:W.Frag)(G:Hp)(l:List D)(v:V):Prop
 |mk (p:Addr) (xs:List V) (e:v=.ref p) (q:SqL K G p xs) (r:Reps K G l xs):OfL K G l v
theorem bw{K:W.Frag}{G:Hp}{l:List D}{v:V}(h:Rep K G (.tup l) v):OfT K G l v:=by
 rw[Rep]at h;obtain⟨p,xs,e,q,r⟩:=h;exact⟨p,xs,e,SqT.of q,r⟩
theorem ud{K:W.Frag}{G:Hp}{l:List D}{v:V}(h:Rep K G (.tup l) v):∃p xs,v=.ref p/\G p=some (.tup xs)/\Reps K G l xs:=by rw[Rep]at h;exact h
theorem bx{K:W.Frag}{G:Hp}{l:List D}{v:V}(h:Rep K G (.lst l) v):OfL K G l v:=by
 rw[Rep]at h;obtain⟨p,xs,e,q,r⟩:=h;exact⟨p,xs,e,q,r⟩
theorem bg{K:W.Frag}{G H:Hp}{k:Int}{v:V}(h:Vw K G H (.int k) v):v=.int k:=bA (K:=K) (G:=G) h
theorem iZ{K:W.Frag}{G H:Hp}{l:List Nat}{v:V}(h:Vw K G H (.str l) v):v=.str (S l)/\l.length<=sizeLine:=bf (K:=K) (G:=G) h
theorem fI{K:W.Frag}{G H:Hp}{l:List D}{v:V}(h:Vw K G H (.tup l) v):OfT K G l v:=bw (K:=K) (G:=G) h
theorem BW(h:QE X a ea)(h2:QE X (.BoolOp .And (b::bG) pos) eb):QE X (.BoolOp .And (a::b::bG) pos) (Em ea eb):=bK (A9 h h2) fun σ H Q Hc=>by
 obtain⟨G,env,fp,r,env',rel,e,q⟩:=Hc;obtain⟨⟨⟨o,d⟩,GV⟩,e1,e⟩:=ai e;refine⟨G,env,fp,_,GV,rel,e1,fun v H1 G1 Hq Hh GY=>?_⟩;have hv:=GY.top;obtain⟨b',GW,G9⟩:=GY.drop;dsimp only at e hv;split at e
 ·exact⟨true,cA hv,Bx ⟨G1,GV,b',r,env',GW,e,fun v H2 G2 Hz Hx HB=>q v H2 G2 Hz (Hh.trans (G9.trans Hx)) HB⟩⟩
 ·cases e;exact⟨false,cA hv,iteF (q _ H1 G1 b' (Hh.trans G9) (GW.push (cJ _)))⟩
 ·cases e
theorem BX(h:QE X a ea):QE X (.UnaryOp .Not a pos) (En ea):=bK (Ba h) fun σ H Q Hc=>by
 obtain⟨G,env,fp,r,env',rel,e,q⟩:=Hc;obtain⟨⟨⟨o,d⟩,GV⟩,e1,e⟩:=ai e;refine⟨G,env,fp,_,GV,rel,e1,fun v H1 G1 Hq Hh GY=>?_⟩;have hv:=GY.top;obtain⟨b',GW,G9⟩:=GY.drop;dsimp only at e hv;split at e
 ·cases e;exact⟨_,cA hv,q _ H1 G1 b' (Hh.trans G9) (GW.push (cJ _))⟩
 ·cases e
noncomputable def Fv(g g':D->D->Res R)(fa fb fc:FO):FX:=fun env=>(fa env).bind fun p=>(fb p.2).bind fun q=>(Jl q.2 p.1).bind fun a=>(Jl q.2 q.1).bind fun b=>(g a b).bind fun r=>match r with
 |(.f,.bl true)=>(fc q.2).bind fun t=>(Jl t.2 q.1).bind fun b=>(Jl t.2 t.1).bind fun c=>(g' b c).bind fun r=>.ok (r,t.2)
 |(.f,.bl false)=>.ok ((.f,.bl false),q.2)
 |_=>.bad
inductive rC(K:W.Frag)(g:List D->Res R)(xs:List V)(H:Hp)(Q:VK):Prop
 |mk:∀G fp es vs ds r,Goes K H G fp es vs r Q->QY K G H ds xs->g ds=.ok r->rC K g xs H Q
def bL(g:List D->Res R)(fs:FOs):FX:=fun env=>(fs env).bind fun p=>(se p.2 p.1).bind fun ds=>(g ds).bind fun r=>.ok (r,p.2)
theorem ue{gg:List D->Res R}{fs:FOs}{σ:L2.St}{H:Hp}{Q:VK}(h:tQ X.K (bL gg fs) σ H Q):Rj (rC X.K gg) (tOs X.K fs) σ H Q:=by
 obtain⟨G,env,fp,r,env',rel,e,k⟩:=h;obtain⟨⟨os,e1⟩,ha,e⟩:=ai e;obtain⟨ds,hd,e⟩:=ai e;obtain⟨r',hr,e⟩:=ai e;cases e;exact⟨G,env,fp,os,e1,rel,ha,fun vs H1 G1 Hq Hh GY Jy=>⟨G1,Hq,e1,σ,ds,r,⟨GY,fun v H' G' GZ st HJ=>k v H' G' GZ (Hh.trans st) HJ⟩,GY.vws Jy hd,hr⟩⟩
variable{x:Str}{p:Pos}{e:Expr}{es:List Expr}{gg:List D->Res R}{fs:FOs}{id T:String}
theorem a9(hc:dC X (.builtin id) (rC X.K gg))(hg:Gl X x)(hm:X.mg x=none)(hv:bootBuiltins x=some (.builtin id))(ha:L1 X (e::es) fs)(hn:x≠"__name__":=by decide)(JG:(x==("__debug__" : Str))=false:=by decide)
  (he:starEach (e::es) X.env=(false,eval e X.env)::starEach es X.env:=by rfl) (Jb:(backTo pos (starEach es X.env)).any (·.1)=false:=by rfl):QE X (.Call (.Name x p) (e::es) [] pos) (bL gg fs):=
 bK (pQ hc hg hm hv ha hn JG he Jb) fun _ _ _=>ue
theorem cX(hc:dC X (.type T) (rC X.K gg))(hg:Gl X x)(hm:X.mg x=none)(hv:bootBuiltins x=some (.type T))(ha:L1 X (e::es) fs)(hn:x≠"__name__":=by decide)(JG:(x==("__debug__" : Str))=false:=by decide)
  (he:starEach (e::es) X.env=(false,eval e X.env)::starEach es X.env:=by rfl) (Jb:(backTo pos (starEach es X.env)).any (·.1)=false:=by rfl):QE X (.Call (.Name x p) (e::es) [] pos) (bL gg fs):=
 bK (sS hc hg hm hv ha hn JG he Jb) fun _ _ _=>ue
inductive spF(K:W.Frag)(F:List D->Res R)(vs:List V)(H:Hp)(Q:VK)(zz:XK):Prop
 |mk:∀G ds r,Same G H->Reps K G ds vs->F ds=.ok r->(∀v H' G' GZ,Step G H [] G' H' GZ->Rel K G' H' [some r] [some v] GZ->Q v H')->spF K F vs H Q zz
def cK(F:List D->Res R)(fs:FOs):FX:=fun env=>(fs env).bind fun p=>(kx p.2 p.1).bind fun ds=>(F ds).bind fun r=>.ok (r,if aP r.1 r.2 then p.2 else p.2.map frz)
theorem aV{F:List D->Res R}{k:Nat}(C:Ct X.prog X.w X.K X.mg X.base x k (spF X.K F))(hr:Room k X.A)(hg:Gl X x)(ha:L1 X (e::es) fs)(JG:(x==("__debug__" : Str))=false:=by decide)
  (he:starEach (e::es) X.env=(false,eval e X.env)::starEach es X.env:=by rfl) (Jb:(backTo pos (starEach es X.env)).any (·.1)=false:=by rfl):QE X (.Call (.Name x p) (e::es) [] pos) (cK F fs):=
 bK (BC C hr hg ha JG he Jb) fun σ H Q Hc=>by
  obtain⟨G,env,fp,r,env',rel,e,k⟩:=Hc;obtain⟨⟨os,e1⟩,ha,e⟩:=ai e;obtain⟨ds,hd,e⟩:=ai e;obtain⟨r',hr,e⟩:=ai e;refine⟨G,env,fp,os,e1,rel,ha,fun vs H1 G1 Hq Hh GY Jy=>?_⟩;show spF X.K F (vs++[]) H1 Q _;rw[Ui];obtain⟨G2,MM,Of,Jc,_,Ii⟩:=GY.lend;refine⟨G2,ds,r',Of,jI MM Jc Jy hd,hr,fun v H' G' GZ st HJ=>?_⟩;obtain⟨k1,k2⟩:=Ii H' G' GZ r' v st HJ;by_cases hc:aP r'.1 r'.2=true
  ·rw[Tw hc]at e;cases e;obtain⟨G3,IY,Hx,HB⟩:=k1 hc;exact k v H' G3 IY (Hh.trans Hx) HB
  ·rw[TC hc]at e;cases e;obtain⟨G3,IY,Hx,HB⟩:=k2;exact k v H' G3 IY (Hh.trans Hx) HB
end
def sSeq(g1 g2:FS):FS:=fun env=>(g1 env).bind fun o=>match o with
 | .nx e=>g2 e
 |o=>.ok o
def cY:FS:=fun env=>.ok (.nx env)
def cM(i:Nat)(f:FX):FS:=fun env=>(f env).bind fun p=>if i<p.2.length then .ok (.nx (p.2.set i (some p.1))) else .bad
def oQ(f:FX):FS:=fun env=>(f env).bind fun p=>.ok (.nx p.2)
def dJ(f:FX):FS:=fun env=>(f env).bind fun p=>.ok (.rt p.1)
def Jm(c:FT)(g h:FS):FS:=fun env=>(c env).bind fun p=>if p.1 then g p.2 else h p.2
section
variable{md:Mode}{X:Cx}{st:Stmt}{RE:List Stmt}{g h:FS}{f:FX}{c:FT}{pos:Pos}{e:Expr}
theorem bz:LJ (md:=md) X [] cY:=tY yJ fun D σ H ⟨G,env,fp,rel,k⟩=>k σ H G fp .refl rel
theorem ar(a:QS (md:=md) X st g):LJ (md:=md) X [st] g:=yK a
theorem ah(a:QS (md:=md) X st g)(b:LJ (md:=md) X RE h):LJ (md:=md) X (st::RE) (sSeq g h):=tY (wm a b) fun D σ H Hc=>by
 obtain⟨G,env,fp,rel,k⟩:=Hc;refine⟨G,env,fp,rel,?_⟩;have k:OutOk X.K G H fp D ((g env).bind fun o=>match o with | .nx e=>h e|o=>.ok o):=k;match q:g env,k with
 | .ok (.nx GV),k=>exact fun σ1 H1 G1 Hq Hh GY=>⟨G1,GV,Hq,GY,OutOk.after Hh k⟩
 | .ok (.bk GV),k=>exact k
 | .ok (.ct GV),k=>exact k
 | .ok (.rt r),k=>exact k
theorem oR{K:W.Frag}{G H:Hp}{fp:List Addr}{D:Ends}{i:Nat}{env:PV.Env}{σ:L2.St}(rel:Rel K G H env σ fp)(k:OutOk (md:=md) K G H fp D (cM i f env)):tQ K f σ H fun v H'=>D.nx (σ.set i (some v)) H':=by
 unfold cM at k;match q:f env,k with
 | .ok (r,GV),k=>
  have k:OutOk K G H fp D (if i<GV.length then .ok (.nx (GV.set i (some r))) else .bad):=k;by_cases hi:i<GV.length
  ·rw[Tw hi]at k;refine⟨G,env,fp,r,GV,rel,q,fun v H1 G1 Hq Hh GY=>?_⟩;obtain⟨fq,GW,G9⟩:=GY.store hi;exact k _ H1 G1 fq (Hh.trans G9) GW
  ·rw[TC hi]at k;exact k.elim
theorem aN{i:Nat}{x:Str}{pos':Pos}(hN:X.N.Nodup)(hi:X.N[i]?=some x)(hx:Loc X.env.scope x)(he:QE X e f)(hs:swapsWith e (some (.Name x pos')) pos.line X.env=pure false:=by rfl)(hf:X.fn x=true\/X.env.scope.names.lookup x=some .local:=by first|exact .inl rfl|exact .inr rfl|assumption):
  QS (md:=md) X (.Assign [.Name x pos'] e pos) (cM i f):=d4 (Bd (i:=i) hN hi hx he hs hf) fun D σ H ⟨G,env,fp,rel,k⟩=>oR rel k
theorem lM(he:QE X e f)(hs:swapsWith e none pos.line X.env=pure false:=by rfl):QS (md:=md) X (.Expr e pos) (oQ f):=d4 (yL he hs) fun D σ H Hc=>by
 obtain⟨G,env,fp,rel,k⟩:=Hc;unfold oQ at k;match q:f env,k with
 | .ok (r,GV),k=>
  refine⟨G,env,fp,r,GV,rel,q,fun v H1 G1 Hq Hh GY=>?_⟩;obtain⟨b,GW,G9⟩:=GY.drop;exact k _ H1 G1 b (Hh.trans G9) GW
theorem Rel.only{K:W.Frag}{G H:Hp}{r:R}{v:V}{es:PV.Env}{vs:L2.St}{fp:List Addr}(q:Rel K G H (some r::es) (some v::vs) fp):∃a,Rel K G H [some r] [some v] a/\Step G H fp G H a:=by
 obtain⟨y,ys,e,v',a,b,e1,e2,r1,r2⟩:=q.rep;cases e;cases e1;subst e2;have nd:=T7.mp q.nd;exact⟨a,⟨⟨some v,[],rfl,v,a,[],rfl,(Ui _).symm,r1,rfl,rfl⟩,nd.1,fun p hp=>q.gn p (Tx _ hp),q.gh⟩,Step.cut fun p hp=>Tx _ hp⟩
theorem aR(he:QE X e f):QS (md:=.plain) X (.Return (some e) pos) (dJ f):=d4 (xN he) fun D σ H Hc=>by
 obtain⟨G,env,fp,rel,k⟩:=Hc;unfold dJ at k;match q:f env,k with
 | .ok (r,GV),k=>
  refine⟨G,env,fp,r,GV,rel,q,fun v H1 G1 Hq Hh GY=>?_⟩;obtain⟨b,GW,G9⟩:=GY.only;exact k _ H1 G1 b (Hh.trans G9) GW
theorem Rel.nilF{K:W.Frag}{G H:Hp}{es:PV.Env}{vs:L2.St}{fp:List Addr}(q:Rel K G H es vs fp):Rel K G H [] [] []:=⟨⟨rfl,rfl⟩,V0,(fun _ h=>nomatch h),q.gh⟩
theorem df{a b:List Stmt}{ct:Expr}(hc:QT X ct c)(ha:LJ (md:=md) X a g)(hb:LJ (md:=md) X b h):QS (md:=md) X (.If ct a b pos) (Jm c g h):=d4 (DV hc ha hb) fun D σ H Hc=>by
 obtain⟨G,env,fp,rel,k⟩:=Hc;unfold Jm at k;match q:c env,k with
 | .ok (true,GV),k=>exact⟨G,env,fp,true,GV,rel,q,fun H1 G1 Hq Hh GY=>Bx ⟨G1,GV,Hq,GY,OutOk.after Hh k⟩⟩
 | .ok (false,GV),k=>exact⟨G,env,fp,false,GV,rel,q,fun H1 G1 Hq Hh GY=>iteF ⟨G1,GV,Hq,GY,OutOk.after Hh k⟩⟩
def cN(c:FT)(g:FS):Nat->FS
 | 0,_=>.bad
 |n+1,env=>(c env).bind fun p=>if p.1 then(g p.2).bind fun o=>match o with
  | .nx e=>cN c g n e
  | .ct e=>cN c g n e
  | .bk e=>.ok (.nx e)
  | .rt r=>.ok (.rt r)
  else .ok (.nx p.2)
theorem p9{ct:Expr}{body:List Stmt}(n:Nat)(hp:PassesOwn (model X.prog X.w) X.A X.env X.xe)(hc:QT X ct c)(hb:LJ (md:=md) X body g):QS (md:=md) X (.While ct body [] pos) (cN c g n):=
 d4 (wq hp hc hb) fun D σ H Hc=>by
  obtain⟨G,env,fp,rel,k⟩:=Hc;refine⟨fun m σ' H'=>∃G' env' GZ,Rel X.K G' H' env' σ' GZ/\OutOk X.K G' H' GZ D (cN c g m env'),⟨n,G,env,fp,rel,k⟩,?_⟩;rintro m σ1 H1 ⟨G1,GV,Hq,GY,k1⟩;cases m with
  |zero=>exact k1.elim
  |succ m=>
   unfold cN at k1;match q:c GV,k1 with
   | .ok (false,Hd),k1=>exact⟨G1,GV,Hq,false,Hd,GY,q,fun H2 G2 Hz G9 GW=>iteF (k1 _ H2 G2 Hz G9 GW)⟩
   | .ok (true,Hd),k1=>
    refine⟨G1,GV,Hq,true,Hd,GY,q,fun H2 G2 Hz G9 GW=>Bx ?_⟩;refine⟨fun σ' H'=>∃G' env' GZ,Rel X.K G' H' env' σ' GZ/\OutOk X.K G' H' GZ D (cN c g m env'),fun σ' H' z=>⟨m,T9 _,z⟩,G2,Hd,Hz,GW,?_⟩;have k2:OutOk X.K G1 H1 Hq D ((g Hd).bind fun o=>match o with | .nx e=>cN c g m e | .ct e=>cN c g m e | .bk e=>.ok (.nx e) | .rt r=>.ok (.rt r)):=k1;match q2:g Hd,k2 with
    | .ok (.nx e),k2=>exact fun σ' H' G' GZ st rel=>⟨G',e,GZ,rel,OutOk.after (G9.trans st) k2⟩
    | .ok (.ct e),k2=>exact fun σ' H' G' GZ st rel=>⟨G',e,GZ,rel,OutOk.after (G9.trans st) k2⟩
    | .ok (.bk e),k2=>exact fun σ' H' G' GZ st rel=>k2 σ' H' G' GZ (G9.trans st) rel
    | .ok (.rt r),k2=>exact fun v H' G' GZ st rel=>k2 v H' G' GZ (G9.trans st) rel
def Walk(K:W.Frag)(G:Hp)(J:It)(ds:List D):Prop:=∀G' H' es vs fp,Same G G'->Rel K G' H' es vs fp->∀i:Nat,
 (∀d,ds[i]?=some d->J.go i H'/\∀x H2,J.yld i H' x H2->∃G2,Rep K G2 d x/\Rel K G2 H2 es vs fp/\Step G' H' fp G2 H2 fp)/\(i=ds.length->J.stop i H')
abbrev FI:=PV.Env->Res (List D×PV.Env)
inductive tQI(K:W.Frag)(f:FI)(σ:L2.St)(H:Hp)(R:It->Hp->Prop):Prop
 |mk:∀G env fp ds env',Rel K G H env σ fp->f env=.ok (ds,env')->(∀J H' G' GZ,Step G H fp G' H' GZ->Rel K G' H' env' σ GZ->Walk K G' J ds->R J H')->tQI K f σ H R
def QI(X:Cx)(tg e:Expr)(f:FI):Prop:=PI X tg e (tQI X.K f)
theorem i4{X:Cx}{tg e:Expr}{t t':TI}(h:PI X tg e t)(k:∀σ H R,t' σ H R->t σ H R):PI X tg e t':=fun pr s σ H R I w=>h pr s σ H R I (k σ H R w)
abbrev FG:=D->PV.Env->Res PV.Env
inductive tQG(K:W.Frag)(a:FG)(v:V)(σ:L2.St)(H:Hp)(Q:L2.St->Hp->Prop):Prop
 |mk:∀G env fp d env',Rel K G H env σ fp->Rep K G d v->a d env=.ok env'->(∀σ' G' GZ,Step G H fp G' H GZ->Rel K G' H env' σ' GZ->Q σ' H)->tQG K a v σ H Q
def QG(X:Cx)(tg:Expr)(a:FG):Prop:=PG X tg (tQG X.K a)
def aw(i:Nat):FG:=fun d env=>if i<env.length then .ok (env.set i (some (.f,d))) else .bad
theorem xW{X:Cx}{tg:Expr}{t t':TG}(h:PG X tg t)(k:∀v σ H Q,t' v σ H Q->t v σ H Q):PG X tg t':=fun pr s σ H v u Q I r w=>h pr s σ H v u Q I r (k v σ H Q w)
theorem uf{X:Cx}{tg:List Expr}{t t':Nx}(h:NU X tg t)(k:∀v σ H Q,t' v σ H Q->t v σ H Q):NU X tg t':=fun pr s σ H v u Q I r w=>h pr s σ H v u Q I r (k v σ H Q w)
theorem aA{i:Nat}{x:Str}(hN:X.N.Nodup)(hi:X.N[i]?=some x)(hx:Loc X.env.scope x)(hf:X.fn x=true\/X.env.scope.names.lookup x=some .local:=by first|exact .inl rfl|exact .inr rfl|assumption):QG X (.Name x pos) (aw i):=
 xW (yM (i:=i) hN hi hx hf) fun v σ H Q Hc=>by
  obtain⟨G,env,fp,d,env',rel,r,e,k⟩:=Hc;unfold aw at e;split at e
  ·rename_i hl;cases e;obtain⟨fq,GW,G9⟩:=(rel.push r).store hl;exact k _ G fq G9 GW
  ·cases e
abbrev MN:=List D->PV.Env->Res PV.Env
inductive tQGs(K:W.Frag)(a:MN)(vs:List V)(σ:L2.St)(H:Hp)(Q:L2.St->Hp->Prop):Prop
 |mk:∀G env fp ds env',Rel K G H env σ fp->Reps K G ds vs->a ds env=.ok env'->(∀σ' G' GZ,Step G H fp G' H GZ->Rel K G' H env' σ' GZ->Q σ' H)->tQGs K a vs σ H Q
def QZ(X:Cx)(tg:List Expr)(a:MN):Prop:=NU X tg (tQGs X.K a)
def cQ:MN:=fun ds env=>match ds with
 |[]=>.ok env
 |_=>.bad
def aE(a:FG)(b:MN):MN:=fun ds env=>match ds with
 |d::ds=>(a d env).bind fun e=>b ds e
 |_=>.bad
theorem gS:QZ X [] cQ:=uf yN fun vs σ H Q Hc=>by
 obtain⟨G,env,fp,ds,env',rel,r,e,k⟩:=Hc;cases ds with
 |nil=>
  cases e;rw[Reps]at r;exact⟨r,k σ G fp .refl rel⟩
 |cons d ds=>cases e
theorem bU{tg:Expr}{KI:List Expr}{a:FG}{b:MN}(h1:QG X tg a)(h2:QZ X KI b)(hs:(assignEach (tg::KI) X.env).map (·.2)=assign tg X.env::(assignEach KI X.env).map (·.2):=by rfl):QZ X (tg::KI) (aE a b):=
 uf (wo h1 h2 hs) fun vs σ H Q Hc=>by
  obtain⟨G,env,fp,ds,env',rel,r,e,k⟩:=Hc;cases ds with
  |nil=>cases e
  |cons d ds=>
   rw[Reps]at r;obtain⟨y,ys,ev,r1,r2⟩:=r;obtain⟨GV,e1,e2⟩:=ai e;exact⟨y,ys,ev,G,env,fp,d,GV,rel,r1,e1,fun σ1 G1 Hq Hh GY=>⟨G1,GV,Hq,ds,env',GY,r2.mono Hh.gg,e2,fun σ2 G2 Hz G9 GW=>k σ2 G2 Hz (Hh.trans G9) GW⟩⟩
def iG(n:Nat)(a:MN):FG:=fun d env=>match d with
 | .tup ds=>if ds.length=n then a ds env else .bad
 |_=>.bad
theorem jK{KI:List Expr}{k n:Nat}{a:MN}(hc:X.calm=true)(h:QZ X KI a)(hn:(assignEach KI X.env).length=n:=by rfl)(NV:(assignEach KI X.env).findIdx? (·.1)=none:=by rfl):QG X (.Tuple KI k pos) (iG n a):=
 xW (Bc hc h hn NV) fun v σ H Q Hc=>by
  obtain⟨G,env,fp,d,env',rel,r,e,k⟩:=Hc;unfold iG at e;split at e
  ·rename_i ds;split at e
   ·rename_i hl;obtain⟨p,xs,ev,sq,rs⟩:=bw r;exact⟨p,xs,ev,bB rel.gh sq,rs.length.trans hl,G,env,fp,ds,env',rel,rs,e,k⟩
   ·cases e
  ·cases e
def dM(a:FG)(g:FS):List D->FS
 |[],env=>.ok (.nx env)
 |d::ds,env=>(a d env).bind fun e=>(g e).bind fun o=>match o with
  | .nx e=>dM a g ds e
  | .ct e=>dM a g ds e
  | .bk e=>.ok (.nx e)
  | .rt r=>.ok (.rt r)
def rD(f:FI)(a:FG)(g:FS):FS:=fun env=>(f env).bind fun p=>dM a g p.1 p.2
theorem gC{tg iter:Expr}{body:List Stmt}{fi:FI}{a:FG}(hp:PassesOwn (model X.prog X.w) X.A X.env X.xe)(hc:X.calm=true)(hi:QI X tg iter fi)(hg:QG X tg a)(hb:LJ (md:=md) X body g)(hs:∀x,foldedSetIterable iter X.env x=pure x:=by intro _;rfl):QS (md:=md) X (.For tg iter body [] pos) (rD fi a g):=
 d4 (sJ hp hc hi hg hb hs) fun D σ H Hc=>by
  obtain⟨G,env,fp,rel,k⟩:=Hc;unfold rD at k;match q:fi env,k with
  | .ok (ds,GV),k=>
   refine⟨G,env,fp,ds,GV,rel,q,fun J H1 G1 Hq Hh GY wk=>?_⟩;have k:OutOk X.K G H fp D (dM a g ds GV):=k;refine⟨fun i m σ' H'=>m=ds.length-i/\i<=ds.length/\∃G' env' GZ,Same G1 G'/\Rel X.K G' H' env' σ' GZ/\OutOk X.K G' H' GZ D (dM a g (ds.drop i) env'),⟨_,rfl,Um _,G1,GV,Hq,.refl _,GY,OutOk.after Hh k⟩,?_⟩;rintro i m σ2 H2 ⟨rfl,hi,G2,Hd,Hz,gg,GW,k2⟩;obtain⟨w1,w2⟩:=wk G2 H2 _ _ _ gg GW i;by_cases Hr:i<ds.length
   ·have hd:ds[i]?=some ds[i]:=To Hr;obtain⟨go,yl⟩:=w1 _ hd;rw[UZ Hr]at k2;refine .inr ⟨go,fun σ' H'=>∃G' env' GZ,Same G1 G'/\Rel X.K G' H' env' σ' GZ/\OutOk X.K G' H' GZ D (dM a g (ds.drop (i+1)) env'),fun σ' H' z=>⟨ds.length-(i+1),by lia,rfl,Hr,z⟩,fun x H3 y=>?_⟩;obtain⟨G3,rx,HB,Hx⟩:=yl x H3 y;unfold dM at k2;match q3:a ds[i] Hd,k2 with
    | .ok HE,k2=>
     refine⟨G3,Hd,Hz,ds[i],HE,HB,rx,q3,fun σ4 G4 P2 H0 Iy=>⟨G4,HE,P2,Iy,?_⟩⟩;have k3:OutOk X.K G2 H2 Hz D ((g HE).bind fun o=>match o with | .nx e=>dM a g (ds.drop (i+1)) e | .ct e=>dM a g (ds.drop (i+1)) e | .bk e=>.ok (.nx e) | .rt r=>.ok (.rt r)):=k2;match q4:g HE,k3 with
     | .ok (.nx e),k3=>exact fun σ' H' G' GZ st rel=>⟨G',e,GZ,gg.trans (Hx.gg.trans (H0.gg.trans st.gg)),rel,OutOk.after (Hx.trans (H0.trans st)) k3⟩
     | .ok (.ct e),k3=>exact fun σ' H' G' GZ st rel=>⟨G',e,GZ,gg.trans (Hx.gg.trans (H0.gg.trans st.gg)),rel,OutOk.after (Hx.trans (H0.trans st)) k3⟩
     | .ok (.bk e),k3=>exact fun σ' H' G' GZ st rel=>k3 σ' H' G' GZ (Hx.trans (H0.trans st)) rel
     | .ok (.rt r),k3=>exact fun v H' G' GZ st rel=>k3 v H' G' GZ (Hx.trans (H0.trans st)) rel
   ·have e:i=ds.length:=by lia
    subst e;rw[Wn]at k2;exact .inl ⟨w2 rfl,k2 σ2 H2 G2 Hz .refl GW⟩
def BY(f:FX):FI:=fun env=>(f env).bind fun p=>match p.1.2 with
 | .lst ds=>.ok (ds,p.2)
 |_=>.bad
def fD(f:FX):FI:=fun env=>(f env).bind fun p=>match p.1.2 with
 | .tup ds=>.ok (ds,p.2)
 |_=>.bad
variable{tg l:Expr}
theorem nq{K:W.Frag}{G:Hp}{a:Addr}{xs:List V}{ds:List D}(sq:SqL K G a xs)(rs:Reps K G ds xs):Walk K G (Pd K a) ds:=by
 intro G' H' es vs fp gg rel i;have Iz:SqL K H' a xs:=gm rel.gh (gm gg sq);refine⟨fun d hd=>?_,fun e=>⟨xs,Iz,by rw[rs.length];lia⟩⟩;obtain⟨x,hx,rx⟩:=rs.get hd;refine⟨⟨xs,x,Iz,hx⟩,fun y H2 ⟨e,hy⟩=>?_⟩;subst e;have:=hy xs Iz;rw[hx]at this;cases this;exact⟨G',Rep.mono gg rx,rel,.refl⟩
theorem wW{K:W.Frag}{G:Hp}{a:Addr}{xs:List V}{ds:List D}(sq:SqT K G a xs)(rs:Reps K G ds xs):Walk K G (Rg K a) ds:=by
 intro G' H' es vs fp gg rel i;have Iz:SqT K H' a xs:=bB rel.gh (bB gg sq);refine⟨fun d hd=>?_,fun e=>⟨xs,Iz,by rw[rs.length];lia⟩⟩;obtain⟨x,hx,rx⟩:=rs.get hd;refine⟨⟨xs,x,Iz,hx⟩,fun y H2 ⟨e,hy⟩=>?_⟩;subst e;have:=hy xs Iz;rw[hx]at this;cases this;exact⟨G',Rep.mono gg rx,rel,.refl⟩
theorem zt(h:QE X l f):QI X tg l (BY f):=i4 (sy h) fun σ H R Hc=>by
 obtain⟨G,env,fp,ds,env',rel,e,k⟩:=Hc;obtain⟨⟨⟨o,d⟩,GV⟩,e1,e⟩:=ai e;dsimp only at e;split at e
 ·cases e;refine⟨G,env,fp,_,_,rel,e1,fun v H1 G1 Hq Hh GY=>?_⟩;obtain⟨G2,b,rv,GW,G9⟩:=GY.freeze;obtain⟨p,xs,ev,sq,rs⟩:=bx rv;exact⟨p,ev,⟨xs,gm GW.gh sq⟩,k _ H1 G2 b (Hh.trans G9) GW (nq sq rs)⟩
 ·cases e
theorem fg(h:QE X l f):QI X tg l (fD f):=i4 (Bf h) fun σ H R Hc=>by
 obtain⟨G,env,fp,ds,env',rel,e,k⟩:=Hc;obtain⟨⟨⟨o,d⟩,GV⟩,e1,e⟩:=ai e;dsimp only at e;split at e
 ·cases e;refine⟨G,env,fp,_,_,rel,e1,fun v H1 G1 Hq Hh GY=>?_⟩;obtain⟨G2,b,rv,GW,G9⟩:=GY.freeze;obtain⟨p,xs,ev,sq,rs⟩:=bw rv;exact⟨p,ev,⟨xs,bB GW.gh sq⟩,k _ H1 G2 b (Hh.trans G9) GW (wW sq rs)⟩
 ·cases e
def fE(f:FX):FI:=fun env=>(f env).bind fun p=>match p.1.2 with
 | .str l=>.ok (l.map fun c=>.str [c],p.2)
 |_=>.bad
theorem ft(h:QE X l f):QI X tg l (fE f):=i4 (BE h) fun σ H R Hc=>by
 obtain⟨G,env,fp,ds,env',rel,e,k⟩:=Hc;obtain⟨⟨⟨o,d⟩,GV⟩,e1,e⟩:=ai e;dsimp only at e;split at e
 ·rename_i cs;cases e;refine⟨G,env,fp,_,_,rel,e1,fun v H1 G1 Hq Hh GY=>?_⟩;obtain⟨G2,b,rv,GW,G9⟩:=GY.freeze;obtain⟨ev,hl⟩:=bf rv;refine⟨cs,ev,k _ H1 G2 b (Hh.trans G9) GW fun G' H' es vs GZ gg HJ i=>⟨fun d hd=>?_,fun e=>?_⟩⟩
  ·rw[TN]at hd;cases hc:cs[i]? with
   |none=>rw[hc]at hd;cases hd
   |some c=>
    rw[hc]at hd;cases hd;refine⟨(TH.mp hc).1,fun x H2 ⟨e1,e2⟩=>?_⟩;subst e1;refine⟨G',?_,HJ,.refl⟩;rw[e2];show Rep X.K G' (.str [c]) (.str (S [cs.getD i 0]));rw[Th,hc];exact gR (by rw[line_eq];simp)
  ·rw[Tt]at e;exact e
 ·cases e
def cB(f:FO):FI:=fun env=>(f env).bind fun p=>(Jl p.2 p.1).bind fun d=>match d with
 | .int j=>if -4611686018427387904<=j/\j<4611686018427387904 then .ok ((List.range j.toNat).map fun(k:Nat)=>D.int (k:Int),p.2) else .bad
 |_=>.bad
theorem rF{K:W.Frag}{G:Hp}(lo:Int)(n:Nat):Walk K G (QK lo n) ((List.range n).map fun(k:Nat)=>D.int (lo+(k:Int))):=by
 intro G' H' es vs fp gg rel i;refine⟨fun d hd=>?_,fun e=>?_⟩
 ·rw[TN]at hd;cases hc:(List.range n)[i]? with
  |none=>rw[hc]at hd;cases hd
  |some c=>
   rw[hc]at hd;cases hd;obtain⟨h1,h2⟩:=TH.mp hc;rw[TU]at h1;rw[V5]at h2;subst h2;refine⟨h1,fun x H2 ⟨e1,e2⟩=>?_⟩;subst e1;exact⟨G',by rw[e2];exact rep_int _,rel,.refl⟩
 ·rw[Tt,TU]at e;exact X6 e.symm
theorem d5{a:Expr}{fa:FO}{p pos:Pos}(hg:Gl X "range")(hm:X.mg "range" = none)(ha:QO X a fa)(hs:starEach [a] X.env=[(false,eval a X.env)]:=by rfl):QI X tg (.Call (.Name "range" p) [a] [] pos) (cB fa):=
 i4 (sH hg hm (ae ha ao hs) hs) fun σ H R Hc=>by
  obtain⟨G,env,fp,ds,env',rel,e,k⟩:=Hc;obtain⟨⟨o,GV⟩,e1,e⟩:=ai e;obtain⟨d,e2,e⟩:=ai e;dsimp only at e;split at e
  ·rename_i j;split at e
   ·rename_i hj;cases e;refine⟨G,env,fp,[o],_,rel,by show(fa env).bind _=_;rw[e1];rfl,fun vs H1 G1 Hq Hh GY Jy=>?_⟩;obtain⟨y,ys,ev,k1,k2⟩:=Jy;have k2:ys=[]:=k2;subst k2;have hv:=bg (GY.vw k1 e2);subst hv;refine⟨j,ev,by lia,by lia,k _ H1 G1 Hq Hh GY ?_⟩;have w:=rF (K:=X.K) (G:=G1) 0 j.toNat
    simpa using w
   ·cases e
  ·cases e
noncomputable def Eo(fs:FOs):FI:=fun env=>(fs env).bind fun p=>(se p.2 p.1).bind fun d=>match d with
 |[.int i,.int j]=>if(-4611686018427387904<=i/\i<4611686018427387904)/\-4611686018427387904<=j/\j<4611686018427387904 then .ok ((List.range (j-i).toNat).map fun(k:Nat)=>D.int (i+(k:Int)),p.2) else .bad
 |_=>.bad
def h8(k:Bool):D->Res (List D)
 | .lst ds=>if k then .ok ds else .bad
 | .tup ds=>if k then .bad else .ok ds
 |_=>.bad
def rH(k1 k2:Bool)(fs:FOs):FI:=fun env=>(fs env).bind fun p=>match p.1 with
 |[.val d1,.val d2]=>(h8 k1 d1).bind fun a=>(h8 k2 d2).bind fun b=>.ok ((a.zip b).map fun z=>D.tup [z.1,z.2],p.2)
 |_=>.bad
theorem lN{K:W.Frag}{G:Hp}{k:Bool}{d:D}{ds:List D}{v:V}(e:h8 k d=.ok ds)(r:Rep K G d v):∃p xs,v=.ref p/\(if k then SqL K G p xs else SqT K G p xs)/\Reps K G ds xs:=by
 cases d with
 |lst es=>
  cases k with
  |true=>
   cases e;obtain⟨p,xs,e1,q,rs⟩:=bx r;exact⟨p,xs,e1,q,rs⟩
  |false=>cases e
 |tup es=>
  cases k with
  |true=>cases e
  |false=>
   cases e;obtain⟨p,xs,e1,q,rs⟩:=bw r;exact⟨p,xs,e1,q,rs⟩
 |_=>cases e
theorem iK{K:W.Frag}{G G':Hp}{k:Bool}{p:Addr}{xs:List V}(h:Same G G')(r:if k then SqL K G p xs else SqT K G p xs):if k then SqL K G' p xs else SqT K G' p xs:=by
 cases k with
 |true=>exact gm h r
 |false=>exact bB h r
theorem wX{K:W.Frag}{G:Hp}{k1 k2:Bool}{p1 p2:Addr}{xs ys:List V}{as bs:List D}(s1:if k1 then SqL K G p1 xs else SqT K G p1 xs)(s2:if k2 then SqL K G p2 ys else SqT K G p2 ys)(r1:Reps K G as xs)(r2:Reps K G bs ys):
  Walk K G (Rt K k1 k2 p1 p2) ((as.zip bs).map fun z=>D.tup [z.1,z.2]):=by
 intro G' H' es vs fp gg rel i;have g1:=iK (gg.trans rel.gh) s1;have g2:=iK (gg.trans rel.gh) s2;refine⟨fun d hd=>?_,fun e=>⟨xs,ys,g1,g2,?_⟩⟩
 ·rw[TN]at hd;cases hz:(as.zip bs)[i]? with
  |none=>rw[hz]at hd;cases hd
  |some z=>
   rw[hz]at hd;cases hd;obtain⟨h1,h2⟩:=VL.mp hz;obtain⟨x,hx,rx⟩:=r1.get h1;obtain⟨y,hy,ry⟩:=r2.get h2;refine⟨⟨xs,ys,x,y,g1,g2,hx,hy⟩,fun v H2 ⟨T,hT,ev,hh⟩=>?_⟩;have e2:=hh xs ys x y g1 g2 hx hy;subst e2;obtain⟨GW,G9⟩:=rel.newF (u:=.tup [x,y]) hT;refine⟨_,?_,GW,G9⟩;rw[Rep];exact⟨T,[x,y],ev,aD,.cons (Rep.mono (gg.trans G9.gg) rx) (.one (Rep.mono (gg.trans G9.gg) ry))⟩
 ·rw[Tt,U7]at e;rw[r1.length,r2.length];exact e
theorem qc(k1 k2:Bool){KI:List Expr}{kt:Nat}{pt:Pos}{e1 e2:Expr}{fs:FOs}{p pos:Pos}(hg:Gl X "zip")(hm:X.mg "zip" = none)(ha:L1 X [e1,e2] fs)(he:starEach [e1,e2] X.env=(false,eval e1 X.env)::starEach [e2] X.env:=by rfl)(Jb:(backTo pos (starEach [e2] X.env)).any (·.1)=false:=by rfl):
  QI X (.Tuple KI kt pt) (.Call (.Name "zip" p) [e1,e2] [] pos) (rH k1 k2 fs):=
 i4 (BK k1 k2 hg hm ha he Jb) fun σ H R Hc=>by
  obtain⟨G,env,fp,ds,env',rel,e,k⟩:=Hc;obtain⟨⟨o,GV⟩,e1,e⟩:=ai e;dsimp only at e;split at e
  ·rename_i d1 d2;obtain⟨a,ea,e⟩:=ai e;obtain⟨b,eb,e⟩:=ai e;cases e;refine⟨G,env,fp,_,_,rel,e1,fun vs H1 G1 Hq Hh GY Jy=>?_⟩;obtain⟨y,ys,ev,v1,z,zs,RF,v2,e3⟩:=Jy;have e3:zs=[]:=e3;subst e3;obtain⟨p1,RG,RH,q1,r1⟩:=lN ea v1;obtain⟨p2,Pm,RI,q2,r2⟩:=lN eb v2;subst RH;subst RI;subst RF;exact⟨p1,p2,RG,Pm,ev,iK GY.gh q1,iK GY.gh q2,k _ H1 G1 Hq Hh GY (wX q1 q2 r1 r2)⟩
  ·cases e
end
def fBody(np nn:Nat)(g:FS):List D->Res R:=fun ds=>if ds.length=np then(g (ds.map (fun d=>some (O.f,d))++List.replicate nn none)).bind fun o=>match o with
 | .rt r=>.ok r
 | .nx _=>.ok (.f,.non)
 |_=>.bad
 else .bad
theorem h9{K:W.Frag}{G H:Hp}(n:Nat):∀{ds:List D}{vs:List V},Reps K G ds vs->RepE K G H (ds.map (fun d=>some (O.f,d))++List.replicate n none) (vs.map some++List.replicate n none) []
 |[],vs,r=>by
  rw[Reps]at r;subst r;show RepE K G H (List.replicate n none) (List.replicate n none) [];induction n with
  |zero=>exact⟨rfl,rfl⟩
  |succ n ih=>exact⟨none,_,rfl,ih⟩
 |d::ds,vs,r=>by
  rw[Reps]at r;obtain⟨y,ys,e,r1,r2⟩:=r;subst e;exact⟨some y,_,rfl,y,[],[],rfl,rfl,d3.mpr ⟨r1,rfl⟩,h9 n r2⟩
theorem dN{P:Program}{w:World}{K:W.Frag}{mg:Str->Option Value}{base:Heap}{x:Str}{st:Stmt}{N ps:List Str}{k:Nat}{g:FS}(Df:Def K mg x st)(sc:FnScope N ps (defScope st))
  (hb:∀(kV doc pm:Value) (an:Option Addr) (Hv ct:Value) (us:List Value),us.length=ps.length->bindArgs (PySem.W.fnOf x x (eE st) (cP st) (defScope st) .none kV doc pm an Hv ct) ⟨us,[]⟩=pure (ps.zip us))
  (body:∀(f:Addr) (Hv:Value) (A:Around) (outer:List PySem.Env) (s:Shared) (H:Hp) (E:XK),Room k (A.deeper (envOfC x (defScope st) s.heap.objs.size f Hv))->LJ (md:=.plain) (wx LQ P w K mg base N x (defScope st) f Hv A outer s H E).nox (cP st) g):
  Ct P w K mg base x (k+1) (spF K (fBody ps.length (N.length-ps.length) g)):=by
 obtain⟨f,fd,F,m⟩:=Df;refine⟨f,fd,ps,F.ok sc (fun vs H Q E h=>?_) (fun Hv A outer s H vs Q E hr h=>?_),m,F.kp,F.binds hb⟩
 ·obtain⟨G,ds,r,_,rs,e,_⟩:=h;unfold fBody at e;split at e
  ·rename_i hl;rw[rs.length,hl]
  ·cases e
 ·obtain⟨G,ds,r,gh,rs,e,q⟩:=h;unfold fBody at e;split at e
  ·rename_i hl;refine⟨_,body f Hv A outer s H E hr,G,ds.map (fun d=>some (O.f,d))++List.replicate (N.length-ps.length) none,[],⟨?_,V0,(fun _ h=>nomatch h),gh⟩,?_⟩
   ·have:=h9 (K:=K) (G:=G) (H:=H) (N.length-ps.length) rs;unfold L2.start;rw[rs.length,hl];exact this
   ·obtain⟨o,eo,e⟩:=ai e;rw[eo];cases o with
    |rt r'=>
     cases e;exact fun v H' G' GZ st rel=>q v H' G' GZ st rel
    |nx env'=>
     cases e;exact fun σ' H' G' GZ st rel=>q .non H' G' [] (st.trans (Step.cut fun _ h=>nomatch h)) (rel.nilF.push lK)
    |bk env'=>cases e
    |ct env'=>cases e
  ·cases e
def cq(ix:List (Option Nat))(env:PV.Env):PV.Env:=ix.map fun j=>j.bind fun j=>match env[j]? with
 |some (some r)=>some (O.f,r.2)
 |_=>none
def gT:FT:=fun env=>.ok (true,env)
def ck(a:FG)(c:FT)(f:FX):List D->PV.Env->Res (List D)
 |[],_=>.ok []
 |d::ds,env=>(a d env).bind fun e=>(c e).bind fun p=>if p.1 then(f p.2).bind fun q=>(ck a c f ds q.2).bind fun rs=>.ok (q.1.2::rs) else ck a c f ds p.2
def cy(fi:FI)(ix:List (Option Nat))(a:FG)(c:FT)(f:FX):FX:=fun env=>(fi env).bind fun p=>(ck a c f p.1 (cq ix p.2)).bind fun ds=>if ds.length<=sizeLine then .ok ((.l .f,.lst ds),if G0 ds then p.2 else p.2.map frz) else .bad
theorem ia:∀ds,ds.all (aP .f)=G0 ds
 |[]=>rfl
 |d::ds=>by rw[VU,G0,ia ds,aP]
theorem d6{K:W.Frag}{G1 H:Hp}{es:PV.Env}{σ:L2.St}(ht:∀(i:Nat) (r:R) (v:V),es[i]?=some (some r)->σ[i]?=some (some v)->Rep K G1 r.2 v)(hv:∀(i:Nat) (r:R),es[i]?=some (some r)->∃v,σ[i]?=some (some v)):
  ∀ix:List (Option Nat),RepE K G1 H (cq ix es) (fH ix σ) []
 |[]=>⟨rfl,rfl⟩
 |none::ix=>⟨none,_,rfl,d6 ht hv ix⟩
 |some j::ix=>by
  show RepE K G1 H ((match es[j]? with|some (some r)=>some (O.f,r.2)|_=>none)::cq ix es) ((σ[j]?).bind id::fH ix σ) [];cases e:es[j]? with
  |none=>exact⟨_,_,rfl,d6 ht hv ix⟩
  |some r=>
   cases r with
   |none=>exact⟨_,_,rfl,d6 ht hv ix⟩
   |some r=>
    obtain⟨v,ev⟩:=hv j r e;refine⟨_,_,rfl,v,[],[],?_,rfl,d3.mpr ⟨ht j r v e ev,rfl⟩,d6 ht hv ix⟩;rw[ev];rfl
section
variable{md:Mode}{X:Cx}{scope:Scope}{N:List Str}{tg iter elt:Expr}{ifs:List Expr}{pos:Pos}{fi:FI}{a:FG}{c:FT}{f:FX}
def Og(X:Cx)(ifs:List Expr)(c:FT):Prop:=MG X ifs (tQT X.K c)
theorem cC:Og X [] gT:=fun pr s σ H Q I Hc=>by
 obtain⟨G,env,fp,b,env',rel,e,k⟩:=Hc;cases e;exact y6 pr s σ H Q I (k H G fp .refl rel)
theorem fJ{t:Expr}(h:QT X t c):Og X [t] c:=y7 h
end
section
variable{X:Cx}
inductive rCatS(K:W.Frag)(x:V)(y:V)(H:Hp)(Q:VK):Prop
 |mk:∀l b xs zs,x=.ref l->y=.ref b->SqL K H l xs->SqL K H b zs->xs.length+zs.length<=sizeLine->(∀p,H p=none->Q (.ref p) (upd H p (.lst (xs++zs))))->rCatS K x y H Q
theorem zu:HI X (binaryOp .Add) (rCatS X.K):=by
 intro pr s σ H x y v u Q I rx ry h;obtain⟨l,b,xs,zs,rfl,rfl,hH,hB,hz,q⟩:=h;cases rx;cases ry;obtain⟨GX,r1,p1,_⟩:=I.list hH;obtain⟨Lx,r2,p2,_⟩:=I.list hB;have l1:=r1.length;have l2:=r2.length;obtain⟨⟨cls,dd,data,sl⟩,ho,hc,n,hd⟩:=id p1.isList;obtain⟨⟨NY,Mr,data2,Ms⟩,IA,Lh,n2,hd2⟩:=id p2.isList;simp only at hc hd Lh hd2;subst hc hd Lh hd2;have e:GX.toArray++Lx.toArray=(GX++Lx).toArray:=by simp
 refine X4 ⟨_,ho,rfl⟩ ⟨_,IA,rfl⟩ noFill_list_add seq_list_add PySem.F.slot_list_add PySem.F.entry_list_add (PySem.F.args_list_add_2 _ _) (list_addW l b GX.toArray Lx.toArray n n2 dd Mr sl Ms (by rw[Tr,Tr];lia)) ⟨ho,IA,?_⟩;rw[e];exact⟨.ref _,_,I.lnew (t':=s.toks) (r1.append r2) (by rw[UC];lia),rfl,q _ I.fresh⟩
end
noncomputable def addD:D->D->Res R
 | .int i,.int j=>.ok (.f,.int (i+j))
 | .str a,.str b=>if a.length+b.length<=sizeLine then .ok (.f,.str (a++b)) else .bad
 | .lst a,.lst b=>if a.length+b.length<=sizeLine then .ok (.l .f,.lst (a++b)) else .bad
 | .tup a,.tup b=>if a≠[]/\a.length+b.length<=sizeLine then .ok (.f,.tup (a++b)) else .bad
 |_,_=>.bad
section
variable{X:Cx}
theorem lO{K:W.Frag}{G H:Hp}{fp:List Addr}{es:PV.Env}{vs:L2.St}{ds:List D}{xs:List V}{p:Addr}(rel:Rel K G H es vs fp)(hp:H p=none)(r:Reps K G ds xs):
  ∃G',Rel K G' (upd H p (.tup xs)) (some (.f,.tup ds)::es) (some (.ref p)::vs) fp/\Step G H fp G' (upd H p (.tup xs)) fp:=by
 obtain⟨GW,G9⟩:=rel.newF (u:=.tup xs) hp;refine⟨_,GW.push ?_,G9⟩;rw[Rep];exact⟨p,xs,rfl,aD,r.mono G9.gg⟩
theorem BZ:HI X (binaryOp .Add) (rG X.K addD):=by
 rintro pr s σ H x y v u Q I rx ry ⟨G,fp,es,vs,a,b,r,⟨rel,k⟩,va,vb,e⟩;unfold addD at e;split at e
 ·rename_i i j;cases e;cases bg va;cases bg vb;exact Bh pr s σ H _ _ v u Q I rx ry ⟨i,j,rfl,rfl,k _ H G fp .refl (rel.push (rep_int _))⟩
 ·rename_i i j;split at e
  ·rename_i hl;cases e;obtain⟨e1,h1⟩:=iZ va;obtain⟨e2,h2⟩:=iZ vb;subst e1;subst e2;refine qZ pr s σ H _ _ v u Q I rx ry ⟨_,_,rfl,rfl,by rw[mW,mW];exact hl,?_⟩;rw[Ee];exact k _ H G fp .refl (rel.push (gR (by rw[UC];exact hl)))
  ·cases e
 ·rename_i i j;split at e
  ·rename_i hl;cases e;obtain⟨p,xs,e1,h1,r1⟩:=va;obtain⟨p2,Pm,e2,h2,r2⟩:=vb;subst e1;subst e2;refine zu pr s σ H _ _ v u Q I rx ry ⟨p,p2,xs,Pm,rfl,rfl,h1,h2,by rw[r1.length,r2.length];exact hl,fun q hq=>?_⟩;obtain⟨GW,G9⟩:=rel.newL hq (r1.app r2);exact k _ _ G _ G9 GW
  ·cases e
 ·rename_i i j;split at e
  ·rename_i hl;cases e;obtain⟨p,xs,e1,h1,r1⟩:=fI va;obtain⟨p2,Pm,e2,h2,r2⟩:=fI vb;subst e1;subst e2;have hx:xs≠[]:=fun z=>hl.1 (Ut (by rw[<-r1.length,z];rfl))
   refine yW pr s σ H _ _ v u Q I rx ry ⟨p,p2,xs,Pm,rfl,rfl,bB rel.gh h1,bB rel.gh h2,hx,by rw[r1.length,r2.length];exact hl.2,fun z=>?_,fun z q hq=>?_⟩
   ·have:j=[]:=Ut (by rw[<-r2.length,z];rfl);subst this;rw[Ui]at k;exact k _ H G fp .refl (rel.push va)
   ·obtain⟨G',GW,G9⟩:=lO rel hq (r1.app r2);exact k _ _ G' _ G9 GW
  ·cases e
 ·cases e
def zv:D->D->Res R
 | .int i,.int j=>.ok (.f,.int (i-j))
 |_,_=>.bad
theorem qe:HI X (binaryOp .Sub) (rG X.K zv):=by
 rintro pr s σ H x y v u Q I rx ry ⟨G,fp,es,vs,a,b,r,⟨rel,k⟩,va,vb,e⟩;unfold zv at e;split at e
 ·rename_i i j;cases e;cases bg va;cases bg vb;exact Bi pr s σ H _ _ v u Q I rx ry ⟨i,j,rfl,rfl,k _ H G fp .refl (rel.push (rep_int _))⟩
 ·cases e
def kR(i:Int):Bool:=decide (-(2 ^ 64)<i/\i<2 ^ 64)
def Ep:D->D->Res R
 | .int i,.int j=>if kR i||kR j then .ok (.f,.int (i*j)) else .bad
 |_,_=>.bad
theorem B0:HI X (binaryOp .Mult) (rG X.K Ep):=by
 rintro pr s σ H x y v u Q I rx ry ⟨G,fp,es,vs,a,b,r,⟨rel,k⟩,va,vb,e⟩;unfold Ep at e;split at e
 ·rename_i i j;split at e
  ·rename_i hc;cases e;cases bg va;cases bg vb;have hc:CMul i j:=by
    rw[Xd]at hc;exact hc.imp XA XA
   exact Bj pr s σ H _ _ v u Q I rx ry ⟨i,j,rfl,rfl,hc,k _ H G fp .refl (rel.push (rep_int _))⟩
  ·cases e
 ·cases e
def rJ:D->D->Res R
 | .int i,.int j=>if 0<j/\j<1073741824 then .ok (.f,.int (i / j)) else .bad
 |_,_=>.bad
theorem ug:HI X (binaryOp .FloorDiv) (rG X.K rJ):=by
 rintro pr s σ H x y v u Q I rx ry ⟨G,fp,es,vs,a,b,r,⟨rel,k⟩,va,vb,e⟩;unfold rJ at e;split at e
 ·rename_i i j;split at e
  ·rename_i hc;cases e;cases bg va;cases bg vb;exact yO pr s σ H _ _ v u Q I rx ry ⟨i,j,rfl,rfl,hc,k _ H G fp .refl (rel.push (rep_int _))⟩
  ·cases e
 ·cases e
def oS:D->D->Res R
 | .int i,.int j=>if 0<j then .ok (.f,.int (i%j)) else .bad
 |_,_=>.bad
theorem fK:HI X (binaryOp .Mod) (rG X.K oS):=by
 rintro pr s σ H x y v u Q I rx ry ⟨G,fp,es,vs,a,b,r,⟨rel,k⟩,va,vb,e⟩;unfold oS at e;split at e
 ·rename_i i j;split at e
  ·rename_i hc;cases e;cases bg va;cases bg vb;exact Bk pr s σ H _ _ v u Q I rx ry ⟨i,j,rfl,rfl,hc,k _ H G fp .refl (rel.push (rep_int _))⟩
  ·cases e
 ·cases e
def qf:D->D->Res R
 | .int i,.int j=>if 0<=j/\j<=1000000/\i.natAbs<2 ^ 64 then .ok (.f,.int (i ^ j.toNat)) else .bad
 |_,_=>.bad
theorem kS:HI X (binaryOp .Pow) (rG X.K qf):=by
 rintro pr s σ H x y v u Q I rx ry ⟨G,fp,es,vs,a,b,r,⟨rel,k⟩,va,vb,e⟩;unfold qf at e;split at e
 ·rename_i i j;split at e
  ·rename_i hc;cases e;cases bg va;cases bg vb;exact Bl pr s σ H _ _ v u Q I rx ry ⟨i,j,rfl,rfl,hc,k _ H G fp .refl (rel.push (rep_int _))⟩
  ·cases e
 ·cases e
def MH:D->D->Res R
 | .int i,.int j=>.ok (.f,.bl (decide (i<j)))
 | .str a,.str b=>.ok (.f,.bl (decide (a<b)))
 |_,_=>.bad
theorem Er:HI X (compareOp .Lt) (rG X.K MH):=by
 rintro pr s σ H x y v u Q I rx ry ⟨G,fp,es,vs,a,b,r,⟨rel,k⟩,va,vb,e⟩;unfold MH at e;split at e
 ·rename_i i j;cases e;cases bg va;cases bg vb;exact D4 pr s σ H _ _ v u Q I rx ry ⟨i,j,rfl,rfl,k _ H G fp .refl (rel.push (cJ _))⟩
 ·rename_i i j;cases e;obtain⟨e1,h1⟩:=iZ va;obtain⟨e2,h2⟩:=iZ vb;subst e1;subst e2;refine sM pr s σ H _ _ v u Q I rx ry ⟨_,_,rfl,rfl,?_⟩;rw[e8,e8];exact k _ H G fp .refl (rel.push (cJ _))
 ·cases e
def leD:D->D->Res R
 | .int i,.int j=>.ok (.f,.bl (decide (i<=j)))
 | .str a,.str b=>.ok (.f,.bl (!decide (b<a)))
 |_,_=>.bad
def Oh:D->D->Res R
 | .int i,.int j=>.ok (.f,.bl (decide (j<i)))
 |_,_=>.bad
theorem B3:HI X (compareOp .Gt) (rG X.K Oh):=by
 rintro pr s σ H x y v u Q I rx ry ⟨G,fp,es,vs,a,b,r,⟨rel,k⟩,va,vb,e⟩;unfold Oh at e;split at e
 ·rename_i i j;cases e;cases bg va;cases bg vb;exact D5 pr s σ H _ _ v u Q I rx ry ⟨i,j,rfl,rfl,k _ H G fp .refl (rel.push (cJ _))⟩
 ·cases e
def geD:D->D->Res R
 | .int i,.int j=>.ok (.f,.bl (decide (j<=i)))
 |_,_=>.bad
end
abbrev FDs:=PV.Env->Res (List D×PV.Env)
inductive tDs(K:W.Frag)(f:FDs)(σ:L2.St)(H:Hp)(Q:List V->Hp->Prop):Prop
 |mk:∀G env fp ds env',Rel K G H env σ fp->f env=.ok (ds,env')->(∀vs H' G' GZ,Step G H fp G' H' GZ->Rel K G' H' env' σ GZ->Reps K G' ds vs->Q vs H')->tDs K f σ H Q
def P5(X:Cx)(es:List Expr)(f:FDs):Prop:=PA X es (tDs X.K f)
def cR:FDs:=fun env=>.ok ([],env)
def bM(f:FX)(g:FDs):FDs:=fun env=>(f env).bind fun p=>(g p.2).bind fun q=>.ok (p.1.2::q.1,q.2)
section
variable{X:Cx}
theorem bj:P5 X [] cR:=p5 sP fun σ H Q Hc=>by
 obtain⟨G,env,fp,o,env',rel,e,k⟩:=Hc;cases e;exact k [] H G fp .refl rel .nil
theorem aM{e:Expr}{es:List Expr}{f:FX}{g:FDs}(h:QE X e f)(hs:P5 X es g)(NV:starEach (e::es) X.env=(false,eval e X.env)::starEach es X.env:=by rfl):P5 X (e::es) (bM f g):=
 p5 (ll h hs NV) fun σ H Q Hc=>by
  obtain⟨G,env,fp,o,env',rel,e,k⟩:=Hc;obtain⟨⟨r,GV⟩,e1,e⟩:=ai e;obtain⟨⟨ds,Hd⟩,e2,e⟩:=ai e;cases e;refine⟨G,env,fp,r,GV,rel,e1,fun v H1 G1 Hq Hh GY=>?_⟩;obtain⟨G2,b,rv,GW,G9⟩:=GY.freeze;exact⟨G2,GV,b,ds,Hd,GW,e2,fun vs H3 G3 IY Hx HB rs=>k _ H3 G3 IY (Hh.trans (G9.trans Hx)) HB (.cons (Rep.mono Hx.gg rv) rs)⟩
def v5(fs:FDs):FX:=fun env=>(fs env).bind fun p=>if p.1.length<=1000 then .ok ((.f,.tup p.1),p.2) else .bad
def lP(fs:FDs):FX:=fun env=>(fs env).bind fun p=>if p.1.length<=1000 then .ok ((.l .f,.lst p.1),p.2) else .bad
variable{es:List Expr}{fs:FDs}{pos:Pos}
theorem kU{x1}(h:P5 X es fs):QE X (.Tuple es x1 pos) (v5 fs):=bK (Bo h) fun σ H Q Hc=>by
 obtain⟨G,env,fp,r,env',rel,e,k⟩:=Hc;obtain⟨⟨ds,GV⟩,e1,e⟩:=ai e;dsimp only at e;split at e
 ·rename_i hl;cases e;refine⟨G,env,fp,ds,env',rel,e1,fun vs H1 G1 Hq Hh GY rs=>⟨by rw[rs.length,line_eq];lia,fun p hp=>?_⟩⟩;obtain⟨G2,GW,G9⟩:=lO GY hp rs;exact k _ _ G2 _ (Hh.trans G9) GW
 ·cases e
theorem de(h:P5 X es fs):QE X (.List es pos) (lP fs):=bK (Bp h) fun σ H Q Hc=>by
 obtain⟨G,env,fp,r,env',rel,e,k⟩:=Hc;obtain⟨⟨ds,GV⟩,e1,e⟩:=ai e;dsimp only at e;split at e
 ·rename_i hl;cases e;refine⟨G,env,fp,ds,env',rel,e1,fun vs H1 G1 Hq Hh GY rs=>⟨by rw[rs.length,line_eq];lia,fun p hp=>?_⟩⟩;obtain⟨GW,G9⟩:=GY.newL hp rs;exact k _ _ G1 _ (Hh.trans G9) GW
 ·cases e
noncomputable def Hw:D->D->Res R
 | .lst ds,.int i=>match Jw ds i with
  |some d=>.ok (.f,d)
  |none=>.bad
 | .tup ds,.int i=>match Jw ds i with
  |some d=>.ok (.f,d)
  |none=>.bad
 | .str l,.int i=>match Jw l i with
  |some c=>.ok (.f,.str [c])
  |none=>.bad
 |_,_=>.bad
theorem qg{K:W.Frag}{G:Hp}{ds:List D}{xs:List V}{i:Int}{d:D}(r:Reps K G ds xs)(e:Jw ds i=some d):∃v,Jw xs i=some v/\Rep K G d v:=by
 unfold Jw at e ⊢;rw[r.length];cases hn:ixN ds.length i with
 |none=>rw[hn]at e;cases e
 |some j=>
  rw[hn]at e;exact r.get e
theorem Es:PK X (rG X.K Hw):=by
 rintro value slice pr s σ H x y v u Q I rx ry ⟨G,fp,es,vs,a,b,r,⟨rel,k⟩,va,vb,e⟩ hs;unfold Hw at e;split at e
 ·rename_i ds i;split at e
  ·rename_i d hd;cases e;obtain⟨p,xs,ev,sq,rs⟩:=va;subst ev;cases bg vb;obtain⟨w',hw,Ly⟩:=qg rs hd;exact yX value slice pr s σ H _ _ v u Q I rx ry ⟨p,xs,i,w',rfl,rfl,sq,hw,k _ H G fp .refl (rel.push Ly)⟩ hs
  ·cases e
 ·rename_i ds i;split at e
  ·rename_i d hd;cases e;obtain⟨p,xs,ev,sq,rs⟩:=fI va;subst ev;cases bg vb;obtain⟨w',hw,Ly⟩:=qg rs hd;exact Bs value slice pr s σ H _ _ v u Q I rx ry ⟨p,xs,i,w',rfl,rfl,bB rel.gh sq,hw,k _ H G fp .refl (rel.push Ly)⟩ hs
  ·cases e
 ·rename_i l i;split at e
  ·rename_i c hc;cases e;obtain⟨ev,hl⟩:=iZ va;subst ev;cases bg vb;refine Bt value slice pr s σ H _ _ v u Q I rx ry ⟨_,i,c,rfl,rfl,by rw[mW];exact hl,by rw[e8];exact hc,?_⟩ hs;exact k _ H G fp .refl (rel.push (gR (l:=[c]) (by rw[line_eq];simp)))
  ·cases e
 ·cases e
variable{a b:Expr}{fa fb:FO}
theorem bW(ha:QO X a fa)(hb:QO X b fb)(hs:sX b:=by exact fun _ _=>rfl):QE X (.Subscript a b pos) (aF Hw fa fb):=bK (Eb Es ha hb hs) fun _ _ _=>tZ
abbrev FP:=PV.Env->Res (Option Int×PV.Env)
inductive tQP(K:W.Frag)(f:FP)(σ:L2.St)(H:Hp)(Q:Option Int->Hp->Prop):Prop
 |mk:∀G env fp i env',Rel K G H env σ fp->f env=.ok (i,env')->(∀H' G' GZ,Step G H fp G' H' GZ->Rel K G' H' env' σ GZ->Q i H')->tQP K f σ H Q
def QP(X:Cx)(e:Option Expr)(f:FP):Prop:=PO X e (tQP X.K f)
def oT:FP:=fun env=>.ok (none,env)
def lQ(f:FX):FP:=fun env=>(f env).bind fun p=>match p.1.2 with
 | .int i=>.ok (some i,p.2)
 |_=>.bad
theorem xX{X:Cx}{e:Option Expr}{t t':TO}(h:PO X e t)(k:∀σ H Q,t' σ H Q->t σ H Q):PO X e t':=fun pr s σ H Q I w=>h pr s σ H Q I (k σ H Q w)
theorem jL:QP X none oT:=xX yU fun σ H Q Hc=>by
 obtain⟨G,env,fp,i,env',rel,e,k⟩:=Hc;cases e;exact k H G fp .refl rel
theorem gU{e:Expr}{f:FX}(h:QE X e f):QP X (some e) (lQ f):=xX (yV h) fun σ H Q Hc=>by
 obtain⟨G,env,fp,i,env',rel,e,k⟩:=Hc;obtain⟨⟨⟨o,d⟩,GV⟩,e1,e⟩:=ai e;dsimp only at e;split at e
 ·rename_i j;cases e;refine⟨G,env,fp,_,_,rel,e1,fun v H1 G1 Hq Hh GY=>?_⟩;have hv:=GY.top;obtain⟨b,GW,G9⟩:=GY.drop;exact⟨j,bA hv,k H1 G1 b (Hh.trans G9) GW⟩
 ·cases e
def g7{α:Type}(xs:List α)(lo hi:Option Int):List α:=(xs.drop (HT.sIx xs.length 0 lo)).take (HT.sIx xs.length xs.length hi-HT.sIx xs.length 0 lo)
noncomputable def Pn(k:D)(lo hi:Option Int):Res R:=match k with
 | .lst ds=>.ok (.l .f,.lst (g7 ds lo hi))
 | .tup ds=>if ¬ (HT.sIx ds.length 0 lo=0/\HT.sIx ds.length ds.length hi=ds.length) then .ok (.f,.tup (g7 ds lo hi)) else .bad
 | .str l=>.ok (.f,.str (g7 l lo hi))
 |_=>.bad
def eSl(fa:FO)(lo hi:FP):FX:=fun env=>(fa env).bind fun p=>(lo p.2).bind fun q=>(hi q.2).bind fun t=>(Jl t.2 p.1).bind fun d=>(Pn d q.1 t.1).bind fun r=>.ok (r,t.2)
theorem qh{K:W.Frag}{G:Hp}{ds:List D}{xs:List V}{lo hi:Option Int}(r:Reps K G ds xs):Reps K G (g7 ds lo hi) (xO xs lo hi):=by
 unfold g7 xO;rw[r.length];exact(r.drop _).take _
theorem zw{α:Type}(xs:List α)(lo hi:Option Int):(g7 xs lo hi).length<=xs.length:=by
 unfold g7;rw[T8,Uz];lia
inductive rSl(K:W.Frag)(x:V)(lo:Option Int)(hi:Option Int)(H:Hp)(Q:VK):Prop
 |mk:∀G fp es vs d r,Goes K H G fp es vs r Q->Vw K G H d x->Pn d lo hi=.ok r->rSl K x lo hi H Q
theorem B4:N2 X (rSl X.K):=by
 rintro pr s σ H x v vl vu lo hi sl Q I rx hs pl pu ⟨G,fp,es,vs,d,r,⟨rel,k⟩,vd,e⟩;unfold Pn at e;split at e
 ·rename_i ds;cases e;obtain⟨p,xs,ev,sq,rs⟩:=vd;subst ev;refine yY pr s σ H _ v vl vu lo hi sl Q I rx hs pl pu ⟨p,xs,rfl,sq,fun q hq=>?_⟩;obtain⟨GW,G9⟩:=rel.newL hq (qh (lo:=lo) (hi:=hi) rs);exact k _ _ G _ G9 GW
 ·rename_i ds;split at e
  ·rename_i hw;cases e;obtain⟨p,xs,ev,sq,rs⟩:=fI vd;subst ev;refine Br pr s σ H _ v vl vu lo hi sl Q I rx hs pl pu ⟨p,xs,rfl,bB rel.gh sq,by rw[rs.length];exact hw,fun q hq=>?_⟩;obtain⟨G2,GW,G9⟩:=lO rel hq (qh (lo:=lo) (hi:=hi) rs);exact k _ _ G2 _ G9 GW
  ·cases e
 ·rename_i l;cases e;obtain⟨ev,hl⟩:=iZ vd;subst ev;exact BA pr s σ H _ v vl vu lo hi sl Q I rx hs pl pu ⟨l,rfl,hl,k _ H G fp .refl (rel.push (gR (l:=Bz l lo hi) (T2 (zw l lo hi) hl)))⟩
 ·cases e
def oU(env:PV.Env)(i:Nat):Bool:=match env[i]? with
 |some (some (_,.lst _))=>true
 |_=>false
theorem qi{K:W.Frag}{G H:Hp}{es:PV.Env}{σ:L2.St}{fp:List Addr}{i:Nat}(rel:Rel K G H es σ fp)(h:oU es i=true):∃v,σ[i]?=some (some v)/\Rm K "list" v H:=by
 unfold oU at h;split at h
 ·rename_i o ds hr;obtain⟨v,ev,rv⟩:=rel.view hr;obtain⟨p,xs,e,sq,_⟩:=bx rv;subst e;exact⟨_,ev,.inl ⟨rfl,xs,sq⟩⟩
 ·cases h
def AM(i:Nat)(f:FX):FX:=fun env=>if oU env i then(f env).bind fun p=>match p.2[i]? with
 |some (some (.l .f,.lst ds))=>if ds.length<sizeLine then .ok ((.f,.non),p.2.set i (some (.l .f,.lst (ds++[p.1.2])))) else .bad
 |_=>.bad
 else .bad
theorem jM{i:Nat}{o e:Expr}{f:FX}{apos Hy:Pos}(ho:PE X o (sd i))(he:QE X e f)
  (KA:attributeBase o "append" X.env (eval o X.env)=eval o X.env:=by rfl)
  (J2:((backTo Hy (starEach [e] X.env)).all (fun x=>!x.1)&&(backToKw Hy (keywordEach [] X.env)).all (fun x=>x.1.isSome)&&decide ([e].length+([]:List Keyword).length+(if([]:List Keyword).isEmpty then 0 else 1)<30))=true:=by rfl)
  (KC:(apos.endLine==Hy.line)=true:=by rfl) (hs:starEach [e] X.env=(false,eval e X.env)::starEach [] X.env:=by rfl) (JI:(backTo Hy (starEach [] X.env)).any (·.1)=false:=by rfl):
  QE X (.Call (.Attribute o "append" apos) [e] [] Hy) (AM i f):=by
 refine bK (Bw XJ PySem.F.slot_list_append PySem.F.type_list_append jB ho (aM he bj hs) KA J2 KC hs JI) fun σ H Q Hm=>?_
 obtain⟨G,env,fp,r,env',rel,e,k⟩:=Hm;unfold AM at e;split at e
 ·rename_i hil;obtain⟨v,ev,ty⟩:=qi rel hil;obtain⟨⟨r1,GV⟩,e1,e⟩:=ai e;dsimp only at e;split at e
  ·rename_i ds ME;split at e
   ·rename_i hl;cases e;refine⟨v,ev,ty,G,env,fp,[r1.2],GV,rel,by show(f env).bind _=_;rw[e1];rfl,fun vs H1 G1 Hq Hh GY rs=>?_⟩;rw[Reps]at rs;obtain⟨y,ys,RJ,ry,rn⟩:=rs;rw[Reps]at rn;subst rn;obtain⟨p,xs,ep,hp,LK,cg⟩:=GY.chg (ds':=ds++[r1.2]) ME;rw[ev]at ep;cases ep;obtain⟨fq,GW,G9⟩:=cg (xs++[y]) (LK.app (.one ry));exact⟨p,xs,y,rfl,RJ,hp,by rw[LK.length];exact hl,k _ _ G1 fq (Hh.trans G9) (GW.push lK)⟩
   ·cases e
  ·cases e
 ·cases e
def Et:List D->Res R
 |[.lst ds]=>.ok (.f,.int ds.length)
 |[.tup ds]=>.ok (.f,.int ds.length)
 |[.str l]=>.ok (.f,.int l.length)
 |_=>.bad
theorem sf{K:W.Frag}{G H:Hp}{d:D}{xs:List V}(h:QY K G H [d] xs):∃v,xs=[v]/\Vw K G H d v:=by
 obtain⟨y,ys,e,v1,e2⟩:=h;have e2:ys=[]:=e2;subst e2;exact⟨y,e,v1⟩
theorem B5:dC X (.builtin "len") (rC X.K Et):=by
 rintro pr s σ H xs us Q I rx ⟨G,fp,es,vs,ds,r,⟨rel,k⟩,vd,e⟩;unfold Et at e;split at e
 ·rename_i ds;cases e;obtain⟨v,ev,p,ys,ep,sq,rs⟩:=sf vd;subst ev;subst ep;refine iW pr s σ H _ us Q I rx ⟨p,ys,rfl,.inl sq,?_⟩;rw[rs.length];exact k _ H G fp .refl (rel.push (rep_int _))
 ·rename_i ds;cases e;obtain⟨v,ev,vt⟩:=sf vd;obtain⟨p,ys,ep,sq,rs⟩:=fI vt;subst ev;subst ep;refine iW pr s σ H _ us Q I rx ⟨p,ys,rfl,.inr (bB rel.gh sq),?_⟩;rw[rs.length];exact k _ H G fp .refl (rel.push (rep_int _))
 ·rename_i l;cases e;obtain⟨v,ev,vt⟩:=sf vd;obtain⟨ep,hl⟩:=iZ vt;subst ev;subst ep;refine mT pr s σ H _ us Q I rx ⟨S l,rfl,by rw[mW];exact hl,?_⟩;rw[mW];exact k _ H G fp .refl (rel.push (rep_int _))
 ·cases e
def oV:List D->Res R
 |[.lst ds]=>.ok (.l .f,.lst ds)
 |[.tup ds]=>.ok (.l .f,.lst ds)
 |_=>.bad
theorem uh:dC X (.type "list") (rC X.K oV):=by
 rintro pr s σ H xs us Q I rx ⟨G,fp,es,vs,ds,r,⟨rel,k⟩,vd,e⟩;unfold oV at e;split at e
 ·rename_i ds;cases e;obtain⟨v,ev,p,ys,ep,sq,rs⟩:=sf vd;subst ev;subst ep;refine iX pr s σ H _ us Q I rx ⟨p,ys,rfl,.inl sq,fun q hq=>?_⟩;obtain⟨GW,G9⟩:=rel.newL hq rs;exact k _ _ G _ G9 GW
 ·rename_i ds;cases e;obtain⟨v,ev,vt⟩:=sf vd;obtain⟨p,ys,ep,sq,rs⟩:=fI vt;subst ev;subst ep;refine iX pr s σ H _ us Q I rx ⟨p,ys,rfl,.inr (bB rel.gh sq),fun q hq=>?_⟩;obtain⟨GW,G9⟩:=rel.newL hq rs;exact k _ _ G _ G9 GW
 ·cases e
def gD:List D->Res R
 |[.lst ds]=>.ok (.f,.tup ds)
 |[.tup ds]=>.ok (.f,.tup ds)
 |_=>.bad
theorem gq:dC X (.type "tuple") (rC X.K gD):=by
 rintro pr s σ H xs us Q I rx ⟨G,fp,es,vs,ds,r,⟨rel,k⟩,vd,e⟩;unfold gD at e;split at e
 ·rename_i ds;cases e;obtain⟨v,ev,p,ys,ep,sq,rs⟩:=sf vd;subst ev;subst ep;refine hJ pr s σ H _ us Q I rx ⟨p,ys,rfl,.inl ⟨sq,fun q hq=>?_⟩⟩;obtain⟨G2,GW,G9⟩:=lO rel hq rs;exact k _ _ G2 _ G9 GW
 ·rename_i ds;cases e;obtain⟨v,ev,vt⟩:=sf vd;obtain⟨p,ys,ep,sq,rs⟩:=fI vt;subst ev;subst ep;exact hJ pr s σ H _ us Q I rx ⟨p,ys,rfl,.inr ⟨bB rel.gh sq,k _ H G fp .refl (rel.push vt)⟩⟩
 ·cases e
def wY:List D->Option (List Bool)
 |[]=>some []
 | .bl b::ds=>(wY ds).map (b:: ·)
 |_=>none
def d7:List D->Option (List Int)
 |[]=>some []
 | .int b::ds=>(d7 ds).map (b:: ·)
 |_=>none
theorem gW{K:W.Frag}{G:Hp}:∀{ds:List D}{bs:List Int}{xs:List V},d7 ds=some bs->Reps K G ds xs->xs=bs.map V.int
 |[],_,_,e,r=>by
  cases e;rw[Reps]at r;exact r
 | .int b::ds,_,_,e,r=>by
  rw[d7,UY]at e;obtain⟨bs,e1,e2⟩:=e;subst e2;rw[Reps]at r;obtain⟨y,ys,e3,r1,r2⟩:=r;rw[e3,bA r1,gW e1 r2];rfl
 | .non::_,_,_,e,_ | .bl _::_,_,_,e,_ | .str _::_,_,_,e,_ | .tup _::_,_,_,e,_ | .lst _::_,_,_,e,_ | .dct _ _ _::_,_,_,e,_=>by simp[d7]at e
theorem kW(ns:List Int):d7 (ns.map D.int)=some ns:=by
 induction ns with
 |nil=>rfl
 |cons n ns ih=>rw[TY,d7,ih];rfl
theorem B6(ns:List Bool):wY (ns.map D.bl)=some ns:=by
 induction ns with
 |nil=>rfl
 |cons n ns ih=>rw[TY,wY,ih];rfl
def nr:D->Option (List D)
 | .lst ds=>some ds
 | .tup ds=>some ds
 |_=>none
theorem zx{K:W.Frag}{G H:Hp}{d:D}{ds:List D}{v:V}(gh:Same G H)(e:nr d=some ds)(h:Vw K G H d v):∃p xs,v=.ref p/\(SqL K H p xs\/SqT K H p xs)/\Reps K G ds xs:=by
 cases d with
 |lst es=>
  cases e;obtain⟨p,xs,ev,sq,rs⟩:=h;exact⟨p,xs,ev,.inl sq,rs⟩
 |tup es=>
  cases e;obtain⟨p,xs,ev,sq,rs⟩:=bw h;exact⟨p,xs,ev,.inr (bB gh sq),rs⟩
 |_=>cases e
def GL:List D->Res R
 |[d]=>match(nr d).bind wY with
  |some bs=>.ok (.f,.bl (bs.all id))
  |none=>.bad
 |_=>.bad
def zy:List D->Res R
 |[d]=>match(nr d).bind d7 with
  |some ns=>.ok (.f,.int ns.sum)
  |none=>.bad
 |_=>.bad
def maxD:List D->Res R
 |[d]=>match(nr d).bind d7 with
  |some (n::ns)=>.ok (.f,.int (BG (n::ns)))
  |_=>.bad
 |[.int i,.int j]=>.ok (.f,.int (if i<j then j else i))
 |_=>.bad
theorem uk{K:W.Frag}{G H:Hp}{d:D}{ns:List Int}{v:V}(gh:Same G H)(hb:(nr d).bind d7=some ns)(vt:Vw K G H d v):∃p,v=.ref p/\(SqL K H p (ns.map V.int)\/SqT K H p (ns.map V.int)):=by
 obtain⟨l,hl,hb⟩:=VV.mp hb;obtain⟨p,ys,ep,sq,rs⟩:=zx gh hl vt;have:=gW hb rs;subst this;exact⟨p,ep,sq⟩
theorem xY(hc:X.calm=true):dC X (.builtin "sum") (rC X.K zy):=by
 rintro pr s σ H xs us Q I rx ⟨G,fp,es,vs,ds,r,⟨rel,k⟩,vd,e⟩;unfold zy at e;split at e
 ·rename_i d;split at e
  ·rename_i ns hb;cases e;obtain⟨v,ev,vt⟩:=sf vd;obtain⟨p,ep,sq⟩:=uk rel.gh hb vt;subst ev;subst ep;exact tm hc pr s σ H _ us Q I rx ⟨p,ns,rfl,sq,k _ H G fp .refl (rel.push (rep_int _))⟩
  ·cases e
 ·cases e
end
mutual
noncomputable def Ha:D->D->Bool
 | .non,.non=>true
 | .bl a,.bl b=>a==b
 | .bl a,.int j=>(if a then 1 else 0)==j
 | .int i,.bl b=>i==(if b then 1 else 0)
 | .int i,.int j=>i==j
 | .str a,.str b=>a==b
 | .tup a,.tup b=>jt a b
 | .lst a,.lst b=>jt a b
 |_,_=>false
noncomputable def jt:List D->List D->Bool
 |[],[]=>true
 |a::as,b::bs=>Ha a b&&jt as bs
 |_,_=>false
end
mutual
noncomputable def plainD:Nat->D->Bool
 |n+1,.tup ds=>plainDs n ds
 |n+1,.lst ds=>plainDs n ds
 | 0,.tup _=>false
 | 0,.lst _=>false
 |_,.dct _ _ _=>false
 |_,_=>true
noncomputable def plainDs:Nat->List D->Bool
 |_,[]=>true
 |n,d::ds=>plainD n d&&plainDs n ds
end
theorem plainDs_mem:∀{n:Nat}{ds:List D},plainDs n ds=true->∀{i:Nat}{d:D},ds[i]?=some d->plainD n d=true
 |_,[],_,_,_,e=>by simp at e
 |n,a::ds,h,0,d,e=>by
  rw[plainDs,TL]at h;simp at e;rw[<-e];exact h.1
 |n,a::ds,h,i+1,d,e=>by
  rw[plainDs,TL]at h;exact plainDs_mem h.2 (i:=i) (by simpa using e)
theorem ib:∀{a b:List D},a.length≠b.length->jt a b=false
 |[],[],h=>absurd rfl h
 |[],_::_,_=>by simp only[jt]
 |_::_,[],_=>by simp only[jt]
 |x::xs,y::ys,h=>by
  rw[jt,ib (fun e=>h (by simp[e])),WK]
theorem d8:∀{a b:List D},a.length=b.length->(List.range a.length).all (fun j=>Ha (a.getD j .non) (b.getD j .non))=jt a b
 |[],[],_=>rfl
 |[],_::_,h=>by simp at h
 |_::_,[],h=>by simp at h
 |x::xs,y::ys,h=>by
  rw[jt,<-d8 (a:=xs) (b:=ys) (by simpa using h),TQ,List.range_succ_eq_map,VU,V9];rfl
section
variable{X:Cx}{pr:List (Addr×Obj)}{σ:L2.St}{H:Hp}{s:Shared}
theorem jN(I:Inv X pr σ H s){p:Addr}{xs ys:List V}(h:SqL X.K H p xs)(h':SqT X.K H p ys):False:=by
 obtain⟨us,_,p1,_⟩:=I.list h;obtain⟨ws,_,p2,_⟩:=I.tuple h';exact SeqAt.ne_of_list_tuple p1.isList (show s.heap.IsTuple p ws.toArray from p2) rfl
mutual
theorem lR(I:Inv X pr σ H s):∀(d e:D) (x:V) (n:Nat),plainD n d=true->Rep X.K H d x->Rep X.K H e x->d=e
 | .non,e,x,n,_,r,q=>by
  cases bT r;cases e with
  |non=>rfl
  |bl b=>cases cA q
  |int i=>cases bA q
  |str l=>cases(bf q).1
  |tup l=>obtain⟨p,xs,ev,_⟩:=bw q;cases ev
  |lst l=>obtain⟨p,xs,ev,_⟩:=bx q;cases ev
  |dct tk ks vs=>rw[Rep]at q;obtain⟨p,xs,o,ev,_⟩:=q;cases ev
 | .bl b,e,x,n,_,r,q=>by
  cases cA r;cases e with
  |non=>cases bT q
  |bl b=>cases cA q;rfl
  |int i=>cases bA q
  |str l=>cases(bf q).1
  |tup l=>obtain⟨p,xs,ev,_⟩:=bw q;cases ev
  |lst l=>obtain⟨p,xs,ev,_⟩:=bx q;cases ev
  |dct tk ks vs=>rw[Rep]at q;obtain⟨p,xs,o,ev,_⟩:=q;cases ev
 | .int i,e,x,n,_,r,q=>by
  cases bA r;cases e with
  |non=>cases bT q
  |bl b=>cases cA q
  |int i=>cases bA q;rfl
  |str l=>cases(bf q).1
  |tup l=>obtain⟨p,xs,ev,_⟩:=bw q;cases ev
  |lst l=>obtain⟨p,xs,ev,_⟩:=bx q;cases ev
  |dct tk ks vs=>rw[Rep]at q;obtain⟨p,xs,o,ev,_⟩:=q;cases ev
 | .str l,e,x,n,_,r,q=>by
  have hr:=(bf r).1;subst hr;cases e with
  |non=>cases bT q
  |bl b=>cases cA q
  |int i=>cases bA q
  |str l'=>
   have hq:=(bf q).1;injection hq with hq;rw[y3 hq]
  |tup l=>obtain⟨p,xs,ev,_⟩:=bw q;cases ev
  |lst l=>obtain⟨p,xs,ev,_⟩:=bx q;cases ev
  |dct tk ks vs=>rw[Rep]at q;obtain⟨p,xs,o,ev,_⟩:=q;cases ev
 | .tup l,e,x,n,h,r,q=>by
  obtain⟨p,xs,ev,sq,rs⟩:=bw r;subst ev;cases e with
  |non=>cases bT q
  |bl b=>cases cA q
  |int i=>cases bA q
  |str l=>cases(bf q).1
  |tup l'=>
   obtain⟨p',IW,Jo,Iz,Jx⟩:=bw q;cases Jo;have:=I.tuple_inj sq Iz;subst this;cases n with
   |zero=>simp only[plainD]at h;cases h
   |succ n=>
    simp only[plainD]at h;rw[lS I l l' xs n h rs Jx]
  |lst l'=>
   obtain⟨p',IW,Jo,Iz,Jx⟩:=bx q;cases Jo;exact(jN I Iz sq).elim
  |dct tk ks vs=>
   exfalso;rw[Rep]at q;obtain⟨p',IW,o,Jo,rd,dd,_⟩:=q;cases Jo;obtain⟨GX,_,ip,_⟩:=I.tuple sq;obtain⟨ob,ho,hc,_⟩:=ip;have Oi:=rd.ok I.hok;cases tk with
   |true=>
    obtain⟨GU,eo,_⟩:=dd;subst eo;obtain⟨_,_,_,_,o2,_,_,IA,ex,_⟩:=Oi;rw[ho]at IA;cases IA;rw[ex.1]at hc;exact absurd hc (by decide)
   |false=>
    obtain⟨GU,eo,_⟩:=dd;subst eo;obtain⟨_,_,_,_,o2,_,_,IA,ex,_⟩:=Oi;rw[ho]at IA;cases IA;rw[ex.1]at hc;exact absurd hc (by decide)
 | .lst l,e,x,n,h,r,q=>by
  obtain⟨p,xs,ev,sq,rs⟩:=bx r;subst ev;cases e with
  |non=>cases bT q
  |bl b=>cases cA q
  |int i=>cases bA q
  |str l=>cases(bf q).1
  |tup l'=>
   obtain⟨p',IW,Jo,Iz,Jx⟩:=bw q;cases Jo;exact(jN I sq Iz).elim
  |lst l'=>
   obtain⟨p',IW,Jo,Iz,Jx⟩:=bx q;cases Jo;have:=I.list_inj sq Iz;subst this;cases n with
   |zero=>simp only[plainD]at h;cases h
   |succ n=>
    simp only[plainD]at h;rw[lS I l l' xs n h rs Jx]
  |dct tk ks vs=>
   exfalso;rw[Rep]at q;obtain⟨p',IW,o,Jo,rd,dd,_⟩:=q;cases Jo;obtain⟨GX,_,ip,_⟩:=I.list sq;obtain⟨ob,_,ho,hc,_⟩:=ip;have Oi:=rd.ok I.hok;cases tk with
   |true=>
    obtain⟨GU,eo,_⟩:=dd;subst eo;obtain⟨_,_,_,_,o2,_,_,IA,ex,_⟩:=Oi;rw[ho]at IA;cases IA;rw[ex.1]at hc;exact absurd hc (by decide)
   |false=>
    obtain⟨GU,eo,_⟩:=dd;subst eo;obtain⟨_,_,_,_,o2,_,_,IA,ex,_⟩:=Oi;rw[ho]at IA;cases IA;rw[ex.1]at hc;exact absurd hc (by decide)
 | .dct _ _ _,_,_,n,h,_,_=>by cases n <;> (simp only[plainD]at h;cases h)
theorem lS(I:Inv X pr σ H s):∀(ds es:List D) (xs:List V) (n:Nat),plainDs n ds=true->Reps X.K H ds xs->Reps X.K H es xs->ds=es
 |[],es,xs,n,_,r,q=>by
  rw[Reps]at r;subst r;cases es with
  |nil=>rfl
  |cons e es=>
   rw[Reps]at q;obtain⟨y,ys,ev,_⟩:=q;cases ev
 |d::ds,es,xs,n,h,r,q=>by
  rw[Reps]at r;obtain⟨y,ys,ev,r1,r2⟩:=r;subst ev;rw[plainDs,TL]at h;cases es with
  |nil=>
   rw[Reps]at q;cases q
  |cons e es=>
   rw[Reps]at q;obtain⟨y',ys',ev,q1,q2⟩:=q;cases ev;rw[lR I d e y n h.1 r1 q1,lS I ds es ys n h.2 r2 q2]
end
mutual
theorem lT:∀(d:D) (n:Nat),plainD n d=true->Ha d d=true
 | .non,_,_=>by simp only[Ha]
 | .bl _,_,_=>by simp only[Ha,UH]
 | .int _,_,_=>by simp only[Ha,UH]
 | .str _,_,_=>by simp only[Ha,UH]
 | .tup ds,0,h=>by simp only[plainD]at h;cases h
 | .tup ds,n+1,h=>by simp only[plainD]at h;simp only[Ha];exact jO ds n h
 | .lst ds,0,h=>by simp only[plainD]at h;cases h
 | .lst ds,n+1,h=>by simp only[plainD]at h;simp only[Ha];exact jO ds n h
 | .dct _ _ _,n,h=>by cases n <;> (simp only[plainD]at h;cases h)
theorem jO:∀(ds:List D) (n:Nat),plainDs n ds=true->jt ds ds=true
 |[],_,_=>by simp only[jt]
 |d::ds,n,h=>by
  rw[plainDs,TL]at h;rw[jt,lT d n h.1,jO ds n h.2];rfl
end
open PySem.SeqAt
theorem bC{n:Nat}{tk:Bool}{ks vs:List D}(h:plainD n (.dct tk ks vs)=true):False:=by cases n <;> (simp only[plainD]at h;cases h)
mutual
theorem B7(I:Inv X pr σ H s):∀(d e:D) (x y:V) (v u:Value) (A:Around) (n:Nat),plainD n d=true->plainD n e=true->A.units+n<cLine->Rep X.K H d x->Rep X.K H e y->RelV x v->RelV y u->EqAt A s v u (Ha d e)
 | .non,e,x,y,v,u,A,n,h,h',hu,r,q,rx,ry=>by
  cases bT r;cases rx;cases e with
  |non=>cases bT q;cases ry;simp only[Ha];exact .same _
  |bl b=>cases cA q;cases ry;simp only[Ha];exact .none_bool _
  |int i=>cases bA q;obtain⟨t,rfl⟩:=ry;simp only[Ha];exact .none_int _ _
  |str l=>cases(bf q).1;obtain⟨t,rfl⟩:=ry;simp only[Ha];exact .none_str _ _
  |tup l=>obtain⟨p,xs,rfl,sq,_⟩:=bw q;cases ry;obtain⟨GX,_,ip,_⟩:=I.tuple sq;simp only[Ha];exact .none_tuple (show s.heap.IsTuple p GX.toArray from ip) (by lia)
  |lst l=>obtain⟨p,xs,rfl,sq,_⟩:=bx q;cases ry;obtain⟨GX,_,ip,_⟩:=I.list sq;simp only[Ha];exact .none_list ip.isList (by lia)
  |dct tk ks vs=>exact(bC h').elim
 | .bl b,e,x,y,v,u,A,n,h,h',hu,r,q,rx,ry=>by
  cases cA r;cases rx;cases e with
  |non=>cases bT q;cases ry;simp only[Ha];exact .bool_none _
  |bl b=>cases cA q;cases ry;simp only[Ha];exact .bool_bool _ _
  |int i=>cases bA q;obtain⟨t,rfl⟩:=ry;simp only[Ha];exact .bool_int _ _ _
  |str l=>cases(bf q).1;obtain⟨t,rfl⟩:=ry;simp only[Ha];exact .bool_str _ _ _
  |tup l=>obtain⟨p,xs,rfl,sq,_⟩:=bw q;cases ry;obtain⟨GX,_,ip,_⟩:=I.tuple sq;simp only[Ha];exact .bool_tuple _ (show s.heap.IsTuple p GX.toArray from ip) (by lia)
  |lst l=>obtain⟨p,xs,rfl,sq,_⟩:=bx q;cases ry;obtain⟨GX,_,ip,_⟩:=I.list sq;simp only[Ha];exact .bool_list _ ip.isList (by lia)
  |dct tk ks vs=>exact(bC h').elim
 | .int b,e,x,y,v,u,A,n,h,h',hu,r,q,rx,ry=>by
  cases bA r;obtain⟨t0,rfl⟩:=rx;cases e with
  |non=>cases bT q;cases ry;simp only[Ha];exact .int_none _ _
  |bl b=>cases cA q;cases ry;simp only[Ha];exact .int_bool _ _ _
  |int i=>cases bA q;obtain⟨t,rfl⟩:=ry;simp only[Ha];exact .int_int _ _ _ _
  |str l=>cases(bf q).1;obtain⟨t,rfl⟩:=ry;simp only[Ha];exact .int_str _ _ _ _
  |tup l=>obtain⟨p,xs,rfl,sq,_⟩:=bw q;cases ry;obtain⟨GX,_,ip,_⟩:=I.tuple sq;simp only[Ha];exact .int_tuple _ _ (show s.heap.IsTuple p GX.toArray from ip) (by lia)
  |lst l=>obtain⟨p,xs,rfl,sq,_⟩:=bx q;cases ry;obtain⟨GX,_,ip,_⟩:=I.list sq;simp only[Ha];exact .int_list _ _ ip.isList (by lia)
  |dct tk ks vs=>exact(bC h').elim
 | .str b,e,x,y,v,u,A,n,h,h',hu,r,q,rx,ry=>by
  have hr:=(bf r).1;subst hr;obtain⟨t0,rfl⟩:=rx;cases e with
  |non=>cases bT q;cases ry;simp only[Ha];exact .str_none _ _
  |bl b=>cases cA q;cases ry;simp only[Ha];exact .str_bool _ _ _
  |int i=>cases bA q;obtain⟨t,rfl⟩:=ry;simp only[Ha];exact .str_int _ _ _ _
  |str l=>
   have hq:=(bf q).1;subst hq;obtain⟨t,rfl⟩:=ry;have e1:(b==l)=(S b==S l):=by
    rw[Uv,Uc,Uc];exact⟨fun z=>by rw[z],y3⟩
   simp only[Ha,e1];exact .str_str _ _ _ _
  |tup l=>obtain⟨p,xs,rfl,sq,_⟩:=bw q;cases ry;obtain⟨GX,_,ip,_⟩:=I.tuple sq;simp only[Ha];exact .str_tuple _ _ (show s.heap.IsTuple p GX.toArray from ip) (by lia)
  |lst l=>obtain⟨p,xs,rfl,sq,_⟩:=bx q;cases ry;obtain⟨GX,_,ip,_⟩:=I.list sq;simp only[Ha];exact .str_list _ _ ip.isList (by lia)
  |dct tk ks vs=>exact(bC h').elim
 | .tup l,e,x,y,v,u,A,n,h,h',hu,r,q,rx,ry=>by
  have rr:=r;obtain⟨p,xs,ev,sq,rs⟩:=bw r;subst ev;cases rx;obtain⟨GX,vl,ip,_⟩:=I.tuple sq;have ip:s.heap.IsTuple p GX.toArray:=ip;cases e with
  |non=>cases bT q;cases ry;simp only[Ha];exact .tuple_none ip (by lia)
  |bl b=>cases cA q;cases ry;simp only[Ha];exact .tuple_bool _ ip (by lia)
  |int i=>cases bA q;obtain⟨t,rfl⟩:=ry;simp only[Ha];exact .tuple_int _ _ ip (by lia)
  |str l=>cases(bf q).1;obtain⟨t,rfl⟩:=ry;simp only[Ha];exact .tuple_str _ _ ip (by lia)
  |tup l'=>
   obtain⟨p',IW,Jo,Iz,Jx⟩:=bw q;subst Jo;cases ry;by_cases hp:p=p'
   ·subst hp;have hz:=lR I _ _ _ n h rr q;rw[<-hz,lT _ n h];exact .same _
   ·obtain⟨its',L3,IZ,_⟩:=I.tuple Iz;have IZ:s.heap.IsTuple p' its'.toArray:=IZ;cases n with
    |zero=>simp only[plainD]at h;cases h
    |succ n=>
     simp only[plainD]at h h';have l1:=vl.length;have l2:=L3.length;have l3:=rs.length;have l4:=Jx.length;have key:=RcAt.tuples (A:=A) (e:=fun j=>Ha (l.getD j .non) (l'.getD j .non)) ip IZ (by lia) fun j h1 h2=>by
      simp only[Tr]at h1 h2;have g1:l[j]?=some (l[j]'(by lia)):=To _;have g2:l'[j]?=some (l'[j]'(by lia)):=To _;obtain⟨w1,Ll,L4⟩:=rs.get g1;obtain⟨w2,MO,MP⟩:=Jx.get g2;obtain⟨u1,KJ,L5⟩:=vl.get Ll;obtain⟨u2,KY,MQ⟩:=L3.get MO;have q1:GX.toArray[j]=u1:=by rw[To h1]at KJ;simpa using KJ
      have q2:its'.toArray[j]=u2:=by rw[To h2]at KY;simpa using KY
      rw[q1,q2,Th,Th,g1,g2];exact nv I l j _ g1 _ w1 w2 u1 u2 A.in1 n (plainDs_mem h g1) (plainDs_mem h' g2) (by show A.units+1+n<cLine;lia) L4 MP L5 MQ
     simp only[Ha];have fin:((List.range (min GX.toArray.size its'.toArray.size)).all (fun j=>Ha (l.getD j .non) (l'.getD j .non))&&GX.toArray.size==its'.toArray.size)=jt l l':=by
      simp only[Tr];by_cases hl:l.length=l'.length
      ·rw[<-d8 hl,show min GX.length its'.length=l.length by lia,show(GX.length==its'.length)=true by rw[Uc];lia,W6]
      ·rw[ib hl,show(GX.length==its'.length)=false by rw[Ug];lia,WK]
     rw[<-fin];exact .of_refs hp key
  |lst l'=>obtain⟨p',IW,Jo,Iz,_⟩:=bx q;subst Jo;cases ry;obtain⟨its',_,IZ,_⟩:=I.list Iz;simp only[Ha];exact .tuple_list ip IZ.isList (by lia)
  |dct tk ks vs=>exact(bC h').elim
 | .lst l,e,x,y,v,u,A,n,h,h',hu,r,q,rx,ry=>by
  have rr:=r;obtain⟨p,xs,ev,sq,rs⟩:=bx r;subst ev;cases rx;obtain⟨GX,vl,ip,_⟩:=I.list sq;have ip:=ip.isList;cases e with
  |non=>cases bT q;cases ry;simp only[Ha];exact .list_none ip (by lia)
  |bl b=>cases cA q;cases ry;simp only[Ha];exact .list_bool _ ip (by lia)
  |int i=>cases bA q;obtain⟨t,rfl⟩:=ry;simp only[Ha];exact .list_int _ _ ip (by lia)
  |str l=>cases(bf q).1;obtain⟨t,rfl⟩:=ry;simp only[Ha];exact .list_str _ _ ip (by lia)
  |lst l'=>
   obtain⟨p',IW,Jo,Iz,Jx⟩:=bx q;subst Jo;cases ry;by_cases hp:p=p'
   ·subst hp;have hz:=lR I _ _ _ n h rr q;rw[<-hz,lT _ n h];exact .same _
   ·obtain⟨its',L3,IZ,_⟩:=I.list Iz;have IZ:=IZ.isList;cases n with
    |zero=>simp only[plainD]at h;cases h
    |succ n=>
     simp only[plainD]at h h';have l1:=vl.length;have l2:=L3.length;have l3:=rs.length;have l4:=Jx.length;simp only[Ha];by_cases hl:l.length=l'.length
     ·have key:=RcAt.lists (A:=A) (e:=fun j=>Ha (l.getD j .non) (l'.getD j .non)) ip IZ (by simp only[Tr];lia) (by lia) fun j h1 h2=>by
       simp only[Tr]at h1 h2;have g1:l[j]?=some (l[j]'(by lia)):=To _;have g2:l'[j]?=some (l'[j]'(by lia)):=To _;obtain⟨w1,Ll,L4⟩:=rs.get g1;obtain⟨w2,MO,MP⟩:=Jx.get g2;obtain⟨u1,KJ,L5⟩:=vl.get Ll;obtain⟨u2,KY,MQ⟩:=L3.get MO;have q1:GX.toArray[j]=u1:=by rw[To h1]at KJ;simpa using KJ
       have q2:its'.toArray[j]=u2:=by rw[To h2]at KY;simpa using KY
       rw[q1,q2,Th,Th,g1,g2];exact nv I l j _ g1 _ w1 w2 u1 u2 A.in1 n (plainDs_mem h g1) (plainDs_mem h' g2) (by show A.units+1+n<cLine;lia) L4 MP L5 MQ
      rw[<-d8 hl,show l.length=GX.toArray.size by simp only[Tr];lia];exact .of_refs hp key
     ·rw[ib hl];exact .of_refs hp (RcAt.lists_lengths ip IZ (by simp only[Tr,bne_iff_ne];lia) (by lia))
  |tup l'=>obtain⟨p',IW,Jo,Iz,_⟩:=bw q;subst Jo;cases ry;obtain⟨its',_,IZ,_⟩:=I.tuple Iz;simp only[Ha];exact .list_tuple ip (show s.heap.IsTuple p' its'.toArray from IZ) (by lia)
  |dct tk ks vs=>exact(bC h').elim
 | .dct _ _ _,_,_,_,_,_,_,n,h,_,_,_,_,_,_=>(bC h).elim
theorem nv(I:Inv X pr σ H s):∀(ds:List D) (j:Nat) (d:D),ds[j]?=some d->∀(e:D) (x y:V) (v u:Value) (A:Around) (n:Nat),plainD n d=true->plainD n e=true->A.units+n<cLine->Rep X.K H d x->Rep X.K H e y->RelV x v->RelV y u->EqAt A s v u (Ha d e)
 |[],_,_,hj=>by simp at hj
 |d'::ds,0,d,hj=>by
  simp at hj;subst hj;exact B7 I d'
 |d'::ds,j+1,d,hj=>nv I ds j d (by simpa using hj)
end
end
section
variable{X:Cx}
def eqO(a b:D):Res R:=if plainD 40 a&&plainD 40 b then .ok (.f,.bl (Ha a b)) else .bad
def Jp(a b:D):Res R:=if plainD 40 a&&plainD 40 b then .ok (.f,.bl (!Ha a b)) else .bad
open PySem.SeqAt in
theorem B8{pr:List (Addr×Obj)}{σ:L2.St}{H:Hp}{s:Shared}(I:Inv X pr σ H s){d e:D}{x y:V}{v u:Value}{A:Around}(h:plainD 40 d=true)(h':plainD 40 e=true)(hu:A.units+64<cLine)(r:Rep X.K H d x)(q:Rep X.K H e y)(rx:RelV x v)(ry:RelV y u):
  RcAt A s v u (Ha d e)/\RcNeAt A s v u (!Ha d e):=by
 cases d with
 |non=>
  cases bT r;cases rx;cases e with
  |non=>cases bT q;cases ry;simp only[Ha];exact⟨.none_none,.none_none⟩
  |bl b=>cases cA q;cases ry;simp only[Ha];exact⟨.none_bool _,.none_bool _⟩
  |int i=>cases bA q;obtain⟨t,rfl⟩:=ry;simp only[Ha];exact⟨.none_int _ _,.none_int _ _⟩
  |str l=>cases(bf q).1;obtain⟨t,rfl⟩:=ry;simp only[Ha];exact⟨.none_str _ _,.none_str _ _⟩
  |tup l=>obtain⟨p,xs,rfl,sq,_⟩:=bw q;cases ry;obtain⟨GX,_,ip,_⟩:=I.tuple sq;simp only[Ha];exact⟨.none_tuple (show s.heap.IsTuple p GX.toArray from ip) (by lia),.none_tuple (show s.heap.IsTuple p GX.toArray from ip) (by lia)⟩
  |lst l=>obtain⟨p,xs,rfl,sq,_⟩:=bx q;cases ry;obtain⟨GX,_,ip,_⟩:=I.list sq;simp only[Ha];exact⟨.none_list ip.isList (by lia),.none_list ip.isList (by lia)⟩
  |dct tk ks vs=>exact(bC h').elim
 |bl b=>
  cases cA r;cases rx;cases e with
  |non=>cases bT q;cases ry;simp only[Ha];exact⟨.bool_none _,.bool_none _⟩
  |bl b=>cases cA q;cases ry;simp only[Ha];exact⟨.bool_bool _ _,.bool_bool _ _⟩
  |int i=>cases bA q;obtain⟨t,rfl⟩:=ry;simp only[Ha];exact⟨.bool_int _ _ _,.bool_int _ _ _⟩
  |str l=>cases(bf q).1;obtain⟨t,rfl⟩:=ry;simp only[Ha];exact⟨.bool_str _ _ _,.bool_str _ _ _⟩
  |tup l=>obtain⟨p,xs,rfl,sq,_⟩:=bw q;cases ry;obtain⟨GX,_,ip,_⟩:=I.tuple sq;simp only[Ha];exact⟨.bool_tuple _ (show s.heap.IsTuple p GX.toArray from ip) (by lia),.bool_tuple _ (show s.heap.IsTuple p GX.toArray from ip) (by lia)⟩
  |lst l=>obtain⟨p,xs,rfl,sq,_⟩:=bx q;cases ry;obtain⟨GX,_,ip,_⟩:=I.list sq;simp only[Ha];exact⟨.bool_list _ ip.isList (by lia),.bool_list _ ip.isList (by lia)⟩
  |dct tk ks vs=>exact(bC h').elim
 |int b=>
  cases bA r;obtain⟨t0,rfl⟩:=rx;cases e with
  |non=>cases bT q;cases ry;simp only[Ha];exact⟨.int_none _ _,.int_none _ _⟩
  |bl b=>cases cA q;cases ry;simp only[Ha];exact⟨.int_bool _ _ _,.int_bool _ _ _⟩
  |int i=>cases bA q;obtain⟨t,rfl⟩:=ry;simp only[Ha];exact⟨.int_int _ _ _ _,.int_int _ _ _ _⟩
  |str l=>cases(bf q).1;obtain⟨t,rfl⟩:=ry;simp only[Ha];exact⟨.int_str _ _ _ _,.int_str _ _ _ _⟩
  |tup l=>obtain⟨p,xs,rfl,sq,_⟩:=bw q;cases ry;obtain⟨GX,_,ip,_⟩:=I.tuple sq;simp only[Ha];exact⟨.int_tuple _ _ (show s.heap.IsTuple p GX.toArray from ip) (by lia),.int_tuple _ _ (show s.heap.IsTuple p GX.toArray from ip) (by lia)⟩
  |lst l=>obtain⟨p,xs,rfl,sq,_⟩:=bx q;cases ry;obtain⟨GX,_,ip,_⟩:=I.list sq;simp only[Ha];exact⟨.int_list _ _ ip.isList (by lia),.int_list _ _ ip.isList (by lia)⟩
  |dct tk ks vs=>exact(bC h').elim
 |str b=>
  have hr:=(bf r).1;subst hr;obtain⟨t0,rfl⟩:=rx;cases e with
  |non=>cases bT q;cases ry;simp only[Ha];exact⟨.str_none _ _,.str_none _ _⟩
  |bl b=>cases cA q;cases ry;simp only[Ha];exact⟨.str_bool _ _ _,.str_bool _ _ _⟩
  |int i=>cases bA q;obtain⟨t,rfl⟩:=ry;simp only[Ha];exact⟨.str_int _ _ _ _,.str_int _ _ _ _⟩
  |str l=>
   have hq:=(bf q).1;subst hq;obtain⟨t,rfl⟩:=ry;have e1:(b==l)=(S b==S l):=by
    rw[Uv,Uc,Uc];exact⟨fun z=>by rw[z],y3⟩
   simp only[Ha,e1];exact⟨.str_str _ _ _ _,.str_str _ _ _ _⟩
  |tup l=>obtain⟨p,xs,rfl,sq,_⟩:=bw q;cases ry;obtain⟨GX,_,ip,_⟩:=I.tuple sq;simp only[Ha];exact⟨.str_tuple _ _ (show s.heap.IsTuple p GX.toArray from ip) (by lia),.str_tuple _ _ (show s.heap.IsTuple p GX.toArray from ip) (by lia)⟩
  |lst l=>obtain⟨p,xs,rfl,sq,_⟩:=bx q;cases ry;obtain⟨GX,_,ip,_⟩:=I.list sq;simp only[Ha];exact⟨.str_list _ _ ip.isList (by lia),.str_list _ _ ip.isList (by lia)⟩
  |dct tk ks vs=>exact(bC h').elim
 |tup l=>
  obtain⟨p,xs,ev,sq,rs⟩:=bw r;subst ev;cases rx;obtain⟨GX,vl,ip,_⟩:=I.tuple sq;have ip:s.heap.IsTuple p GX.toArray:=ip;cases e with
  |non=>cases bT q;cases ry;simp only[Ha];exact⟨.tuple_none ip (by lia),.tuple_none ip (by lia)⟩
  |bl b=>cases cA q;cases ry;simp only[Ha];exact⟨.tuple_bool _ ip (by lia),.tuple_bool _ ip (by lia)⟩
  |int i=>cases bA q;obtain⟨t,rfl⟩:=ry;simp only[Ha];exact⟨.tuple_int _ _ ip (by lia),.tuple_int _ _ ip (by lia)⟩
  |str l=>cases(bf q).1;obtain⟨t,rfl⟩:=ry;simp only[Ha];exact⟨.tuple_str _ _ ip (by lia),.tuple_str _ _ ip (by lia)⟩
  |tup l'=>
   obtain⟨p',IW,Jo,Iz,Jx⟩:=bw q;subst Jo;cases ry;obtain⟨its',L3,IZ,_⟩:=I.tuple Iz;have IZ:s.heap.IsTuple p' its'.toArray:=IZ;simp only[plainD]at h h';have l1:=vl.length;have l2:=L3.length;have l3:=rs.length;have l4:=Jx.length;have el:∀j (h1:j<GX.toArray.size) (h2:j<its'.toArray.size),EqAt A.in1 s GX.toArray[j] its'.toArray[j] ((fun j=>Ha (l.getD j .non) (l'.getD j .non)) j):=fun j h1 h2=>by
    simp only[Tr]at h1 h2;have g1:l[j]?=some (l[j]'(by lia)):=To _;have g2:l'[j]?=some (l'[j]'(by lia)):=To _;obtain⟨w1,Ll,L4⟩:=rs.get g1;obtain⟨w2,MO,MP⟩:=Jx.get g2;obtain⟨u1,KJ,L5⟩:=vl.get Ll;obtain⟨u2,KY,MQ⟩:=L3.get MO;have q1:GX.toArray[j]=u1:=by rw[To h1]at KJ;simpa using KJ
    have q2:its'.toArray[j]=u2:=by rw[To h2]at KY;simpa using KY
    dsimp only;rw[q1,q2,Th,Th,g1,g2];exact nv I l j _ g1 _ w1 w2 u1 u2 A.in1 39 (plainDs_mem h g1) (plainDs_mem h' g2) (by show A.units+1+39<cLine;lia) L4 MP L5 MQ
   simp only[Ha];have fin:((List.range (min GX.toArray.size its'.toArray.size)).all (fun j=>Ha (l.getD j .non) (l'.getD j .non))&&GX.toArray.size==its'.toArray.size)=jt l l':=by
    simp only[Tr];by_cases hl:l.length=l'.length
    ·rw[<-d8 hl,show min GX.length its'.length=l.length by lia,show(GX.length==its'.length)=true by rw[Uc];lia,W6]
    ·rw[ib hl,show(GX.length==its'.length)=false by rw[Ug];lia,WK]
   rw[<-fin];exact⟨.tuples ip IZ (by lia) el,.tuples ip IZ (by lia) el⟩
  |lst l'=>obtain⟨p',IW,Jo,Iz,_⟩:=bx q;subst Jo;cases ry;obtain⟨its',_,IZ,_⟩:=I.list Iz;simp only[Ha];exact⟨.tuple_list ip IZ.isList (by lia),.tuple_list ip IZ.isList (by lia)⟩
  |dct tk ks vs=>exact(bC h').elim
 |lst l=>
  obtain⟨p,xs,ev,sq,rs⟩:=bx r;subst ev;cases rx;obtain⟨GX,vl,ip,_⟩:=I.list sq;have ip:=ip.isList;cases e with
  |non=>cases bT q;cases ry;simp only[Ha];exact⟨.list_none ip (by lia),.list_none ip (by lia)⟩
  |bl b=>cases cA q;cases ry;simp only[Ha];exact⟨.list_bool _ ip (by lia),.list_bool _ ip (by lia)⟩
  |int i=>cases bA q;obtain⟨t,rfl⟩:=ry;simp only[Ha];exact⟨.list_int _ _ ip (by lia),.list_int _ _ ip (by lia)⟩
  |str l=>cases(bf q).1;obtain⟨t,rfl⟩:=ry;simp only[Ha];exact⟨.list_str _ _ ip (by lia),.list_str _ _ ip (by lia)⟩
  |lst l'=>
   obtain⟨p',IW,Jo,Iz,Jx⟩:=bx q;subst Jo;cases ry;obtain⟨its',L3,IZ,_⟩:=I.list Iz;have IZ:=IZ.isList;simp only[plainD]at h h';have l1:=vl.length;have l2:=L3.length;have l3:=rs.length;have l4:=Jx.length;simp only[Ha];by_cases hl:l.length=l'.length
   ·have el:∀j (h1:j<GX.toArray.size) (h2:j<its'.toArray.size),EqAt A.in1 s GX.toArray[j] its'.toArray[j] ((fun j=>Ha (l.getD j .non) (l'.getD j .non)) j):=fun j h1 h2=>by
     simp only[Tr]at h1 h2;have g1:l[j]?=some (l[j]'(by lia)):=To _;have g2:l'[j]?=some (l'[j]'(by lia)):=To _;obtain⟨w1,Ll,L4⟩:=rs.get g1;obtain⟨w2,MO,MP⟩:=Jx.get g2;obtain⟨u1,KJ,L5⟩:=vl.get Ll;obtain⟨u2,KY,MQ⟩:=L3.get MO;have q1:GX.toArray[j]=u1:=by rw[To h1]at KJ;simpa using KJ
     have q2:its'.toArray[j]=u2:=by rw[To h2]at KY;simpa using KY
     dsimp only;rw[q1,q2,Th,Th,g1,g2];exact nv I l j _ g1 _ w1 w2 u1 u2 A.in1 39 (plainDs_mem h g1) (plainDs_mem h' g2) (by show A.units+1+39<cLine;lia) L4 MP L5 MQ
    rw[<-d8 hl,show l.length=GX.toArray.size by simp only[Tr];lia];exact⟨.lists ip IZ (by simp only[Tr];lia) (by lia) el,.lists ip IZ (by simp only[Tr];lia) (by lia) el⟩
   ·rw[ib hl];exact⟨.lists_lengths ip IZ (by simp only[Tr,bne_iff_ne];lia) (by lia),.lists_lengths ip IZ (by simp only[Tr,bne_iff_ne];lia) (by lia)⟩
  |tup l'=>obtain⟨p',IW,Jo,Iz,_⟩:=bw q;subst Jo;cases ry;obtain⟨its',_,IZ,_⟩:=I.tuple Iz;simp only[Ha];exact⟨.list_tuple ip (show s.heap.IsTuple p' its'.toArray from IZ) (by lia),.list_tuple ip (show s.heap.IsTuple p' its'.toArray from IZ) (by lia)⟩
  |dct tk ks vs=>exact(bC h').elim
 |dct tk ks vs=>exact(bC h).elim
theorem fL(hu:X.A.units+64<cLine):HI X (compareOp .Eq) (rGA X.K eqO):=by
 rintro pr s σ H x y v u Q I rx ry ⟨G,fp,es,vs,a,b,r,⟨rel,k⟩,va,vb,e⟩;unfold eqO at e;split at e
 ·rename_i hp;cases e;rw[TL]at hp;exact(B8 I hp.1 hp.2 hu va vb rx ry).1 _ _ _ _ ⟨.bl _,H,I,rfl,k _ H G fp .refl (rel.push (cJ _))⟩
 ·cases e
theorem lU(hu:X.A.units+64<cLine):HI X (compareOp .NotEq) (rGA X.K Jp):=by
 rintro pr s σ H x y v u Q I rx ry ⟨G,fp,es,vs,a,b,r,⟨rel,k⟩,va,vb,e⟩;unfold Jp at e;split at e
 ·rename_i hp;cases e;rw[TL]at hp;exact(B8 I hp.1 hp.2 hu va vb rx ry).2 _ _ _ _ ⟨.bl _,H,I,rfl,k _ H G fp .refl (rel.push (cJ _))⟩
 ·cases e
def wa(a:D)(ds:List D):Bool:=ds.any fun d=>Ha d a
noncomputable def NA(a b:D):Res R:=match b with
 | .lst ds=>if plainD 40 a&&plainDs 40 ds then .ok (.f,.bl (wa a ds)) else .bad
 | .tup ds=>if plainD 40 a&&plainDs 40 ds then .ok (.f,.bl (wa a ds)) else .bad
 | .str l=>match a with
  | .str [c]=>.ok (.f,.bl (decide (c∈l)))
  |_=>.bad
 |_=>.bad
def B9(a b:D):Res R:=(NA a b).bind fun r=>match r.2 with
 | .bl k=>.ok (.f,.bl (!k))
 |_=>.bad
open PySem.SeqAt in
theorem mem_at{pr:List (Addr×Obj)}{σ:L2.St}{H:Hp}{s:Shared}(I:Inv X pr σ H s){a:D}{x:V}{v:Value}{A:Around}(h:plainD 40 a=true)(hu:A.units+64<cLine)(r:Rep X.K H a x)(rx:RelV x v):
  ∀(ds:List D) (xs:List V) (us:List Value),plainDs 40 ds=true->Reps X.K H ds xs->Vals xs us->∃e:Value->Bool,us.any e=wa a ds/\∀u∈us,EqAt A s u v (e u):=by
 classical
 intro ds xs us hp rs vl;refine⟨fun u=>decide (∃(j:Nat) (d:D),ds[j]?=some d/\us[j]?=some u/\Ha d a=true),?_,fun u hu'=>?_⟩
 ·rw[Uv,Wo];unfold wa;rw[Wo];constructor
  ·rintro⟨u,_,hd⟩;obtain⟨j,d,h1,_,h2⟩:=XA hd;exact⟨d,UL h1,h2⟩
  ·rintro⟨d,hd,h2⟩;obtain⟨j,hj⟩:=Vh.mp hd;obtain⟨w1,Ll,L4⟩:=rs.get hj;obtain⟨u1,KJ,L5⟩:=vl.get Ll;exact⟨u1,UL KJ,Ux ⟨j,d,hj,KJ,h2⟩⟩
 ·obtain⟨j,hj⟩:=Vh.mp hu';have l1:=vl.length;have l2:=rs.length;have Sv:=(TH.mp hj).1;have g1:ds[j]?=some (ds[j]'(by lia)):=To _;obtain⟨w1,Ll,L4⟩:=rs.get g1;obtain⟨u1,KJ,L5⟩:=vl.get Ll;rw[hj]at KJ;cases KJ;have z:=B7 I _ _ w1 x u v A 40 (plainDs_mem hp g1) h (by lia) L4 r L5 rx;have e:decide (∃(j:Nat) (d:D),ds[j]?=some d/\us[j]?=some u/\Ha d a=true)=Ha (ds[j]'(by lia)) a:=by
   rw[Uv,T1];constructor
   ·rintro⟨j2,d2,k1,k2,k3⟩;obtain⟨w2,MO,MP⟩:=rs.get k1;obtain⟨u2,KY,MQ⟩:=vl.get MO;rw[k2]at KY;cases KY;have:=L5.inj MQ;subst this;rw[lR I _ _ _ 40 (plainDs_mem hp g1) L4 MP];exact k3
   ·intro k3;exact⟨j,_,g1,hj,k3⟩
  show EqAt A s u v (decide (∃(j:Nat) (d:D),ds[j]?=some d/\us[j]?=some u/\Ha d a=true));rw[e];exact z
theorem ny(l:List Nat)(c:Nat):(!(Builtin.Str.occurrences (S l) (S [c]) 0 (S l).length 1).isEmpty)=decide (c∈l):=by
 have h:=PySem.StrLaws.found_one (S l) c;rw[e8]at h;exact h
theorem lV{e:Value->Bool}(us:List Value):us.toArray.any e=us.any e:=by simp
theorem Eu(hu:X.A.units+65<cLine):HI X (compareOp .In) (rGA X.K NA):=by
 rintro pr s σ H x y v u Q I rx ry ⟨G,fp,es,vs,a,b,r,⟨rel,k⟩,va,vb,e⟩;unfold NA at e;split at e
 ·rename_i ds;split at e
  ·rename_i hp;cases e;rw[TL]at hp;obtain⟨p,xs,ev,sq,rs⟩:=bx vb;subst ev;cases ry;obtain⟨GX,vl,ip,_⟩:=I.list sq;obtain⟨ef,e1,e2⟩:=mem_at (A:=X.A.in1) I hp.1 (by show X.A.units+1+64<cLine;lia) va rx ds xs GX hp.2 rs vl;refine SeqAt.in_listAt ef ip.isList (fun z hz=>e2 z (by simpa using hz)) ?_;rw[lV,e1];exact⟨.bl _,H,I,rfl,k _ H G fp .refl (rel.push (cJ _))⟩
  ·cases e
 ·rename_i ds;split at e
  ·rename_i hp;cases e;rw[TL]at hp;obtain⟨p,xs,ev,sq,rs⟩:=bw vb;subst ev;cases ry;obtain⟨GX,vl,ip,_⟩:=I.tuple sq;obtain⟨ef,e1,e2⟩:=mem_at (A:=X.A.in1) I hp.1 (by show X.A.units+1+64<cLine;lia) va rx ds xs GX hp.2 rs vl;refine SeqAt.in_tupleAt ef (show s.heap.IsTuple p GX.toArray from ip) (fun z hz=>e2 z (by simpa using hz)) ?_;rw[lV,e1];exact⟨.bl _,H,I,rfl,k _ H G fp .refl (rel.push (cJ _))⟩
  ·cases e
 ·rename_i l;split at e
  ·rename_i c;cases e;obtain⟨e1,h1⟩:=bf va;obtain⟨e2,h2⟩:=bf vb;subst e1;subst e2;refine sN pr s σ H _ _ v u Q I rx ry ⟨_,_,rfl,rfl,?_⟩;rw[ny];exact k _ H G fp .refl (rel.push (cJ _))
  ·cases e
 ·cases e
theorem Ca(hu:X.A.units+65<cLine):HI X (compareOp .NotIn) (rGA X.K B9):=by
 rintro pr s σ H x y v u Q I rx ry ⟨G,fp,es,vs,a,b,r,⟨rel,k⟩,va,vb,e⟩;unfold B9 at e;obtain⟨r0,e0,e⟩:=ai e;unfold NA at e0;split at e0
 ·rename_i ds;split at e0
  ·rename_i hp;cases e0;cases e;rw[TL]at hp;obtain⟨p,xs,ev,sq,rs⟩:=bx vb;subst ev;cases ry;obtain⟨GX,vl,ip,_⟩:=I.list sq;obtain⟨ef,e1,e2⟩:=mem_at (A:=X.A.in1) I hp.1 (by show X.A.units+1+64<cLine;lia) va rx ds xs GX hp.2 rs vl;refine SeqAt.notIn_listAt ef ip.isList (fun z hz=>e2 z (by simpa using hz)) ?_;rw[lV,e1];exact⟨.bl _,H,I,rfl,k _ H G fp .refl (rel.push (cJ _))⟩
  ·cases e0
 ·rename_i ds;split at e0
  ·rename_i hp;cases e0;cases e;rw[TL]at hp;obtain⟨p,xs,ev,sq,rs⟩:=bw vb;subst ev;cases ry;obtain⟨GX,vl,ip,_⟩:=I.tuple sq;obtain⟨ef,e1,e2⟩:=mem_at (A:=X.A.in1) I hp.1 (by show X.A.units+1+64<cLine;lia) va rx ds xs GX hp.2 rs vl;refine SeqAt.notIn_tupleAt ef (show s.heap.IsTuple p GX.toArray from ip) (fun z hz=>e2 z (by simpa using hz)) ?_;rw[lV,e1];exact⟨.bl _,H,I,rfl,k _ H G fp .refl (rel.push (cJ _))⟩
  ·cases e0
 ·rename_i l;split at e0
  ·rename_i c;cases e0;cases e;obtain⟨e1,h1⟩:=bf va;obtain⟨e2,h2⟩:=bf vb;subst e1;subst e2;refine mN pr s σ H _ _ v u Q I rx ry ⟨_,_,rfl,rfl,?_⟩;rw[ny];exact k _ H G fp .refl (rel.push (cJ _))
  ·cases e0
 ·cases e0
def Mu(a b:D):Res R:=match b with
 | .bl k=>.ok (.f,.bl (match a with | .bl j=>j==k|_=>false))
 | .non=>.ok (.f,.bl (match a with | .non=>true|_=>false))
 |_=>.bad
def GN(a b:D):Res R:=(Mu a b).bind fun r=>match r.2 with
 | .bl k=>.ok (.f,.bl (!k))
 |_=>.bad
theorem wZ{K:W.Frag}{H:Hp}{a b:D}{x y:V}{v u:Value}{r:R}(va:Rep K H a x)(vb:Rep K H b y)(rx:RelV x v)(ry:RelV y u)(e:Mu a b=.ok r):plainIs v u=true/\r=(.f,.bl (v==u)):=by
 unfold Mu at e;split at e
 ·rename_i k;cases e;cases cA vb;cases ry;cases a with
  |non=>cases bT va;cases rx;exact⟨rfl,rfl⟩
  |bl j=>cases cA va;cases rx;refine⟨rfl,?_⟩;cases j <;> cases k <;> rfl
  |int i=>cases bA va;obtain⟨t,rfl⟩:=rx;exact⟨rfl,rfl⟩
  |str l=>cases(bf va).1;obtain⟨t,rfl⟩:=rx;exact⟨rfl,rfl⟩
  |tup l=>obtain⟨p,xs,rfl,_⟩:=bw va;cases rx;exact⟨rfl,rfl⟩
  |lst l=>obtain⟨p,xs,rfl,_⟩:=bx va;cases rx;exact⟨rfl,rfl⟩
  |dct tk ks vs=>rw[Rep]at va;obtain⟨p,xs,o,rfl,_⟩:=va;cases rx;exact⟨rfl,rfl⟩
 ·cases e;cases bT vb;cases ry;cases a with
  |non=>cases bT va;cases rx;exact⟨rfl,rfl⟩
  |bl j=>cases cA va;cases rx;exact⟨rfl,rfl⟩
  |int i=>cases bA va;obtain⟨t,rfl⟩:=rx;exact⟨rfl,rfl⟩
  |str l=>cases(bf va).1;obtain⟨t,rfl⟩:=rx;exact⟨rfl,rfl⟩
  |tup l=>obtain⟨p,xs,rfl,_⟩:=bw va;cases rx;exact⟨rfl,rfl⟩
  |lst l=>obtain⟨p,xs,rfl,_⟩:=bx va;cases rx;exact⟨rfl,rfl⟩
  |dct tk ks vs=>rw[Rep]at va;obtain⟨p,xs,o,rfl,_⟩:=va;cases rx;exact⟨rfl,rfl⟩
 ·cases e
theorem Cb:HI X (compareOp .Is) (rGA X.K Mu):=by
 rintro pr s σ H x y v u Q I rx ry ⟨G,fp,es,vs,a,b,r,⟨rel,k⟩,va,vb,e⟩;obtain⟨h1,h2⟩:=wZ va vb rx ry e;subst h2;exact wpAny_is_plain h1 ⟨.bl _,H,I,rfl,k _ H G fp .refl (rel.push (cJ _))⟩
end
section
variable{X:Cx}
def Gs(f g:FX):FX:=fun env=>(f env).bind fun p=>(g p.2).bind fun q=>match(nr p.1.2).bind d7,q.1.2 with
 |some ns,.int d=>.ok ((.f,.int (NX.maxD ns d)),q.2)
 |_,_=>.bad
def GO:List D->Res R
 |[.bl b]=>.ok (.f,.int (if b then 1 else 0))
 |[.int i]=>.ok (.f,.int i)
 |_=>.bad
def oW:D->String
 | .non=>"NoneType"
 | .bl _=>"bool"
 | .int _=>"int"
 | .str _=>"str"
 | .tup _=>"tuple"
 | .lst _=>"list"
 | .dct _ _ _=>"dict"
def rK(T:String)(d:D):Bool:=oW d==T||(oW d == "bool" && T == "int")
def Oj(T:String)(f:FO):FX:=fun env=>(f env).bind fun p=>(oE p.2 p.1).bind fun d=>.ok ((.f,.bl (rK T d)),p.2)
theorem Cc(K:W.Frag)(d:D){T:String}(hT:T = "int"\/T = "bool"\/T = "str"\/T = "list"\/T = "tuple"\/T = "dict"):PySem.W.kitOne K (.type (oW d)) (.type T)=some (rK T d):=by
 rcases hT with rfl|rfl|rfl|rfl|rfl|rfl <;> cases d <;> (unfold PySem.W.kitOne PySem.W.kitCls PySem.W.subIn;kernel_rfl)
theorem w4:dC X (.builtin "isinstance") (fun xs H Q=>∃d x T,xs=[x,.ty T]/\Rep X.K H d x/\(T = "int"\/T = "bool"\/T = "str"\/T = "list"\/T = "tuple"\/T = "dict")/\Q (.bl (rK T d)) H):=by
 intro pr s σ H xs us Q I r h;obtain⟨d,x,T,rfl,rd,hT,q⟩:=h;obtain⟨u,w',rfl,r1,r2⟩:=Bn r;cases(show w'=Value.type T from r2);have e:=Cc X.K d hT;have fin:∀tk,EP X pr σ Q (.bool (rK T d)) {s with toks:=tk}:=fun tk=>⟨.bl (rK T d),H,I.tok tk,rfl,q⟩
 cases d with
 |non=>cases bT rd;cases(show u=Value.none from r1);exact Vy PySem.W.kitx_none I.kIn True.intro e (fun z=>nomatch z) fin
 |bl y=>cases cA rd;cases(show u=Value.bool y from r1);exact Vy PySem.W.kitx_bool I.kIn True.intro e (fun z=>nomatch z) fin
 |int i=>cases bA rd;obtain⟨t,z⟩:=(show ∃t,u=Value.int i t from r1);cases z;exact Vy PySem.W.kitx_int I.kIn True.intro e (fun z=>nomatch z) fin
 |str l=>
  have hr:=(bf rd).1;subst hr;obtain⟨t,z⟩:=(show ∃t,u=Value.str (S l) t from r1)
  cases z;exact Vy PySem.W.kitx_str I.kIn True.intro e (fun z=>nomatch z) fin
 |lst l=>
  obtain⟨p,xs,ev,sq,_⟩:=bx rd;subst ev;cases(show u=Value.ref p from r1);obtain⟨GX,_,ip,_⟩:=I.list sq;obtain⟨o,ho,hc,_⟩:=ip.isList;exact Vy PySem.W.kitx_list I.kIn ⟨o,ho,hc⟩ e (fun z=>nomatch z) fin
 |tup l=>
  obtain⟨p,xs,ev,sq,_⟩:=bw rd;subst ev;cases(show u=Value.ref p from r1);obtain⟨GX,_,ip,_⟩:=I.tuple sq;obtain⟨o,ho,hc,_⟩:=ip;exact Vy PySem.W.kitx_tuple I.kIn ⟨o,ho,hc⟩ e (fun z=>nomatch z) fin
 |dct tk ks vs=>
  rw[Rep]at rd;obtain⟨p,xs,o,ev,hr,dd,_⟩:=rd;subst ev;cases(show u=Value.ref p from r1);have ok:=hr.ok I.hok;cases tk with
  |true=>
   obtain⟨GU,eo,_⟩:=dd;subst eo;obtain⟨_,_,_,_,o2,_,_,IA,ex,_⟩:=ok;exact Vy PySem.W.kitx_dict I.kIn ⟨o2,IA,ex.1⟩ e (fun z=>nomatch z) fin
  |false=>
   obtain⟨GU,eo,_⟩:=dd;subst eo;obtain⟨_,_,_,_,o2,_,_,IA,ex,_⟩:=ok;exact Vy PySem.W.kitx_dict I.kIn ⟨o2,IA,ex.1⟩ e (fun z=>nomatch z) fin
theorem um{T:String}{x:Str}{e:Expr}{f:FO}{p q pos:Pos}(hT:T = "int"\/T = "bool"\/T = "str"\/T = "list"\/T = "tuple"\/T = "dict")(he:QO X e f)(hg:Gl X "isinstance")(hm:X.mg "isinstance" = none)(hg2:Gl X x)(Q0:X.mg x=none)(QX:bootBuiltins x=some (.type T))(hn:x≠"__name__":=by decide)(JG:(x==("__debug__" : Str))=false:=by decide)
  (hs:starEach [e,.Name x q] X.env=(false,eval e X.env)::starEach [.Name x q] X.env:=by rfl) (RK:starEach [.Name x q] X.env=(false,eval (.Name x q) X.env)::starEach [] X.env:=by rfl) (Jb:(backTo pos (starEach [.Name x q] X.env)).any (·.1)=false:=by rfl):
  QE X (.Call (.Name "isinstance" p) [e,.Name x q] [] pos) (Oj T f):=
 bK (pQ w4 hg hm lr (ll he (ll (yH (v:=.ty T) hg2 Q0 QX rfl hn JG) sP RK) hs) (by decide) (by decide) hs Jb) fun σ H Q Hc=>by
  obtain⟨G,env,fp,r,env',rel,e,k⟩:=Hc;obtain⟨⟨o,GV⟩,e1,e⟩:=ai e;obtain⟨d,e2,e⟩:=ai e;cases e;exact⟨G,env,fp,o,_,rel,e1,fun v H1 G1 Hq Hh GY Jy=>⟨d,v,T,rfl,GY.vwA Jy e2,hT,k _ H1 G1 Hq Hh (GY.push (cJ _))⟩⟩
def HR{α:Type}(f g:PV.Env->Res α):PV.Env->Res α:=fun env=>match f env with
 | .ok a=>.ok a
 |_=>g env
theorem xZ{α:Type}{f g:PV.Env->Res α}{env:PV.Env}{a:α}(h:HR f g env=.ok a):f env=.ok a\/g env=.ok a:=by
 unfold HR at h;split at h
 ·rename_i b hb;cases h;exact .inl hb
 ·exact .inr h
theorem rL{tg e:Expr}{f g:FI}(h:QI X tg e f)(h2:QI X tg e g):QI X tg e (HR f g):=fun pr s σ H R I Hc=>by
 obtain⟨G,env,fp,ds,env',rel,ee,k⟩:=Hc;rcases xZ ee with z|z
 ·exact h pr s σ H R I ⟨G,env,fp,ds,env',rel,z,k⟩
 ·exact h2 pr s σ H R I ⟨G,env,fp,ds,env',rel,z,k⟩
end
section
variable{α:Type}
def ins(lt:α->α->Bool)(x:α):List α->List α
 |[]=>[x]
 |y::ys=>if lt y x then y::ins lt x ys else x::y::ys
def fM(lt:α->α->Bool)(l:List α):List α:=l.foldr (ins lt) []
structure Ord(lt:α->α->Bool):Prop where
 irr:∀a,lt a a=false
 trans:∀a b c,lt a b=true->lt b c=true->lt a c=true
 tot:∀a b,lt a b=false->lt b a=false->a=b
theorem lW(lt:α->α->Bool)(x:α):∀l,(ins lt x l).Perm (x::l)
 |[]=>.refl _
 |y::ys=>by
  unfold ins;split
  ·exact(List.Perm.cons y (lW lt x ys)).trans (List.Perm.swap x y ys)
  ·exact .refl _
theorem iL(lt:α->α->Bool):∀l,(fM lt l).Perm l
 |[]=>.refl _
 |x::l=>(lW lt x _).trans (List.Perm.cons x (iL lt l))
theorem kX{lt:α->α->Bool}(o:Ord lt)(x:α):∀l:List α,l.Pairwise (fun a b=>lt b a=false)->(ins lt x l).Pairwise (fun a b=>lt b a=false)
 |[],_=>by simp[ins]
 |y::ys,h=>by
  rw[Vj]at h;unfold ins;split
  ·rename_i hy;rw[Vj];refine⟨fun z hz=>?_,kX o x ys h.2⟩;rcases TF.mp ((lW lt x ys).mem_iff.mp hz) with rfl|hz
   ·cases e:lt z y with
    |false=>rfl
    |true=>
     have:=o.trans y z y hy e;rw[o.irr]at this;cases this
   ·exact h.1 z hz
  ·rename_i hy;have hy:lt y x=false:=by simpa using hy
   rw[Vj,Vj];refine⟨fun z hz=>?_,h⟩;rcases TF.mp hz with rfl|NB
   ·exact hy
   ·cases e:lt z x with
    |false=>rfl
    |true=>
     exfalso;cases e2:lt x y with
     |true=>
      have:=o.trans z x y e e2;rw[h.1 z NB]at this;cases this
     |false=>
      have hxy:=o.tot x y e2 hy;rw[hxy,h.1 z NB]at e;cases e
theorem fN{lt:α->α->Bool}(o:Ord lt):∀l:List α,(fM lt l).Pairwise (fun a b=>lt b a=false)
 |[]=>.nil
 |x::l=>kX o x _ (fN o l)
theorem nE{lt:α->α->Bool}(o:Ord lt):∀{a b:List α},a.Perm b->a.Pairwise (fun a b=>lt b a=false)->b.Pairwise (fun a b=>lt b a=false)->a=b
 |[],_,p,_,_=>p.nil_eq
 |x::xs,[],p,_,_=>absurd p.length_eq (by simp)
 |x::xs,y::ys,p,ha,hb=>by
  rw[Vj]at ha hb;have hx:x∈y::ys:=p.mem_iff.mp Tq;have hy:y∈x::xs:=p.mem_iff.mpr Tq;have e:x=y:=by
   rcases TF.mp hx with e|hx
   ·exact e
   ·rcases TF.mp hy with e|hy
    ·exact e.symm
    ·exact o.tot x y (hb.1 x hx) (ha.1 y hy)
  subst e;rw[nE o p.cons_inv ha.2 hb.2]
theorem ic{lt:α->α->Bool}(o:Ord lt){l ms:List α}(p:ms.Perm l)(h:ms.Pairwise (fun a b=>lt b a=false)):ms=fM lt l:=nE o (p.trans (iL lt l).symm) h (fN o l)
end
def ltI(a b:Int):Bool:=decide (a<b)
def Po(a b:List Nat):Bool:=decide (a<b)
theorem zH:Ord ltI:=⟨fun a=>by simp[ltI],fun a b c=>by simp only[ltI,T1];lia,fun a b=>by simp only[ltI,Ud];lia⟩
theorem zI:Ord Po:=by
 refine⟨fun a=>?_,fun a b c h1 h2=>?_,fun a b h1 h2=>?_⟩
 ·unfold Po;rw[Ud];exact List.lt_irrefl a
 ·unfold Po at *;rw[T1] at *;exact List.lt_trans h1 h2
 ·unfold Po at *;rw[Ud] at *;exact List.le_antisymm (XH.mp h2) (XH.mp h1)
theorem uo:Ord dI:=⟨gO,gc,gf⟩
def kY:List D->Option (List (List Nat))
 |[]=>some []
 | .str b::ds=>(kY ds).map (b:: ·)
 |_=>none
def jP:D->Option Key
 | .int i=>some (.inl i)
 | .str l=>some (.inr (S l))
 |_=>none
def eI:List D->Option (List Key)
 |[]=>some []
 |d::ds=>(jP d).bind fun k=>(eI ds).map (k:: ·)
def eJ:D->Option (List Key)
 | .tup ds=>eI ds
 |_=>none
def jQ:List D->Option (List (List Key))
 |[]=>some []
 |d::ds=>(eJ d).bind fun k=>(jQ ds).map (k:: ·)
def kT(k:List Key):D:=.tup (k.map kD)
section
variable{K:W.Frag}{G:Hp}
theorem jR:∀{ds:List D}{bs:List (List Nat)}{xs:List V},kY ds=some bs->Reps K G ds xs->xs=bs.map (fun l=>V.str (S l))/\∀l∈bs,l.length<=sizeLine
 |[],_,_,e,r=>by
  cases e;rw[Reps]at r;exact⟨r,fun _ h=>nomatch h⟩
 |d::ds,_,_,e,r=>by
  cases d with
  |str b=>
   rw[kY,UY]at e;obtain⟨bs,e1,e2⟩:=e;subst e2;rw[Reps]at r;obtain⟨y,ys,e3,r1,r2⟩:=r;obtain⟨h1,h2⟩:=jR e1 r2;obtain⟨h3,h4⟩:=bf r1;subst h3;refine⟨by rw[e3,h1];rfl,fun l hl=>?_⟩;rcases TF.mp hl with rfl|hl
   ·exact h4
   ·exact h2 l hl
  |_=>simp[kY]at e
theorem iM{d:D}{k:Key}{v:V}(e:jP d=some k)(r:Rep K G d v):v=kV k/\d=kD k:=by
 cases d with
 |int i=>
  cases e;exact⟨bA r,rfl⟩
 |str l=>
  cases e;refine⟨(bf r).1,?_⟩;show D.str l=D.str (S l).cps.toList;rw[e8]
 |_=>cases e
theorem i5:∀{ds:List D}{ks:List Key}{xs:List V},eI ds=some ks->Reps K G ds xs->xs=ks.map kV/\ds=ks.map kD
 |[],_,_,e,r=>by
  cases e;rw[Reps]at r;exact⟨r,rfl⟩
 |d::ds,_,_,e,r=>by
  rw[eI,VV]at e;obtain⟨k,e1,e⟩:=e;rw[UY]at e;obtain⟨ks,e2,e3⟩:=e;subst e3;rw[Reps]at r;obtain⟨y,ys,e4,r1,r2⟩:=r;obtain⟨h1,h2⟩:=iM e1 r1;obtain⟨h3,h4⟩:=i5 e2 r2;rw[e4,h1,h2,h3,h4];exact⟨rfl,rfl⟩
theorem dj{d:D}{ks:List Key}{v:V}(e:eJ d=some ks)(r:Rep K G d v):∃p,v=.ref p/\G p=some (.tup (ks.map kV))/\d=kT ks:=by
 cases d with
 |tup ds=>
  obtain⟨p,xs,ev,g,rs⟩:=ud r;obtain⟨h1,h2⟩:=i5 e rs;subst h1;exact⟨p,ev,g,by rw[h2];rfl⟩
 |_=>cases e
theorem jS:∀{ds:List D}{JN:List (List Key)}{xs:List V},jQ ds=some JN->Reps K G ds xs->∃al:List (Addr×List Key),xs=al.map (fun a=>V.ref a.1)/\JN=al.map (·.2)/\ds=al.map (fun a=>kT a.2)/\∀a∈al,G a.1=some (.tup (a.2.map kV))/\Rep K G (kT a.2) (.ref a.1)
 |[],_,_,e,r=>by
  cases e;rw[Reps]at r;exact⟨[],r,rfl,rfl,fun _ h=>nomatch h⟩
 |d::ds,_,_,e,r=>by
  rw[jQ,VV]at e;obtain⟨k,e1,e⟩:=e;rw[UY]at e;obtain⟨ks,e2,e3⟩:=e;subst e3;rw[Reps]at r;obtain⟨y,ys,e4,r1,r2⟩:=r;obtain⟨p,h1,h2,h5⟩:=dj e1 r1;obtain⟨al,h3,h4,h6,h7⟩:=jS e2 r2;subst h1;refine⟨(p,k)::al,by rw[e4,h3];rfl,by rw[h4];rfl,by rw[h5,h6];rfl,fun a ha=>?_⟩;rcases TF.mp ha with rfl|ha
  ·exact⟨h2,by rw[<-h5];exact r1⟩
  ·exact h7 a ha
theorem eM{α:Type}{f:α->D}{g:α->V}:∀{l:List α},(∀a∈l,Rep K G (f a) (g a))->Reps K G (l.map f) (l.map g)
 |[],_=>Reps.nil
 |a::l,h=>.cons (h a Tq) (eM fun b hb=>h b (Tu _ hb))
end
def sameKinds(k:List Key)(JN:List (List Key)):Bool:=!k.isEmpty&&JN.all fun j=>kinds j==kinds k
noncomputable def oX(ds:List D):Option (List D):=match d7 ds with
 |some ns=>some ((fM ltI ns).map D.int)
 |none=>match kY ds with
  |some ls=>some ((fM Po ls).map D.str)
  |none=>match jQ ds with
   |some (k::JN)=>if sameKinds k JN then some ((fM dI (k::JN)).map kT) else none
   |_=>none
noncomputable def jT:List D->Res R
 |[.lst ds]=>if ds.length<64 then match oX ds with
  |some l=>.ok (.l .f,.lst l)
  |none=>.bad
  else .bad
 |[.dct true ks _]=>if ks.length<64 then match ks,jQ ks with
  |[],_=>.ok (.l .f,.lst [])
  |_,some (k::JN)=>if sameKinds k JN then .ok (.l .f,.lst ((fM dI (k::JN)).map kT)) else .bad
  |_,_=>.bad
  else .bad
 |_=>.bad
theorem ie{k:List Key}{JN:List (List Key)}(h:sameKinds k JN=true):∃top t,∀j∈k::JN,kinds j=top::t:=by
 unfold sameKinds at h;rw[TL,Uh]at h;cases k with
 |nil=>simp at h
 |cons a k=>
  refine⟨a.isLeft,kinds k,fun j hj=>?_⟩;rcases TF.mp hj with rfl|hj
  ·rfl
  ·exact Uc.mp (h.2 j hj)
def i6(H G:Hp):Hp:=fun p=>match H p with
 |some (HO.tup xs)=>some (HO.tup xs)
 |_=>G p
theorem rM{H G:Hp}{p:Addr}{xs:List V}(e:H p=some (.tup xs)):i6 H G p=some (.tup xs):=by
 unfold i6;rw[e]
theorem jU{H G:Hp}{p:Addr}{u:HO}(e:i6 H G p=some u):G p=some u\/(isT u=true/\H p=some u):=by
 unfold i6 at e;split at e
 ·rename_i xs hx;cases e;exact .inr ⟨rfl,hx⟩
 ·exact .inl e
theorem uq{H G:Hp}(gh:Same G H):Same G (i6 H G):=fun p u e=>by
 unfold i6;rw[gh p u e];cases u with
 |tup xs=>rfl
 |_=>exact e
theorem Rel.addT{K:W.Frag}{G H:Hp}{es:PV.Env}{vs:L2.St}{fp:List Addr}(q:Rel K G H es vs fp):∃G',Rel K G' H es vs fp/\Step G H fp G' H fp/\∀p xs,H p=some (.tup xs)->G' p=some (.tup xs):=by
 have gg:=uq q.gh;refine⟨i6 H G,⟨q.rep.step gg fun _ _=>rfl,q.nd,fun p hp=>?_,fun p u e=>?_⟩,⟨gg,fun _ _ e _=>e,fun _ h=>.inl h,fun p u e=>(jU e).imp_right fun z=>.inr (.inr z),fun _ u e=>⟨u,e⟩⟩,fun p xs e=>rM e⟩
 ·cases e:i6 H G p with
  |none=>rfl
  |some u=>
   exfalso;rcases jU e with z|⟨t,z⟩
   ·rw[q.gn p hp]at z;cases z
   ·obtain⟨u2,h2,hm⟩:=q.rep.mut p hp;rw[z]at h2;cases h2;cases u with
    |tup _=>cases hm
    |frz _ _=>cases hm
    |_=>cases t
 ·rcases jU e with z|z
  ·exact q.gh p u z
  ·exact z.2
theorem x3{K:W.Frag}{G:Hp}{k:Key}(h:fitK k):Rep K G (kD k) (kV k):=by
 cases k with
 |inl i=>exact rep_int i
 |inr x=>
  have:=gR (K:=K) (G:=G) (l:=x.cps.toList) h;rw[mV]at this;exact this
theorem Cd(k:Key):jP (kD k)=some k:=by
 cases k with
 |inl i=>rfl
 |inr x=>
  show some (Sum.inr (S x.cps.toList))=_;rw[mV]
theorem jV:∀ks:List Key,eI (ks.map kD)=some ks
 |[]=>rfl
 |k::ks=>by
  rw[TY,eI,Cd,jV ks];rfl
theorem kZ:∀JN:List (List Key),jQ (JN.map kT)=some JN
 |[]=>rfl
 |k::JN=>by
  rw[TY,jQ];show(eI (k.map kD)).bind _=_;rw[jV,kZ JN];rfl
section
variable{X:Cx}
theorem Sw{α:Type}{lt:α->α->Bool}{p:α->α->Prop}(h:∀a b,p a b->lt b a=false){l:List α}(q:l.Pairwise p):l.Pairwise (fun a b=>lt b a=false):=q.imp (h _ _)
theorem ur(hc:X.calm=true):dC X (.builtin "sorted") (rC X.K jT):=by
 rintro pr s σ H xs us Q I rx ⟨G,fp,es,vs,ds,r,⟨rel,k⟩,vd,e⟩;unfold jT at e;split at e
 ·rename_i ds;split at e
  ·rename_i LH;split at e
   ·rename_i l hl;cases e;obtain⟨v,ev,p,ys,ep,sq,rs⟩:=sf vd;subst ev;subst ep;unfold oX at hl;split at hl
    ·rename_i ns QM;cases hl;have hy:=gW QM rs;subst hy;have hlen:ns.length<64:=by have:=rs.length;rw[Tt]at this;lia
     refine jh hc pr s σ H _ us Q I rx ⟨p,ns,rfl,sq,hlen,fun q ms hq pm sm=>?_⟩;have em:=ic zH pm (Sw (fun a b h=>by unfold ltI;rw[Ud];lia) sm);subst em;obtain⟨GW,G9⟩:=rel.newL hq (eM (K:=X.K) (G:=G) (f:=D.int) (g:=V.int) fun a _=>rep_int a);exact k _ _ G _ G9 GW
    ·split at hl
     ·rename_i ls hls;cases hl;obtain⟨hy,hz⟩:=jR hls rs;subst hy;have hlen:ls.length<64:=by have:=rs.length;rw[Tt]at this;lia
      refine ji hc pr s σ H _ us Q I rx ⟨p,ls,rfl,sq,hlen,fun q ms hq pm sm=>?_⟩;have em:=ic zI pm (Sw (fun a b h=>by unfold Po;rw[Ud];exact h) sm);obtain⟨GW,G9⟩:=rel.newL hq (eM (K:=X.K) (G:=G) (f:=D.str) (g:=fun l=>V.str (S l)) (l:=ms) fun a ha=>gR (hz a (pm.mem_iff.mp ha)));rw[<-em]at k;exact k _ _ G _ G9 GW
     ·split at hl
      ·rename_i kk JN hk;split at hl
       ·rename_i hsk;cases hl;obtain⟨al,h1,h2,h3,h4⟩:=jS hk rs;obtain⟨top,t,JO⟩:=ie hsk;subst h1;have hlen:al.length<64:=by have:=rs.length;rw[Tt]at this;lia
        refine jj hc pr s σ H _ us Q I rx ⟨p,al,top,t,rfl,sq,fun a ha=>⟨SqT.of (rel.gh _ _ (h4 a ha).1),JO a.2 (by rw[h2];exact U3.mpr ⟨a,ha,rfl⟩)⟩,hlen,fun q ms hq pm sm=>?_⟩;have em:ms.map (·.2)=fM dI (kk::JN):=by
         rw[h2];refine ic uo (pm.map _) ?_;rw[List.pairwise_map];exact sm
        obtain⟨GW,G9⟩:=rel.newL hq (eM (K:=X.K) (G:=G) (f:=fun a:Addr×List Key=>kT a.2) (g:=fun a=>V.ref a.1) (l:=ms) fun a ha=>(h4 a (pm.mem_iff.mp ha)).2);have ek:ms.map (fun a=>kT a.2)=(fM dI (kk::JN)).map kT:=by rw[<-em,TV];rfl
        rw[ek]at GW;exact k _ _ G _ G9 GW
       ·cases hl
      ·cases hl
   ·cases e
  ·cases e
 ·rename_i ks vv;split at e
  ·rename_i LH;obtain⟨v,ev,vt⟩:=sf vd;obtain⟨p,ys,o,ep,rd,dd,rs⟩:=vt;subst ev;subst ep;obtain⟨GU,eo,ek,ex,K4⟩:=dd;subst eo;have ek:ks=(GU.map (·.1)).map kT:=by rw[ek,TV];rfl
   have hlen:GU.length<64:=by rw[ek,Tt,Tt]at LH;exact LH
   have go:∀(top:Bool) (t:List Bool),(∀kv∈GU,kinds kv.1=top::t)->r=(.l .f,.lst ((fM dI (GU.map (·.1))).map kT))->wpAny (model X.prog X.w) X.A (call (.builtin "sorted") us) (EP X pr σ Q) X.xe s:=fun top t JO er=>by
    subst er;refine ku hc pr s σ H _ us Q I rx ⟨p,GU,top,t,rfl,rd,JO,hlen,fun q ms hq hm pm sm=>?_⟩;have em:ms.map (·.2)=fM dI (GU.map (·.1)):=by
     refine ic uo pm ?_;rw[List.pairwise_map];exact sm
    obtain⟨G2,GW,G9,ht⟩:=rel.addT;have Jc:∀a∈ms,Rep X.K G2 (kT a.2) (.ref a.1):=fun a ha=>by
     unfold kT;rw[Rep];refine⟨a.1,_,rfl,ht _ _ (hm a ha),?_⟩;refine eM (f:=kD) (g:=kV) fun key JP=>x3 ?_
     have:a.2∈GU.map (·.1):=pm.mem_iff.mp (U3.mpr ⟨a,ha,rfl⟩);obtain⟨kv,K3,e2⟩:=U3.mp this;exact K4 kv K3 key (by rw[e2];exact JP)
    obtain⟨HB,Hx⟩:=GW.newL hq (eM (K:=X.K) (G:=G2) (f:=fun a:Addr×List Key=>kT a.2) (g:=fun a=>V.ref a.1) (l:=ms) Jc);have ek:ms.map (fun a=>kT a.2)=(fM dI (GU.map (·.1))).map kT:=by rw[<-em,TV];rfl
    rw[ek]at HB;exact k _ _ G2 _ (G9.trans Hx) HB
   rw[ek,kZ]at e;split at e
   ·rename_i KL;cases e;have:GU=[]:=by
     cases GU with
     |nil=>rfl
     |cons a b=>cases KL
    subst this;exact go true [] (fun _ h=>nomatch h) rfl
   ·rename_i kk JN heq I0;split at e
    ·rename_i hsk;cases e;obtain⟨top,t,JO⟩:=ie hsk;have heq:GU.map (·.1)=kk::JN:=by
      injection heq
     refine go top t (fun kv K3=>JO kv.1 ?_) (by rw[heq]);rw[<-heq];exact U3.mpr ⟨kv,K3,rfl⟩
    ·cases e
   ·cases e
  ·cases e
 ·cases e
def Kw(a b:D):Res R:=match eJ a,eJ b with
 |some ks,some js=>if kinds ks==kinds js then .ok (.f,.bl (dI ks js)) else .bad
 |_,_=>MH a b
def geO(a b:D):Res R:=match eJ a,eJ b with
 |some ks,some js=>if kinds ks==kinds js then .ok (.f,.bl (!dI ks js)) else .bad
 |_,_=>match a,b with
  | .str a,.str b=>.ok (.f,.bl (!decide (a<b)))
  |a,b=>geD a b
theorem nF(hu:X.A.units<cLine):HI X (compareOp .Lt) (rG X.K Kw):=by
 rintro pr s σ H x y v u Q I rx ry ⟨G,fp,es,vs,a,b,r,⟨rel,k⟩,va,vb,e⟩;unfold Kw at e;split at e
 ·rename_i ks js h1 h2;split at e
  ·rename_i hk;cases e;have ra:Rep X.K G a x:=by cases a <;> first|exact va|cases h1
   have rb:Rep X.K G b y:=by cases b <;> first|exact vb|cases h2
   obtain⟨p,e1,g1,_⟩:=dj h1 ra;obtain⟨p2,e2,g2,_⟩:=dj h2 rb;subst e1;subst e2;exact BQ hu pr s σ H _ _ v u Q I rx ry ⟨p,p2,ks,js,rfl,rfl,SqT.of (rel.gh _ _ g1),SqT.of (rel.gh _ _ g2),Uc.mp hk,k _ H G fp .refl (rel.push (cJ _))⟩
  ·cases e
 ·exact Er pr s σ H x y v u Q I rx ry ⟨G,fp,es,vs,a,b,r,⟨rel,k⟩,va,vb,e⟩
end
def eNewD(tk:Bool):FX:=fun env=>.ok ((.d,.dct tk [] []),env)
section
variable{md:Mode}{X:Cx}
theorem Rel.newD{K:W.Frag}{G H:Hp}{es:PV.Env}{vs:L2.St}{fp:List Addr}{p:Addr}{u:HO}{tk:Bool}(q:Rel K G H es vs fp)(hp:H p=none)(h:DictO u tk [] []):
  Rel K G (upd H p u) (some (.d,.dct tk [] [])::es) (some (.ref p)::vs) (p::fp)/\Step G H fp G (upd H p u) (p::fp):=by
 have gp:G p=none:=by
  cases e:G p with
  |none=>rfl
  |some o=>rw[q.gh p o e]at hp;cases hp
 have np:p∉fp:=fun z=>by
  obtain⟨u,e⟩:=q.rep.live p z;rw[hp]at e;cases e
 have sh:Same H (upd H p u):=fun b o e=>by rw[ak (aG e hp)];exact e
 refine⟨⟨⟨some (.ref p),vs,rfl,.ref p,[p],fp,rfl,rfl,?_,q.rep.step (.refl _) fun z hz=>ak fun e=>np (e▸hz)⟩,UG.mpr ⟨np,q.nd⟩,fun z hz=>?_,fun b o e=>?_⟩,
  ⟨.refl _,fun b o e _=>sh b o e,fun b hb=>?_,fun b o e=>.inl e,fun b o e=>⟨o,sh b o e⟩⟩⟩
 ·rw[RepO];exact⟨p,[],u,rfl,aD,h,rfl,Reps.nil⟩
 ·rcases TF.mp hz with rfl|hz
  ·exact gp
  ·exact q.gn z hz
 ·exact sh b o (q.gh b o e)
 ·rcases TF.mp hb with rfl|hb
  ·exact .inr hp
  ·exact .inl hb
theorem uu{pos:Pos}:QE X (.Dict [] [] pos) (eNewD false):=bK wL fun σ H Q Hc p hp=>by
 obtain⟨G,env,fp,r,env',rel,e,k⟩:=Hc;cases e;obtain⟨GW,G9⟩:=rel.newD (tk:=false) (u:=.dK []) hp ⟨[],rfl,rfl,rfl,fun _ h=>nomatch h⟩;exact k _ _ G _ G9 GW
def nG(ks vs:List D)(k v:D):List D×List D:=if ks.any (Ha k) then(ks,(ks.zip vs).map fun p=>if Ha k p.1 then v else p.2) else(ks++[k],vs++[v])
def d9(tk:Bool)(k:D):Bool:=if tk then(eJ k).isSome else(jP k).isSome
noncomputable def Ce(i:Nat)(fk fv:FX):FS:=fun env=>(fv env).bind fun p=>(fk p.2).bind fun q=>match p.2[i]?,q.2[i]? with
 |some (some _),some (some (.d,.dct tk ks vs))=>if d9 tk q.1.2&&decide (ks.length<sizeLine) then .ok (.nx (q.2.set i (some (.d,.dct tk (nG ks vs q.1.2 p.1.2).1 (nG ks vs q.1.2 p.1.2).2)))) else .bad
 |_,_=>.bad
theorem uv(a b:Key):Ha (kD a) (kD b)=decide (a=b):=by
 cases a with
 |inl i=>
  cases b with
  |inl j=>simp only[kD,Ha];rw[Uv];simp
  |inr y=>simp only[kD,Ha];simp
 |inr x=>
  cases b with
  |inl j=>simp only[kD,Ha];simp
  |inr y=>
   simp only[kD,Ha];rw[Uv];simp only[Uc,T1,Sum.inr.injEq];exact⟨fun h=>by rw[<-mV x,<-mV y,h],fun h=>by rw[h]⟩
theorem uw:∀a b:List Key,jt (a.map kD) (b.map kD)=decide (a=b)
 |[],[]=>by simp[jt]
 |[],_::_=>by simp[jt]
 |_::_,[]=>by simp[jt]
 |a::r,b::t=>by
  rw[TY,TY,jt,uv,uw r t,Uv];simp
theorem x4(a b:List Key):Ha (kT a) (kT b)=decide (a=b):=by
 unfold kT;rw[Ha];exact uw a b
theorem nH{κ:Type}[DecidableEq κ]{K:W.Frag}{G:Hp}(f:κ->D)(hf:∀a b,Ha (f a) (f b)=decide (a=b)){GU:List (κ×V)}{vs:List D}{k:κ}{v:D}{y:V}(r:Reps K G vs (GU.map (·.2)))(ry:Rep K G v y):
  (kq GU k y).map (fun kv=>f kv.1)=(nG (GU.map fun kv=>f kv.1) vs (f k) v).1/\Reps K G (nG (GU.map fun kv=>f kv.1) vs (f k) v).2 ((kq GU k y).map (·.2)):=by
 have e:(GU.map fun kv=>f kv.1).any (Ha (f k))=GU.any fun kv=>decide (kv.1=k):=by
  rw[WR];congr 1
  funext kv
  show Ha (f k) (f kv.1)=_;rw[hf,Uv];simp only[T1];exact⟨fun z=>z.symm,fun z=>z.symm⟩
 unfold nG kq;rw[e];split
 ·refine⟨?_,?_⟩
  ·rw[TV];refine Uo fun kv _=>?_
   show f (if kv.1=k then(kv.1,y) else kv).1=f kv.1;split <;> rfl
  ·rename_i Ol;clear e Ol;induction GU generalizing vs with
   |nil=>
    have:vs=[]:=Ut (by rw[<-r.length];rfl);subst this;exact Reps.nil
   |cons kv GU ih=>
    cases vs with
    |nil=>have:=r.length;simp at this
    |cons d vs=>
     rw[TY,Reps.cons_iff]at r;rw[TY,WB,TY,TY,TY];refine .cons ?_ (ih r.2);show Rep K G (if Ha (f k) (f kv.1)=true then v else d) (if kv.1=k then(kv.1,y) else kv).2;rw[hf];by_cases hk:kv.1=k
     ·rw[Tw (by simp[hk]),Tw hk];exact ry
     ·rw[TC (by simp;exact fun z=>hk z.symm),TC hk];exact r.1
 ·refine⟨?_,?_⟩
  ·rw[Ub];rfl
  ·rw[Ub];exact r.app (.one ry)
theorem Rel.chgD{K:W.Frag}{G H:Hp}{es:PV.Env}{vs:L2.St}{fp:List Addr}{i:Nat}{tk:Bool}{ks ws:List D}(q:Rel K G H es vs fp)(e:es[i]?=some (some (.d,.dct tk ks ws))):∃p xs u,vs[i]?=some (some (.ref p))/\H p=some u/\DictO u tk ks xs/\Reps K G ws xs/\
  ∀u' KU IW PY,DictO u' tk KU IW->Reps K G PY IW->∃fq,Rel K G (upd H p u') (es.set i (some (.d,.dct tk KU PY))) vs fq/\Step G H fp G (upd H p u') fq:=by
 obtain⟨v,fq,ev,g,st,Kd⟩:=q.out e;obtain⟨y,ys,e0,v',a,b,e1,e2,r1,r2⟩:=g.rep;cases e0;cases e1;rw[RepO]at r1;obtain⟨p,xs,u,e3,hp,dd,e4,rs⟩:=r1;subst e3;subst e4;subst e2;have nd:=UG.mp (show(p::b).Nodup from g.nd);refine⟨p,xs,u,ev,hp,dd,rs,fun u' KU IW PY Pk Jx=>?_⟩;have g2:Rel K G (upd H p u') (some (.d,.dct tk KU PY)::es.set i none) (some (.ref p)::vs) (p::b):=by
  refine⟨⟨some (.ref p),vs,rfl,.ref p,[p],b,rfl,rfl,?_,r2.step (.refl _) fun z hz=>ak fun e=>nd.1 (e▸hz)⟩,g.nd,g.gn,fun z o ez=>?_⟩
  ·rw[RepO];exact⟨p,IW,u',rfl,aD,Pk,rfl,Jx⟩
  ·have:z≠p:=fun w=>by
    subst w;rw[g.gn z Tq]at ez;cases ez
   rw[ak this];exact g.gh z o ez
 have RD:Step G H (p::b) G (upd H p u') (p::b):=by
  refine⟨.refl _,fun z o ez nz=>?_,fun z hz=>.inl hz,fun z o ez=>.inl ez,fun z o ez=>?_⟩
  ·have:z≠p:=fun w=>nz (by rw[w];exact Tq)
   rw[ak this];exact ez
  ·by_cases w:z=p
   ·subst w;exact⟨_,aD⟩
   ·exact⟨o,by rw[ak w];exact ez⟩
 obtain⟨fz,g3,Hx⟩:=g2.back (i:=i) (by rw[UA];exact(TH.mp e).1) ev;rw[VI]at g3;exact⟨fz,g3,st.trans (RD.trans Hx)⟩
theorem x5{K:W.Frag}{G:Hp}{d:D}{k:Key}{v:V}(e:jP d=some k)(r:Rep K G d v):fitK k:=by
 cases d with
 |int i=>cases e;trivial
 |str l=>
  cases e;show(S l).cps.toList.length<=sizeLine;rw[e8];exact(bf r).2
 |_=>cases e
theorem ux{K:W.Frag}{G:Hp}:∀{ds:List D}{ks:List Key}{xs:List V},eI ds=some ks->Reps K G ds xs->∀k∈ks,fitK k
 |[],_,_,e,_=>by
  cases e;exact fun _ h=>nomatch h
 |d::ds,_,_,e,r=>by
  rw[eI,VV]at e;obtain⟨k,e1,e⟩:=e;rw[UY]at e;obtain⟨ks,e2,e3⟩:=e;subst e3;rw[Reps]at r;obtain⟨y,ys,e4,r1,r2⟩:=r;intro z hz;rcases TF.mp hz with rfl|hz
  ·exact x5 e1 r1
  ·exact ux e2 r2 z hz
theorem qj{κ:Type}[DecidableEq κ]{P:κ->Prop}{GU:List (κ×V)}{k:κ}{y:V}(h:∀kv∈GU,P kv.1)(hk:P k):∀kv∈kq GU k y,P kv.1:=by
 intro kv K3;unfold kq at K3;split at K3
 ·obtain⟨z,hz,e⟩:=U3.mp K3;rw[<-e];split
  ·exact h z hz
  ·exact h z hz
 ·rcases T3.mp K3 with K3|K3
  ·exact h kv K3
  ·rw[Ul]at K3;rw[K3];exact hk
theorem x6{i:Nat}{o ix value:Expr}{fk fv:FX}{pos pos':Pos}(hu:X.A.units+1<cLine)(ho:PE X o (sd i))(hi:QE X ix fk)(hv:QE X value fv)(hs:swapsWith value (some (.Subscript o ix pos')) pos.line X.env=pure false:=by rfl):
  QS (md:=md) X (.Assign [.Subscript o ix pos'] value pos) (Ce i fk fv):=d4 (zi hu ho hi hv hs) fun Dd σ H Hc=>by
 obtain⟨G,env,fp,rel,k⟩:=Hc;unfold Ce at k;match q1:fv env,k with
 | .ok (r1,GV),k=>
  have k:OutOk X.K G H fp Dd ((fk GV).bind fun q=>match GV[i]?,q.2[i]? with
   |some (some _),some (some (.d,.dct tk ks vs))=>if d9 tk q.1.2&&decide (ks.length<sizeLine) then .ok (.nx (q.2.set i (some (.d,.dct tk (nG ks vs q.1.2 r1.2).1 (nG ks vs q.1.2 r1.2).2)))) else .bad
   |_,_=>.bad):=k
  match q2:fk GV,k with
  | .ok (r2,Hd),k=>
   have k:OutOk X.K G H fp Dd (match GV[i]?,Hd[i]? with
    |some (some _),some (some (.d,.dct tk ks vs))=>if d9 tk r2.2&&decide (ks.length<sizeLine) then .ok (.nx (Hd.set i (some (.d,.dct tk (nG ks vs r2.2 r1.2).1 (nG ks vs r2.2 r1.2).2)))) else .bad
    |_,_=>.bad):=k
   split at k
   ·rename_i rr tk ks ws h1 h2;split at k
    ·rename_i hc;rw[TL,T1]at hc;refine⟨G,env,fp,r1,GV,rel,q1,fun y H1 G1 Hq Hh GY=>?_⟩;obtain⟨G2,b,ry,GW,G9⟩:=GY.freeze;obtain⟨v0,Pp,_⟩:=GW.view h1;refine⟨v0,Pp,G2,GV,b,r2,Hd,GW,q2,fun z H3 G3 IY Hx HB=>?_⟩;obtain⟨G4,b4,rz,Iy,H0⟩:=HB.freeze;obtain⟨p,xs,u,ep,hp,dd,rs,cg⟩:=Iy.chgD h2;rw[Pp]at ep;cases ep;have Q1:Rep X.K G4 r1.2 y:=Rep.mono (Hx.gg.trans H0.gg) ry;cases tk with
     |true=>
      obtain⟨GU,eu,ek,ex,K4⟩:=dd;subst eu;subst ex;have hk:=hc.1;unfold d9 at hk;rw[Tw rfl,Vi]at hk;obtain⟨kk,hk⟩:=hk;obtain⟨pz,ez,gz,dz⟩:=dj hk rz;subst ez;obtain⟨t1,t2⟩:=nH (K:=X.K) (G:=G4) kT x4 (k:=kk) rs Q1;have ek:ks=GU.map fun kv=>kT kv.1:=ek
      rw[<-ek,<-dz]at t1 t2;have Q2:∀key∈kk,fitK key:=by
       cases hd:r2.2 with
       |tup ds=>
        rw[hd]at hk rz;obtain⟨_,IW,_,_,Jx⟩:=ud rz;exact ux hk Jx
       |_=>rw[hd]at hk;cases hk
      obtain⟨fq,IQ,Ja⟩:=cg (.dT (kq GU kk y)) _ _ _ ⟨kq GU kk y,rfl,t1.symm,rfl,qj (P:=fun ks=>∀k∈ks,fitK k) K4 Q2⟩ t2;have hlen:GU.length<sizeLine:=by have:=hc.2;rw[ek,Tt]at this;exact this
      exact⟨p,_,rfl,DPut.t hp (Iy.gh _ _ gz) hlen,k _ _ G4 fq (Hh.trans (G9.trans (Hx.trans (H0.trans Ja)))) IQ⟩
     |false=>
      obtain⟨GU,eu,ek,ex,K4⟩:=dd;subst eu;subst ex;have hk:=hc.1;unfold d9 at hk;rw[TC TB,Vi]at hk;obtain⟨kk,hk⟩:=hk;obtain⟨ez,dz⟩:=iM hk rz;subst ez;obtain⟨t1,t2⟩:=nH (K:=X.K) (G:=G4) kD uv (k:=kk) rs Q1;rw[<-ek,<-dz]at t1 t2;obtain⟨fq,IQ,Ja⟩:=cg (.dK (kq GU kk y)) _ _ _ ⟨kq GU kk y,rfl,t1.symm,rfl,qj (P:=fitK) K4 (x5 hk rz)⟩ t2;have hlen:GU.length<sizeLine:=by have:=hc.2;rw[ek,Tt]at this;exact this
      exact⟨p,_,rfl,DPut.k hp hlen,k _ _ G4 fq (Hh.trans (G9.trans (Hx.trans (H0.trans Ja)))) IQ⟩
    ·exact k.elim
   ·exact k.elim
end
end PV
namespace NX
open PySem PySem.Spec PyProof.Rows L2
section
variable{prog:Program}{w:World}{A:Around}{E:Value->Shared->Prop}{s:Shared}{d:Addr}{es:Array DictEntry}{ep:Nat}
theorem lX(nm:(d==sysModules)=false):MeetsIn prog w (Builtin.«dict.__len__» ⟨[.ref d],[]⟩) (fun _ R s=>RawD s.heap d es ep/\R (.ok (.ret (.int es.size s.toks))) {s with toks:=s.toks+1}):=
 .of_wp fun A R s Hc=>by
  obtain⟨⟨o,g,_,dat⟩,h⟩:=Hc;show wpAny _ _ (dictSize d >>= fun _=>_) _ _ s;unfold dictSize;refine Ti (Ti (WI g dat (Tv ?_)));show wpAny _ _ (Builtin.Dict.pendingCount d >>= fun _=>_) _ _ s;refine Ti (wpAny_pendingCount_other nm (wpAny_ret_mkInt ?_));rw[Nat.add_zero];exact h
theorem zJ{Q:Value->Shared->Prop}(nm:(d==sysModules)=false)(x:RawD s.heap d es ep)(hf:(es.size:Int)<2 ^ 63)(h:Q (.int es.size (s.toks+1)) {s with toks:=s.toks+1+1}):wpAny (model prog w) A (call (.builtin "len") [.ref d]) Q E s:=by
 have ty:=jq x;refine Wl kind_len plain_len entry_len (args_len1 _) ?_;unfold Builtin.«len»;refine Ti (m:=oneArg "len" _) (Tv (Ti (m:=callSpecial? (.ref d) (Str.ofString "__len__")) (Uu (name:=Str.ofString "__len__") ty F.slot_dict_len
  (call_meetsIn F.slot_dict_len ty F.entry_dict_len (F.args_dict_len_1 _) (lX (es:=es) (ep:=ep) nm) ⟨x,?_⟩))))
 show wpAny _ _ _ _ _ {s with toks:=s.toks+1};refine Ti (Wf (Tv (Ti (Yw ?_))));show wpAny _ _ (if((es.size:Nat):Int)<0 then _ else _) _ _ _;rw[TC (Int.not_lt.mpr (Int.natCast_nonneg _))];show wpAny _ _ (if((es.size:Nat):Int)>=2 ^ 63 then _ else _) _ _ _;rw[TC (Int.not_le.mpr hf)];exact Ti (wpAny_mkInt (Tv ⟨_,rfl,h⟩))
end
end NX
namespace PV
open PySem PySem.Spec PyProof.Rows L2 NX
section
variable{X:Cx}
def fO:List D->Res R
 |[.dct _ ks _]=>.ok (.f,.int ks.length)
 |ds=>Et ds
theorem Cf{pr:List (Addr×Obj)}{σ:L2.St}{H:Hp}{s:Shared}(I:Inv X pr σ H s){p:Addr}{o:HO}{tk:Bool}{ks:List D}{xs:List V}(rd:Rd H p o)(dd:DictO o tk ks xs):(p==sysModules)=false/\∃es ep,RawD s.heap p es ep/\es.size=ks.length/\ks.length<=sizeLine:=by
 have ok:=rd.ok I.hok;cases tk with
 |true=>
  obtain⟨GU,eo,ek,_⟩:=dd;subst eo;obtain⟨z,nm,ws,r,o2,es,ep,h1,h2,h3,h4,_⟩:=ok;refine⟨nm,es,ep,⟨o2,h1,h2,h3⟩,?_,by rw[ek,Tt];exact z⟩;have:=UN List.length h4;rw[Tt,U9,<-W3 r]at this;rw[ek,Tt];exact this
 |false=>
  obtain⟨GU,eo,ek,_⟩:=dd;subst eo;obtain⟨z,nm,ws,r,o2,es,ep,h1,h2,h3,h4,h5,_⟩:=ok;refine⟨nm,es,ep,⟨o2,h1,h2,h3⟩,?_,by rw[ek,Tt];exact z⟩;have l1:=h5.length;have l2:GU.length=ws.length:=W3 r;rw[ek,Tt];rw[U9]at l1;lia
theorem cu:dC X (.builtin "len") (rC X.K fO):=by
 rintro pr s σ H xs us Q I rx ⟨G,fp,es,vs,ds,r,⟨rel,k⟩,vd,e⟩;unfold fO at e;split at e
 ·rename_i tk ks ws;cases e;obtain⟨v,ev,p,ys,o,ep,rd,dd,_⟩:=sf vd;subst ev;subst ep;obtain⟨u,rfl,ru⟩:=jy rx;cases ru;obtain⟨nm,en,ep,raw,h1,h2⟩:=Cf I rd dd;refine zJ nm raw (by rw[h1];rw[UE]at h2;lia) ?_;refine⟨.int ks.length,H,I.tok _,⟨_,by rw[h1]⟩,k _ H G fp .refl (rel.push (rep_int _))⟩
 ·exact B5 pr s σ H xs us Q I rx ⟨G,fp,es,vs,_,r,⟨rel,k⟩,vd,e⟩
def GP(g:List Nat->List D->Res R)(fa:FO)(fs:FOs):FX:=fun env=>(fa env).bind fun p=>match Jl p.2 p.1 with
 | .ok (.str l)=>(fs p.2).bind fun q=>(se q.2 q.1).bind fun ds=>(g l ds).bind fun r=>.ok (r,q.2)
 |_=>.bad
end
theorem fnok_of{P:Program}{w:World}{K:W.Frag}{mg:Str->Option Value}{base:Heap}{x:Str}{st:Stmt}{N ps:List Str}{k:Nat}{g:FS}{f:Addr}{fd:FuncData}(F:Fun K x x st f fd)(sc:FnScope N ps (defScope st))
  (body:∀(Hv:Value) (A:Around) (outer:List PySem.Env) (s:Shared) (H:Hp) (E:XK),Room k (A.deeper (envOfC x (defScope st) s.heap.objs.size f Hv))->LJ (md:=.plain) (wx LQ P w K mg base N x (defScope st) f Hv A outer s H E).nox (cP st) g):
  FnOk P w K mg base LQ (k+1) f fd ps (spF K (fBody ps.length (N.length-ps.length) g)):=by
 refine F.ok sc (fun vs H Q E h=>?_) (fun Hv A outer s H vs Q E hr h=>?_)
 ·obtain⟨G,ds,r,_,rs,e,_⟩:=h;unfold fBody at e;split at e
  ·rename_i hl;rw[rs.length,hl]
  ·cases e
 ·obtain⟨G,ds,r,gh,rs,e,q⟩:=h;unfold fBody at e;split at e
  ·rename_i hl;refine⟨_,body Hv A outer s H E hr,G,ds.map (fun d=>some (O.f,d))++List.replicate (N.length-ps.length) none,[],⟨?_,V0,(fun _ h=>nomatch h),gh⟩,?_⟩
   ·have:=h9 (K:=K) (G:=G) (H:=H) (N.length-ps.length) rs;unfold L2.start;rw[rs.length,hl];exact this
   ·obtain⟨o,eo,e⟩:=ai e;rw[eo];cases o with
    |rt r'=>
     cases e;exact fun v H' G' GZ st rel=>q v H' G' GZ st rel
    |nx env'=>
     cases e;exact fun σ' H' G' GZ st rel=>q .non H' G' [] (st.trans (Step.cut fun _ h=>nomatch h)) (rel.nilF.push lK)
    |bk env'=>cases e
    |ct env'=>cases e
  ·cases e
def w5(K:W.Frag):Sp:=fun vs H Q _=>∃(a:Addr) (ns:List Int),vs=[.ref a]/\SqL K H a (ns.map V.int)/\ns.length<=63/\∀H',Q (.bl true) H'
theorem Cg{K:W.Frag}{F:List D->Res R}(h:∀ns:List Int,ns.length<=63->∃o,F [.lst (ns.map D.int)]=.ok (o,.bl true)):∀vs H Q E,w5 K vs H Q E->spF K F vs H Q E:=by
 rintro vs H Q E ⟨a,ns,rfl,sq,hl,q⟩;obtain⟨o,e⟩:=h ns hl;refine⟨H,_,_,.refl _,?_,e,fun v H' G' GZ st rel=>?_⟩
 ·refine .one ?_;rw[Rep];exact⟨a,_,rfl,sq,eM fun n _=>rep_int n⟩
 ·rw[cA rel.top];exact q H'
theorem _root_.L2.Room.u65{k:Nat}{A:Around}(r:Room k A):A.units+65<cLine:=by have:=r.un;lia
def GQ(f:FX)(a:FG):FS:=fun env=>(f env).bind fun p=>(a p.1.2 p.2).bind fun e=>.ok (.nx e)
theorem Gu{l:PySem.W.OpenLaw}{q:Program}{loose:List Str}{XP:(Str->Option Value)->Heap->Prop}{YP:World->Heap->Prop}{d:DefRec}{K:Params->W.Frag}{k:Nat}{x:Str}(hn:l.most=some 63)(PL:d.params.defaults=[])(hr:Room k PySem.callerA)
  (hY:∀(w:World) (h:Heap),YP w h->(K w.params).In h)
  (F:∀(w:World) (mg:Str->Option Value) (fa:Addr) (h:Heap),(K w.params).In h->h.Ns mainGlobals mg->mg d.name=some (.ref fa)->
   ∃fd:FuncData,(∀(s:Shared) (u:Value),BindsTo s fd ⟨[u],[]⟩ [(x,u)])/\∀base:Heap,(K w.params).In base->base.Ns mainGlobals mg->FnOk l.prog w (K w.params) mg base LQ k fa fd [x] (w5 (K w.params))):
  PySem.W.WalkO q loose XP YP l.row.toRowW d [] (fun f vs=>PySem.call f vs):=
 L2.y0 (n:=63) (k:=k) (x:=x) (CX:=fun _=>LQ) (sp:=fun w=>w5 (K w.params)) hn (by decide) PL hr hY F (fun _ _ a ns hl _ hS=>⟨a,ns,rfl,hS,hl,fun _=>rfl⟩) fun _ _ _ _ _ z=>z
theorem x9:bootBuiltins "sum" = some (.builtin "sum"):=by decide +kernel
theorem uy:bootBuiltins "sorted" = some (.builtin "sorted"):=by decide +kernel
theorem Ci{K:W.Frag}{h:Heap}{mg:Str->Option Value}{x:Str}{st:Stmt}{f:Addr}{oc:Value}{od an:Option Addr}{Mq:Array (Option Value)}{kV doc pm Hv ct:Value}(X:K.In h)(G:h.Ns mainGlobals mg)
  (a:PySem.W.nsIn K mainGlobals x=some (some (.ref f))) (l:K.lookup f=some ⟨oc,od,.func (PySem.W.fnOf x x (eE st) (cP st) (defScope st) .none kV doc pm an Hv ct),Mq⟩)
  (c:PySem.W.codeIn K Hv x=true) (k:PySem.W.keepIn K (.ref f)=true):Def K mg x st:=⟨f,_,xQ l c k,PySem.W.mg_of X G a⟩
inductive tQL(K:W.Frag)(f:FI)(σ:L2.St)(H:Hp)(R:It->Hp->Prop):Prop
 |mk:∀G env fp ds env',Rel K G H env σ fp->f env=.ok (ds,env')->(∀J H' G' GZ,Step G H fp G' H' GZ->Rel K G' H' env' σ GZ->(∀G2,Same G' G2->(∀(i:Nat) (r:PV.R) (v:V),env'[i]?=some (some r)->σ[i]?=some (some v)->Rep K G2 r.2 v)->Walk K G2 J ds)->R J H')->tQL K f σ H R
def MR(X:Cx)(tg e:Expr)(f:FI):Prop:=PI X tg e (tQL X.K f)
theorem Walk.mono{K:W.Frag}{G G2:Hp}{J:It}{ds:List D}(w:Walk K G J ds)(gg:Same G G2):Walk K G2 J ds:=fun G' H' es vs fp g rel=>w G' H' es vs fp (gg.trans g) rel
theorem ql{K:W.Frag}{fi:FI}{ix:List (Option Nat)}{a:FG}{c:FT}{f:FX}{σ:L2.St}{H:Hp}{Q:VK}(h:tQ K (cy fi ix a c f) σ H Q):rj (tQL K fi) ix (tQG K a) (tQT K c) (tQ K f) σ H Q:=by
 obtain⟨G,env,fp,r,env',rel,e,k⟩:=h;obtain⟨⟨ds,GV⟩,e1,e⟩:=ai e;obtain⟨rs,e2,e⟩:=ai e;refine⟨G,env,fp,ds,GV,rel,e1,fun J H1 G1 Hq Hh GY wk D hD=>?_⟩;dsimp only at e e2;split at e
 ·rename_i hz;have er:r=(.l .f,.lst rs):=by cases e;rfl
  have ee:env'=if G0 rs then GV else GV.map frz:=by cases e;rfl
  subst er;obtain⟨G2,MM,Of,Jc,hrE,Ii⟩:=GY.lend;have wk2:=wk G2 MM Jc;have GW:Rel K G2 H1 (cq ix GV) (fH ix σ) []:=⟨d6 Jc (fun i r er=>let⟨v,ev,_⟩:=GY.view er;⟨v,ev⟩) ix,V0,(fun _ h=>nomatch h),Of⟩
  obtain⟨HB,Hx⟩:=GW.newL (ds:=[]) (xs:=[]) hD .nil;refine⟨fun i m σ1 H2=>m=ds.length-i/\i<=ds.length/\∃G' es GZ acc bG,Step G2 H1 [] G' H2 GZ/\Rel K G' H2 (some (.l .f,.lst acc)::es) (some (.ref D)::σ1) GZ/\ck a c f (ds.drop i) es=.ok bG/\acc++bG=rs,
   ⟨_,rfl,Um _,G2,cq ix GV,_,[],rs,Hx,HB,e2,rfl⟩,?_⟩
  rintro i m σ1 H2 ⟨rfl,hi,G3,es,IY,acc,bG,H0,Iy,e4,JQ⟩;obtain⟨w1,w2⟩:=wk2 G3 H2 _ _ _ H0.gg Iy i;by_cases Hr:i<ds.length
  ·have hd:ds[i]?=some ds[i]:=To Hr;obtain⟨go,yl⟩:=w1 _ hd;rw[UZ Hr]at e4;unfold ck at e4;obtain⟨P6,h1,e4⟩:=ai e4;obtain⟨⟨b,L6⟩,h2,e4⟩:=ai e4;dsimp only at e4;refine .inr ⟨go,fun x H3 y=>?_⟩;obtain⟨G4,rx,IQ,Ja⟩:=yl x H3 y;obtain⟨fa,fb,Om,ra,L7,bk⟩:=IQ.frame;refine⟨G4,es,fb,ds[i],P6,L7,rx,h1,fun σ2 G5 NC MS Kn=>?_⟩;refine⟨G5,P6,NC,b,L6,Kn,h2,fun H6 G6 Mw P7 K5=>?_⟩;have L8:=MS.trans P7;cases b with
   |false=>
    refine iteF ⟨ds.length-(i+1),by lia,rfl,Hr,?_⟩;obtain⟨Ko,Lm⟩:=bk G6 H6 L6 σ2 Mw L8 K5;rw[<-Om]at Lm;exact⟨G6,L6,_,acc,bG,H0.trans (Ja.trans Lm),Ko,e4,JQ⟩
   |true=>
    have e4:((f L6).bind fun q=>(ck a c f (ds.drop (i+1)) q.2).bind fun rs=>.ok (q.1.2::rs))=.ok bG:=e4;obtain⟨⟨r,Oo⟩,h3,e4⟩:=ai e4;obtain⟨L9,h4,e4⟩:=ai e4;cases e4;refine Bx ⟨G6,L6,Mw,r,Oo,K5,h3,fun v H7 G7 fp7 RL Oq=>?_⟩;obtain⟨G8,RN,rv,Ot,RO⟩:=Oq.freeze;obtain⟨Ko,Lm⟩:=bk G8 H7 Oo σ2 RN (L8.trans (RL.trans RO)) Ot;rw[<-Om]at Lm;obtain⟨p,xs,ep,hp,LK,cg⟩:=Ko.chg (i:=0) (ds:=acc) (ds':=acc++[r.2]) rfl;have ep:some (some (V.ref D))=some (some (V.ref p)):=ep;cases ep;obtain⟨fq,Ou,RP⟩:=cg (xs++[v]) (LK.app (.one rv));refine⟨xs,hp,?_,ds.length-(i+1),by lia,rfl,Hr,G8,Oo,fq,acc++[r.2],L9,H0.trans (Ja.trans (Lm.trans RP)),Ou,h4,?_⟩
    ·rw[LK.length];have:=UN List.length JQ;rw[UC,TQ]at this;lia
    ·rw[<-JQ,US];rfl
  ·have ei:i=ds.length:=by lia
   subst ei;rw[Wn]at e4;cases e4;rw[Ui]at JQ;subst JQ;refine .inl ⟨w2 rfl,?_⟩;obtain⟨fa,Ma,P8⟩:=Iy.only;obtain⟨k1,k2⟩:=Ii H2 G3 fa _ _ (H0.trans P8) Ma;rw[ee]at k;by_cases hc:G0 acc=true
   ·rw[Tw hc]at k;obtain⟨G5,NC,Ja,IQ⟩:=k1 (by rw[aP,ia];exact hc);exact k _ H2 G5 NC (Hh.trans Ja) IQ
   ·rw[TC hc]at k;obtain⟨G5,NC,Ja,IQ⟩:=k2;exact k _ H2 G5 NC (Hh.trans Ja) IQ
 ·cases e
section
variable{md:Mode}{X:Cx}{scope:Scope}{N:List Str}{tg iter elt:Expr}{ifs:List Expr}{pos:Pos}{fi:FI}{a:FG}{c:FT}{f:FX}
variable{l e:Expr}{g fj:FI}
theorem bu(h:QI X tg e fi):MR X tg e fi:=i4 h fun σ H R ⟨G,env,fp,ds,env',rel,e,k⟩=>⟨G,env,fp,ds,env',rel,e,fun J H' G' GZ st HJ wk=>k J H' G' GZ st HJ fun _ gg _=>wk.mono gg⟩
theorem cf(h:MR X tg e fi)(h2:MR X tg e fj):MR X tg e (HR fi fj):=fun pr s σ H R I Hc=>by
 obtain⟨G,env,fp,ds,env',rel,ee,k⟩:=Hc;rcases xZ ee with z|z
 ·exact h pr s σ H R I ⟨G,env,fp,ds,env',rel,z,k⟩
 ·exact h2 pr s σ H R I ⟨G,env,fp,ds,env',rel,z,k⟩
def gA(i:Nat):FI:=fun env=>match env[i]? with
 |some (some (_,.lst ds))=>.ok (ds,env)
 |_=>.bad
theorem dk{i:Nat}(h:PE X l (sd i)):MR X tg l (gA i):=i4 (sy h) fun σ H R Hc=>by
 obtain⟨G,env,fp,ds,env',rel,e,k⟩:=Hc;unfold gA at e;split at e
 ·rename_i o ds hr;cases e;obtain⟨v,ev,rv⟩:=rel.view hr;obtain⟨p,xs,Sy,sq,rs⟩:=bx rv;refine⟨v,ev,p,Sy,⟨xs,sq⟩,k _ H G fp .refl rel fun G2 gg Jc=>?_⟩;obtain⟨p',IW,P9,Iz,Jx⟩:=bx (Jc i _ v hr ev);rw[Sy]at P9;cases P9;exact nq Iz Jx
 ·cases e
theorem bD(ix:List (Option Nat))(N:List Str)(hc:X.calm=true)(hi:MR X tg iter fi)(hg:∀C s H fp pn,QG (bJ X scope N C s H fp pn) tg a)(ht:∀C s H fp pn,Og (bJ X scope N C s H fp pn) ifs c)(he:∀C s H fp pn,QE (bJ X scope N C s H fp pn) elt f)
  (hf:c9 scope X.env=true:=by rfl) (hk:scope.kind=.function:=by rfl) (Hk:∀y∈scope.names,y.2≠.cell:=by decide +kernel) (Hu:∀y∈scope.names,y.2=.local->scope.names.lookup y.1=some .local:=by decide +kernel) (HZ:mY X scope N ix=true:=by rfl)
  (hs:∀x,foldedSetIterable iter X.env x=pure x:=by intro _;rfl):QE X (.ListComp elt [⟨tg,iter,ifs,0⟩] scope pos) (cy fi ix a c f):=
 bK (tj (g:=tQG X.K a) (tc:=tQT X.K c) (te:=tQ X.K f) ix N hc hi hg ht he hf hk Hk Hu HZ hs) fun _ _ _=>ql
theorem qm{i:Nat}{y:Str}{py JL:Pos}(ix:List (Option Nat))(N:List Str)(hN:X.N.Nodup)(N8:X.N[i]?=some y)(hy:Loc X.env.scope y)(hc:X.calm=true)(hi:MR X tg iter fi)(hg:∀C s H fp pn,QG (bJ X scope N C s H fp pn) tg a)(ht:∀C s H fp pn,Og (bJ X scope N C s H fp pn) ifs c)
  (he:∀C s H fp pn,QE (bJ X scope N C s H fp pn) elt f) (MI:swapsWith (.ListComp elt [⟨tg,iter,ifs,0⟩] scope pos) (some (.Name y py)) JL.line X.env=pure true:=by rfl)
  (hf:c9 scope X.env=true:=by rfl) (hk:scope.kind=.function:=by rfl) (Hk:∀y∈scope.names,y.2≠.cell:=by decide +kernel) (Hu:∀y∈scope.names,y.2=.local->scope.names.lookup y.1=some .local:=by decide +kernel) (HZ:mY X scope N ix=true:=by rfl)
  (hs:∀x,foldedSetIterable iter X.env x=pure x:=by intro _;rfl) (Lg:X.fn y=true\/X.env.scope.names.lookup y=some .local:=by first|exact .inl rfl|exact .inr rfl):
  QS (md:=md) X (.Assign [.Name y py] (.ListComp elt [⟨tg,iter,ifs,0⟩] scope pos) JL) (cM i (cy fi ix a c f)):=
 d4 (y8 (i:=i) (g:=tQG X.K a) (tc:=tQT X.K c) (te:=tQ X.K f) ix N hN N8 hy hc hi hg ht he MI hf hk Hk Hu HZ hs Lg) fun D σ H ⟨G,env,fp,rel,k⟩=>ql (oR rel k)
end
section
variable{X:Cx}{a:Expr}{pos:Pos}{fa:FO}
def oF(fa:FO):FX:=fun env=>(fa env).bind fun p=>(Jl p.2 p.1).bind fun d=>match d with
 | .int i=>.ok ((.f,.int (-i)),p.2)
 |_=>.bad
theorem gE(ha:QO X a fa):QE X (.UnaryOp .USub a pos) (oF fa):=bK (D3 Bm ha) fun σ H Q Hc=>by
 obtain⟨G,env,fp,r,env',rel,e,k⟩:=Hc;obtain⟨⟨o,e1⟩,h1,e⟩:=ai e;obtain⟨d,h2,e⟩:=ai e;dsimp only at e;split at e
 ·rename_i i;cases e;refine⟨G,env,fp,o,_,rel,h1,fun v H1 G1 Hq Hh GY Jy=>?_⟩;have:=bg (GY.vw Jy h2);exact⟨i,this,k _ H1 G1 Hq Hh (GY.push (rep_int _))⟩
 ·cases e
theorem uz{i:Int}(h:i.natAbs<2 ^ 1000):Builtin.Int.intBits i<=2 ^ 20:=by
 unfold Builtin.Int.intBits;split
 ·exact Um _
 ·rename_i h0;have h1:i.natAbs≠0:=by
   intro e;rw[Xm]at e;exact h0 (by rw[e];rfl)
  have:=(ZG h1).mpr h;have e:(2:Nat) ^ 20=1048576:=by decide
  lia
theorem zL:HI X (binaryOp .Mult) (rI (fun i j=>i.natAbs<2 ^ 1000/\j.natAbs<2 ^ 1000) fun i j=>.int (i*j)):=Nz fun _ _ _ _ _ _ _ hc q=>mul_int q (.of_bits (uz hc.1) (uz hc.2))
theorem nI{α:Type}:∀(ls:List (Array α)) (acc:Array α),(ls.foldl (·++·) acc).toList=acc.toList++(ls.map Array.toList).flatten
 |[],acc=>by simp
 |a::ls,acc=>by
  rw[Wy,nI ls,Array.toList_append,TY,Ve,US]
theorem Ew(l:List Nat)(n:Nat):(⟨(List.replicate n (S l).cps).foldl (·++·) #[]⟩:Str)=S (List.replicate n l).flatten:=by
 have h:((List.replicate n (S l).cps).foldl (·++·) #[]).toList=(List.replicate n l).flatten:=by
  rw[nI,List.map_replicate];simp only[e8,Vz]
 show Str.mk _=Str.mk _;rw[<-h]
theorem zM(a b:Int):Ep (.int a) (.int b)=if kR a||kR b then .ok (.f,.int (a*b)) else .bad:=rfl
noncomputable def Ex:D->D->Res R
 | .int i,.int j=>if kR i||kR j then .ok (.f,.int (i*j)) else if i.natAbs<2 ^ 1000/\j.natAbs<2 ^ 1000 then .ok (.f,.int (i*j)) else .bad
 | .str l,.int k=>if 2<=k/\k<=1000/\1<=l.length/\l.length<=1000 then .ok (.f,.str (List.replicate k.toNat l).flatten) else .bad
 |_,_=>.bad
theorem zN:HI X (binaryOp .Mult) (rG X.K Ex):=by
 rintro pr s σ H x y v u Q I rx ry ⟨G,fp,es,vs,a,b,r,⟨rel,k⟩,va,vb,e⟩;unfold Ex at e;split at e
 ·rename_i i j;split at e
  ·rename_i hc;exact B0 pr s σ H x y v u Q I rx ry ⟨G,fp,es,vs,.int i,.int j,r,⟨rel,k⟩,va,vb,by rw[zM,Tw hc];exact e⟩
  ·split at e
   ·rename_i hc;cases e;cases bg va;cases bg vb;exact zL pr s σ H _ _ v u Q I rx ry ⟨i,j,rfl,rfl,hc,k _ H G fp .refl (rel.push (rep_int _))⟩
   ·cases e
 ·rename_i l j;split at e
  ·rename_i hc;cases e;obtain⟨ev,hl⟩:=iZ va;subst ev;cases bg vb;obtain⟨t,rfl⟩:=rx;obtain⟨t',rfl⟩:=ry;have hlen:(S l).length=l.length:=mW l;have hz:(List.replicate j.toNat l).flatten.length<=1000000:=by
    rw[gN];exact WL (by lia:j.toNat<=1000) hc.2.2.2
   have NB:(List.replicate j.toNat l).flatten.length<=sizeLine:=T2 hz (by decide);refine PySem.P.mul_str ?_ ?_ ?_ ?_
   ·rw[Ua (by lia),Ua (by lia)];rfl
   ·intro _ _;rw[hlen];have h1:1000<=(2 ^ 63-1) / j:=(Int.le_ediv_iff_mul_le (by lia)).mpr (by lia);lia
   ·intro _ _;unfold Builtin.Str.tooLong;rw[Ud,hlen,Wa,<-gN];lia
   ·rw[TC (by lia),TC (by rw[hlen,Xd,Uc,Uc];lia),Ew];refine⟨?_,?_⟩
    ·rw[mW];exact NB
    ·exact⟨.str (S (List.replicate j.toNat l).flatten),H,I.tok _,⟨_,rfl⟩,k _ H G fp .refl (rel.push (gR NB))⟩
  ·cases e
 ·cases e
end
end PV
namespace HT
open PySem PySem.Spec PyProof.Rows L2
variable{prog:Program}{w:World}{A:Around}{E:Value->Shared->Prop}{s:Shared}
theorem ig{t sl:Addr}{items:Array Value}{vl vu:Value}{lo hi:Option Int}{Q:Value->Shared->Prop}(ht:IsTup s.heap t items)(hs:s.heap.IsSliceOf sl vl vu .none)(pl:IsPart vl lo)(pu:IsPart vu hi)
  (hw:sIx items.size 0 lo=0/\sIx items.size items.size hi=items.size) (h:Q (.ref t) s):wpAny (model prog w) A (getItem (.ref t) (.ref sl)) Q E s:=by
 obtain⟨os,NZ,QL,ME⟩:=id hs;have Rk:s.TypeIs (.ref sl) "slice":=⟨os,NZ,QL⟩
 unfold getItem;try with_reducible refine Wf ?_
 first|refine Ti (Tv ?_)|skip
 refine Ti (wpAny_sequenceKey ht.typeIs (by decide) ?_);refine Ti (Uu (name:=Str.ofString "__getitem__") ht.typeIs Vb
  (UQ Vb ht.typeIs entry_tuple_getitem ?_ (args_tuple_getitem _ _)))
 show wpAny _ _ (Builtin.Tuple.tupleItemsOf (.ref t) >>= _) _ _ s;refine Ti (tupleItemsOf_ ht ?_);refine Ti (Wt Rk ?_);rw[Tw (by decide)];refine Ti (e7 hs pl pu ?_);have hyes:(((sIx items.size 0 lo:Nat):Int)==0&&(1:Int)==1&&(sIx items.size items.size hi-sIx items.size 0 lo)==items.size)=true:=by
  rw[hw.1,hw.2];simp
 show wpAny _ _ (if(((sIx items.size 0 lo:Nat):Int)==0&&(1:Int)==1&&(sIx items.size items.size hi-sIx items.size 0 lo)==items.size)=true then _ else _) _ _ s;rw[Tw hyes];refine Ti (m:=Builtin.Tuple.tupleIsExact _) ?_;unfold Builtin.Tuple.tupleIsExact;refine Ti (Wt ht.typeIs (Tv ?_));rw[Tw (by decide)];exact Ti (Y1 (Tv ⟨_,rfl,Tv h⟩))
end HT
namespace PV
open PySem PySem.Spec PyProof.Rows L2 NX
section
variable{X:Cx}{pos:Pos}{fa:FO}
theorem zO:N2 X (fun x lo hi H Q=>∃a xs,x=.ref a/\SqT X.K H a xs/\(HT.sIx xs.length 0 lo=0/\HT.sIx xs.length xs.length hi=xs.length)/\Q x H):=by
 intro pr s σ H x v vl vu lo hi sl Q I rx hs pl pu h;obtain⟨a,xs,rfl,hx,hw,q⟩:=h;cases rx;obtain⟨GX,r,ht,hz⟩:=I.tuple hx;have hlen:GX.toArray.size=xs.length:=by rw[Tr];exact r.length.symm
 refine⟨"tuple",_,PyProof.Rows.slot_tuple_getitem.lookup,ht.typeIs,?_⟩;exact HT.ig ht hs pl pu (by rw[hlen];exact hw) ⟨.ref a,H,I,rfl,q⟩
def Ov(k:D)(lo hi:Option Int):Res R:=match k with
 | .tup ds=>if HT.sIx ds.length 0 lo=0/\HT.sIx ds.length ds.length hi=ds.length then .ok (.f,.tup ds) else Pn k lo hi
 |_=>Pn k lo hi
def yc(fa:FO)(lo hi:FP):FX:=fun env=>(fa env).bind fun p=>(lo p.2).bind fun q=>(hi q.2).bind fun t=>(Jl t.2 p.1).bind fun d=>(Ov d q.1 t.1).bind fun r=>.ok (r,t.2)
inductive rSlW(K:W.Frag)(x:V)(lo:Option Int)(hi:Option Int)(H:Hp)(Q:VK):Prop
 |mk:∀G fp es vs d r,Goes K H G fp es vs r Q->Vw K G H d x->Ov d lo hi=.ok r->rSlW K x lo hi H Q
theorem Cj:N2 X (rSlW X.K):=by
 rintro pr s σ H x v vl vu lo hi sl Q I rx hs pl pu ⟨G,fp,es,vs,d,r,⟨rel,k⟩,vd,e⟩;unfold Ov at e;split at e
 ·rename_i ds;split at e
  ·rename_i hw;cases e;obtain⟨p,xs,ev,sq,rs⟩:=fI vd;subst ev;refine zO pr s σ H _ v vl vu lo hi sl Q I rx hs pl pu ⟨p,xs,rfl,bB rel.gh sq,by rw[rs.length];exact hw,?_⟩;exact k _ H G fp .refl (rel.push vd)
  ·exact B4 pr s σ H x v vl vu lo hi sl Q I rx hs pl pu ⟨G,fp,es,vs,_,r,⟨rel,k⟩,vd,e⟩
 ·exact B4 pr s σ H x v vl vu lo hi sl Q I rx hs pl pu ⟨G,fp,es,vs,_,r,⟨rel,k⟩,vd,e⟩
theorem k7{e:Expr}{lo hi:Option Expr}{p2:Pos}{fl fh:FP}(he:QO X e fa)(hl:QP X lo fl)(hh:QP X hi fh):QE X (.Subscript e (.Slice lo hi none p2) pos) (yc fa fl fh):=
 bK (wz Cj he hl hh) fun σ H Q Hc=>by
  obtain⟨G,env,fp,r,env',rel,e,k⟩:=Hc;obtain⟨⟨o,GV⟩,e1,e⟩:=ai e;obtain⟨⟨i,Hd⟩,e2,e⟩:=ai e;obtain⟨⟨j,HE⟩,e3,e⟩:=ai e;obtain⟨d,e4,e⟩:=ai e;obtain⟨r',e5,e⟩:=ai e;cases e;exact⟨G,env,fp,o,GV,rel,e1,fun v H1 G1 Hq Hh GY Jy=>⟨G1,GV,Hq,i,Hd,GY,e2,fun H2 G2 Hz G9 GW=>⟨G2,Hd,Hz,j,HE,GW,e3,fun H3 G3 IY Hx HB=>
   ⟨G3,IY,HE,σ,d,r,⟨HB,fun v H' G' GZ st HJ=>k v H' G' GZ (Hh.trans (G9.trans (Hx.trans st))) HJ⟩,HB.vw ((Jy.mono G9.gg).mono Hx.gg) e4,e5⟩⟩⟩⟩
end
end PV
namespace L2
open PySem PySem.Spec PyProof.Rows
section
variable{X:Cx}{tg:Expr}
def uA(i j c:Int):Prop:=(-1048576<=i/\i<=1048576)/\(-1048576<=j/\j<=1048576)/\(c = -1\/1<=c)/\c<=1048576
instance (i j c:Int):Decidable (uA i j c):=by unfold uA;infer_instance
end
end L2
namespace PV
open PySem PySem.Spec PyProof.Rows L2 NX
section
variable{X:Cx}{tg:Expr}
def GR:List D->Res R
 |[d]=>match(nr d).bind d7 with
  |some (n::ns)=>.ok (.f,.int (Ef (n::ns)))
  |_=>.bad
 |[.int i,.int j]=>.ok (.f,.int (if j<i then j else i))
 |_=>.bad
def AN:List D->Res R
 |[.int i]=>.ok (.f,.int (if i<0 then -i else i))
 |_=>.bad
theorem yd:dC X (.builtin "abs") (rC X.K AN):=by
 rintro pr s σ H xs us Q I rx ⟨G,fp,es,vs,ds,r,⟨rel,k⟩,vd,e⟩;unfold AN at e;split at e
 ·cases e;obtain⟨v,ev,vt⟩:=sf vd;subst ev;cases bg vt;exact wu pr s σ H _ us Q I rx ⟨_,rfl,k _ H G fp .refl (rel.push (rep_int _))⟩
 ·cases e
noncomputable def Ey(fs:FOs):FI:=fun env=>(fs env).bind fun p=>(se p.2 p.1).bind fun d=>match d with
 |[.int i,.int j,.int c]=>if uA i j c then .ok ((List.range (Builtin.Range.rangeSize i j c).toNat).map fun(k:Nat)=>D.int (i+(k:Int)*c),p.2) else .bad
 |_=>.bad
end
end PV
namespace NX
open PySem PySem.Spec PyProof.Rows L2
section
open PySem.SeqAt
open PySem.AutoSeq1 (wpAny_loadPart')
end
end NX
namespace L2
open PySem PySem.Spec PyProof.Rows
section
variable{X:Cx}{o e:Expr}{es:List Expr}{to:TE}{t:TA}{name:Str}{apos Hy:Pos}{id:String}{r:V->List V->Hp->VK->Prop}
end
end L2
namespace PV
open PySem PySem.Spec PyProof.Rows L2 NX
section
variable{X:Cx}
noncomputable def GS(g:List D->List D->Res R)(fa:FO)(fs:FOs):FX:=fun env=>(fa env).bind fun p=>(Jl p.2 p.1).bind fun a=>match a with
 | .tup _=>(fs p.2).bind fun q=>(Jl q.2 p.1).bind fun a2=>match a2 with
  | .tup l=>(se q.2 q.1).bind fun ds=>(g l ds).bind fun r=>.ok (r,q.2)
  |_=>.bad
 |_=>.bad
def Gv(l:List D):List D->Res R
 |[.str c]=>match kY l with
  |some bs=>if c∈bs then .ok (.f,.int (bs.idxOf c:Nat)) else .bad
  |none=>.bad
 |_=>.bad
def g8(a b:D):Res R:=match a,b with
 | .tup [],.tup l=>.ok (.f,.tup l)
 |a,b=>addD a b
theorem bX:HI X (binaryOp .Add) (rG X.K g8):=by
 rintro pr s σ H x y v u Q I rx ry ⟨G,fp,es,vs,a,b,r,⟨rel,k⟩,va,vb,e⟩;unfold g8 at e;split at e
 ·rename_i l;cases e;obtain⟨p,xs,e1,h1,r1⟩:=fI va;obtain⟨p2,Pm,e2,h2,r2⟩:=fI vb;subst e1;subst e2;cases rx;cases ry;have hx:xs=[]:=Ut (by rw[r1.length];rfl);subst hx;obtain⟨GX,v1,⟨⟨cls,dd,data,sl⟩,ho,hc,n,hd⟩,_⟩:=I.tuple (bB rel.gh h1);obtain⟨Lx,v2,⟨⟨NY,Mr,data2,Ms⟩,IA,Lh,n2,hd2⟩,_⟩:=I.tuple (bB rel.gh h2);dsimp only at hc hd Lh hd2;subst hc hd Lh hd2;cases v1;exact X4 ⟨_,ho,rfl⟩ ⟨_,IA,rfl⟩ XO YJ WD Wx (Ws _ _) (tuple_addW0 p p2 _ _ n n2 dd Mr sl Ms rfl) ⟨ho,IA,⟨.ref p2,H,I,rfl,k _ H G fp .refl (rel.push vb)⟩⟩
 ·exact BZ pr s σ H _ _ v u Q I rx ry ⟨G,fp,es,vs,a,b,r,⟨rel,k⟩,va,vb,e⟩
def nJ(fs:FOs):FI:=HR (rH true true fs) (HR (rH true false fs) (HR (rH false true fs) (rH false false fs)))
theorem lY{KI:List Expr}{kt:Nat}{pt:Pos}{e1 e2:Expr}{fs:FOs}{p pos:Pos}(hg:Gl X "zip")(hm:X.mg "zip" = none)(ha:L1 X [e1,e2] fs)(he:starEach [e1,e2] X.env=(false,eval e1 X.env)::starEach [e2] X.env:=by rfl)(Jb:(backTo pos (starEach [e2] X.env)).any (·.1)=false:=by rfl):
  QI X (.Tuple KI kt pt) (.Call (.Name "zip" p) [e1,e2] [] pos) (nJ fs):=rL (qc true true hg hm ha he Jb) (rL (qc true false hg hm ha he Jb) (rL (qc false true hg hm ha he Jb) (qc false false hg hm ha he Jb)))
end
end PV
namespace NX
open PySem PySem.Spec PyProof.Rows L2
section
open PySem.AutoSeq1 (wpAny_loadPart')
theorem nK(l:Addr)(items:Array Value)(n:Nat)(dd:Option Addr)(sl:Array (Option Value))(x:Int)(u:Tok)(h1:¬ (!Builtin.List.listFitsIndex x)=true)(h2:¬ items.size*x.toNat>(2 ^ 63-1) / 8)(h3:¬ Builtin.List.listTooLong (items.size*x.toNat)=true)(h4:(List.foldl (fun x1 x2=>x1++x2) #[] (List.replicate (if items.isEmpty=true then 0 else x.toNat) items)).size<=sizeLine):
  Meets (Builtin.«list.__mul__» ⟨[.ref l,.int x u],[]⟩)
   (fun _ R s=>s.heap.get? l=some {cls:=.type "list",dict:=dd,data:=.seq items n,slots:=sl}/\R (.ok (.ret (.ref s.heap.objs.size))) {s with heap:=s.heap.push {cls:=.type "list",data:=.seq (List.foldl (fun x1 x2=>x1++x2) #[] (List.replicate (if items.isEmpty=true then 0 else x.toNat) items))}}):=
 .of_wp fun prog w A R s h=>by
  obtain⟨hp,g,d,tk,os⟩:=s;obtain⟨hl,h⟩:=h
  wp_walk using wpAny_loadPart' hl
  rw[TC (by lia)]
  wp_walk
  exact⟨_,rfl,h⟩
theorem nL(a:Int)(t:Tok)(l:Addr)(T:String)(items:Array Value)(n:Nat)(dd:Option Addr)(sl:Array (Option Value)):
  Meets (Builtin.«int.__rmul__» ⟨[.int a t,.ref l],[]⟩)
   (fun _ R s=>s.heap.get? l=some {cls:=.type "list",dict:=dd,data:=.seq items n,slots:=sl}/\R (.ok (.ret .notImplemented)) s):=
 .of_wp fun prog w A R s h=>by
  obtain⟨hp,g,d,tk,os⟩:=s;obtain⟨hl,h⟩:=h
  wp_walk using wpAny_loadPart' hl
  exact⟨_,rfl,h⟩
end
end NX
namespace PV
open PySem PySem.Spec PyProof.Rows L2 NX
section
variable{md:Mode}{X:Cx}
inductive rRepS(K:W.Frag)(x:V)(y:V)(H:Hp)(Q:VK):Prop
 |mk:∀l k xs,x=.ref l->y=.int k->SqL K H l xs->-(2 ^ 62)<=k->k<2 ^ 62->xs.length*k.toNat<=sizeLine->(∀p,H p=none->Q (.ref p) (upd H p (.lst (List.replicate k.toNat xs).flatten)))->rRepS K x y H Q
theorem zP:HI X (binaryOp .Mult) (rRepS X.K):=by
 intro pr s σ H x y v u Q I rx ry h;obtain⟨l,k,xs,rfl,rfl,hH,h1,h2,hz,q⟩:=h;cases rx;obtain⟨t,rfl⟩:=ry;obtain⟨GX,r,p1,_⟩:=I.list hH;have hl:=r.length;obtain⟨⟨cls,dd,data,sl⟩,ho,hc,n,hd⟩:=id p1.isList;simp only at hc hd;subst hc hd;have hlen:GX.toArray.size*k.toNat<=sizeLine:=by rw[Tr,<-hl];exact hz
 have hcap:¬ GX.toArray.size*k.toNat>(2 ^ 63-1) / 8:=by
  have:(sizeLine:Nat)<=(2 ^ 63-1) / 8:=by decide
  lia
 have K4:¬ (!Builtin.List.listFitsIndex k)=true:=by
  rw[fitsIndex_both (by lia) (by lia)];exact TB
 have Qa:¬ Builtin.List.listTooLong (GX.toArray.size*k.toNat)=true:=by
  rw[wC hlen];exact TB
 have K6:List.foldl (fun x1 x2=>x1++x2) #[] (List.replicate (if GX.toArray.isEmpty=true then 0 else k.toNat) GX.toArray)=(List.replicate k.toNat GX).flatten.toArray:=by
  have f0:∀m:Nat,List.foldl (fun x1 x2=>x1++x2) #[] (List.replicate m GX.toArray)=(List.replicate m GX).flatten.toArray:=fun m=>by
   have:=jA GX m [];rw[Vz]at this;exact this
  rw[f0];cases GX with
  |nil=>simp
  |cons a r'=>rw[TC (by simp)]
 have hsz:(List.foldl (fun x1 x2=>x1++x2) #[] (List.replicate (if GX.toArray.isEmpty=true then 0 else k.toNat) GX.toArray)).size<=sizeLine:=by
  rw[K6,Tr,gN,Wa];rw[Tr]at hlen;exact hlen
 refine Xv (T:="list") (U:="int") (by decide) ⟨_,ho,rfl⟩ (fun s'=>W8 s' k t) noFill_list_mul F.fills_int_mul Xh repeat_list F.slot_int_index.lookup
  (WE Xh (W8 s k t) F.entry_int_rmul (F.args_int_rmul_2 _ _) (nL k t l "" GX.toArray n dd sl)
   ⟨ho,rfl,⟨_,ho,rfl⟩,WE F.slot_list_mul ⟨_,ho,rfl⟩ F.entry_list_mul (F.args_list_mul_2 _ _) (nK l GX.toArray n dd sl k t K4 hcap Qa hsz) ⟨ho,?_⟩⟩)
 rw[K6];exact⟨.ref _,_,I.lnew (t':=s.toks) (r.rep k.toNat) (by rw[gN,Wa];exact hz),rfl,q _ I.fresh⟩
theorem lZ{K:W.Frag}{G:Hp}{ds:List D}{xs:List V}(r:Reps K G ds xs):∀n:Nat,Reps K G (List.replicate n ds).flatten (List.replicate n xs).flatten
 | 0=>.nil
 |n+1=>by
  rw[UO,UO,Ve,Ve];exact r.app (lZ r n)
def AO(a b:D):Res R:=match a,b with
 | .lst ds,.int k=>if 0<=k/\k<1000000/\ds.length*k.toNat<=sizeLine then .ok (.l .f,.lst (List.replicate k.toNat ds).flatten) else .bad
 |a,b=>Ex a b
theorem zQ:HI X (binaryOp .Mult) (rG X.K AO):=by
 rintro pr s σ H x y v u Q I rx ry ⟨G,fp,es,vs,a,b,r,⟨rel,k⟩,va,vb,e⟩;unfold AO at e;split at e
 ·rename_i ds j;split at e
  ·rename_i hj;cases e;obtain⟨p,xs,e1,h1,r1⟩:=va;subst e1;cases bg vb;refine zP pr s σ H _ _ v u Q I rx ry ⟨p,j,xs,rfl,rfl,h1,by lia,by lia,by rw[r1.length];exact hj.2.2,fun q hq=>?_⟩;obtain⟨GW,G9⟩:=rel.newL hq (lZ r1 j.toNat);exact k _ _ G _ G9 GW
  ·cases e
 ·exact zN pr s σ H _ _ v u Q I rx ry ⟨G,fp,es,vs,a,b,r,⟨rel,k⟩,va,vb,e⟩
def Ez(td ty tv:TE):TS:=fun Dd σ H=>tv σ H fun v H1=>td σ H1 fun x H2=>ty σ H2 fun y H3=>Bu x y v H3 fun H4=>Dd.nx σ H4
theorem zR{o i value:Expr}{td ty tv:TE}{pos pos':Pos}(ho:PE X o td)(hi:PE X i ty)(hv:PE X value tv)(hs:swapsWith value (some (.Subscript o i pos')) pos.line X.env=pure false):
  PS X (.Assign [.Subscript o i pos'] value pos) (Ez td ty tv):=by
 intro pr s σ H Dd I h;refine wpAny_Assign_Subscript (Hl (hv pr s σ H _ I h) fun r s1 ⟨v,H1,I1,rv,q1⟩=>Hl (ho pr s1 σ H1 _ I1 q1) fun u s2 ⟨x,H2,I2,rx,q2⟩=>Hl (hi pr s2 σ H2 _ I2 q2) fun iv s3 ⟨y,H3,I3,ry,q3⟩=>?_) hs;exact Hl (wA pr s3 σ H3 x y v u iv r _ I3 rx ry rv q3) fun _ s4 ⟨H4,I4,q4⟩=>⟨σ,H4,I4,q4⟩
noncomputable def nM(i:Nat)(fk fv:FX):FS:=fun env=>(fv env).bind fun p=>(fk p.2).bind fun q=>match p.2[i]?,q.2[i]? with
 |some (some _),some (some (.l .f,.lst ds))=>(match q.1.2 with
  | .int k=>(match ixN ds.length k with
   |some j=>.ok (.nx (q.2.set i (some (.l .f,.lst (ds.set j p.1.2)))))
   |none=>.bad)
  |_=>.bad)
 |_,_=>.bad
theorem jW{i:Nat}{o ix value:Expr}{fk fv:FX}{pos pos':Pos}(ho:PE X o (sd i))(hi:QE X ix fk)(hv:QE X value fv)(hs:swapsWith value (some (.Subscript o ix pos')) pos.line X.env=pure false:=by rfl):
  QS (md:=md) X (.Assign [.Subscript o ix pos'] value pos) (nM i fk fv):=d4 (zR ho hi hv hs) fun Dd σ H Hc=>by
 obtain⟨G,env,fp,rel,k⟩:=Hc;unfold nM at k;match q1:fv env,k with
 | .ok (r1,GV),k=>
  have k:OutOk X.K G H fp Dd ((fk GV).bind fun q=>match GV[i]?,q.2[i]? with
   |some (some _),some (some (.l .f,.lst ds))=>(match q.1.2 with
    | .int k=>(match ixN ds.length k with
     |some j=>.ok (.nx (q.2.set i (some (.l .f,.lst (ds.set j r1.2)))))
     |none=>.bad)
    |_=>.bad)
   |_,_=>.bad):=k
  match q2:fk GV,k with
  | .ok (r2,Hd),k=>
   have k:OutOk X.K G H fp Dd (match GV[i]?,Hd[i]? with
    |some (some _),some (some (.l .f,.lst ds))=>(match r2.2 with
     | .int k=>(match ixN ds.length k with
      |some j=>.ok (.nx (Hd.set i (some (.l .f,.lst (ds.set j r1.2)))))
      |none=>.bad)
     |_=>.bad)
    |_,_=>.bad):=k
   split at k
   ·rename_i rr ds h1 h2;split at k
    ·rename_i kk KW;split at k
     ·rename_i j hj;refine⟨G,env,fp,r1,GV,rel,q1,fun y H1 G1 Hq Hh GY=>?_⟩;obtain⟨G2,b,ry,GW,G9⟩:=GY.freeze;obtain⟨v0,Pp,_⟩:=GW.view h1;refine⟨v0,Pp,G2,GV,b,r2,Hd,GW,q2,fun z H3 G3 IY Hx HB=>?_⟩;obtain⟨G4,b4,rz,Iy,H0⟩:=HB.freeze;have Q1:Rep X.K G4 r1.2 y:=Rep.mono (Hx.gg.trans H0.gg) ry;obtain⟨p,xs,ep,hp,rs,cg⟩:=Iy.chg (ds':=ds.set j r1.2) h2;rw[Pp]at ep;cases ep;rw[KW]at rz;have hz:=bA rz;obtain⟨fq,IQ,Ja⟩:=cg _ (rs.set j Q1);exact⟨p,xs,kk,j,rfl,hz,hp,by rw[rs.length];exact hj,k _ _ G4 fq (Hh.trans (G9.trans (Hx.trans (H0.trans Ja)))) IQ⟩
     ·exact k.elim
    ·exact k.elim
   ·exact k.elim
end
section
variable{X:Cx}
def Fw(fk fv:FX):FX:=fun env=>(fk env).bind fun p=>(fv p.2).bind fun q=>if d9 false p.1.2 then .ok ((.d,.dct false [p.1.2] [q.1.2]),q.2) else .bad
def getD(ks vs:List D)(k:D):Option D:=((ks.zip vs).find? fun p=>Ha k p.1).map (·.2)
theorem jX{κ:Type}[DecidableEq κ]{K:W.Frag}{G:Hp}(f:κ->D)(hf:∀a b,Ha (f a) (f b)=decide (a=b)){k:κ}:∀{GU:List (κ×V)}{vs:List D},Reps K G vs (GU.map (·.2))->((getD (GU.map fun kv=>f kv.1) vs (f k)).isSome=(ng GU k).isSome)/\∀d,getD (GU.map fun kv=>f kv.1) vs (f k)=some d->∃v,ng GU k=some v/\Rep K G d v
 |[],vs,r=>⟨rfl,fun d h=>nomatch h⟩
 |kv::GU,vs,r=>by
  cases vs with
  |nil=>have:=r.length;simp at this
  |cons d0 vs=>
   rw[TY,Reps.cons_iff]at r;obtain⟨h1,h2⟩:=jX f hf (k:=k) r.2;unfold getD ng at h1 h2 ⊢;rw[TY,WB];have e:Ha (f k) (f kv.1)=decide (kv.1=k):=by
    rw[hf,Uv,T1,T1];exact⟨fun z=>z.symm,fun z=>z.symm⟩
   by_cases hk:kv.1=k
   ·rw[V1 (by show Ha (f k) (f kv.1)=true;rw[e];exact Ux hk),V1 (by exact Ux hk)];refine⟨rfl,fun d h=>?_⟩;cases h;exact⟨_,rfl,r.1⟩
   ·rw[V2 (by show ¬ Ha (f k) (f kv.1)=true;rw[e];simpa using hk),V2 (by simpa using hk)];exact⟨h1,h2⟩
theorem oY{K:W.Frag}{G H:Hp}(gh:Same G H){tk:Bool}{ks vs:List D}{xs:List V}{o:HO}{p:Addr}{b:D}{y:V}(rd:Rd H p o)(dd:DictO o tk ks xs)(rs:Reps K G vs xs)(hk:d9 tk b=true)(ry:Rep K G b y):
  ∃ov,DGet H p y ov/\(getD ks vs b).isSome=ov.isSome/\∀d,getD ks vs b=some d->∃v,ov=some v/\Rep K G d v:=by
 unfold d9 at hk;cases tk with
 |true=>
  rw[Tw rfl,Vi]at hk;obtain⟨kk,hk⟩:=hk;obtain⟨pz,ez,gz,dz⟩:=dj hk ry;obtain⟨GU,eo,ek,ex,_⟩:=dd;subst eo ex ez dz;have ek:ks=GU.map fun kv=>kT kv.1:=ek
  obtain⟨h1,h2⟩:=jX (K:=K) (G:=G) kT x4 (k:=kk) rs;rw[<-ek]at h1 h2;exact⟨ng GU kk,.inr ⟨GU,kk,pz,rd,rfl,gh _ _ gz,rfl⟩,h1,h2⟩
 |false=>
  rw[TC TB,Vi]at hk;obtain⟨kk,hk⟩:=hk;obtain⟨ez,dz⟩:=iM hk ry;obtain⟨GU,eo,ek,ex,_⟩:=dd;subst eo ex ez dz;obtain⟨h1,h2⟩:=jX (K:=K) (G:=G) kD uv (k:=kk) rs;rw[<-ek]at h1 h2;exact⟨ng GU kk,.inl ⟨GU,kk,rd,rfl,rfl⟩,h1,h2⟩
def Mx(a b:D):Res R:=match a with
 | .dct tk ks vs=>if d9 tk b then(match getD ks vs b with
  |some d=>.ok (.f,d)
  |none=>.bad) else .bad
 |_=>.bad
theorem uB{a b:Expr}{fa fb:FO}{pos:Pos}(hu:X.A.units+1<cLine)(ha:QO X a fa)(hb:QO X b fb)(hs:NoSl b:=by exact fun _ _=>rfl):QE X (.Subscript a b pos) (aF Mx fa fb):=
 bK (zh hu ha hb hs) fun σ H Q h=>by
  obtain⟨G,env,fp,r,env',rel,e,k⟩:=h;obtain⟨⟨oa,e1⟩,ha,e⟩:=ai e;obtain⟨⟨ob,e2⟩,hb,e⟩:=ai e;obtain⟨da,P1,e⟩:=ai e;obtain⟨db,JG,e⟩:=ai e;obtain⟨r',hr,e⟩:=ai e;cases e;refine⟨G,env,fp,oa,e1,rel,ha,fun x H1 G1 Hq Hh GY Jy=>⟨G1,e1,Hq,ob,e2,GY,hb,fun y H2 G2 Hz G9 GW Oe=>?_⟩⟩;have va:=GW.vw (Jy.mono G9.gg) P1;have vb:=GW.vw Oe JG;unfold Mx at hr;split at hr
  ·rename_i tk ks vs;split at hr
   ·rename_i JP;split at hr
    ·rename_i d hd;cases hr;obtain⟨p,xs,o,ev,rd,dd,rs⟩:=va;subst ev;have vb':Rep X.K G2 db y:=by
      cases db with
      |lst l=>cases tk <;> simp[d9,eJ,jP]at JP
      |dct _ _ _=>cases tk <;> simp[d9,eJ,jP]at JP
      |_=>exact vb
     obtain⟨ov,g,_,h2⟩:=oY GW.gh rd dd rs JP vb';obtain⟨v,ho,rv⟩:=h2 d hd;subst ho;exact⟨p,v,rfl,g,k _ H2 G2 Hz (Hh.trans G9) (GW.push rv)⟩
    ·cases hr
   ·cases hr
  ·cases hr
def Qb(a b:D):Res R:=match b with
 | .dct tk ks vs=>if d9 tk a then .ok (.f,.bl (getD ks vs a).isSome) else .bad
 |_=>NA a b
def qo(a b:D):Res R:=match b with
 | .dct tk ks vs=>if d9 tk a then .ok (.f,.bl (!(getD ks vs a).isSome)) else .bad
 |_=>B9 a b
theorem Ck(hu:X.A.units+65<cLine):HI X (compareOp .In) (rGA X.K Qb):=by
 rintro pr s σ H x y v u Q I rx ry ⟨G,fp,es,vs,a,b,r,⟨rel,k⟩,va,vb,e⟩;unfold Qb at e;split at e
 ·rename_i tk ks ws;split at e
  ·rename_i JP;cases e;obtain⟨p,xs,o,ev,rd,dd,rs⟩:=vb;subst ev;cases ry;obtain⟨ov,g,h1,_⟩:=oY (K:=X.K) (G:=H) (fun _ _ z=>z) rd dd rs JP va;exact Gq (by lia) I g rx fun s' I'=>⟨.bl ov.isSome,H,I',rfl,by rw[<-h1];exact k _ H G fp .refl (rel.push (cJ _))⟩
  ·cases e
 ·exact Eu hu pr s σ H x y v u Q I rx ry ⟨G,fp,es,vs,a,b,r,⟨rel,k⟩,va,vb,e⟩
theorem oZ(hu:X.A.units+65<cLine):HI X (compareOp .NotIn) (rGA X.K qo):=by
 rintro pr s σ H x y v u Q I rx ry ⟨G,fp,es,vs,a,b,r,⟨rel,k⟩,va,vb,e⟩;unfold qo at e;split at e
 ·rename_i tk ks ws;split at e
  ·rename_i JP;cases e;obtain⟨p,xs,o,ev,rd,dd,rs⟩:=vb;subst ev;cases ry;obtain⟨ov,g,h1,_⟩:=oY (K:=X.K) (G:=H) (fun _ _ z=>z) rd dd rs JP va;exact zf (by lia) I g rx fun s' I'=>⟨.bl (!ov.isSome),H,I',rfl,by rw[<-h1];exact k _ H G fp .refl (rel.push (cJ _))⟩
  ·cases e
 ·exact Ca hu pr s σ H x y v u Q I rx ry ⟨G,fp,es,vs,a,b,r,⟨rel,k⟩,va,vb,e⟩
end
def isLf:O->Bool
 | .l .f=>true
 | .pin _ (.l .f)=>true
 |_=>false
section
variable{K:W.Frag}{G G' H H':Hp}{es:PV.Env}{vs:L2.St}{fp:List Addr}
theorem RepE.append:∀{es Ky:PV.Env}{vs Kv:L2.St}{a b:List Addr},RepE K G H es vs a->RepE K G H Ky Kv b->RepE K G H (es++Ky) (vs++Kv) (a++b)
 |[],Ky,vs,Kv,a,b,r,q=>by
  rw[r.1,r.2];exact q
 |none::es,Ky,vs,Kv,a,b,r,q=>by
  obtain⟨y,ys,e,r⟩:=r;subst e;exact⟨y,ys++Kv,rfl,RepE.append r q⟩
 |some x::es,Ky,vs,Kv,a,b,r,q=>by
  obtain⟨y,ys,e,v,a1,b1,e1,e2,r1,r2⟩:=r;subst e e2;exact⟨y,ys++Kv,rfl,v,a1,b1++b,e1,US _ _ _,r1,RepE.append r2 q⟩
theorem RepE.clean{G2 G3:Hp}(h:∀p u,isT u=true->G2 p=some u->G3 p=some u):∀{es:PV.Env}{vs:L2.St}{a:List Addr},(∀r,some r∈es->aP r.1 r.2=true)->RepE K G2 H es vs a->RepE K G3 H es vs a
 |[],_,_,_,r=>r
 |none::es,vs,a,hc,r=>by
  obtain⟨y,ys,e,r⟩:=r;exact⟨y,ys,e,RepE.clean h (fun r hr=>hc r (Tu _ hr)) r⟩
 |some x::es,vs,a,hc,r=>by
  obtain⟨y,ys,e,v,a1,b1,e1,e2,r1,r2⟩:=r;exact⟨y,ys,e,v,a1,b1,e1,e2,r1.clean h (hc x Tq),RepE.clean h (fun r hr=>hc r (Tu _ hr)) r2⟩
theorem Rel.lendM(q:Rel K G H es vs fp)(a:List Addr)(ha:∀z∈a,z∉fp)(RQ:∀z∈a,G z=none):∃G1,Same G G1/\Same G1 H/\(∀z∈a,G1 z=none)/\(∀(i:Nat) (r:R) (v:V),es[i]?=some (some r)->vs[i]?=some (some v)->Rep K G1 r.2 v)/\
  ∀(H2 G2:Hp) (Hz:List Addr) (rs:PV.Env) (ws:L2.St),Step G1 H a G2 H2 Hz->Rel K G2 H2 rs ws Hz->(∀r,some r∈rs->aP r.1 r.2=true)->∃G3 IY,Step G H (a++fp) G3 H2 IY/\Rel K G3 H2 (rs++es) (ws++vs) IY:=by
 have hg:Same G (fun p=>if p∈fp then H p else G p):=fun p u e=>by
  show(if p∈fp then H p else G p)=some u;by_cases hp:p∈fp
  ·rw[Tw hp];exact q.gh p u e
  ·rw[TC hp];exact e
 have hh:Same (fun p=>if p∈fp then H p else G p) H:=fun p u e=>by
  have e:(if p∈fp then H p else G p)=some u:=e;by_cases hp:p∈fp
  ·rw[Tw hp]at e;exact e
  ·rw[TC hp]at e;exact q.gh p u e
 have hk:∀p∈fp,∀u,H p=some u->(fun p=>if p∈fp then H p else G p) p=some u:=fun p hp u e=>by
  show(if p∈fp then H p else G p)=some u;rw[Tw hp];exact e
 refine⟨fun p=>if p∈fp then H p else G p,hg,hh,fun z hz=>?_,fun i r v e ev=>q.rep.rep hg hk e ev,fun H2 G2 Hz rs ws st k cl=>?_⟩
 ·show(if z∈fp then H z else G z)=none;rw[TC (ha z hz)];exact RQ z hz
 have kept:∀p∈fp,H2 p=H p:=fun p hp=>by
  obtain⟨u,hu⟩:=q.rep.live p hp;rw[hu];exact st.keep p u hu fun z=>ha p z hp
 have apart:∀p∈Hz,p∉fp:=fun p hp hf=>by
  rcases st.fpn p hp with z|z
  ·exact ha p z hf
  ·obtain⟨u,hu⟩:=q.rep.live p hf;rw[z]at hu;cases hu
 have g3:Same G (fun p=>if p∈fp then none else G2 p):=fun p u e=>by
  show(if p∈fp then none else G2 p)=some u;rw[TC (fun z=>by rw[q.gn p z]at e;cases e)];exact st.gg p u (hg p u e)
 refine⟨fun p=>if p∈fp then none else G2 p,Hz++fp,⟨g3,fun p u e n=>?_,fun p hp=>?_,fun p u e=>?_,st.there⟩,⟨RepE.append (RepE.clean (fun p u t e=>?_) cl k.rep) (q.rep.step g3 kept),?_,fun p hp=>?_,fun p u e=>?_⟩⟩
 ·exact st.keep p u e fun z=>n (Tx _ z)
 ·rcases T3.mp hp with hp|hp
  ·exact(st.fpn p hp).imp_left (Tx _)
  ·exact .inl (Tp _ hp)
 ·have e:(if p∈fp then none else G2 p)=some u:=e;by_cases hp:p∈fp
  ·rw[Tw hp]at e;cases e
  ·rw[TC hp]at e;rcases st.gnew p u e with z|z|z
   ·have z:(if p∈fp then H p else G p)=some u:=z;rw[TC hp]at z;exact .inl z
   ·exact .inr (.inl (Tx _ z))
   ·exact .inr (.inr z)
 ·show(if p∈fp then none else G2 p)=some u;by_cases hp:p∈fp
  ·exfalso;obtain⟨u',hu,hm⟩:=q.rep.mut p hp;have:=st.gg p u' (hk p hp u' hu);rw[e]at this;cases this;cases u with
   |lst _=>cases t
   |dK _=>cases t
   |dT _=>cases t
   |_=>cases hm
  ·rw[TC hp];exact e
 ·rw[T7];exact⟨k.nd,q.nd,fun p hp z hz e=>apart p hp (e▸hz)⟩
 ·show(if p∈fp then none else G2 p)=none;by_cases hf:p∈fp
  ·rw[Tw hf]
  ·rw[TC hf];rcases T3.mp hp with hp|hp
   ·exact k.gn p hp
   ·exact absurd hp hf
 ·have e:(if p∈fp then none else G2 p)=some u:=e;by_cases hp:p∈fp
  ·rw[Tw hp]at e;cases e
  ·rw[TC hp]at e;exact k.gh p u e
end
section
variable{X:Cx}
def Gw(i:Nat):FX:=fun env=>match env[i]? with
 |some (some (ow,.lst ds))=>if isLf ow then(match ds.getLast? with
  |some d=>.ok ((.f,d),env.set i (some (ow,.lst ds.dropLast)))
  |none=>.bad) else .bad
 |_=>.bad
def rN(i:Nat)(f:FX):FS:=fun env=>(f env).bind fun p=>match p.2[i]? with
 |some (some (.pin q c,d0))=>.ok (.rt (.t [p.1.1,.pin q c],.tup [p.1.2,d0]))
 |_=>.bad
theorem uC{i:Nat}{e:Expr}{f:FX}{pos:Pos}(he:QE X e f):QS (md:=.mut) X (.Return (some e) pos) (rN i f):=d4 (xN he) fun Dd σ H Hc=>by
 obtain⟨G,env,fp,rel,k⟩:=Hc;unfold rN at k;match q:f env,k with
 | .ok (r,GV),k=>
  have k:OutOk (md:=.mut) X.K G H fp Dd (match GV[i]? with
   |some (some (.pin q c,d0))=>.ok (.rt (.t [r.1,.pin q c],.tup [r.2,d0]))
   |_=>.bad):=k
  split at k
  ·rename_i z c d0 hz;refine⟨G,env,fp,r,GV,rel,q,fun v H1 G1 Hq Hh GY=>?_⟩;obtain⟨y,ys,ey,v',a,b,e1,e2,r1,r2⟩:=GY.rep;cases ey;cases e1;subst e2;obtain⟨v0,a0,b0,Pp,ro,_,pm⟩:=r2.take hz;have hv0:v0=.ref z:=by
    have:=ro;rw[RepO]at this;exact this.1
   subst hv0;have sub:∀w∈a++a0,w∈a++b:=fun w hw=>by
    rcases T3.mp hw with hw|hw
    ·exact Tx _ hw
    ·exact Tp _ (pm.mem_iff.mpr (Tx _ hw))
   have nd:=T7.mp GY.nd;have nd2:=T7.mp (pm.nodup_iff.mp nd.2.1);refine k v H1 G1 (a++a0) (Hh.trans (Step.cut sub)) ⟨r.1,r.2,z,c,d0,rfl,⟨⟨some v,[some (.ref z)],rfl,v,a,a0,rfl,rfl,r1,some (.ref z),[],rfl,.ref z,a0,[],rfl,(Ui _).symm,ro,rfl,rfl⟩,?_,fun p hp=>GY.gn p (sub p hp),GY.gh⟩⟩;rw[T7];exact⟨nd.1,nd2.1,fun p hp w hw e=>nd.2.2 p hp w (pm.mem_iff.mpr (Tx _ hw)) e⟩
  ·exact k.elim
def jY(np nn:Nat)(c:O)(g:FS)(p:Addr):List D->Res R
 |d0::ds=>if ds.length+1=np then(g (some (.pin p c,d0)::(ds.map (fun d=>some (O.f,d))++List.replicate nn none))).bind fun o=>match o with
  | .rt r=>.ok r
  |_=>.bad
  else .bad
 |[]=>.bad
inductive spM(K:W.Frag)(c:O)(F:Addr->List D->Res R)(vs:List V)(H:Hp)(Q:VK)(zz:XK):Prop
 |mk:∀G p Kv d0 ds r ND,Same G H->vs=.ref p::Kv->RepO K G H c d0 (.ref p) ND->ND.Nodup->(∀z∈ND,G z=none)->Reps K G ds Kv->F p (d0::ds)=.ok r->(∀v H' G' GZ,Step G H ND G' H' GZ->Fu .mut K G' H' r v GZ->Q v H')->spM K c F vs H Q zz
theorem ye{P:Program}{w:World}{K:W.Frag}{mg:Str->Option Value}{base:Heap}{x:Str}{st:Stmt}{N ps:List Str}{k:Nat}{c:O}{g:FS}(Df:Def K mg x st)(sc:FnScope N ps (defScope st))
  (hb:∀(kV doc pm:Value) (an:Option Addr) (Hv ct:Value) (us:List Value),us.length=ps.length->bindArgs (PySem.W.fnOf x x (eE st) (cP st) (defScope st) .none kV doc pm an Hv ct) ⟨us,[]⟩=pure (ps.zip us))
  (body:∀(f:Addr) (Hv:Value) (A:Around) (outer:List PySem.Env) (s:Shared) (H:Hp) (E:XK),Room k (A.deeper (envOfC x (defScope st) s.heap.objs.size f Hv))->LJ (md:=.mut) (wx LQ P w K mg base N x (defScope st) f Hv A outer s H E).nox (cP st) g):
  Ct P w K mg base x (k+1) (spM K c (jY ps.length (N.length-ps.length) c g)):=by
 obtain⟨f,fd,F,m⟩:=Df;refine⟨f,fd,ps,F.ok sc (fun vs H Q E h=>?_) (fun Hv A outer s H vs Q E hr h=>?_),m,F.kp,F.binds hb⟩
 ·obtain⟨G,p,Kv,d0,ds,r,ND,_,ev,_,_,_,rs,e,_⟩:=h;unfold jY at e;split at e
  ·rename_i Sz ds' heq;cases heq;split at e
   ·rename_i hl;rw[ev,TQ,rs.length,hl]
   ·cases e
  ·cases e
 ·obtain⟨G,p,Kv,d0,ds,r,ND,gh,ev,r0,nd,gn,rs,e,q⟩:=h;unfold jY at e;split at e
  ·rename_i Sz ds' heq;cases heq;split at e
   ·rename_i hl;refine⟨_,body f Hv A outer s H E hr,G,some (.pin p c,d0)::(ds.map (fun d=>some (O.f,d))++List.replicate (N.length-ps.length) none),ND,⟨?_,nd,gn,gh⟩,?_⟩
    ·have:=h9 (K:=K) (G:=G) (H:=H) (N.length-ps.length) rs;unfold L2.start;rw[ev,TQ,rs.length,hl];exact⟨some (.ref p),_,rfl,.ref p,ND,[],rfl,(Ui _).symm,by rw[RepO];exact⟨rfl,r0⟩,this⟩
    ·obtain⟨o,eo,e⟩:=ai e;rw[eo];cases o with
     |rt r'=>
      cases e;exact fun v H' G' GZ st rel=>q v H' G' GZ st rel
     |nx env'=>cases e
     |bk env'=>cases e
     |ct env'=>cases e
   ·cases e
  ·cases e
def o6:O->O->Bool
 | .l .f,.l .f=>true
 | .l .f,.pin _ (.l .f)=>true
 | .d,.d=>true
 | .d,.pin _ .d=>true
 |_,_=>false
theorem Cm{K:W.Frag}{G H:Hp}{c ow:O}{d:D}{v:V}{a:List Addr}(h:o6 c ow=true)(r:RepO K G H ow d v a):(∃p,v=.ref p)/\RepO K G H c d v a/\∀(G' H':Hp) (d':D) (a':List Addr),RepO K G' H' c d' v a'->RepO K G' H' ow d' v a':=by
 have Ow:∀{d:D},RepO K G H (.l .f) d v a->∃p,v=.ref p:=fun{d} r=>by
  cases d with
  |lst ds=>obtain⟨p,_,e,_⟩:=gP.mp r;exact⟨p,e⟩
  |_=>simp only[RepO]at r
 have Ox:∀{d:D},RepO K G H .d d v a->∃p,v=.ref p:=fun{d} r=>by
  cases d with
  |dct tk ks ws=>rw[RepO]at r;obtain⟨p,_,_,e,_⟩:=r;exact⟨p,e⟩
  |_=>simp only[RepO]at r
 unfold o6 at h;split at h
 ·exact⟨Ow r,r,fun _ _ _ _ z=>z⟩
 ·rw[RepO]at r;exact⟨⟨_,r.1⟩,r.2,fun _ _ _ _ z=>by rw[RepO];exact⟨r.1,z⟩⟩
 ·exact⟨Ox r,r,fun _ _ _ _ z=>z⟩
 ·rw[RepO]at r;exact⟨⟨_,r.1⟩,r.2,fun _ _ _ _ z=>by rw[RepO];exact⟨r.1,z⟩⟩
 ·cases h
open Classical in
def o7(F:Addr->List D->Res R)(c:O)(d0:D)(ds:List D):Res (R×D):=
 if h:∃x:R×D,∀p,F p (d0::ds)=.ok (.t [x.1.1,.pin p c],.tup [x.1.2,x.2]) then .ok (Classical.choose h) else .bad
theorem qp{F:Addr->List D->Res R}{c:O}{d0:D}{ds:List D}{r:R}{d':D}(h:∀p,F p (d0::ds)=.ok (.t [r.1,.pin p c],.tup [r.2,d'])):o7 F c d0 ds=.ok (r,d'):=by
 have h':∃x:R×D,∀p,F p (d0::ds)=.ok (.t [x.1.1,.pin p c],.tup [x.1.2,x.2]):=⟨(r,d'),h⟩
 unfold o7;rw[dif_pos h'];have e:=(Yg h' 0).symm.trans (h 0);generalize Classical.choose h'=x at e;obtain⟨⟨o,d⟩,d2⟩:=x;cases e;rfl
theorem w6{F:Addr->List D->Res R}{c:O}{d0:D}{ds:List D}{x:R×D}(h:o7 F c d0 ds=.ok x)(p:Addr):F p (d0::ds)=.ok (.t [x.1.1,.pin p c],.tup [x.1.2,x.2]):=by
 unfold o7 at h;split at h
 ·rename_i h';cases h;exact Yg h' p
 ·cases h
end
section
variable{X:Cx}{x:Str}{p pos:Pos}{e:Expr}{es:List Expr}{fs:FOs}
end
section
variable{K:W.Frag}{G G' H H':Hp}
end
section
variable{X:Cx}{md:Mode}
end
end PV
namespace NX
open PySem PySem.Spec PyProof.Rows L2
theorem EA{P:Program}{w:World}{k:Key}{u:Value}(h:(mixKind P w).is k u=true):RelV (kV k) u:=by
 rw[qW]at h;cases k with
 |inl i=>
  have h:Value.isInt i u=true:=h;cases u with
  |int j t=>
   have e:(j==i)=true:=h;rw[Uc]at e;exact⟨t,by rw[e]⟩
  |_=>cases h
 |inr x=>
  obtain⟨t,e⟩:=Value.isStrOf_shape h;exact⟨t,e⟩
theorem ED{κ:Type}{GU:List (κ×V)}{vs:List (κ×Value)}(r:KV GU vs):∀{i:Nat}{k:κ}{v:V},GU[i]?=some (k,v)->∃u,vs[i]?=some (k,u)/\RelV v u:=by
 induction r with
 |nil=>intro i k v e;simp at e
 | @cons p q ps qs hq _ ih=>
  intro i k v e;cases i with
  |zero=>
   simp at e;subst e;obtain⟨qk,qv⟩:=q;obtain⟨e1,e2⟩:=hq;cases e1;exact⟨qv,rfl,e2⟩
  |succ i=>exact ih (by simpa using e)
theorem qq{X:Cx}{pr:List (Addr×Obj)}{σ:L2.St}{H:Hp}{s:Shared}{a:Addr}{o:Obj}{ep:Nat}{es:Array DictEntry}{GU:List (Key×V)}(I:Inv X pr σ H s)(hd:o.data=.dict es ep)(ha:H a=some (.frz o (.dK GU))):
  s.heap.get? a=some o/\∃vs,KV GU vs/\s.heap.DictAt (mixKind X.prog X.w) a vs ep:=by
 obtain⟨ho,z,nm,vs,r,o',Ky,NT,g1,ex,dat,bG⟩:=(show ObjOk X.prog X.w H s.heap a (.frz o (.dK GU)) from I.hok a _ ha)
 have e:=g1.symm.trans ho;cases e;have e2:=dat.symm.trans hd;cases e2;exact⟨ho,vs,r,o,es,ho,ex,hd,bG⟩
theorem w9{X:Cx}{pr:List (Addr×Obj)}{σ:L2.St}{H:Hp}{s:Shared}{a:Addr}{o:Obj}{GU:List (Key×V)}(I:Inv X pr σ H s)(ha:H a=some (.dK GU))(ho:s.heap.get? a=some o):Inv X pr σ (upd H a (.frz o (.dK GU))) s:=by
 have ok:=(show ObjOk X.prog X.w H s.heap a (.dK GU) from I.hok a _ ha)
 have nt:∀c xs,H c=some (.tup xs)->c≠a:=fun c xs e z=>by rw[z,ha]at e;cases e
 have nf:∀c q u,H c=some (.frz q u)->c≠a:=fun c q u e z=>by rw[z,ha]at e;cases e
 have nb:∀c ps,H c=some (.tbl ps)->c≠a:=fun c ps e z=>by rw[z,ha]at e;cases e
 have no:∀c b,H c=some (.own b)->c≠a:=fun c b e z=>by rw[z,ha]at e;cases e
 have S0:Inv X pr σ (upd H a (.frz o (.dK GU))) {s with heap:=s.heap,gens:=s.gens,drawn:=s.drawn,toks:=s.toks}:=by
  refine I.step (ch:=[]) (fun c hc=>nomatch hc) (fun c q _ _ _ e _=>e) (fun c q _ _ _ e _=>⟨q.slots,e⟩) (fun c q _ e n=>?_) (fun c q _ e=>⟨q,e⟩)
   (fun c l e=>by rw[ak (nt c l e)];exact e) (fun c q u e=>by rw[ak (nf c q u e)];exact e) (fun c ps e=>⟨#[],by rw[ak (nb c ps e),e];simp⟩) (fun m hm=>hm) (fun c ob e=>?_) I.bare
  ·have:c≠a:=fun z=>by rw[z,ha]at n;cases n
   rw[ak this];exact n
  ·by_cases ec:c=a
   ·subst ec;rw[aD]at e;cases e;exact⟨ho,ok.stay (fun _ _ _ q=>q) (fun d q=>by rw[ak (no d _ q)];exact q) fun d l q=>by rw[ak (nt d l q)];exact q⟩
   ·rw[ak ec]at e;exact(I.hok c ob e).stay (fun _ _ _ q=>q) (fun d q=>by rw[ak (no d _ q)];exact q) fun d l q=>by rw[ak (nt d l q)];exact q
 exact S0
end NX
namespace PV
open PySem PySem.Spec PyProof.Rows L2 NX
section
variable{X:Cx}
end
end PV
namespace NX
open PySem PySem.Spec PyProof.Rows L2
section
variable{prog:Program}{w:World}{A:Around}{E:Value->Shared->Prop}{s:Shared}
end
section
variable{prog:Program}{w:World}{A:Around}{E:Value->Shared->Prop}{s:Shared}
end
section
variable{X:Cx}{e:Expr}{ta:TA}{p p2 pos Qc:Pos}
end
end NX
namespace PV
open PySem PySem.Spec PyProof.Rows L2 NX
section
variable{X:Cx}{e:Expr}{fs:FOs}{p p2 pos Qc:Pos}
end
noncomputable def compLE(a:FG)(c:FT)(f:FX):List D->PV.Env->Res (List D×PV.Env)
 |[],env=>.ok ([],env)
 |d::ds,env=>(a d env).bind fun e=>(c e).bind fun p=>if p.1 then(f p.2).bind fun q=>(compLE a c f ds q.2).bind fun rs=>.ok (q.1.2::rs.1,rs.2) else compLE a c f ds p.2
end PV
namespace NX
open PySem PySem.Spec PyProof.Rows L2
section
open PySem.AutoSeq1 (wpAny_loadPart')
theorem jk:fillsNumberSlot (.type "tuple") "mul" = pure false:=
 PySem.fillsNumberSlot_seq (id:="tuple.__mul__") (r:=some (.builtin "tuple.__rmul__")) F.slot_tuple_mul.lookup (by decide +kernel) F.slot_tuple_rmul.lookup (by decide +kernel)
theorem nN:seqRepeat? (.type "tuple")=pure (some (.builtin "tuple.__mul__")):=by
 unfold seqRepeat?;rw[PySem.seqSlot_of (T:="tuple") (name:="__mul__") (id:="tuple.__mul__") F.slot_tuple_mul.lookup (by decide +kernel),PySem.seqSlot_of (T:="tuple") (name:="__rmul__") (id:="tuple.__rmul__") F.slot_tuple_rmul.lookup (by decide +kernel)];rfl
theorem nO(a:Int)(t:Tok)(l:Addr)(items:Array Value)(n:Nat)(dd:Option Addr)(sl:Array (Option Value)):
  Meets (Builtin.«int.__rmul__» ⟨[.int a t,.ref l],[]⟩)
   (fun _ R s=>s.heap.get? l=some {cls:=.type "tuple",dict:=dd,data:=.seq items n,slots:=sl}/\R (.ok (.ret .notImplemented)) s):=
 .of_wp fun prog w A R s h=>by
  obtain⟨hp,g,d,tk,os⟩:=s;obtain⟨hl,h⟩:=h
  wp_walk using wpAny_loadPart' hl
  exact⟨_,rfl,h⟩
theorem uD(l:Addr)(items:Array Value)(n:Nat)(dd:Option Addr)(sl:Array (Option Value))(x:Int)(u:Tok)(I0:items.isEmpty=false)(h0:x=0):
  Meets (Builtin.«tuple.__mul__» ⟨[.ref l,.int x u],[]⟩)
   (fun _ R s=>s.heap.get? l=some {cls:=.type "tuple",dict:=dd,data:=.seq items n,slots:=sl}/\R (.ok (.ret (.ref s.heap.objs.size))) {s with heap:=s.heap.push {cls:=.type "tuple",data:=.seq #[]}}):=
 .of_wp fun prog w A R s h=>by
  obtain⟨hp,g,d,tk,os⟩:=s;obtain⟨hl,h⟩:=h;subst h0
  wp_walk using wpAny_loadPart' hl
  exact⟨_,rfl,h⟩
theorem uE(l:Addr)(items:Array Value)(n:Nat)(dd:Option Addr)(sl:Array (Option Value))(u:Tok):
  Meets (Builtin.«tuple.__mul__» ⟨[.ref l,.int 1 u],[]⟩)
   (fun _ R s=>s.heap.get? l=some {cls:=.type "tuple",dict:=dd,data:=.seq items n,slots:=sl}/\R (.ok (.ret (.ref l))) s):=
 .of_wp fun prog w A R s h=>by
  obtain⟨hp,g,d,tk,os⟩:=s;obtain⟨hl,h⟩:=h
  wp_walk using wpAny_loadPart' hl
  exact⟨_,rfl,h⟩
theorem uF(l:Addr)(items:Array Value)(n:Nat)(dd:Option Addr)(sl:Array (Option Value))(x:Int)(u:Tok)(I0:items.isEmpty=false)(h2:(x==1)=false)(h3:¬ x<=0)(h4:x<2 ^ 63)(h5:¬ (items.size:Int)*x>(2 ^ 63-1) / 8)(h6:((List.replicate x.toNat items).foldl (fun a b=>a++b) #[]).size<=sizeLine)(h7:(items.size:Int)*x<=10000):
  Meets (Builtin.«tuple.__mul__» ⟨[.ref l,.int x u],[]⟩)
   (fun _ R s=>s.heap.get? l=some {cls:=.type "tuple",dict:=dd,data:=.seq items n,slots:=sl}/\R (.ok (.ret (.ref s.heap.objs.size))) {s with heap:=s.heap.push {cls:=.type "tuple",data:=.seq ((List.replicate x.toNat items).foldl (fun a b=>a++b) #[])}}):=
 .of_wp fun prog w A R s h=>by
  obtain⟨hp,g,d,tk,os⟩:=s;obtain⟨hl,h⟩:=h
  wp_walk using wpAny_loadPart' hl
  rw[TC (by rw[Xd,T1,T1];lia)]
  wp_walk using wpAny_loadPart' hl
  rw[TC h5]
  wp_walk
  rw[TC (by unfold Builtin.Tuple.tupleTooMany;rw[T1,UE];lia)]
  wp_walk
  exact⟨_,rfl,h⟩
end
end NX
namespace PV
open PySem PySem.Spec PyProof.Rows L2 NX
section
variable{X:Cx}
inductive rRepU(K:W.Frag)(x:V)(y:V)(H:Hp)(Q:VK):Prop
 |mk:∀l k xs,x=.ref l->y=.int k->SqT K H l xs->xs≠[]->0<=k->k<1000->xs.length<=10->((k=1->Q (.ref l) H))->((k≠1->∀p,H p=none->Q (.ref p) (upd H p (.tup (List.replicate k.toNat xs).flatten))))->rRepU K x y H Q
theorem zS:HI X (binaryOp .Mult) (rRepU X.K):=by
 intro pr s σ H x y v u Q I rx ry h;obtain⟨l,k,xs,rfl,rfl,hH,I0,h1,h2,hz,q1,q2⟩:=h;cases rx;obtain⟨t,rfl⟩:=ry;obtain⟨GX,r,p1,_⟩:=I.tuple hH;have hl:=r.length;obtain⟨⟨cls,dd,data,sl⟩,ho,hc,n,hd⟩:=id p1;simp only at hc hd;subst hc hd;have Qd:GX.toArray.isEmpty=false:=by
  cases GX with
  |nil=>exact absurd (Ut hl) I0
  |cons a r'=>rfl
 refine Xv (T:="tuple") (U:="int") (by decide) ⟨_,ho,rfl⟩ (fun s'=>W8 s' k t) jk F.fills_int_mul Xh nN F.slot_int_index.lookup
  (WE Xh (W8 s k t) F.entry_int_rmul (F.args_int_rmul_2 _ _) (nO k t l GX.toArray n dd sl) ⟨ho,rfl,⟨_,ho,rfl⟩,?_⟩)
 by_cases k0:k=0
 ·subst k0;refine WE XR ⟨_,ho,rfl⟩ XB (Xn _ _) (uD l GX.toArray n dd sl 0 t Qd rfl) ⟨ho,?_⟩;exact⟨.ref _,_,I.laid (o:=.tup []) (t':=s.toks) (fun b o e=>Tj _ e) (Tn _) ⟨Um _,[],.nil,IsTupN.new _ _⟩,rfl,q2 (by decide) _ (I.hok.fresh (Tn _))⟩
 ·by_cases k1:k=1
  ·subst k1;refine WE XR ⟨_,ho,rfl⟩ XB (Xn _ _) (uE l GX.toArray n dd sl t) ⟨ho,?_⟩;exact⟨.ref l,H,I,rfl,q1 rfl⟩
  ·have K6:List.foldl (fun x1 x2=>x1++x2) #[] (List.replicate k.toNat GX.toArray)=(List.replicate k.toNat GX).flatten.toArray:=by
    have:=jA GX k.toNat []
    rw[Vz]at this;exact this
   have hb:(GX.length:Int)*k<=10*1000:=Int.mul_le_mul (by lia) (by lia) h1 (by decide);have hlen:(List.replicate k.toNat GX).flatten.length<=10000:=by
    rw[gN];have:((k.toNat*GX.length:Nat):Int)<=10000:=by
     rw[Int.natCast_mul,Int.toNat_of_nonneg h1,Us];lia
    lia
   refine WE XR ⟨_,ho,rfl⟩ XB (Xn _ _) (uF l GX.toArray n dd sl k t Qd (by simpa using k1) (by lia) (by lia) (by rw[Tr];lia) (by rw[K6,Tr,UE];lia) (by rw[Tr];lia)) ⟨ho,?_⟩;rw[K6];exact⟨.ref _,_,I.laid (o:=.tup (List.replicate k.toNat xs).flatten) (t':=s.toks) (fun b o e=>Tj _ e) (Tn _) ⟨by rw[gN,hl,<-gN,UE];lia,_,r.rep k.toNat,IsTupN.new _ _⟩,rfl,q2 k1 _ (I.hok.fresh (Tn _))⟩
def Cn(a b:D):Res R:=match a,b with
 | .tup ds,.int k=>if ds≠[]/\ds.length<=10/\0<=k/\k<1000 then .ok (.f,.tup (List.replicate k.toNat ds).flatten) else .bad
 |_,_=>.bad
theorem zT:HI X (binaryOp .Mult) (rG X.K Cn):=by
 rintro pr s σ H x y v u Q I rx ry ⟨G,fp,es,vs,a,b,r,⟨rel,k⟩,va,vb,e⟩;unfold Cn at e;split at e
 ·rename_i ds j;split at e
  ·rename_i hj;cases e;obtain⟨p,xs,e1,h1,r1⟩:=fI va;subst e1;cases bg vb;refine zS pr s σ H _ _ v u Q I rx ry ⟨p,j,xs,rfl,rfl,bB rel.gh h1,?_,hj.2.2.1,hj.2.2.2,by rw[r1.length];exact hj.2.1,fun e=>?_,fun e q hq=>?_⟩
   ·intro z;have:=r1.length;rw[z]at this;exact hj.1 (Ut this.symm)
   ·subst e;refine k _ H G fp .refl (rel.push ?_);have e3:(List.replicate (1:Int).toNat ds).flatten=ds:=by simp
    rw[e3];exact va
   ·obtain⟨GW,G9⟩:=rel.newF (u:=.tup (List.replicate j.toNat xs).flatten) hq;refine k _ _ _ fp G9 (GW.push ?_);rw[Rep];exact⟨q,_,rfl,aD,Reps.mono G9.gg (lZ r1 j.toNat)⟩
  ·cases e
 ·cases e
end
section
variable{md:Mode}{X:Cx}{scope:Scope}{N:List Str}{tg iter elt:Expr}{ifs:List Expr}{pos:Pos}{fi:FI}{a:FG}{c:FT}{f:FX}{j k0:Nat}
end
section
variable{X:Cx}{x:Str}{p pos:Pos}{e:Expr}{es:List Expr}{f0:FX}{fs:FOs}
end
section
variable{X:Cx}
end
end PV
namespace NX
open PySem PySem.Spec PyProof.Rows L2
section
variable{prog:Program}{w:World}{A:Around}{R:Result->Shared->Prop}{it:Addr}{fp wr:List Addr}{n:Nat}{Pv:Nat->Value->Prop}{Sx:Nat->Heap->Prop}{kw:List (Str×Value)}
end
section
variable{X:Cx}{e k:Expr}{te tk:TE}{p pos PH:Pos}
end
end NX
namespace PV
open PySem PySem.Spec PyProof.Rows L2 NX
section
variable{X:Cx}
end
section
variable{X:Cx}
end
section
variable{K:W.Frag}{G G' H H':Hp}{es:PV.Env}{vs:L2.St}{fp:List Addr}
theorem Rel.lendM2(q:Rel K G H es vs fp)(a:List Addr)(ha:∀z∈a,z∉fp)(RQ:∀z∈a,G z=none):∃G1,Same G G1/\Same G1 H/\(∀z∈a,G1 z=none)/\(∀(i:Nat) (r:R) (v:V),es[i]?=some (some r)->vs[i]?=some (some v)->Rep K G1 r.2 v)/\
  ∀(H2 G2:Hp) (Hz:List Addr) (rs:PV.Env) (ws:L2.St),Step G1 H a G2 H2 Hz->Rel K G2 H2 rs ws Hz->((∀r,some r∈rs->aP r.1 r.2=true)->∃G3 IY,Step G H (a++fp) G3 H2 IY/\Rel K G3 H2 (rs++es) (ws++vs) IY)/\∃G3 IY,Step G H (a++fp) G3 H2 IY/\Rel K G3 H2 (rs++es.map PV.frz) (ws++vs) IY:=by
 have hg:Same G (fun p=>if p∈fp then H p else G p):=fun p u e=>by
  show(if p∈fp then H p else G p)=some u;by_cases hp:p∈fp
  ·rw[Tw hp];exact q.gh p u e
  ·rw[TC hp];exact e
 have hh:Same (fun p=>if p∈fp then H p else G p) H:=fun p u e=>by
  have e:(if p∈fp then H p else G p)=some u:=e;by_cases hp:p∈fp
  ·rw[Tw hp]at e;exact e
  ·rw[TC hp]at e;exact q.gh p u e
 have hk:∀p∈fp,∀u,H p=some u->(fun p=>if p∈fp then H p else G p) p=some u:=fun p hp u e=>by
  show(if p∈fp then H p else G p)=some u;rw[Tw hp];exact e
 refine⟨fun p=>if p∈fp then H p else G p,hg,hh,fun z hz=>?_,fun i r v e ev=>q.rep.rep hg hk e ev,fun H2 G2 Hz rs ws st k=>⟨fun cl=>?_,?_⟩⟩
 ·show(if z∈fp then H z else G z)=none;rw[TC (ha z hz)];exact RQ z hz
 ·have kept:∀p∈fp,H2 p=H p:=fun p hp=>by
   obtain⟨u,hu⟩:=q.rep.live p hp;rw[hu];exact st.keep p u hu fun z=>ha p z hp
  have apart:∀p∈Hz,p∉fp:=fun p hp hf=>by
   rcases st.fpn p hp with z|z
   ·exact ha p z hf
   ·obtain⟨u,hu⟩:=q.rep.live p hf;rw[z]at hu;cases hu
  have g3:Same G (fun p=>if p∈fp then none else G2 p):=fun p u e=>by
   show(if p∈fp then none else G2 p)=some u;rw[TC (fun z=>by rw[q.gn p z]at e;cases e)];exact st.gg p u (hg p u e)
  refine⟨fun p=>if p∈fp then none else G2 p,Hz++fp,⟨g3,fun p u e n=>?_,fun p hp=>?_,fun p u e=>?_,st.there⟩,⟨RepE.append (RepE.clean (fun p u t e=>?_) cl k.rep) (q.rep.step g3 kept),?_,fun p hp=>?_,fun p u e=>?_⟩⟩
  ·exact st.keep p u e fun z=>n (Tx _ z)
  ·rcases T3.mp hp with hp|hp
   ·exact(st.fpn p hp).imp_left (Tx _)
   ·exact .inl (Tp _ hp)
  ·have e:(if p∈fp then none else G2 p)=some u:=e;by_cases hp:p∈fp
   ·rw[Tw hp]at e;cases e
   ·rw[TC hp]at e;rcases st.gnew p u e with z|z|z
    ·have z:(if p∈fp then H p else G p)=some u:=z;rw[TC hp]at z;exact .inl z
    ·exact .inr (.inl (Tx _ z))
    ·exact .inr (.inr z)
  ·show(if p∈fp then none else G2 p)=some u;by_cases hp:p∈fp
   ·exfalso;obtain⟨u',hu,hm⟩:=q.rep.mut p hp;have:=st.gg p u' (hk p hp u' hu);rw[e]at this;cases this;cases u with
    |lst _=>cases t
    |dK _=>cases t
    |dT _=>cases t
    |_=>cases hm
   ·rw[TC hp];exact e
  ·rw[T7];exact⟨k.nd,q.nd,fun p hp z hz e=>apart p hp (e▸hz)⟩
  ·show(if p∈fp then none else G2 p)=none;by_cases hf:p∈fp
   ·rw[Tw hf]
   ·rw[TC hf];rcases T3.mp hp with hp|hp
    ·exact k.gn p hp
    ·exact absurd hp hf
  ·have e:(if p∈fp then none else G2 p)=some u:=e;by_cases hp:p∈fp
   ·rw[Tw hp]at e;cases e
   ·rw[TC hp]at e;exact k.gh p u e
 ·have SA:=hg.trans st.gg;have rf:RepE K G2 H2 (es.map PV.frz) vs []:=q.rep.frz SA fun p hp u e=>st.gg p u (hk p hp u e)
  have ra:=RepE.append k.rep rf;rw[Ui]at ra;refine⟨G2,Hz,⟨SA,fun p u e n=>st.keep p u e fun z=>n (Tx _ z),fun p hp=>(st.fpn p hp).imp_left (Tx _),fun p u e=>?_,st.there⟩,⟨ra,k.nd,k.gn,k.gh⟩⟩;rcases st.gnew p u e with z|z|z
  ·have z:(if p∈fp then H p else G p)=some u:=z;by_cases hp:p∈fp
   ·exact .inr (.inl (Tp _ hp))
   ·rw[TC hp]at z;exact .inl z
  ·exact .inr (.inl (Tx _ z))
  ·exact .inr (.inr z)
end
noncomputable def eFunW(c:O)(F:Addr->List D->Res R)(i:Nat)(fs:FOs):FX:=fun env=>(fs env).bind fun p=>match p.1 with
 | .var j::os=>if j=i then(match p.2[i]? with
  |some (some (ow,d0))=>if o6 c ow then(kx (p.2.set i none) os).bind fun ds=>(o7 F c d0 ds).bind fun x=>if aP x.1.1 x.1.2&&aP c x.2 then .ok (x.1,(p.2.set i none).set i (some (ow,x.2))) else .ok (x.1,((p.2.set i none).map frz).set i (some (ow,x.2))) else .bad
  |_=>.bad) else .bad
 |_=>.bad
section
variable{X:Cx}{x:Str}{p pos:Pos}{e:Expr}{es:List Expr}{f0:FX}{fs:FOs}
theorem o8{F:Addr->List D->Res R}{c:O}{i k:Nat}(C:Ct X.prog X.w X.K X.mg X.base x k (spM X.K c F))(hr:Room k X.A)(hg:Gl X x)(ha:L1 X (e::es) fs)(JG:(x==("__debug__" : Str))=false:=by decide)
  (he:starEach (e::es) X.env=(false,eval e X.env)::starEach es X.env:=by rfl) (Jb:(backTo pos (starEach es X.env)).any (·.1)=false:=by rfl):QE X (.Call (.Name x p) (e::es) [] pos) (eFunW c F i fs):=
 bK (BC C hr hg ha JG he Jb) fun σ H Q Hc=>by
  obtain⟨G,env,fp,r,env',rel,e,k⟩:=Hc;obtain⟨⟨os,e1⟩,ha,e⟩:=ai e;dsimp only at e;split at e
  ·rename_i j Sl;split at e
   ·rename_i hj;subst hj;split at e
    ·rename_i ow d0 hi;split at e
     ·rename_i how;obtain⟨ds,hd,e⟩:=ai e;obtain⟨z,hz,e⟩:=ai e;refine⟨G,env,fp,_,e1,rel,ha,fun vs H1 G1 Hq Hh GY Jy=>?_⟩;show spM X.K c F (vs++[]) H1 Q _;rw[Ui];obtain⟨y,ys,ey,k1,k2⟩:=Jy;obtain⟨v0,a,b,ev,r0,r2,pm⟩:=GY.rep.take hi;have k1:σ[j]?=some (some y):=k1;rw[k1]at ev;cases ev;obtain⟨⟨q,hq⟩,rc,back⟩:=Cm how r0;subst hq;have nd:=T7.mp (pm.nodup_iff.mp GY.nd);have MT:Rel X.K G1 H1 (e1.set j none) σ b:=⟨r2,nd.2.1,fun w hw=>GY.gn w (pm.mem_iff.mpr (Tp _ hw)),GY.gh⟩
      obtain⟨G2,MM,Of,RS,Jc,Ii⟩:=MT.lendM2 a (fun w hw hb=>nd.2.2 w hw w hb rfl) (fun w hw=>GY.gn w (pm.mem_iff.mpr (Tx _ hw)));refine⟨G2,q,ys,d0,ds,_,a,Of,ey,rc.step MM (fun _ _=>rfl),nd.1,RS,jI MM Jc k2 hd,w6 hz q,fun v H' G' GZ st rt=>?_⟩;obtain⟨o',d',p',c',Sz,er,rl⟩:=rt;cases er;have fin:∀(ee:PV.Env),ee.length=e1.length->(∃G3 IY,Step G1 H1 (a++b) G3 H' IY/\Rel X.K G3 H' (some z.1::some (.pin q c,z.2)::ee) (some v::some (.ref q)::σ) IY)->(z.1,ee.set j (some (ow,z.2)))=(r,env')->Q v H':=by
       rintro ee hel ⟨G3,IY,Hx,HB⟩ eee;cases eee;obtain⟨a1,b1,ef,ro,Iv,comb⟩:=Rel.frame HB;have Oy:Rel X.K G3 H' (some (ow,z.2)::ee) (some (.ref q)::σ) b1:=by
        obtain⟨y2,ys2,ey2,v2,a2,b2,RT,SD,Oz,SE⟩:=Iv.rep;cases ey2;cases RT;rw[RepO]at Oz;exact⟨⟨_,_,rfl,_,a2,b2,rfl,SD,back _ _ _ _ Oz.2,SE⟩,Iv.nd,Iv.gn,Iv.gh⟩
       obtain⟨fq,MU,RU⟩:=Oy.back (i:=j) (by rw[hel];exact(TH.mp hi).1) k1;obtain⟨MV,Qe⟩:=comb G3 H' _ _ fq RU MU;rw[<-ef]at Qe;exact k v H' G3 _ (Hh.trans ((Hx.perm (fun w=>pm.mem_iff.symm) (fun w hw=>hw)).trans Qe)) MV
      obtain⟨b1,b2⟩:=Ii H' G' GZ _ _ st rl;split at e
      ·rename_i IB;rw[TL]at IB;have e:=Res.ok.inj e;refine fin (e1.set j none) (by rw[UA]) (b1 fun w hw=>?_) e;rcases TF.mp hw with hw|hw
       ·cases hw;exact IB.1
       ·rw[Ul]at hw;cases hw;simp only[aP];exact IB.2
      ·have e:=Res.ok.inj e;exact fin ((e1.set j none).map frz) (by rw[Tt,UA]) b2 e
     ·cases e
    ·cases e
   ·cases e
  ·cases e
end
theorem vals_pick{xs:List V}{us:List Value}(r:Vals xs us):∀ix:List Nat,Vals (ix.filterMap fun i=>xs[i]?) (ix.filterMap fun i=>us[i]?)
 |[]=>.nil
 |i::ix=>by
  have ih:=vals_pick r ix;cases e:xs[i]? with
  |none=>
   rw[XC e,XC (r.none_of e)];exact ih
  |some d=>
   obtain⟨v,e2,rv⟩:=r.get e;rw[XD e,XD e2];exact .cons rv ih
section
variable{X:Cx}{pos:Pos}{fa:FO}
end
section
variable{X:Cx}
end
section
variable{X:Cx}{scope:Scope}{N:List Str}{tg iter elt:Expr}{ifs:List Expr}{pos:Pos}{fi:FI}{a:FG}{c:FT}{f:FX}
theorem uG(ix:List (Option Nat))(N:List Str)(hc:X.calm=true)(hi:MR X tg iter fi)(hg:∀C s H fp pn,QG (ba X scope N C s H fp pn) tg a)(ht:∀C s H fp pn,Og (ba X scope N C s H fp pn) ifs c)(he:∀C s H fp pn,QE (ba X scope N C s H fp pn) elt f)
  (hf:c9 scope X.env=true:=by rfl) (hk:scope.kind=.function:=by rfl) (Hk:∀y∈scope.names,y.2=.cell->scope.names.lookup y.1=some .cell:=by decide +kernel) (Hu:∀y∈scope.names,y.2=.local->scope.names.lookup y.1=some .local:=by decide +kernel) (HZ:mY X scope N ix=true:=by rfl)
  (hs:∀x,foldedSetIterable iter X.env x=pure x:=by intro _;rfl):QE X (.ListComp elt [⟨tg,iter,ifs,0⟩] scope pos) (cy fi ix a c f):=
 bK (wR (g:=tQG X.K a) (tc:=tQT X.K c) (te:=tQ X.K f) ix N hc hi hg ht he hf hk Hk Hu HZ hs) fun _ _ _=>ql
end
end PV
namespace L2
open PySem PySem.Spec PyProof.Rows NX
section
variable{X:Cx}{tg:Expr}
end
end L2
namespace PV
open PySem PySem.Spec PyProof.Rows L2 NX
section
variable{X:Cx}{tg:Expr}
end
abbrev FB:=PV.Env->Bool
section
variable{X:Cx}{st:Stmt}{RE:List Stmt}{g:FS}{x:FB}{Ww:Hp->Prop}{c:FT}{pos np Hy:Pos}{e:Expr}{es:List Expr}{fs:FOs}{C:Addr}{y:Str}
end
abbrev FXE:=PV.Env->Option PV.Env
section
variable{md:Mode}{X:Cx}{x:Str}{p pos:Pos}{e a b:Expr}{es:List Expr}{C:Addr}{F:List D->Bool}{fs:FOs}{k:Nat}{xe:FXE}{bG:List Stmt}
end
section
variable{X:Cx}{x:Str}{p pos:Pos}{e:Expr}{es:List Expr}{fs:FOs}
end
section
variable{X:Cx}{x:Str}{p pos:Pos}{e:Expr}{es:List Expr}{f0:FX}{fs:FOs}
end
end PV
namespace NX
open PySem PySem.Spec PyProof.Rows L2
noncomputable def Pq(o:Obj)(n:Nat)(a:Addr):It:=
 ⟨fun i H=>∃GU k v,H a=some (.frz o (.dK GU))/\GU.length=n/\GU[i]?=some (k,v),
  fun i H x H'=>H'=H/\∀GU k v,H a=some (.frz o (.dK GU))->GU[i]?=some (k,v)->x=kV k,
  fun i H=>∃GU,H a=some (.frz o (.dK GU))/\GU.length=n/\GU.length<=i⟩
theorem uH{P:Program}{w:World}{K:W.Frag}{tg:Expr}(o:Obj)(es:Array DictEntry)(ep n:Nat)(a it:Addr)(hd:o.data=.dict es ep):
  Turn P w K tg (Pq o n a) [it] it (fun i h=>h.IsKeyIter it a i n ep) where
 mem:=by simp
 obj:=fun i h st b hb=>by
  have e:b=it:=by simpa using hb
  subst e;obtain⟨o,e,c,d⟩:=st;exact⟨o,e,fun v z=>by rw[d]at z;cases z⟩
 keep:=fun i h h' st k=>by
  obtain⟨o,e,c,d⟩:=st;exact⟨o,k it (by simp) o e,c,d⟩
 item:=by
  intro X hP hw hK hc i pr s σ H E I hf st hg;subst hP hw hK;obtain⟨GU,k,v,ha,hn,hx⟩:=hg;obtain⟨ho,vs,r,hm⟩:=qq I hd ha;have hl:vs.length=n:=by rw[<-hn];exact r.length.symm
  subst hl;obtain⟨u,hu,ru⟩:=ED r hx;obtain⟨f0,f1,f2,f3,f4,f5⟩:=hf it (by simp);refine wpAny_pyNext_dict_item st hm hu fun key h' JP Kd sb=>?_
  have I1:Inv X pr σ H {s with heap:=h'}:=I.turned (t':=s.toks) (fun b o hb e=>(sb.2 b hb).trans e) f0 f1 f3 f4 f5;obtain⟨o',e,c,d⟩:=id Kd;exact⟨key,rfl,sv (s:={s with heap:=h'}) e c d (by decide) ⟨kV k,H,I1,EA JP,⟨rfl,fun kvs' k' v' h1 h2=>by
   rw[ha]at h1;cases h1;rw[hx]at h2;cases h2;rfl⟩,Kd,fun b hb=>(hf b hb).1⟩⟩
 done:=by
  intro X hP hw hK hc i pr s σ H E I hf st hg;subst hP hw hK;obtain⟨GU,ha,hn,hi⟩:=hg;obtain⟨ho,vs,r,hm⟩:=qq I hd ha;have hl:vs.length=n:=by rw[<-hn];exact r.length.symm
  subst hl;obtain⟨f0,f1,f2,f3,f4,f5⟩:=hf it (by simp);exact wpAny_pyNext_dict_end (I.ok.hd hc) st hm (Wb (by lia)) fun h' eb=>⟨rfl,I.turned (t':=s.toks) (fun b o hb e=>eb b o hb e) f0 f1 f3 f4 f5⟩
 self:=fun _ _ _ _ _ st h=>wpAny_pyIter_keyiter st h
def Gx(td:TE):TI:=fun σ H R=>td σ H fun v H1=>∃a o GU,v=.ref a/\H1 a=some (.frz o (.dK GU))/\R (Pq o GU.length a) H1
theorem uI{X:Cx}{l tg:Expr}{td:TE}(hl:PE X l td):PI X tg l (Gx td):=by
 intro pr s σ H R I h;refine Hl (hl pr s σ H _ I h) fun v s1 Hm=>?_
 obtain⟨x,H1,I1,r1,a,o,GU,ex,ha,q⟩:=Hm;subst ex;cases r1;obtain⟨ho,z,nm,vs,r,o',Ky,NT,g1,ex,dat,bG⟩:=(show ObjOk X.prog X.w H1 s1.heap a (.frz o (.dK GU)) from I1.hok a _ ha)
 have e:=g1.symm.trans ho;cases e;have HV:s1.heap.DictAt (mixKind X.prog X.w) a vs NT:=⟨_,Ky,g1,ex,dat,bG⟩
 refine wpAny_pyIter_dict nm HV ?_;refine⟨s1.heap.objs.size,[s1.heap.objs.size],_,Pq _ GU.length a,H1,rfl,I1.kept (t':=s1.toks) fun b o e=>Tj _ e,uH _ Ky NT GU.length a _ dat,⟨_,TJ _ rfl,rfl,?_⟩,fun b hb=>?_,q⟩
 ·rw[r.length];rfl
 ·have e:b=s1.heap.objs.size:=by simpa using hb
  subst e;exact I1.fpOk (Tn _) (I1.hok.fresh (Tn _))
theorem gr{X:Cx}{pr:List (Addr×Obj)}{σ:L2.St}{H:Hp}{s:Shared}{a:Addr}{o:Obj}{GU:List (Key×V)}(I:Inv X pr σ H s)(ha:H a=some (.frz o (.dK GU)))(h0:∀q u,X.H₀ a≠some (.frz q u)):Inv X pr σ (upd H a (.dK GU)) s:=by
 have ok:=(show ObjOk X.prog X.w H s.heap a (.frz o (.dK GU)) from I.hok a _ ha)
 have nn:∀c,H c=none->c≠a:=fun c e z=>by rw[z,ha]at e;cases e
 have nt:∀c xs,H c=some (.tup xs)->c≠a:=fun c xs e z=>by rw[z,ha]at e;cases e
 have nb:∀c ps,H c=some (.tbl ps)->c≠a:=fun c ps e z=>by rw[z,ha]at e;cases e
 have no:∀c b,H c=some (.own b)->c≠a:=fun c b e z=>by rw[z,ha]at e;cases e
 have nf:∀c,H c=none->upd H a (.dK GU) c=none:=fun c e=>by rw[ak (nn c e)];exact e
 refine⟨I.ok,I.os,I.bare,⟨I.base.keep,I.base.slot,fun b q e n x=>nf b (I.base.free b q e n x),I.base.there,fun b xs e=>?_,fun b q u e=>?_,fun b ps e=>?_⟩,I.loc,I.cell,nf _ I.free,fun x c e=>nf _ (I.freeC x c e),fun p hp=>?_,fun c ob e=>?_,I.len⟩
 ·have h:=I.base.tups b xs e;rw[ak (nt b xs h)];exact h
 ·have:b≠a:=fun z=>h0 q u (z▸e)
  rw[ak this];exact I.base.frzs b q u e
 ·obtain⟨m,h⟩:=I.base.tbls b ps e;exact⟨m,by rw[ak (nb b _ h)];exact h⟩
 ·obtain⟨h1,h2,h3⟩:=I.pin p hp;exact⟨h1,nf _ h2,h3⟩
 ·by_cases ec:c=a
  ·subst ec;rw[aD]at e;cases e;exact(show ObjOk X.prog X.w H s.heap c (.dK GU) from ok.2).stay (fun _ _ _ q=>q) (fun d q=>by rw[ak (no d _ q)];exact q) fun d l q=>by rw[ak (nt d l q)];exact q
  ·rw[ak ec]at e;exact(I.hok c ob e).stay (fun _ _ _ q=>q) (fun d q=>by rw[ak (no d _ q)];exact q) fun d l q=>by rw[ak (nt d l q)];exact q
noncomputable def MW(a:Addr)(o:Obj)(GU:List (Key×V))(D:Ends):Ends:=
 ⟨fun σ H=>H a=some (.frz o (.dK GU))/\D.nx σ (upd H a (.dK GU)),fun v H=>H a=some (.frz o (.dK GU))/\D.rt v (upd H a (.dK GU)),fun σ H=>H a=some (.frz o (.dK GU))/\D.bk σ (upd H a (.dK GU)),fun σ H=>H a=some (.frz o (.dK GU))/\D.ct σ (upd H a (.dK GU))⟩
def EF(t:TS):TS:=fun D σ H=>∃a GU,H a=some (.dK GU)/\∀o,t (MW a o GU D) σ (upd H a (.frz o (.dK GU)))
theorem uJ{X:Cx}{st:Stmt}{t:TS}(h:PS X st t):PS X st (EF t):=by
 rintro pr s σ H D I ⟨a,GU,ha,k⟩;obtain⟨z,nm,vs,r,o,es,ep,g1,bG⟩:=(show ObjOk X.prog X.w H s.heap a (.dK GU) from I.hok a _ ha)
 have h0:∀q u,X.H₀ a≠some (.frz q u):=fun q u e=>by
  have:=I.base.frzs a q u e;rw[ha]at this;cases this
 refine Hl (h pr s σ _ _ (w9 I ha g1) (k o)) fun f s' sp=>?_
 cases f with
 |next=>obtain⟨σ',H',I',e,q⟩:=sp;exact⟨σ',_,gr I' e h0,q⟩
 |brk=>obtain⟨σ',H',I',e,q⟩:=sp;exact⟨σ',_,gr I' e h0,q⟩
 |cont=>obtain⟨σ',H',I',e,q⟩:=sp;exact⟨σ',_,gr I' e h0,q⟩
 |ret u=>obtain⟨v,σ',H',I',rv,e,q⟩:=sp;exact⟨v,σ',_,gr I' e h0,rv,q⟩
end NX
namespace PV
open PySem PySem.Spec PyProof.Rows L2 NX
section
variable{K:W.Frag}{G H:Hp}{es:PV.Env}{vs:L2.St}{fp:List Addr}
end
noncomputable def sPutP(i:Nat)(fk fv:FX):FS:=fun env=>(fv env).bind fun p=>(fk p.2).bind fun q=>match p.2[i]?,q.2[i]? with
 |some (some _),some (some (.pin pp .d,.dct tk ks vs))=>if d9 tk q.1.2&&decide (ks.length<sizeLine) then .ok (.nx (q.2.set i (some (.pin pp .d,.dct tk (nG ks vs q.1.2 p.1.2).1 (nG ks vs q.1.2 p.1.2).2)))) else .bad
 |_,_=>.bad
section
variable{md:Mode}{X:Cx}
end
def cleanE(i:Nat)(env:PV.Env):Bool:=(env.set i none).all fun r=>match r with
 |some r=>aP r.1 r.2
 |none=>true
def l0(i:Nat)(p:Addr)(env:PV.Env):Bool:=match env[i]? with
 |some (some (.pin q .f,_))=>decide (q=p)
 |_=>false
noncomputable def uK(i:Nat)(p:Addr)(d:D):Out->Res Out
 | .nx env=>if l0 i p env&&cleanE i env then .ok (.nx (env.set i (some (.pin p .d,d)))) else .bad
 | .rt (.t [o,.pin q .f],.tup [r,_])=>if decide (q=p)&&aP o r then .ok (.rt (.t [o,.pin p .d],.tup [r,d])) else .bad
 |_=>.bad
def nP(i:Nat)(a:FG)(g:FS):FS:=fun env=>match env[i]? with
 |some (some (.pin p .d,.dct false ks vs))=>(dM a g ks (env.set i (some (.pin p .f,.dct false ks vs)))).bind (uK i p (.dct false ks vs))
 |_=>.bad
def off(G:Hp)(p:Addr):Hp:=fun z=>if z=p then none else G z
theorem nQ{K:W.Frag}{G H G' H':Hp}{fp Hq GZ:List Addr}{p:Addr}{GU:List (Key×V)}{o:Obj}{es:PV.Env}{σ:L2.St}{i:Nat}{d':D}{vs:List D}(gp:G p=none)(pf:p∈fp)(f1:∀z∈Hq,z∈fp)
  (st:Step (upd G p (.frz o (.dK GU))) (upd H p (.frz o (.dK GU))) Hq G' H' GZ) (rel:Rel K G' H' es σ GZ) (hi:es[i]?=some (some (.pin p .f,d'))) (cl:cleanE i es=true) (hf:∀kv∈GU,fitK kv.1) (rs:Reps K G vs (GU.map (·.2))):
  H' p=some (.frz o (.dK GU))/\∃G2 fz,Step G H fp G2 (upd H' p (.dK GU)) fz/\Rel K G2 (upd H' p (.dK GU)) (es.set i (some (.pin p .d,.dct false (GU.map fun kv=>kD kv.1) vs))) σ fz:=by
 have OA:G' p=some (.frz o (.dK GU)):=st.gg p _ aD;refine⟨rel.gh p _ OA,?_⟩;obtain⟨v,fq,ev,g,Hh,_⟩:=rel.out hi;have G9:=st.trans Hh;obtain⟨y,ys,e0,v',a,b,e1,e2,r1,r2⟩:=g.rep;cases e0;cases e1;rw[RepO]at r1;obtain⟨ep,r1⟩:=r1;obtain⟨_,ea⟩:=d3.mp r1;subst ea;subst ep;have e2:fq=b:=e2;subst e2;have np:∀z∈fq,z≠p:=fun z hz e=>by
  have:=g.gn z hz;rw[e,OA]at this;cases this
 have OB:(off G' p) p=none:=Tw rfl;have Mb:∀z,z≠p->(off G' p) z=G' z:=fun z h=>TC h
 have gg:Same G (off G' p):=fun z u e=>by
  have hz:z≠p:=fun h=>by rw[h,gp]at e;cases e
  rw[Mb z hz];exact st.gg z u (by rw[ak hz];exact e)
 have rc:RepE K (off G' p) H' (es.set i none) σ fq:=by
  refine RepE.clean (fun z u t e=>?_) (fun r hr=>?_) r2
  ·have hz:z≠p:=fun h=>by rw[h,OA]at e;cases e;cases t
   rw[Mb z hz];exact e
  ·have:=Uh.mp cl _ hr;exact this
 have GW:Rel K (off G' p) (upd H' p (.dK GU)) (some (.pin p .d,.dct false (GU.map fun kv=>kD kv.1) vs)::es.set i none) (some (.ref p)::σ) (p::fq):=by
  refine⟨⟨some (.ref p),σ,rfl,.ref p,[p],fq,rfl,rfl,?_,rc.step (.refl _) fun z hz=>ak (np z hz)⟩,UG.mpr ⟨fun h=>np p h rfl,g.nd⟩,fun z hz=>?_,fun z u e=>?_⟩
  ·rw[RepO];refine⟨rfl,?_⟩;rw[RepO];exact⟨p,GU.map (·.2),.dK GU,rfl,aD,⟨GU,rfl,rfl,rfl,hf⟩,rfl,Reps.mono gg rs⟩
  ·rcases TF.mp hz with h|h
   ·rw[h];exact OB
   ·rw[Mb z (np z h)];exact g.gn z h
  ·by_cases hz:z=p
   ·rw[hz,OB]at e;cases e
   ·rw[Mb z hz]at e;rw[ak hz];exact rel.gh z u e
 have RV:Step G H fp (off G' p) (upd H' p (.dK GU)) (p::fq):=by
  refine⟨gg,fun z u e n=>?_,fun z hz=>?_,fun z u e=>?_,fun z u e=>?_⟩
  ·have hz:z≠p:=fun h=>n (h▸pf)
   rw[ak hz];exact G9.keep z u (by rw[ak hz];exact e) fun h=>n (f1 z h)
  ·rcases TF.mp hz with h|h
   ·exact .inl (h▸pf)
   ·rcases G9.fpn z h with h2|h2
    ·exact .inl (f1 z h2)
    ·rw[ak (np z h)]at h2;exact .inr h2
  ·by_cases hz:z=p
   ·rw[hz,OB]at e;cases e
   ·rw[Mb z hz]at e;rcases G9.gnew z u e with h|h|h|⟨t,h⟩
    ·rw[ak hz]at h;exact .inl h
    ·exact .inr (.inl (f1 z h))
    ·rw[ak hz]at h;exact .inr (.inr (.inl h))
    ·rw[ak hz]at h;exact .inr (.inr (.inr ⟨t,h⟩))
  ·by_cases hz:z=p
   ·exact⟨_,by rw[hz,aD]⟩
   ·obtain⟨u',h⟩:=G9.there z u (by rw[ak hz];exact e);exact⟨u',by rw[ak hz];exact h⟩
 obtain⟨fz,g3,Hx⟩:=GW.back (i:=i) (by rw[UA];exact(TH.mp hi).1) ev;rw[VI]at g3;exact⟨_,fz,RV.trans Hx,g3⟩
theorem xa{K:W.Frag}{G H:Hp}{fp f1 b0:List Addr}{p:Addr}{GU:List (Key×V)}{o:Obj}{i:Nat}{vs:List D}{D0:Ends}{r:Res Out}(gp:G p=none)(My:Step G H fp G H (p::b0))(NF:∀z∈f1,z∈p::b0)(hf:∀kv∈GU,fitK kv.1)(rs:Reps K G vs (GU.map (·.2)))
  (k:OutOk (md:=.mut) K G H fp D0 (r.bind (uK i p (.dct false (GU.map fun kv=>kD kv.1) vs)))):OutOk (md:=.mut) K (upd G p (.frz o (.dK GU))) (upd H p (.frz o (.dK GU))) f1 (MW p o GU D0) r:=by
 cases r with
 |bad=>exact k
 |exc c=>exact k
 |ok out=>
  have k:OutOk (md:=.mut) K G H fp D0 (uK i p (.dct false (GU.map fun kv=>kD kv.1) vs) out):=k;unfold uK at k;split at k
  ·rename_i e';split at k
   ·rename_i IB;rw[TL]at IB;obtain⟨h1,h2⟩:=IB;unfold l0 at h1;split at h1
    ·rename_i q' d' hq';rw[T1]at h1;subst h1;intro σ' H' G' GZ st rl;obtain⟨z,G2,fz,G9,Qf⟩:=nQ (G:=G) (H:=H) (fp:=q'::b0) gp Tq NF st rl hq' h2 hf rs;exact⟨z,k σ' _ G2 fz (My.trans G9) Qf⟩
    ·cases h1
   ·exact k.elim
  ·rename_i o' q' r d0 _;split at k
   ·rename_i IB;rw[TL,T1]at IB;obtain⟨h1,h2⟩:=IB;subst h1;rintro v H' G' GZ st ⟨o2,d2,p2,c2,d02,er,rl⟩;cases er;obtain⟨z,G2,fz,G9,Qf⟩:=nQ (G:=G) (H:=H) (fp:=q'::b0) (i:=1) gp Tq NF st rl rfl (by show(List.all [some (o',r),none] _)=true;simp only[VU,Yh,h2,Vp]) hf rs;exact⟨z,k v _ G2 fz (My.trans G9) ⟨_,_,_,_,_,rfl,Qf⟩⟩
   ·exact k.elim
  ·exact k.elim
theorem nR{K:W.Frag}{G:Hp}{a:Addr}{o:Obj}{GU:List (Key×V)}(h:G a=some (.frz o (.dK GU)))(hf:∀kv∈GU,fitK kv.1):Walk K G (Pq o GU.length a) (GU.map fun kv=>kD kv.1):=by
 intro G' H' es vs fp gg rel i;have h':H' a=some (.frz o (.dK GU)):=rel.gh _ _ (gg _ _ h);refine⟨fun d hd=>?_,fun e=>⟨GU,h',rfl,by rw[Tt]at e;lia⟩⟩;rw[TN]at hd;cases hk:GU[i]? with
 |none=>rw[hk]at hd;cases hd
 |some kv=>
  rw[hk]at hd;cases hd;refine⟨⟨GU,kv.1,kv.2,h',rfl,hk⟩,fun y H2 ⟨e,hy⟩=>?_⟩;subst e;have:=hy GU kv.1 kv.2 h' hk;subst this;exact⟨G',x3 (hf _ (UL hk)),rel,.refl⟩
section
variable{X:Cx}
theorem o9{i:Nat}{tg iter:Expr}{body:List Stmt}{a:FG}{g:FS}{pos:Pos}(hp:PassesOwn (model X.prog X.w) X.A X.env X.xe)(hc:X.calm=true)(hn:PE X iter (sd i))(hg:QG X tg a)(hb:LJ (md:=.mut) X body g)(hs:∀x,foldedSetIterable iter X.env x=pure x:=by intro _;rfl):
  QS (md:=.mut) X (.For tg iter body [] pos) (nP i a g):=
 d4 (uJ (sJ hp hc (uI hn) hg hb hs)) fun D0 σ H Hc=>by
  obtain⟨G,env,fp,rel,k⟩:=Hc;unfold nP at k;split at k
  ·rename_i p ks vs hi;obtain⟨v,fq,ev,g1,My,_⟩:=rel.out hi;obtain⟨y,ys,e0,v',a0,b0,e1,e2,r1,r2⟩:=g1.rep;cases e0;cases e1;rw[RepO]at r1;obtain⟨ep,r1⟩:=r1;subst ep;rw[RepO]at r1;obtain⟨p',xs,o0,Q3,hH,dd,ea,rs⟩:=r1;cases Q3;subst ea;subst e2;obtain⟨GU,eo,ek,ex,hf⟩:=(show ∃GU:List (Key×V),o0=.dK GU/\ks=GU.map (fun kv=>kD kv.1)/\xs=GU.map (·.2)/\∀kv∈GU,fitK kv.1 from dd)
   subst eo ex ek;have nd:=UG.mp (show(p::b0).Nodup from g1.nd);have gp:G p=none:=g1.gn p Tq;have Qg:∀z∈b0,z≠p:=fun z hz e=>nd.1 (e▸hz)
   refine⟨p,GU,hH,fun o=>?_⟩;have Qh:Same G (upd G p (.frz o (.dK GU))):=fun z u e=>by rw[ak (aG e gp)];exact e
   have OC:Rel X.K (upd G p (.frz o (.dK GU))) (upd H p (.frz o (.dK GU))) (some (.pin p .f,.dct false (GU.map fun kv=>kD kv.1) vs)::env.set i none) (some (.ref p)::σ) b0:=by
    refine⟨⟨_,_,rfl,.ref p,[],b0,rfl,rfl,?_,r2.step Qh fun z hz=>ak (Qg z hz)⟩,nd.2,fun z hz=>?_,fun z u e=>?_⟩
    ·rw[RepO];refine⟨rfl,d3.mpr ⟨?_,rfl⟩⟩;rw[Rep];exact⟨p,GU.map (·.2),.dK GU,rfl,.inr ⟨o,aD⟩,⟨GU,rfl,rfl,rfl,hf⟩,Reps.mono Qh rs⟩
    ·rw[ak (Qg z hz)];exact g1.gn z (Tu _ hz)
    ·by_cases hz:z=p
     ·subst hz;rw[aD]at e ⊢;exact e
     ·rw[ak hz]at e ⊢;exact g1.gh z u e
   obtain⟨f1,GY,Hh⟩:=OC.back (i:=i) (by rw[UA];exact(TH.mp hi).1) ev;rw[VI]at GY;have NF:∀z∈f1,z∈p::b0:=fun z hz=>by
    rcases Hh.fpn z hz with h|h
    ·exact Tu _ h
    ·exfalso;obtain⟨u,hu⟩:=GY.rep.live z hz;rw[h]at hu;cases hu
   refine⟨.ref p,ev,p,o,GU,rfl,aD,?_⟩;have k1:=xa (o:=o) (G:=G) (H:=H) (fp:=fp) gp My NF hf rs k;have wk:Walk X.K (upd G p (.frz o (.dK GU))) (Pq o GU.length p) (GU.map fun kv=>kD kv.1):=nR aD hf;generalize (GU.map fun kv=>kD kv.1)=ds at k1 wk GY;refine⟨fun j m σ' H'=>m=ds.length-j/\j<=ds.length/\∃G' env' GZ,Same (upd G p (.frz o (.dK GU))) G'/\Rel X.K G' H' env' σ' GZ/\OutOk (md:=.mut) X.K G' H' GZ (MW p o GU D0) (dM a g (ds.drop j) env'),⟨_,rfl,Um _,_,_,f1,.refl _,GY,k1⟩,?_⟩;rintro j m σ2 H2 ⟨rfl,hj,G2,Hd,Hz,gg,GW,k2⟩;obtain⟨w1,w2⟩:=wk G2 H2 _ _ _ gg GW j;by_cases Hr:j<ds.length
   ·have hd:ds[j]?=some ds[j]:=To Hr;obtain⟨go,yl⟩:=w1 _ hd;rw[UZ Hr]at k2;refine .inr ⟨go,fun σ' H'=>∃G' env' GZ,Same (upd G p (.frz o (.dK GU))) G'/\Rel X.K G' H' env' σ' GZ/\OutOk (md:=.mut) X.K G' H' GZ (MW p o GU D0) (dM a g (ds.drop (j+1)) env'),fun σ' H' z=>⟨ds.length-(j+1),by lia,rfl,Hr,z⟩,fun x H3 y=>?_⟩;obtain⟨G3,rx,HB,Hx⟩:=yl x H3 y;unfold dM at k2;match q3:a ds[j] Hd,k2 with
    | .ok HE,k2=>
     refine⟨G3,Hd,Hz,ds[j],HE,HB,rx,q3,fun σ4 G4 P2 H0 Iy=>⟨G4,HE,P2,Iy,?_⟩⟩;have k3:OutOk (md:=.mut) X.K G2 H2 Hz (MW p o GU D0) ((g HE).bind fun o=>match o with | .nx e=>dM a g (ds.drop (j+1)) e | .ct e=>dM a g (ds.drop (j+1)) e | .bk e=>.ok (.nx e) | .rt r=>.ok (.rt r)):=k2;match q4:g HE,k3 with
     | .ok (.nx e),k3=>exact fun σ' H' G' GZ st rel=>⟨G',e,GZ,gg.trans (Hx.gg.trans (H0.gg.trans st.gg)),rel,OutOk.after (Hx.trans (H0.trans st)) k3⟩
     | .ok (.ct e),k3=>exact fun σ' H' G' GZ st rel=>⟨G',e,GZ,gg.trans (Hx.gg.trans (H0.gg.trans st.gg)),rel,OutOk.after (Hx.trans (H0.trans st)) k3⟩
     | .ok (.bk e),k3=>exact fun σ' H' G' GZ st rel=>k3 σ' H' G' GZ (Hx.trans (H0.trans st)) rel
     | .ok (.rt r),k3=>exact fun v H' G' GZ st rel=>k3 v H' G' GZ (Hx.trans (H0.trans st)) rel
   ·have e:j=ds.length:=by lia
    subst e;rw[Wn]at k2;exact .inl ⟨w2 rfl,k2 σ2 H2 G2 Hz .refl GW⟩
  ·exact k.elim
end
end PV
namespace NX
open PySem PySem.Spec PyProof.Rows L2
section
variable{X:Cx}
def zU:V->List V->Hp->VK->Prop:=fun x vs H Q=>∃l xs y k,x=.ref l/\vs=[.int k,y]/\H l=some (.lst xs)/\xs.length<sizeLine/\(0<=k/\k.toNat<=xs.length)/\Q .non (upd H l (.lst (xs.take k.toNat++y::xs.drop k.toNat)))
theorem iN:∀{vs:List V}{us:List Value},Vals vs us->∀k:Nat,Vals (vs.take k) (us.take k)/\Vals (vs.drop k) (us.drop k)
 |_,_,.nil,k=>⟨by rw[YT,YT];exact .nil,by rw[List.drop_nil,List.drop_nil];exact .nil⟩
 |_,_,.cons h r,0=>⟨.nil,.cons h r⟩
 |_,_,.cons h r,k+1=>⟨.cons h (iN r k).1,(iN r k).2⟩
theorem uL:MtM X "list.insert" zU:=by
 intro pr s σ H x vs v us Q I rx rv h;obtain⟨l,xs,y,k,rfl,rfl,hH,hz,hk,q⟩:=h;cases rx;obtain⟨u1,u,rfl,r1,ru⟩:=rv.two;obtain⟨t,rfl⟩:=r1;obtain⟨z,GX,n,r,hl,e⟩:=I.lstM hH;have K7:GX.length=xs.length:=by have:=r.length;lia
 have hf:¬ (!Builtin.List.listFitsIndex k)=true:=by
  have JZ:k.toNat<9223372036854775808:=UW hk.2 (Ts hz (by rw[UE];decide));have:Builtin.List.listFitsIndex k=true:=by
   unfold Builtin.List.listFitsIndex;rw[TL,T1,T1];lia
  rw[this];exact TB
 have hsz:GX.toArray.size<=sizeLine:=by rw[Tr];lia
 refine WE F.slot_list_insert ⟨_,e,rfl⟩ F.entry_list_insert (F.args_list_insert_3 _ _ _) (PySem.AutoSeq1.list_insert_list_int_val_1 l GX.toArray n k t u hf hsz) ⟨e,?_⟩;obtain⟨t1,t2⟩:=iN r k.toNat
 refine⟨.non,_,I.lset (its':=GX.take k.toNat++u::GX.drop k.toNat) hH e ?_ (t1.append (.cons ru t2)) ?_,rfl,q⟩
 ·dsimp only;rw[TC (by lia),Tr,Yi (by lia)];apply Array.ext';simp;exact Uy (by rw[Uz];lia)
 ·rw[UC,TQ,T8,Uz];lia
end
end NX
namespace PV
open PySem PySem.Spec PyProof.Rows L2 NX
noncomputable def DA(i:Nat)(f g:FX):FX:=fun env=>if oU env i then(f env).bind fun p=>(g p.2).bind fun q=>match q.2[i]?,p.1.2 with
 |some (some (.l .f,.lst ds)),.int k=>if ds.length<sizeLine/\0<=k/\k.toNat<=ds.length then .ok ((.f,.non),q.2.set i (some (.l .f,.lst (ds.take k.toNat++q.1.2::ds.drop k.toNat)))) else .bad
 |_,_=>.bad
 else .bad
section
variable{X:Cx}
theorem uM{i:Nat}{o a e:Expr}{f g:FX}{apos Hy:Pos}(ho:PE X o (sd i))(ha:QE X a f)(he:QE X e g)
  (KA:attributeBase o "insert" X.env (eval o X.env)=eval o X.env:=by rfl)
  (J2:((backTo Hy (starEach [a,e] X.env)).all (fun x=>!x.1)&&(backToKw Hy (keywordEach [] X.env)).all (fun x=>x.1.isSome)&&decide ([a,e].length+([]:List Keyword).length+(if([]:List Keyword).isEmpty then 0 else 1)<30))=true:=by rfl)
  (KC:(apos.endLine==Hy.line)=true:=by rfl) (hs:starEach [a,e] X.env=(false,eval a X.env)::starEach [e] X.env:=by rfl) (RK:starEach [e] X.env=(false,eval e X.env)::starEach [] X.env:=by rfl) (JI:(backTo Hy (starEach [e] X.env)).any (·.1)=false:=by rfl):
  QE X (.Call (.Attribute o "insert" apos) [a,e] [] Hy) (DA i f g):=by
 refine bK (Bw XJ PySem.F.slot_list_insert PySem.F.type_list_insert uL ho (aM ha (aM he bj RK) hs) KA J2 KC hs JI) fun σ H Q Hm=>?_
 obtain⟨G,env,fp,r,env',rel,e,k⟩:=Hm;unfold DA at e;split at e
 ·rename_i hil;obtain⟨v,ev,ty⟩:=qi rel hil;obtain⟨⟨r1,GV⟩,e1,e⟩:=ai e;obtain⟨⟨r2,Hd⟩,e2,e⟩:=ai e;dsimp only at e e2;split at e
  ·rename_i ds kk ME KW;split at e
   ·rename_i hl;cases e;refine⟨v,ev,ty,G,env,fp,[r1.2,r2.2],Hd,rel,by show(f env).bind _=_;rw[e1];show((g GV).bind _).bind _=_;rw[e2];rfl,fun vs H1 G1 Hq Hh GY rs=>?_⟩;rw[Reps]at rs;obtain⟨y1,ys1,eys1,SF,rs⟩:=rs;rw[Reps]at rs;obtain⟨y,ys,RJ,ry,rn⟩:=rs;rw[Reps]at rn;subst rn RJ;rw[KW]at SF;have hz:=bA SF;obtain⟨p,xs,ep,hp,LK,cg⟩:=GY.chg (ds':=ds.take kk.toNat++r2.2::ds.drop kk.toNat) ME;rw[ev]at ep;cases ep;obtain⟨fq,GW,G9⟩:=cg (xs.take kk.toNat++y::xs.drop kk.toNat) ((LK.take _).app (.cons ry (LK.drop _)));exact⟨p,xs,y,kk,rfl,by rw[eys1,hz],hp,by rw[LK.length];exact hl.1,⟨hl.2.1,by rw[LK.length];exact hl.2.2⟩,k _ _ G1 fq (Hh.trans G9) (GW.push lK)⟩
   ·cases e
  ·cases e
 ·cases e
end
inductive BExp where
 |con (b:Bool)|var (j:Nat)|not (x:BExp)|and (x y:BExp)
section
variable{X:Cx}{a:Addr}{o:Obj}{i:Nat}{e b:Expr}{bG:List Expr}{x y:BExp}{pos p q:Pos}{n:Str}
inductive Cls(mg:Str->Option Value):List Expr->List Addr->Prop
 |nil:Cls mg [] []
 |cons {x:Str}{p:Pos}{es:List Expr}{c:Addr}{cs:List Addr}:mg x=some (.ref c)->Cls mg es cs->Cls mg (.Name x p::es) (c::cs)
variable{C:Addr}{vs:Array Value}
end
section
variable{md:Mode}{X:Cx}{x:Str}{pos:Pos}{C:Addr}{xe:FXE}
end
end PV
namespace PV
open PySem PySem.Spec L2 NX
section
variable{X:Cx}
def rO(ds:List D):List D:=ds.zipIdx.map fun z=>D.tup [.int (z.2:Int),z.1]
def qr(k:Bool)(fs:FOs):FI:=fun env=>(fs env).bind fun p=>match p.1 with
 |[.val d]=>(h8 k d).bind fun a=>.ok (rO a,p.2)
 |_=>.bad
theorem uN{K:W.Frag}{G:Hp}{k:Bool}{p1:Addr}{xs:List V}{as:List D}(s1:if k then SqL K G p1 xs else SqT K G p1 xs)(r1:Reps K G as xs):Walk K G (RC K k p1) (rO as):=by
 intro G' H' es vs fp gg rel i;have g1:=iK (gg.trans rel.gh) s1;refine⟨fun d hd=>?_,fun e=>⟨xs,g1,?_⟩⟩
 ·unfold rO at hd;rw[TN,List.getElem?_zipIdx]at hd;cases hz:as[i]? with
  |none=>rw[hz]at hd;cases hd
  |some z=>
   rw[hz]at hd;have hd:D.tup [.int ((0+i:Nat):Int),z]=d:=T6 hd;rw[Yj]at hd;subst hd;obtain⟨x,hx,rx⟩:=r1.get hz;refine⟨⟨xs,x,g1,hx⟩,fun v H2 ⟨T,hT,ev,hh⟩=>?_⟩;have e2:=hh xs x g1 hx;subst e2;obtain⟨GW,G9⟩:=rel.newF (u:=.tup [.int (i:Int),x]) hT;refine⟨_,?_,GW,G9⟩;rw[Rep];exact⟨T,[.int (i:Int),x],ev,aD,.cons (by rw[Rep]) (.one (Rep.mono (gg.trans G9.gg) rx))⟩
 ·unfold rO at e;rw[Tt,YU]at e;rw[r1.length];exact e
theorem uO(k:Bool){KI:List Expr}{kt:Nat}{pt:Pos}{e1:Expr}{fs:FOs}{p pos:Pos}(hg:Gl X "enumerate")(hm:X.mg "enumerate" = none)(ha:L1 X [e1] fs)(he:starEach [e1] X.env=[(false,eval e1 X.env)]:=by rfl):
  QI X (.Tuple KI kt pt) (.Call (.Name "enumerate" p) [e1] [] pos) (qr k fs):=
 i4 (zq k hg hm ha he) fun σ H R Hc=>by
  obtain⟨G,env,fp,ds,env',rel,e,kk⟩:=Hc;obtain⟨⟨o,GV⟩,e1,e⟩:=ai e;dsimp only at e;split at e
  ·rename_i d1;obtain⟨a,ea,e⟩:=ai e;cases e;refine⟨G,env,fp,_,_,rel,e1,fun vs H1 G1 Hq Hh GY Jy=>?_⟩;obtain⟨y,ys,ev,v1,e3⟩:=Jy;have e3:ys=[]:=e3;subst e3;obtain⟨p1,RG,RH,q1,r1⟩:=lN ea v1;subst RH;exact⟨p1,RG,ev,iK GY.gh q1,kk _ H1 G1 Hq Hh GY (uN q1 r1)⟩
  ·cases e
def i7(fs:FOs):FI:=HR (qr true fs) (qr false fs)
theorem l5{KI:List Expr}{kt:Nat}{pt:Pos}{e1:Expr}{fs:FOs}{p pos:Pos}(hg:Gl X "enumerate")(hm:X.mg "enumerate" = none)(ha:L1 X [e1] fs)(he:starEach [e1] X.env=[(false,eval e1 X.env)]:=by rfl):
  QI X (.Tuple KI kt pt) (.Call (.Name "enumerate" p) [e1] [] pos) (i7 fs):=rL (uO true hg hm ha he) (uO false hg hm ha he)
end
end PV
namespace PV
open PySem PySem.Spec PyProof.Rows L2 NX
section
variable{K:W.Frag}{G H:Hp}
theorem AllO.length{P:D->V->List Addr->Prop}:∀{ds:List D}{xs:List V}{fp:List Addr},AllO P ds xs fp->xs.length=ds.length
 |[],xs,fp,r=>by
  rw[r.1];rfl
 |d'::ds,xs,fp,r=>by
  obtain⟨y,ys,a1,b1,e1,e2,p,r⟩:=r;subst e1;rw[TQ,TQ,r.length]
end
section
variable{md:Mode}{X:Cx}{scope:Scope}{N:List Str}{tg iter elt:Expr}{ifs:List Expr}{pos:Pos}{fi:FI}{a:FG}{c:FT}{f:FX}
end
section
variable{X:Cx}{x:Str}{p pos NW:Pos}{e1 e2 e3:Expr}{fo:FO}{fb:FX}
end
section
variable{X:Cx}{x:Str}{p pos p1 p2 q1 q2:Pos}{o o':Expr}{j1 j2:_}
end
section
variable{K:W.Frag}{G H:Hp}
end
section
variable{X:Cx}{a b:Expr}{fa fb:FX}{pos:Pos}
end
section
variable{K:W.Frag}{G H:Hp}
end
section
variable{X:Cx}
end
section
variable{X:Cx}
def EG(f:FX):FX:=fun env=>(f (env.map frz)).bind fun p=>.ok (p.1,if aP p.1.1 p.1.2 then env else env.map frz)
def zV(f:FT):FT:=fun env=>(f (env.map frz)).bind fun p=>.ok (p.1,env)
theorem EH{e:Expr}{f:FX}(h:QE X e f):QE X e (EG f):=bK h fun σ H Q Hc=>by
 obtain⟨G,env,fp,r,env',rel,e,k⟩:=Hc;obtain⟨⟨r1,GV⟩,e1,e⟩:=ai e;obtain⟨G1,g1,RW,Jc,hE,Ii⟩:=rel.lend;refine⟨G1,env.map frz,[],r1,GV,⟨hE,V0,(fun _ h=>nomatch h),RW⟩,e1,fun v H' G' GZ st HJ=>?_⟩;obtain⟨a,Ma,P8⟩:=HJ.only;obtain⟨k1,k2⟩:=Ii H' G' a r1 v (st.trans P8) Ma;have e:Res.ok (r1,if aP r1.1 r1.2 then env else env.map frz)=.ok (r,env'):=e;by_cases hc:aP r1.1 r1.2=true
 ·rw[Tw hc]at e;cases e;obtain⟨G6,Mw,MS,Kn⟩:=k1 hc;exact k v H' G6 Mw MS Kn
 ·rw[TC hc]at e;cases e;obtain⟨G6,Mw,MS,Kn⟩:=k2;exact k v H' G6 Mw MS Kn
theorem zW{e:Expr}{f:FT}(h:QT X e f):QT X e (zV f):=nj h fun σ H Q Hc=>by
 obtain⟨G,env,fp,b,env',rel,e,k⟩:=Hc;obtain⟨⟨b1,GV⟩,e1,e⟩:=ai e;cases e;obtain⟨G1,g1,RW,Jc,hE,Ii⟩:=rel.lend;refine⟨G1,env.map frz,[],b1,GV,⟨hE,V0,(fun _ h=>nomatch h),RW⟩,e1,fun H' G' GZ st HJ=>?_⟩;have rl:Rel X.K G' H' [some (.f,.bl b1)] [some (.bl b1)] []:=(HJ.nilF).push (by rw[Rep]);obtain⟨k1,_⟩:=Ii H' G' [] (.f,.bl b1) (.bl b1) (st.trans (Step.cut fun _ h=>nomatch h)) rl;obtain⟨G6,Mw,MS,Kn⟩:=k1 rfl;obtain⟨bb,K5,P7⟩:=Kn.drop;exact k H' G6 bb (MS.trans P7) K5
end
section
variable{K:W.Frag}{G H:Hp}
end
section
variable{X:Cx}{a b:Expr}{fa fb:FX}{pos:Pos}
end
section
variable{md:Mode}{X:Cx}{pos NW:Pos}
end
section
variable{X:Cx}{C:Addr}{pos:Pos}{bG a b:List Stmt}{ct:Expr}
end
section
variable{X:Cx}{x y:Str}{p pos pos' Hy:Pos}{e:Expr}{es:List Expr}{C:Addr}{F:List D->Bool}{fs:FOs}{k:Nat}{bG:List Stmt}{Ww:Hp->Prop}
end
section
variable{X:Cx}{a:Addr}{i j jc:Nat}{x1 x2:BExp}{e1 e2 vc:Expr}{n nc:Str}{pos pos1 Qc pos' pos'' bp p:Pos}
end
section
variable{md:Mode}{X:Cx}{x:Str}{pos:Pos}{C:Addr}{xe:FXE}
end
section
variable{X:Cx}
end
section
variable{K:W.Frag}{G H:Hp}
end
section
variable{X:Cx}{pos:Pos}
end
section
variable{X:Cx}
def Gy:D->D->Res R
 | .int i,.int j=>if j≠0/\j.natAbs<2 ^ 1000 then .ok (.f,.int (i.fdiv j)) else .bad
 |_,_=>.bad
def Co:D->D->Res R
 | .int i,.int j=>if j≠0 then .ok (.f,.int (i.fmod j)) else .bad
 |_,_=>.bad
theorem zX:HI X (binaryOp .Mod) (rG X.K Co):=by
 rintro pr s σ H x y v u Q I rx ry ⟨G,fp,es,vs,a,b,r,⟨rel,k⟩,va,vb,e⟩;unfold Co at e;split at e
 ·rename_i i j;split at e
  ·rename_i hc;cases e;cases bg va;cases bg vb;exact yP pr s σ H _ _ v u Q I rx ry ⟨i,j,rfl,rfl,hc,k _ H G fp .refl (rel.push (rep_int _))⟩
  ·cases e
 ·cases e
end
section
variable{md:Mode}{X:Cx}{scope:Scope}{N:List Str}{tg iter elt:Expr}{ifs:List Expr}{pos:Pos}{fi:FI}{a:FG}{c:FT}{f:FX}
variable{l e:Expr}{g fj:FI}
theorem uP{i:Nat}{y:Str}{py JL:Pos}(ix:List (Option Nat))(N:List Str)(hN:X.N.Nodup)(N8:X.N[i]?=some y)(hy:Loc X.env.scope y)(hc:X.calm=true)(hi:MR X tg iter fi)(hg:∀C s H fp pn,QG (ba X scope N C s H fp pn) tg a)(ht:∀C s H fp pn,Og (ba X scope N C s H fp pn) ifs c)
  (he:∀C s H fp pn,QE (ba X scope N C s H fp pn) elt f) (MI:swapsWith (.ListComp elt [⟨tg,iter,ifs,0⟩] scope pos) (some (.Name y py)) JL.line X.env=pure true:=by rfl)
  (hf:c9 scope X.env=true:=by rfl) (hk:scope.kind=.function:=by rfl) (Hk:∀y∈scope.names,y.2=.cell->scope.names.lookup y.1=some .cell:=by decide +kernel) (Hu:∀y∈scope.names,y.2=.local->scope.names.lookup y.1=some .local:=by decide +kernel) (HZ:mY X scope N ix=true:=by rfl)
  (hs:∀x,foldedSetIterable iter X.env x=pure x:=by intro _;rfl) (Lg:X.fn y=true\/X.env.scope.names.lookup y=some .local:=by first|exact .inl rfl|exact .inr rfl):
  QS (md:=md) X (.Assign [.Name y py] (.ListComp elt [⟨tg,iter,ifs,0⟩] scope pos) JL) (cM i (cy fi ix a c f)):=
 d4 (wU (i:=i) (g:=tQG X.K a) (tc:=tQT X.K c) (te:=tQ X.K f) ix N hN N8 hy hc hi hg ht he MI hf hk Hk Hu HZ hs Lg) fun D σ H ⟨G,env,fp,rel,k⟩=>ql (oR rel k)
end
open Classical in
def zY(f:Addr->Res Out):Res Out:=if h:∃r,∀p,f p=r then h.choose else .bad
theorem zZ{f:Addr->Res Out}{r:Res Out}(h:∀p,f p=r):zY f=r:=by
 have ex:∃r,∀p,f p=r:=⟨r,h⟩
 unfold zY;rw[dif_pos ex];exact(ex.choose_spec 0).symm.trans (h 0)
theorem z4(f:Addr->Res Out):zY f=.bad\/∀p,zY f=f p:=by
 by_cases ex:∃r,∀p,f p=r
 ·right;intro p;unfold zY;rw[dif_pos ex];exact(ex.choose_spec p).symm
 ·left;unfold zY;rw[dif_neg ex]
mutual
noncomputable def noD:D->Bool
 | .tup ds=>uQ ds
 | .lst ds=>uQ ds
 | .dct _ _ _=>false
 |_=>true
noncomputable def uQ:List D->Bool
 |[]=>true
 |d::ds=>noD d&&uQ ds
end
def noFD:HO->Bool
 | .frz _ (.dK _)=>false
 |_=>true
def okO(o:O)(d:D):Bool:=match o,d with
 | .f,d=>noD d
 | .l .f,.lst ds=>uQ ds
 | .d,.dct _ _ vs=>uQ vs
 |_,_=>false
def nS(i:Nat)(env:PV.Env):Bool:=(env.set i none).all fun r=>match r with
 |some r=>okO r.1 r.2
 |none=>true
section
variable{K:W.Frag}{H G2 G3:Hp}
theorem Rd.noFD{a:Addr}{u:HO}(h:∀p u,PV.noFD u=true->G2 p=some u->G3 p=some u)(hu:∀o,PV.noFD (.frz o u)=true)(KY:PV.noFD u=true)(r:Rd G2 a u):Rd G3 a u:=by
 rcases r with r|⟨o,r⟩
 ·exact .inl (h _ _ KY r)
 ·exact .inr ⟨o,h _ _ (hu o) r⟩
mutual
theorem Rep.noD(h:∀p u,PV.noFD u=true->G2 p=some u->G3 p=some u):∀{d:D}{v:V},PV.noD d=true->Rep K G2 d v->Rep K G3 d v
 | .non,_,_,r=>by simpa only[Rep] using r
 | .bl _,_,_,r=>by simpa only[Rep] using r
 | .int _,_,_,r=>by simpa only[Rep] using r
 | .str _,_,_,r=>by simpa only[Rep] using r
 | .tup ds,_,e,r=>by
  simp only[Rep]at r ⊢;rw[PV.noD]at e;obtain⟨p,xs,ev,hp,rs⟩:=r;exact⟨p,xs,ev,h _ _ rfl hp,Reps.noD h e rs⟩
 | .lst ds,_,e,r=>by
  simp only[Rep]at r ⊢;rw[PV.noD]at e;obtain⟨p,xs,ev,hp,rs⟩:=r;refine⟨p,xs,ev,?_,Reps.noD h e rs⟩;rcases hp with hp|hp
  ·exact .inl (Rd.noFD h (fun _=>rfl) rfl hp)
  ·exact .inr hp
 | .dct _ _ _,_,e,_=>by
  rw[PV.noD]at e;cases e
theorem Reps.noD(h:∀p u,PV.noFD u=true->G2 p=some u->G3 p=some u):∀{ds:List D}{xs:List V},PV.uQ ds=true->Reps K G2 ds xs->Reps K G3 ds xs
 |[],_,_,r=>by simpa only[Reps] using r
 |d::ds,_,e,r=>by
  simp only[Reps]at r ⊢;rw[PV.uQ,TL]at e;obtain⟨y,ys,ev,r1,r2⟩:=r;exact⟨y,ys,ev,Rep.noD h e.1 r1,Reps.noD h e.2 r2⟩
end
theorem RepO.okO(h:∀p u,PV.noFD u=true->G2 p=some u->G3 p=some u){o:O}{d:D}{v:V}{a:List Addr}(e:PV.okO o d=true)(r:RepO K G2 H o d v a):RepO K G3 H o d v a:=by
 unfold PV.okO at e;split at e
 ·obtain⟨r1,r2⟩:=d3.mp r;exact d3.mpr ⟨Rep.noD h e r1,r2⟩
 ·obtain⟨p,xs,ev,hp,ea,rs⟩:=gP.mp r;exact gP.mpr ⟨p,xs,ev,hp,ea,Reps.noD h e rs⟩
 ·rw[RepO]at r ⊢;obtain⟨p,xs,o,ev,hp,dd,ea,rs⟩:=r;exact⟨p,xs,o,ev,hp,dd,ea,Reps.noD h e rs⟩
 ·cases e
theorem RepE.okO(h:∀p u,PV.noFD u=true->G2 p=some u->G3 p=some u):∀{es:PV.Env}{vs:L2.St}{a:List Addr},(∀r,some r∈es->PV.okO r.1 r.2=true)->RepE K G2 H es vs a->RepE K G3 H es vs a
 |[],_,_,_,r=>r
 |none::es,vs,a,hc,r=>by
  obtain⟨y,ys,e,r⟩:=r;exact⟨y,ys,e,RepE.okO h (fun r hr=>hc r (Tu _ hr)) r⟩
 |some x::es,vs,a,hc,r=>by
  obtain⟨y,ys,e,v,a1,b1,e1,e2,r1,r2⟩:=r;exact⟨y,ys,e,v,a1,b1,e1,e2,r1.okO h (hc x Tq),RepE.okO h (fun r hr=>hc r (Tu _ hr)) r2⟩
end
theorem loan_backO{K:W.Frag}{G H G' H':Hp}{fp Hq GZ:List Addr}{p:Addr}{GU:List (Key×V)}{o:Obj}{es:PV.Env}{σ:L2.St}{i:Nat}{d':D}{vs:List D}(gp:G p=none)(pf:p∈fp)(f1:∀z∈Hq,z∈fp)
  (st:Step (upd G p (.frz o (.dK GU))) (upd H p (.frz o (.dK GU))) Hq G' H' GZ) (rel:Rel K G' H' es σ GZ) (hi:es[i]?=some (some (.pin p .f,d'))) (cl:nS i es=true) (hf:∀kv∈GU,fitK kv.1) (rs:Reps K G vs (GU.map (·.2))):
  H' p=some (.frz o (.dK GU))/\∃G2 fz,Step G H fp G2 (upd H' p (.dK GU)) fz/\Rel K G2 (upd H' p (.dK GU)) (es.set i (some (.pin p .d,.dct false (GU.map fun kv=>kD kv.1) vs))) σ fz:=by
 have OA:G' p=some (.frz o (.dK GU)):=st.gg p _ aD;refine⟨rel.gh p _ OA,?_⟩;obtain⟨v,fq,ev,g,Hh,_⟩:=rel.out hi;have G9:=st.trans Hh;obtain⟨y,ys,e0,v',a,b,e1,e2,r1,r2⟩:=g.rep;cases e0;cases e1;rw[RepO]at r1;obtain⟨ep,r1⟩:=r1;obtain⟨_,ea⟩:=d3.mp r1;subst ea;subst ep;have e2:fq=b:=e2;subst e2;have np:∀z∈fq,z≠p:=fun z hz e=>by
  have:=g.gn z hz;rw[e,OA]at this;cases this
 have OB:(off G' p) p=none:=Tw rfl;have Mb:∀z,z≠p->(off G' p) z=G' z:=fun z h=>TC h
 have gg:Same G (off G' p):=fun z u e=>by
  have hz:z≠p:=fun h=>by rw[h,gp]at e;cases e
  rw[Mb z hz];exact st.gg z u (by rw[ak hz];exact e)
 have rc:RepE K (off G' p) H' (es.set i none) σ fq:=by
  refine RepE.okO (fun z u t e=>?_) (fun r hr=>?_) r2
  ·have hz:z≠p:=fun h=>by rw[h,OA]at e;cases e;cases t
   rw[Mb z hz];exact e
  ·have:=Uh.mp cl _ hr;exact this
 have GW:Rel K (off G' p) (upd H' p (.dK GU)) (some (.pin p .d,.dct false (GU.map fun kv=>kD kv.1) vs)::es.set i none) (some (.ref p)::σ) (p::fq):=by
  refine⟨⟨some (.ref p),σ,rfl,.ref p,[p],fq,rfl,rfl,?_,rc.step (.refl _) fun z hz=>ak (np z hz)⟩,UG.mpr ⟨fun h=>np p h rfl,g.nd⟩,fun z hz=>?_,fun z u e=>?_⟩
  ·rw[RepO];refine⟨rfl,?_⟩;rw[RepO];exact⟨p,GU.map (·.2),.dK GU,rfl,aD,⟨GU,rfl,rfl,rfl,hf⟩,rfl,Reps.mono gg rs⟩
  ·rcases TF.mp hz with h|h
   ·rw[h];exact OB
   ·rw[Mb z (np z h)];exact g.gn z h
  ·by_cases hz:z=p
   ·rw[hz,OB]at e;cases e
   ·rw[Mb z hz]at e;rw[ak hz];exact rel.gh z u e
 have RV:Step G H fp (off G' p) (upd H' p (.dK GU)) (p::fq):=by
  refine⟨gg,fun z u e n=>?_,fun z hz=>?_,fun z u e=>?_,fun z u e=>?_⟩
  ·have hz:z≠p:=fun h=>n (h▸pf)
   rw[ak hz];exact G9.keep z u (by rw[ak hz];exact e) fun h=>n (f1 z h)
  ·rcases TF.mp hz with h|h
   ·exact .inl (h▸pf)
   ·rcases G9.fpn z h with h2|h2
    ·exact .inl (f1 z h2)
    ·rw[ak (np z h)]at h2;exact .inr h2
  ·by_cases hz:z=p
   ·rw[hz,OB]at e;cases e
   ·rw[Mb z hz]at e;rcases G9.gnew z u e with h|h|h|⟨t,h⟩
    ·rw[ak hz]at h;exact .inl h
    ·exact .inr (.inl (f1 z h))
    ·rw[ak hz]at h;exact .inr (.inr (.inl h))
    ·rw[ak hz]at h;exact .inr (.inr (.inr ⟨t,h⟩))
  ·by_cases hz:z=p
   ·exact⟨_,by rw[hz,aD]⟩
   ·obtain⟨u',h⟩:=G9.there z u (by rw[ak hz];exact e);exact⟨u',by rw[ak hz];exact h⟩
 obtain⟨fz,g3,Hx⟩:=GW.back (i:=i) (by rw[UA];exact(TH.mp hi).1) ev;rw[VI]at g3;exact⟨_,fz,RV.trans Hx,g3⟩
def uR(i:Nat)(p:Addr)(d:D):Out->Res Out
 | .nx env=>if l0 i p env&&nS i env then .ok (.nx (env.set i (some (.d,d)))) else .bad
 |_=>.bad
def uS(i:Nat)(a:FG)(g:FS):FS:=fun env=>match env[i]? with
 |some (some (.d,.dct false ks vs))=>zY fun p=>(dM a g ks (env.set i (some (.pin p .f,.dct false ks vs)))).bind (uR i p (.dct false ks vs))
 |_=>.bad
section
variable{K:W.Frag}{G H:Hp}
theorem RepE.unpin:∀{es:PV.Env}{vs:List (Option V)}{fp:List Addr}{i:Nat}{p:Addr}{c:O}{d:D},RepE K G H es vs fp->es[i]?=some (some (.pin p c,d))->RepE K G H (es.set i (some (c,d))) vs fp
 |[],_,_,_,_,_,_,_,e=>by simp at e
 |none::es,vs,fp,i,p,c,d,q,e=>by
  cases i with
  |zero=>simp at e
  |succ i=>
   obtain⟨y,ys,ev,q⟩:=q;exact⟨y,ys,ev,RepE.unpin q (by simpa using e)⟩
 |some r::es,vs,fp,i,p,c,d,q,e=>by
  obtain⟨y,ys,ev,v,a,b,e1,e2,r1,r2⟩:=q;cases i with
  |zero=>
   have e:r=(.pin p c,d):=by simpa using e
   subst e;have r1:RepO K G H (.pin p c) d v a:=r1;rw[RepO]at r1;exact⟨y,ys,ev,v,a,b,e1,e2,r1.2,r2⟩
  |succ i=>exact⟨y,ys,ev,v,a,b,e1,e2,r1,RepE.unpin r2 (by simpa using e)⟩
theorem Rel.unpin{es:PV.Env}{vs:List (Option V)}{fp:List Addr}{i:Nat}{p:Addr}{c:O}{d:D}(q:Rel K G H es vs fp)(e:es[i]?=some (some (.pin p c,d))):Rel K G H (es.set i (some (c,d))) vs fp:=⟨q.rep.unpin e,q.nd,q.gn,q.gh⟩
end
theorem loan_outO{md:Mode}{K:W.Frag}{G H:Hp}{fp f1 b0:List Addr}{p:Addr}{GU:List (Key×V)}{o:Obj}{i:Nat}{vs:List D}{D0:Ends}{r:Res Out}(gp:G p=none)(My:Step G H fp G H (p::b0))(NF:∀z∈f1,z∈p::b0)(hf:∀kv∈GU,fitK kv.1)(rs:Reps K G vs (GU.map (·.2)))
  (k:OutOk (md:=md) K G H fp D0 (r.bind (uR i p (.dct false (GU.map fun kv=>kD kv.1) vs)))):OutOk (md:=md) K (upd G p (.frz o (.dK GU))) (upd H p (.frz o (.dK GU))) f1 (MW p o GU D0) r:=by
 cases r with
 |bad=>exact k
 |exc c=>exact k
 |ok out=>
  have k:OutOk (md:=md) K G H fp D0 (uR i p (.dct false (GU.map fun kv=>kD kv.1) vs) out):=k;unfold uR at k;split at k
  ·rename_i e';split at k
   ·rename_i IB;rw[TL]at IB;obtain⟨h1,h2⟩:=IB;unfold l0 at h1;split at h1
    ·rename_i q' d' hq';rw[T1]at h1;subst h1;intro σ' H' G' GZ st rl;obtain⟨z,G2,fz,G9,Qf⟩:=loan_backO (G:=G) (H:=H) (fp:=q'::b0) gp Tq NF st rl hq' h2 hf rs;have Hr:=(TH.mp hq').1;have SG:=Qf.unpin (i:=i) (c:=.d) (by rw[U8 Hr]);rw[VI]at SG;exact⟨z,k σ' _ G2 fz (My.trans G9) SG⟩
    ·cases h1
   ·exact k.elim
  ·exact k.elim
section
variable{X:Cx}{md:Mode}
theorem z5{i:Nat}{tg iter:Expr}{body:List Stmt}{a:FG}{g:FS}{pos:Pos}(hp:PassesOwn (model X.prog X.w) X.A X.env X.xe)(hc:X.calm=true)(hn:PE X iter (sd i))(hg:QG X tg a)(hb:LJ (md:=md) X body g)(hs:∀x,foldedSetIterable iter X.env x=pure x:=by intro _;rfl):
  QS (md:=md) X (.For tg iter body [] pos) (uS i a g):=
 d4 (uJ (sJ hp hc (uI hn) hg hb hs)) fun D0 σ H Hc=>by
  obtain⟨G,env,fp,rel,k⟩:=Hc;unfold uS at k;split at k
  ·rename_i ks vs hi;obtain⟨v,fq,ev,g1,My,_⟩:=rel.out hi;obtain⟨y,ys,e0,v',a0,b0,e1,e2,r1,r2⟩:=g1.rep;cases e0;cases e1;rw[RepO]at r1;obtain⟨p,xs,o0,Q3,hH,dd,ea,rs⟩:=r1;subst Q3;subst ea;subst e2;rcases z4 (fun p=>(dM a g ks (env.set i (some (.pin p .f,.dct false ks vs)))).bind (uR i p (.dct false ks vs))) with eb|eb
   ·rw[eb]at k;exact k.elim
   rw[eb p]at k;clear eb;obtain⟨GU,eo,ek,ex,hf⟩:=(show ∃GU:List (Key×V),o0=.dK GU/\ks=GU.map (fun kv=>kD kv.1)/\xs=GU.map (·.2)/\∀kv∈GU,fitK kv.1 from dd)
   subst eo ex ek;have nd:=UG.mp (show(p::b0).Nodup from g1.nd);have gp:G p=none:=g1.gn p Tq;have Qg:∀z∈b0,z≠p:=fun z hz e=>nd.1 (e▸hz)
   refine⟨p,GU,hH,fun o=>?_⟩;have Qh:Same G (upd G p (.frz o (.dK GU))):=fun z u e=>by rw[ak (aG e gp)];exact e
   have OC:Rel X.K (upd G p (.frz o (.dK GU))) (upd H p (.frz o (.dK GU))) (some (.pin p .f,.dct false (GU.map fun kv=>kD kv.1) vs)::env.set i none) (some (.ref p)::σ) b0:=by
    refine⟨⟨_,_,rfl,.ref p,[],b0,rfl,rfl,?_,r2.step Qh fun z hz=>ak (Qg z hz)⟩,nd.2,fun z hz=>?_,fun z u e=>?_⟩
    ·rw[RepO];refine⟨rfl,d3.mpr ⟨?_,rfl⟩⟩;rw[Rep];exact⟨p,GU.map (·.2),.dK GU,rfl,.inr ⟨o,aD⟩,⟨GU,rfl,rfl,rfl,hf⟩,Reps.mono Qh rs⟩
    ·rw[ak (Qg z hz)];exact g1.gn z (Tu _ hz)
    ·by_cases hz:z=p
     ·subst hz;rw[aD]at e ⊢;exact e
     ·rw[ak hz]at e ⊢;exact g1.gh z u e
   obtain⟨f1,GY,Hh⟩:=OC.back (i:=i) (by rw[UA];exact(TH.mp hi).1) ev;rw[VI]at GY;have NF:∀z∈f1,z∈p::b0:=fun z hz=>by
    rcases Hh.fpn z hz with h|h
    ·exact Tu _ h
    ·exfalso;obtain⟨u,hu⟩:=GY.rep.live z hz;rw[h]at hu;cases hu
   refine⟨.ref p,ev,p,o,GU,rfl,aD,?_⟩;have k1:=loan_outO (o:=o) (G:=G) (H:=H) (fp:=fp) gp My NF hf rs k;have wk:Walk X.K (upd G p (.frz o (.dK GU))) (Pq o GU.length p) (GU.map fun kv=>kD kv.1):=nR aD hf;generalize (GU.map fun kv=>kD kv.1)=ds at k1 wk GY;refine⟨fun j m σ' H'=>m=ds.length-j/\j<=ds.length/\∃G' env' GZ,Same (upd G p (.frz o (.dK GU))) G'/\Rel X.K G' H' env' σ' GZ/\OutOk (md:=md) X.K G' H' GZ (MW p o GU D0) (dM a g (ds.drop j) env'),⟨_,rfl,Um _,_,_,f1,.refl _,GY,k1⟩,?_⟩;rintro j m σ2 H2 ⟨rfl,hj,G2,Hd,Hz,gg,GW,k2⟩;obtain⟨w1,w2⟩:=wk G2 H2 _ _ _ gg GW j;by_cases Hr:j<ds.length
   ·have hd:ds[j]?=some ds[j]:=To Hr;obtain⟨go,yl⟩:=w1 _ hd;rw[UZ Hr]at k2;refine .inr ⟨go,fun σ' H'=>∃G' env' GZ,Same (upd G p (.frz o (.dK GU))) G'/\Rel X.K G' H' env' σ' GZ/\OutOk (md:=md) X.K G' H' GZ (MW p o GU D0) (dM a g (ds.drop (j+1)) env'),fun σ' H' z=>⟨ds.length-(j+1),by lia,rfl,Hr,z⟩,fun x H3 y=>?_⟩;obtain⟨G3,rx,HB,Hx⟩:=yl x H3 y;unfold dM at k2;match q3:a ds[j] Hd,k2 with
    | .ok HE,k2=>
     refine⟨G3,Hd,Hz,ds[j],HE,HB,rx,q3,fun σ4 G4 P2 H0 Iy=>⟨G4,HE,P2,Iy,?_⟩⟩;have k3:OutOk (md:=md) X.K G2 H2 Hz (MW p o GU D0) ((g HE).bind fun o=>match o with | .nx e=>dM a g (ds.drop (j+1)) e | .ct e=>dM a g (ds.drop (j+1)) e | .bk e=>.ok (.nx e) | .rt r=>.ok (.rt r)):=k2;match q4:g HE,k3 with
     | .ok (.nx e),k3=>exact fun σ' H' G' GZ st rel=>⟨G',e,GZ,gg.trans (Hx.gg.trans (H0.gg.trans st.gg)),rel,OutOk.after (Hx.trans (H0.trans st)) k3⟩
     | .ok (.ct e),k3=>exact fun σ' H' G' GZ st rel=>⟨G',e,GZ,gg.trans (Hx.gg.trans (H0.gg.trans st.gg)),rel,OutOk.after (Hx.trans (H0.trans st)) k3⟩
     | .ok (.bk e),k3=>exact fun σ' H' G' GZ st rel=>k3 σ' H' G' GZ (Hx.trans (H0.trans st)) rel
     | .ok (.rt r),k3=>exact fun v H' G' GZ st rel=>k3 v H' G' GZ (Hx.trans (H0.trans st)) rel
   ·have e:j=ds.length:=by lia
    subst e;rw[Wn]at k2;exact .inl ⟨w2 rfl,k2 σ2 H2 G2 Hz .refl GW⟩
  ·exact k.elim
end
theorem bt_abs:bootBuiltins "abs" = some (.builtin "abs"):=by decide +kernel
def DB(a:FG)(c:FT)(f:FX)(ds:List D)(E:Addr->PV.Env)(k0:Nat)(d0:D)(x:List D):Prop:=∀q,∃Hd,compLE a c f ds (E q)=.ok (x,Hd)/\Hd[k0]?=some (some (.pin q .d,d0))
open Classical in
def pb(a:FG)(c:FT)(f:FX)(ds:List D)(E:Addr->PV.Env)(k0:Nat)(d0:D):Res (List D):=if h:∃x,DB a c f ds E k0 d0 x then .ok h.choose else .bad
theorem xb{a:FG}{c:FT}{f:FX}{ds:List D}{E:Addr->PV.Env}{k0:Nat}{d0:D}{x:List D}(h:DB a c f ds E k0 d0 x):pb a c f ds E k0 d0=.ok x:=by
 have ex:∃x,DB a c f ds E k0 d0 x:=⟨x,h⟩
 unfold pb;rw[dif_pos ex];obtain⟨e1,h1,_⟩:=ex.choose_spec 0;obtain⟨e2,h3,_⟩:=h 0;rw[h1]at h3;exact UN Res.ok (UN Prod.fst (Res.ok.inj h3))
theorem xc{a:FG}{c:FT}{f:FX}{ds:List D}{E:Addr->PV.Env}{k0:Nat}{d0:D}{x:List D}(h:pb a c f ds E k0 d0=.ok x):DB a c f ds E k0 d0 x:=by
 unfold pb at h;split at h
 ·rename_i ex;cases h;exact ex.choose_spec
 ·cases h
noncomputable def k8(fi:FI)(ix:List (Option Nat))(j k0:Nat)(a:FG)(c:FT)(f:FX):FX:=fun env=>(fi env).bind fun p=>match p.2[j]? with
 |some (some (.d,.dct false ks vs))=>(pb a c f p.1 (fun q=>(cq ix (p.2.set j none)).set k0 (some (.pin q .d,.dct false ks vs))) k0 (.dct false ks vs)).bind fun x=>if x.length<=sizeLine/\G0 x=true/\G0 vs=true then .ok ((.l .f,.lst x),p.2) else .bad
 |_=>.bad
theorem Cp{K:W.Frag}{fi:FI}{ix:List (Option Nat)}{j k0:Nat}{a:FG}{c:FT}{f:FX}{σ:L2.St}{H:Hp}{Q:VK}(hk:ix[k0]?=some (some j))(h:tQ K (k8 fi ix j k0 a c f) σ H Q):rj (tQI K fi) ix (tQG K a) (tQT K c) (tQ K f) σ H Q:=by
 obtain⟨G,env,fp,r,env',rel,e,k⟩:=h;obtain⟨⟨ds,GV⟩,e1,e⟩:=ai e;refine⟨G,env,fp,ds,GV,rel,e1,fun J H1 G1 Hq Hh GY wk D hD=>?_⟩;dsimp only at e;split at e
 ·rename_i ks vs hj
  ·obtain⟨rs,e2,e⟩:=ai e;split at e
   ·rename_i hz;injection e with e;injection e with e5 e6;subst e5;subst e6;obtain⟨v0,aa,b,ev,r0,r2,pm⟩:=GY.rep.take hj;have r0:RepO K G1 H1 .d (.dct false ks vs) v0 aa:=r0;have r00:=r0;rw[RepO]at r0;obtain⟨q,xs0,o0,eq,hq,dd0,ea,rs0⟩:=r0;subst eq ea;have nd:=T7.mp (pm.nodup_iff.mp GY.nd);have MT:Rel K G1 H1 (GV.set j none) σ b:=⟨r2,nd.2.1,fun w hw=>GY.gn w (pm.mem_iff.mpr (Tp _ hw)),GY.gh⟩
    obtain⟨G2,MM,Of,RS,Jc,Ii⟩:=MT.lendM [q] (fun w hw hb=>nd.2.2 w hw w hb rfl) (fun w hw=>GY.gn w (pm.mem_iff.mpr (Tx _ hw)));have rE:=d6 (H:=H1) Jc (fun i r er=>let⟨v,ev,_⟩:=MT.view er;⟨v,ev⟩) ix;have RB:(cq ix (GV.set j none))[k0]?=some none:=by
     unfold cq;rw[TN,hk];show some (match(GV.set j none)[j]? with|some (some r)=>some (O.f,r.2)|_=>none)=_;rw[U8 (TH.mp hj).1]
    have JZ:(fH ix σ)[k0]?=some (some (.ref q)):=by
     unfold fH;rw[TN,hk];show some ((σ[j]?).bind id)=_;rw[ev];rfl
    have rP:RepO K G2 H1 (.pin q .d) (.dct false ks vs) (.ref q) [q]:=by
     rw[RepO];refine⟨rfl,?_⟩;rw[RepO];exact⟨q,xs0,o0,rfl,hq,dd0,rfl,rs0.mono MM⟩
    obtain⟨SH,SI,RX⟩:=rE.put (i:=k0) (r:=(.pin q .d,.dct false ks vs)) (v:=.ref q) RB rP;rw[hZ JZ]at SI;have GW:Rel K G2 H1 ((cq ix (GV.set j none)).set k0 (some (.pin q .d,.dct false ks vs))) (fH ix σ) SH:=⟨SI,RX.symm.nodup_iff.mp (UG.mpr ⟨U1,V0⟩),(fun w hw=>RS w (by have:=RX.mem_iff.mp hw;simpa using this)),Of⟩
    have My:Step G2 H1 [q] G2 H1 SH:=Step.cut fun w hw=>by have:=RX.mem_iff.mp hw;simpa using this
    obtain⟨HB,Hx⟩:=GW.newL (ds:=[]) (xs:=[]) hD .nil;obtain⟨Qi,eL,eK⟩:=xc e2 q;dsimp only at eL eK;refine⟨fun i m σ1 H2=>m=ds.length-i/\i<=ds.length/\∃G' es GZ acc bG,Step G2 H1 [q] G' H2 GZ/\Rel K G' H2 (some (.l .f,.lst acc)::es) (some (.ref D)::σ1) GZ/\compLE a c f (ds.drop i) es=.ok (bG,Qi)/\acc++bG=rs,
     ⟨_,rfl,Um _,G2,_,_,[],rs,My.trans Hx,HB,eL,rfl⟩,?_⟩
    rintro i m σ1 H2 ⟨rfl,hi,G3,es,IY,acc,bG,H0,Iy,e4,JQ⟩;obtain⟨w1,w2⟩:=wk G3 H2 _ _ _ (MM.trans H0.gg) Iy i;by_cases Hr:i<ds.length
    ·have hd:ds[i]?=some ds[i]:=To Hr;obtain⟨go,yl⟩:=w1 _ hd;rw[UZ Hr]at e4;unfold compLE at e4;obtain⟨P6,h1,e4⟩:=ai e4;obtain⟨⟨b',L6⟩,h2,e4⟩:=ai e4;dsimp only at e4;refine .inr ⟨go,fun x H3 y=>?_⟩;obtain⟨G4,rx,IQ,Ja⟩:=yl x H3 y;obtain⟨fa,fb,Om,ra,L7,bk⟩:=IQ.frame;refine⟨G4,es,fb,ds[i],P6,L7,rx,h1,fun σ2 G5 NC MS Kn=>?_⟩;refine⟨G5,P6,NC,b',L6,Kn,h2,fun H6 G6 Mw P7 K5=>?_⟩;have L8:=MS.trans P7;cases b' with
     |false=>
      refine iteF ⟨ds.length-(i+1),by lia,rfl,Hr,?_⟩;obtain⟨Ko,Lm⟩:=bk G6 H6 L6 σ2 Mw L8 K5;rw[<-Om]at Lm;exact⟨G6,L6,_,acc,bG,H0.trans (Ja.trans Lm),Ko,e4,JQ⟩
     |true=>
      have e4:((f L6).bind fun q=>(compLE a c f (ds.drop (i+1)) q.2).bind fun rs=>.ok (q.1.2::rs.1,rs.2))=.ok (bG,Qi):=e4;obtain⟨⟨r,Oo⟩,h3,e4⟩:=ai e4;obtain⟨⟨L9,envE'⟩,h4,e4⟩:=ai e4;cases e4;refine Bx ⟨G6,L6,Mw,r,Oo,K5,h3,fun v H7 G7 fp7 RL Oq=>?_⟩;obtain⟨G8,RN,rv,Ot,RO⟩:=Oq.freeze;obtain⟨Ko,Lm⟩:=bk G8 H7 Oo σ2 RN (L8.trans (RL.trans RO)) Ot;rw[<-Om]at Lm;obtain⟨p,xs,ep,hp,LK,cg⟩:=Ko.chg (i:=0) (ds:=acc) (ds':=acc++[r.2]) rfl;have ep:some (some (V.ref D))=some (some (V.ref p)):=ep;cases ep;obtain⟨fq,Ou,RP⟩:=cg (xs++[v]) (LK.app (.one rv));refine⟨xs,hp,?_,ds.length-(i+1),by lia,rfl,Hr,G8,Oo,fq,acc++[r.2],L9,H0.trans (Ja.trans (Lm.trans RP)),Ou,h4,?_⟩
      ·rw[LK.length];have:=UN List.length JQ;rw[UC,TQ]at this;have:=hz.1;lia
      ·rw[<-JQ,US];rfl
    ·have ei:i=ds.length:=by lia
     subst ei;rw[Wn]at e4;cases e4;rw[Ui]at JQ;subst JQ;refine .inl ⟨w2 rfl,?_⟩;obtain⟨fa,fb,Om,ra,L7,bk⟩:=Iy.frame;obtain⟨v1,fq1,Q3,Ma,P8,_⟩:=L7.out eK;obtain⟨fx,Qj,stx⟩:=Ma.only;have RF:v1=.ref q:=by
      obtain⟨y,ys,ey,v2,a2,b2,RT,SD,Oz,SE⟩:=Qj.rep;cases ey;cases RT;have Oz:RepO K G3 H2 (.pin q .d) (.dct false ks vs) v1 a2:=Oz;rw[RepO]at Oz;exact Oz.1
     subst RF;obtain⟨Ko,Lm⟩:=bk G3 H2 _ _ fx (P8.trans stx) Qj;rw[<-Om]at Lm;obtain⟨G5,NC,Ja,IQ⟩:=Ii H2 G3 _ _ _ (H0.trans Lm) Ko (fun w hw=>by
      rcases TF.mp hw with hw|hw
      ·cases hw;rw[aP,ia];exact hz.2.1
      ·rw[Ul]at hw;cases hw;rw[aP,aP];exact hz.2.2)
     obtain⟨a1,b1,ef,ro,Iv,comb⟩:=Rel.frame IQ;have Oy:Rel K G5 H2 (some (.d,.dct false ks vs)::GV.set j none) (some (.ref q)::σ) b1:=Iv.unpin (i:=0) rfl;obtain⟨fq,MU,RU⟩:=Oy.back (i:=j) (by rw[UA];exact(TH.mp hj).1) ev;rw[VI]at MU;obtain⟨MV,Qe⟩:=comb G5 H2 _ _ fq RU MU;rw[<-ef]at Qe;rw[hZ hj]at MV;exact k _ H2 G5 _ (Hh.trans ((Ja.perm (fun w=>pm.mem_iff.symm) (fun w hw=>hw)).trans Qe)) MV
   ·cases e
 ·cases e
section
variable{md:Mode}{X:Cx}{scope:Scope}{N:List Str}{tg iter elt:Expr}{ifs:List Expr}{pos:Pos}{fi:FI}{a:FG}{c:FT}{f:FX}{j k0:Nat}
theorem xf(ix:List (Option Nat))(N:List Str)(hc:X.calm=true)(hi:QI X tg iter fi)(hg:∀C s H fp pn,QG (bJ X scope N C s H fp pn) tg a)(ht:∀C s H fp pn,Og (bJ X scope N C s H fp pn) ifs c)(he:∀C s H fp pn,QE (bJ X scope N C s H fp pn) elt f)
  (hkj:ix[k0]?=some (some j):=by rfl)
  (hf:c9 scope X.env=true:=by rfl) (hk:scope.kind=.function:=by rfl) (Hk:∀y∈scope.names,y.2≠.cell:=by decide +kernel) (Hu:∀y∈scope.names,y.2=.local->scope.names.lookup y.1=some .local:=by decide +kernel) (HZ:mY X scope N ix=true:=by rfl)
  (hs:∀x,foldedSetIterable iter X.env x=pure x:=by intro _;rfl):QE X (.ListComp elt [⟨tg,iter,ifs,0⟩] scope pos) (k8 fi ix j k0 a c f):=
 bK (tj (g:=tQG X.K a) (tc:=tQT X.K c) (te:=tQ X.K f) ix N hc hi hg ht he hf hk Hk Hu HZ hs) fun _ _ _=>Cp hkj
end
end PV
namespace NX
open PySem PySem.Spec PyProof.Rows L2
section
open PySem.AutoSeq1 (wpAny_loadPart')
end
end NX
namespace PV
open PySem PySem.Spec PyProof.Rows L2 NX
section
variable{X:Cx}
end
section
variable{X:Cx}
theorem qu{i:Int}(h:i.natAbs.log2<900000):Builtin.Int.intBits i<=2 ^ 20:=by
 unfold Builtin.Int.intBits;have e:(2:Nat) ^ 20=1048576:=by decide
 split
 ·exact Um _
 ·lia
theorem z6:HI X (binaryOp .Mult) (rI (fun i j=>i.natAbs.log2<900000/\j.natAbs.log2<900000) fun i j=>.int (i*j)):=Nz fun _ _ _ _ _ _ _ hc q=>mul_int q (.of_bits (qu hc.1) (qu hc.2))
def iO(a b:D):Res R:=match a,b with
 | .int i,.int j=>if i.natAbs.log2<900000/\j.natAbs.log2<900000 then .ok (.f,.int (i*j)) else .bad
 |a,b=>AO a b
theorem cv:HI X (binaryOp .Mult) (rG X.K iO):=by
 rintro pr s σ H x y v u Q I rx ry ⟨G,fp,es,vs,a,b,r,⟨rel,k⟩,va,vb,e⟩;unfold iO at e;split at e
 ·rename_i i j;split at e
  ·rename_i hc;cases e;cases bg va;cases bg vb;exact z6 pr s σ H _ _ v u Q I rx ry ⟨i,j,rfl,rfl,hc,k _ H G fp .refl (rel.push (rep_int _))⟩
  ·cases e
 ·exact zQ pr s σ H x y v u Q I rx ry ⟨G,fp,es,vs,_,_,r,⟨rel,k⟩,va,vb,e⟩
theorem xg:HI X (binaryOp .FloorDiv) (rI (fun _ j=>j≠0/\j.natAbs.log2<9000) fun i j=>.int (i.fdiv j)):=Nz fun _ _ _ _ _ _ _ hc q=>floordiv_int hc.1 q (.inl (PyProof.noPylong_of_log2 hc.2))
def l6:D->D->Res R
 | .int i,.int j=>if j≠0/\j.natAbs.log2<9000 then .ok (.f,.int (i.fdiv j)) else .bad
 |_,_=>.bad
theorem l7:HI X (binaryOp .FloorDiv) (rG X.K l6):=by
 rintro pr s σ H x y v u Q I rx ry ⟨G,fp,es,vs,a,b,r,⟨rel,k⟩,va,vb,e⟩;unfold l6 at e;split at e
 ·rename_i i j;split at e
  ·rename_i hc;cases e;cases bg va;cases bg vb;exact xg pr s σ H _ _ v u Q I rx ry ⟨i,j,rfl,rfl,hc,k _ H G fp .refl (rel.push (rep_int _))⟩
  ·cases e
 ·cases e
end
section
variable{K:W.Frag}{G H:Hp}
end
section
variable{X:Cx}{md:Mode}
end
section
variable{K:W.Frag}{G H:Hp}
end
section
variable{X:Cx}
end
end PV
namespace LW
open PySem L2 NX PV
abbrev yf(f:FX):FI:=HR (BY f) (HR (fD f) (fE f))
def nU:FS:=(dJ (bL zy (ag (aq (cy (nJ (ag (aq (aB 0)) (ag (aq (aB 1)) ay))) [none,none] (iG 2 (aE (aw 0) (aE (aw 1) cQ))) gT (aF iO (aj 0) (aj 1)))) ay)))
def bY:List D->Res R:=fBody 2 0 nU
noncomputable def qw:FS:=(dJ (bL gD (ag (aq (cy (cB (aj 2)) [none,some 0,some 1] (aw 0) gT (bL zy (ag (aq (cy (nJ (ag (aq (aB 1)) (ag (aq (aB 2)) ay))) [none,none,some 0] (iG 2 (aE (aw 0) (aE (aw 1) cQ))) gT (aF iO (aq (aF Hw (aj 0) (aj 2))) (aj 1)))) ay)))) ay)))
def eN:List D->Res R:=fBody 3 0 qw
def aO:FS:=(sSeq (cM 2 (aF Co (aj 0) (aj 1)))
  (sSeq (cM 0 (aB 1))
  (cM 1 (aB 2))))
def dE:FS:=(cN (Hs (a7 Jp (aj 1) (aq (aH (.int 0)))))
  aO 100000)
def dm:FS:=(dJ (bL AN (ag (aj 0) ay)))
def fu:FS:=(sSeq dE
  dm)
def aT:List D->Res R:=fBody 2 1 fu
def eO:FS:=(cM 1 (cK aT (ag (aj 1) (ag (aj 2) ay))))
def k9:FS:=(rD (yf (aB 0)) (aw 2)
  eO)
def jZ:FS:=(sSeq (Jm (Hs (a7 eqO (aj 1) (aq (aH (.int 0)))))
  (dJ (ky 0))
  cY)
  (dJ (bL gD (ag (aq (cy (HR (gA 0) (HR (fD (aB 0)) (fE (aB 0)))) [none,some 1] (aw 0) gT (aF l6 (aj 0) (aj 1)))) ay))))
def qx:FS:=(sSeq (cM 1 (aH (.int 0)))
  (sSeq k9
  jZ))
def cm:List D->Res R:=fBody 1 2 qx
noncomputable def nV:FS:=(sSeq (Jm (Hs (a7 eqO (aq (aF Hw (aj 0) (aj 1))) (aq (aH (.int 0)))))
  (dJ (ky 0))
  cY)
  (dJ (cK eN (ag (aq (lP (bM (aB 0) (bM (aB 2) cR)))) (ag (aq (lP (bM (aF Hw (aj 2) (aj 1)) (bM (oF (aq (aF Hw (aj 0) (aj 1)))) cR)))) (ag (aq (bL fO (ag (aj 0) ay))) ay))))))
def cD:List D->Res R:=fBody 3 0 nV
def cp:FS:=(Ce 3 (aB 4) (cK cm (ag (aq (cK cD (ag (aq (aF Mx (aj 0) (aj 4))) (ag (aj 1) (ag (aj 2) ay))))) ay)))
def dn:FS:=(nP 0 (aw 4)
  cp)
def fw:FS:=(sSeq (Ce 3 (aB 1) (aB 2))
  (rN 0 (ky 3)))
def ij:FS:=(sSeq (cM 3 (eNewD false))
  (sSeq dn
  fw))
def bE:Addr->List D->Res R:=jY 3 2 (.d) ij
def cE:FS:=(cM 3 (cK cD (ag (aj 3) (ag (aj 4) (ag (aq (aF Mx (aj 1) (aj 4))) ay)))))
def dO:FS:=(uS 1 (aw 4)
  cE)
noncomputable def bN:FS:=(sSeq (cM 5 (cy (i7 (ag (aq (aB 3)) ay)) [none,none] (iG 2 (aE (aw 0) (aE (aw 1) cQ))) (Hs (a7 Jp (aj 1) (aq (aH (.int 0))))) (aB 0)))
  (Jm (Hs (aF Oh (aq (bL fO (ag (aj 5) ay))) (aq (aH (.int 0)))))
  (cM 1 (eFunW (.d) bE 1 (ag (aj 1) (ag (aq (aF Hw (aj 5) (aq (aH (.int 0))))) (ag (aq (cK cm (ag (aj 3) ay))) ay)))))
  cY))
def bZ:FS:=(sSeq (cM 3 (aB 2))
  (sSeq dO
  bN))
def gF:FS:=(rD (yf (aB 0)) (aw 2)
  bZ)
def fP:FS:=(dJ (ky 1))
def i8:FS:=(sSeq (cM 1 (eNewD false))
  (sSeq gF
  fP))
def aK:List D->Res R:=fBody 1 5 i8
def dq:FS:=(nM 6 (aB 4) (aF iO (aq (oF (aq (aF Hw (aq (aF Mx (aj 0) (aj 4))) (aj 1))))) (aq (aF l6 (aj 3) (aq (aF Hw (aq (aF Mx (aj 0) (aj 4))) (aj 4)))))))
def dP:FS:=(nP 0 (aw 4)
  dq)
def fQ:FS:=(rN 0 (cK cm (ag (aq (bL gD (ag (aj 6) ay))) ay)))
def du:FS:=(sSeq (cM 5 (aF Hw (aq (aF Mx (aj 0) (aj 4))) (aj 4)))
  (cM 3 (aF l6 (aq (bL AN (ag (aq (aF iO (aj 3) (aj 5))) ay))) (aq (cK aT (ag (aj 3) (ag (aj 5) ay)))))))
def dQ:FS:=(nP 0 (aw 4)
  du)
def fR:FS:=(sSeq (cM 6 (aF iO (aq (lP (bM (aH (.int 0)) cR))) (aj 2)))
  (sSeq (nM 6 (aB 1) (aB 3))
  (sSeq dP
  fQ)))
def i9:FS:=(sSeq (cM 3 (aH (.int 1)))
  (sSeq dQ
  fR))
def aI:Addr->List D->Res R:=jY 3 4 (.d) i9
def qy:FS:=(sSeq (cM 2 (cK aK (ag (aj 0) ay)))
  (dJ (k8 (cB (aj 1)) [none,some 2,some 1] 2 1 (aw 0) (Hs (a7 qo (aj 0) (aj 1))) (eFunW (.d) aI 1 (ag (aj 1) (ag (aj 0) (ag (aj 2) ay)))))))
def gs:List D->Res R:=fBody 2 1 qy
def ik:FS:=(sSeq (cM 2 (cK aK (ag (aj 0) ay)))
  (sSeq (Jm (Hs (a7 Qb (aq (aF zv (aj 1) (aq (aH (.int 1))))) (aj 2)))
  (dJ (aH .non))
  cY)
  (dJ (eFunW (.d) aI 2 (ag (aj 2) (ag (aq (aF zv (aj 1) (aq (aH (.int 1))))) (ag (aj 1) ay)))))))
def bo:List D->Res R:=fBody 2 1 ik
noncomputable def j0:FS:=(sSeq (cM 2 (aF g8 (aq (bL oV (ag (aj 0) ay))) (aq (lP (bM (aB 1) cR)))))
  (sSeq (cM 3 (cy (cB (aq (bL fO (ag (aj 1) ay)))) [none,some 2] (aw 0) gT (bL gD (ag (aq (cy (HR (gA 1) (HR (fD (aB 1)) (fE (aB 1)))) [none,some 0] (aw 0) gT (aF Hw (aj 0) (aj 1)))) ay))))
  (sSeq (cM 4 (cK bo (ag (aj 3) (ag (aq (bL fO (ag (aj 2) ay))) ay))))
  (sSeq (Jm (Hs (a7 Mu (aj 4) (aq (aH .non))))
  (dJ (v5 (bM (aH (.str [114,111,119])) (bM (aF Hw (aq (cy (yf (cK gs (ag (aj 0) (ag (aq (bL fO (ag (aj 1) ay))) ay)))) [none,some 1] (aw 0) (Hs (a7 Jp (aq (cK bY (ag (aj 0) (ag (aj 1) ay)))) (aq (aH (.int 0))))) (aB 0))) (aq (aH (.int 0)))) cR))))
  cY)
  (dJ (v5 (bM (aH (.str [115,117,109])) (bM (aF Hw (aj 4) (aq (oF (aq (aH (.int 1)))))) (bM (cy (yf (yc (aj 4) oT (lQ (oF (aq (aH (.int 1))))))) [none] (aw 0) gT (oF (aj 0))) cR)))))))))
def bO:List D->Res R:=fBody 2 3 j0
noncomputable def bS:FS:=(Jm (zV (Hs (a7 eqO (aq (aF Hw (aq (cK bO (ag (aq (cy (HR (gA 1) (HR (fD (aB 1)) (fE (aB 1)))) [none,some 0] (aw 0) gT (aF Hw (aj 1) (aj 0)))) (ag (aj 3) ay)))) (aq (aH (.int 0))))) (aq (aH (.str [114,111,119]))))))
  (oQ (AM 1 (aB 2)))
  cY)
def fS:FS:=(rD (i7 (ag (aq (aB 0)) ay)) (iG 2 (aE (aw 2) (aE (aw 3) cQ)))
  bS)
def fA:FS:=(dJ (ky 1))
def il:FS:=(sSeq (cM 1 (lP cR))
  (sSeq fS
  fA))
def b7:List D->Res R:=fBody 1 3 il
def j3:FS:=(dJ (cK bo (ag (aq (cy (HR (gA 0) (HR (fD (aB 0)) (fE (aB 0)))) [none] (aw 0) gT (aF g8 (aj 0) (aq (v5 (bM (oF (aq (aH (.int 1)))) cR)))))) (ag (aq (aF g8 (aj 1) (aq (aH (.int 1))))) ay))))
def b5:List D->Res R:=fBody 2 0 j3
def bc:FS:=(Jm (Hs (aF Kw (aq (cK bY (ag (aj 3) (ag (aq (yc (aj 1) oT (lQ (oF (aq (aH (.int 1))))))) ay)))) (aq (aF Hw (aj 1) (aq (oF (aq (aH (.int 1)))))))))
  (dJ (ky 2))
  cY)
def dw:FS:=(rD (i7 (ag (aq (aB 0)) ay)) (iG 2 (aE (aw 2) (aE (aw 3) cQ)))
  bc)
def jl:FS:=(dJ (aH .non))
def iq:FS:=(sSeq dw
  jl)
def br:List D->Res R:=fBody 2 2 iq
def eh:FS:=(nM 6 (aB 7) (oF (aj 8)))
def nW:FS:=(rD (nJ (ag (aq (aB 2)) (ag (aq (aF Hw (aj 5) (aq (aH (.int 2))))) ay))) (iG 2 (aE (aw 7) (aE (aw 8) cQ)))
  eh)
noncomputable def cS:FS:=(sSeq (cM 9 (cy (HR (gA 2) (HR (fD (aB 2)) (fE (aB 2)))) [none,some 6] (aw 0) (Hs (aF Kw (aq (aF Hw (aj 1) (aj 0))) (aq (aH (.int 0))))) (aB 0)))
  (sSeq (Jm (Hs (a7 eqO (aq (bL fO (ag (aj 9) ay))) (aq (aH (.int 0)))))
  (dJ (v5 (bM (aH (.str [115,117,109])) (bM (aB 6) cR))))
  cY)
  (cM 2 (bL jT (ag (aq (aF g8 (aq (cy (HR (gA 2) (HR (fD (aB 2)) (fE (aB 2)))) [none,some 9] (aw 0) (Hs (a7 Jp (aj 0) (aq (aF Hw (aj 1) (aq (aH (.int 0))))))) (aB 0))) (aq (lP (bM (aB 4) cR))))) ay)))))
noncomputable def cx:FS:=(sSeq (cM 3 (cK b5 (ag (aq (cy (HR (gA 2) (HR (fD (aB 2)) (fE (aB 2)))) [none,some 0] (aw 0) gT (aF Hw (aj 1) (aj 0)))) (ag (aj 1) ay))))
  (sSeq (cM 4 (cK br (ag (aj 0) (ag (aj 3) ay))))
  (sSeq (Jm (Hs (a7 Mu (aj 4) (aq (aH .non))))
  (dJ (v5 (bM (aH (.str [114,111,119])) (bM (yc (aj 3) oT (lQ (oF (aq (aH (.int 1)))))) cR))))
  cY)
  (sSeq (cM 5 (cK bO (ag (aq (cy (HR (gA 2) (HR (fD (aB 2)) (fE (aB 2)))) [none,some 0] (aw 0) gT (aF Hw (aj 1) (aj 0)))) (ag (aq (aF Hw (aj 0) (aj 4))) ay))))
  (sSeq (cM 6 (aF iO (aq (lP (bM (aH (.int 0)) cR))) (aq (bL fO (ag (aj 0) ay)))))
  (sSeq (nM 6 (aB 4) (aF Hw (aj 5) (aq (aH (.int 1)))))
  (sSeq nW
  cS)))))))
def nX:FS:=(cN (Hs (aH (.bl true)))
  cx 100000)
def uT:FS:=(sSeq (cM 2 (cK b7 (ag (aj 0) ay)))
  nX)
def c5:List D->Res R:=fBody 2 8 uT
def cT:FS:=(cM 2 (aF g8 (aj 2) (aq (aF iO (aq (aF Hw (aj 0) (aj 3))) (aq (aF Hw (aj 1) (aj 3)))))))
def fB:FS:=(rD (cB (aq (bL fO (ag (aj 0) ay)))) (aw 3)
  cT)
def eA:FS:=(dJ (ky 2))
def gG:FS:=(sSeq (cM 2 (aH (.int 0)))
  (sSeq fB
  eA))
def aW:List D->Res R:=fBody 2 2 gG
def eP:FS:=(nM 3 (aB 6) (aF g8 (aq (aF Hw (aj 3) (aj 6))) (aq (aF iO (aq (aF Hw (aj 4) (aj 6))) (aj 5)))))
def fT:FS:=(rD (cB (aj 2)) (aw 6)
  eP)
def ir:FS:=fT
def ja:FS:=(rD (nJ (ag (aq (aB 0)) (ag (aq (aB 1)) ay))) (iG 2 (aE (aw 4) (aE (aw 5) cQ)))
  ir)
def iu:FS:=(dJ (bL gD (ag (aj 3) ay)))
def lb:FS:=(sSeq (cM 3 (aF iO (aq (lP (bM (aH (.int 0)) cR))) (aj 2)))
  (sSeq ja
  iu))
def b8:List D->Res R:=fBody 3 4 lb
def jb:FS:=(dJ (Em (Oj "int" (aj 0)) (En (Oj "bool" (aj 0)))))
def m__law_whole:List D->Res R:=fBody 1 0 jb
noncomputable def iw:FS:=(sSeq (Jm (Pl (BU (Hs (Oj "tuple" (aj 0)))) (Hs (a7 Jp (aq (bL fO (ag (aj 0) ay))) (aj 1))))
  (dJ (aH (.bl false)))
  cY)
  (dJ (a7 qo (aq (aH (.bl false))) (aq (cy (HR (gA 0) (HR (fD (aB 0)) (fE (aB 0)))) [none] (aw 0) gT (cK m__law_whole (ag (aj 0) ay)))))))
def b9:List D->Res R:=fBody 2 0 iw
noncomputable def dG:FS:=(sSeq (Jm (Pl (BU (Hs (Oj "list" (aj 0)))) (Hs (a7 Jp (aq (bL fO (ag (aj 0) ay))) (aj 1))))
  (dJ (aH (.bl false)))
  cY)
  (dJ (a7 qo (aq (aH (.bl false))) (aq (cy (HR (gA 0) (HR (fD (aB 0)) (fE (aB 0)))) [none] (aw 0) gT (cK m__law_whole (ag (aj 0) ay)))))))
def aS:List D->Res R:=fBody 2 0 dG
noncomputable def eQ:FS:=(sSeq (Jm (Pl (BU (Hs (Oj "tuple" (aj 0)))) (Hs (a7 Jp (aq (bL fO (ag (aj 0) ay))) (aq (aH (.int 2))))))
  (dJ (aH (.str [])))
  cY)
  (sSeq (Jm (BS (Hs (a7 eqO (aq (aF Hw (aj 0) (aq (aH (.int 0))))) (aq (aH (.str [114,111,119]))))) (Hs (cK b9 (ag (aq (aF Hw (aj 0) (aq (aH (.int 1))))) (ag (aj 2) ay)))))
  (Jm (Hs (a7 eqO (aq (cy (HR (gA 1) (HR (fD (aB 1)) (fE (aB 1)))) [none,some 0] (aw 0) (Hs (aF Kw (aq (cK aW (ag (aj 0) (ag (aq (aF Hw (aj 1) (aq (aH (.int 1))))) ay)))) (aq (aH (.int 1))))) (aB 0))) (aq (lP cR))))
  (dJ (aH (.str [114,111,119])))
  cY)
  cY)
  (sSeq (Jm (BS (Hs (a7 eqO (aq (aF Hw (aj 0) (aq (aH (.int 0))))) (aq (aH (.str [115,117,109]))))) (Hs (cK aS (ag (aq (aF Hw (aj 0) (aq (aH (.int 1))))) (ag (aq (bL fO (ag (aj 1) ay))) ay)))))
  (Jm (BS (Hs (a7 eqO (aq (cy (yf (aF Hw (aj 0) (aq (aH (.int 1))))) [none] (aw 0) (Hs (aF Kw (aj 0) (aq (aH (.int 0))))) (aB 0))) (aq (lP cR)))) (Hs (a7 Jp (aq (cy (yf (aF Hw (aj 0) (aq (aH (.int 1))))) [none] (aw 0) (Hs (aF Oh (aj 0) (aq (aH (.int 0))))) (aB 0))) (aq (lP cR)))))
  (Jm (Hs (a7 eqO (aq (cK b8 (ag (aj 1) (ag (aq (aF Hw (aj 0) (aq (aH (.int 1))))) (ag (aj 2) ay))))) (aq (aF Cn (aq (v5 (bM (aH (.int 0)) cR))) (aj 2)))))
  (dJ (aH (.str [115,117,109])))
  cY)
  cY)
  cY)
  (dJ (aH (.str []))))))
def aJ:List D->Res R:=fBody 3 0 eQ
def gH:FS:=(sSeq (Jm (Hs (aF Kw (aj 1) (aq (bL fO (ag (aj 0) ay)))))
  (dJ (aF Hw (aj 0) (aj 1)))
  cY)
  (dJ (aH (.int 0))))
def aX:List D->Res R:=fBody 2 0 gH
noncomputable def b6:FS:=(sSeq (cM 2 (aF oS (aq (aF g8 (aq (aF g8 (aq (aF g8 (aq (aF iO (aj 2) (aj 2))) (aq (aF iO (aq (aH (.int 48271))) (aj 2))))) (aq (aF iO (aq (aH (.int 7))) (aj 4))))) (aq (aH (.int 1))))) (aq (aF g8 (aq (aF qf (aq (aH (.int 10))) (aq (aH (.int 40))))) (aq (aH (.int 121)))))))
  (Jm (Hs (a7 eqO (aq (aF oS (aj 0) (aq (aH (.int 5))))) (aq (aH (.int 4)))))
  (oQ (AM 3 (aF zv (aq (aF oS (aj 2) (aq (aF g8 (aq (aF iO (aq (aH (.int 2))) (aq (aF qf (aq (aH (.int 10))) (aq (aH (.int 30))))))) (aq (aH (.int 1))))))) (aq (aF qf (aq (aH (.int 10))) (aq (aH (.int 30))))))))
  (oQ (AM 3 (aF zv (aq (aF oS (aq (aF rJ (aj 2) (aq (aH (.int 1000))))) (aq (aH (.int 9))))) (aq (aH (.int 4))))))))
def gI:FS:=(rD (cB (aj 1)) (aw 4)
  b6)
def fU:FS:=(dJ (bL gD (ag (aj 3) ay)))
def jd:FS:=(sSeq (cM 2 (aF oS (aj 0) (aq (aF qf (aq (aH (.int 10))) (aq (aH (.int 40)))))))
  (sSeq (cM 3 (lP cR))
  (sSeq gI
  fU)))
def bP:List D->Res R:=fBody 2 3 jd
noncomputable def iy:FS:=(sSeq (cM 7 (aF g8 (aq (aF oS (aq (aF iO (aj 7) (aq (aH (.int 48271))))) (aq (aH (.int 2147483647))))) (aq (aH (.int 1)))))
  (oQ (DA 6 (aF oS (aq (aF rJ (aj 7) (aq (aH (.int 7))))) (aq (aF g8 (aq (bL fO (ag (aj 6) ay))) (aq (aH (.int 1)))))) (cK b8 (ag (aq (lP (bM (aB 8) cR))) (ag (aq (lP (bM (aF g8 (aq (aH (.int 1))) (aq (aF oS (aq (aF iO (aj 7) (aj 2))) (aq (aF qf (aq (aH (.int 10))) (aq (aH (.int 12)))))))) cR))) (ag (aj 1) ay)))))))
def pd:FS:=(rD (yf (aB 3)) (aw 8)
  iy)
noncomputable def l8:FS:=(sSeq (Jm (Hs (a7 Jp (aq (cK aJ (ag (aq (cK c5 (ag (aj 6) (ag (aj 1) ay)))) (ag (aj 6) (ag (aj 1) ay))))) (aj 5)))
  (dJ (aH (.bl false)))
  cY)
  (sSeq (Jm (Hs (a7 eqO (aj 3) (aq (lP cR))))
  (dJ (a7 eqO (aj 5) (aq (aH (.str [114,111,119])))))
  cY)
  (sSeq (cM 9 (aF oS (aj 2) (aq (bL fO (ag (aj 3) ay)))))
  (sSeq (cM 10 (aF g8 (aq (yc (aj 3) oT (lQ (aB 9)))) (aq (yc (aj 3) (lQ (aF g8 (aj 9) (aq (aH (.int 1))))) oT))))
  (sSeq (cM 11 (cK aJ (ag (aq (cK c5 (ag (aj 10) (ag (aj 1) ay)))) (ag (aj 10) (ag (aj 1) ay)))))
  (sSeq (Jm (Hs (a7 eqO (aj 11) (aq (aH (.str [])))))
  (dJ (aH (.bl false)))
  cY)
  (sSeq (Jm (Pl (Hs (a7 eqO (aj 5) (aq (aH (.str [114,111,119]))))) (Hs (a7 eqO (aq (aF Hw (aq (aF Hw (aj 4) (aq (aH (.int 1))))) (aj 9))) (aq (aH (.int 0))))))
  (dJ (a7 eqO (aj 11) (aj 5)))
  cY)
  (dJ (aH (.bl true))))))))))
noncomputable def Cq:FS:=(sSeq (cM 1 (aF g8 (aq (aH (.int 1))) (aq (aF oS (aq (cK aX (ag (aj 0) (ag (aq (aH (.int 0))) ay)))) (aq (aH (.int 4)))))))
  (sSeq (cM 2 (aF oS (aq (cK aX (ag (aj 0) (ag (aq (aH (.int 1))) ay)))) (aq (aF qf (aq (aH (.int 10))) (aq (aH (.int 20)))))))
  (sSeq (cM 3 (cy (yf (yc (aj 0) (lQ (aH (.int 2))) (lQ (aH (.int 12))))) [none,some 1] (aw 0) gT (cK bP (ag (aj 0) (ag (aj 1) ay)))))
  (sSeq (cM 4 (cK c5 (ag (aq (bL oV (ag (aj 3) ay))) (ag (aj 1) ay))))
  (sSeq (cM 5 (cK aJ (ag (aj 4) (ag (aj 3) (ag (aj 1) ay)))))
  (sSeq (Jm (Hs (a7 eqO (aj 5) (aq (aH (.str [])))))
  (dJ (aH (.bl false)))
  cY)
  (sSeq (cM 6 (lP cR))
  (sSeq (cM 7 (aB 2))
  (sSeq pd
  l8)))))))))
def m_law:List D->Res R:=fBody 1 11 Cq
end LW
namespace LW
open PySem PySem.Spec PyProof.Rows L2 NX PV
theorem DE{α:Type}{Q:List α->Prop}(h:∀a,Q [a]):∀us,us.length=1->Q us
 |[a],_=>h a
theorem rQ{α:Type}{Q:List α->Prop}(h:∀a b,Q [a,b]):∀us,us.length=2->Q us
 |[a,b],_=>h a b
theorem AQ{α:Type}{Q:List α->Prop}(h:∀a b c,Q [a,b,c]):∀us,us.length=3->Q us
 |[a,b,c],_=>h a b c
theorem je{X:Cx}{tg e:Expr}{f:FX}(h:QE X e f):QI X tg e (HR (BY f) (HR (fD f) (fE f))):=rL (zt h) (rL (fg h) (ft h))
def top(i:Nat):Stmt:=PySem.Challenge.pw_netfinder_k44_whole_above_in_any_order.main.body.getD i (.Pass ⟨0,0,0,0⟩)
theorem DF:Str.ofString "sum" = S [115,117,109]:=by decide +kernel
theorem z7:Str.ofString "row" = S [114,111,119]:=by decide +kernel
theorem DG:Str.ofString "" = S []:=by decide +kernel
section
variable{P:Program}{w:World}{K:W.Frag}{mg:Str->Option Value}{base:Heap}
abbrev j4:Stmt:=top 1
theorem rR:FnScope ["one","other"] ["one","other"] (defScope j4):=fs
theorem rS(Df:Def K mg "product" j4)(Ke:mg "sum" = none)(ID:mg "zip" = none):Ct P w K mg base "product" 1 (spF K bY):=
 dN Df rR (fun _ _ _ _ _ _=>rQ fun _ _=>rfl) fun f Hv A outer s H E hr=>
  (ar (aR (a9 (xY rfl) (by rfl) Ke x9 (ae (ab (bD [none,none] ["number","factor"] rfl (bu (lY (by rfl) ID (ae (ab (au (pv 0))) (ae (ab (au (pv 1))) ao)))) (fun _ _ _ _ _=>(have h:=(show List.Nodup (["number","factor"]:List Str) from by decide +kernel);(jK rfl (bU (aA (i:=0) h rfl (lo rfl)) (bU (aA (i:=1) h rfl (lo rfl)) gS))))) (fun _ _ _ _ _=>cC) (fun _ _ _ _ _=>(aQ cv (af (pv 0)) (af (pv 1)))))) ao))))
abbrev l9:Stmt:=top 2
theorem uU:FnScope ["rows","numbers","width"] ["rows","numbers","width"] (defScope l9):=fs
theorem uV(Df:Def K mg "summed" l9)(Ht:mg "range" = none)(Ke:mg "sum" = none)(Hi:mg "tuple" = none)(ID:mg "zip" = none):Ct P w K mg base "summed" 1 (spF K eN):=
 dN Df uU (fun _ _ _ _ _ _=>AQ fun _ _ _=>rfl) fun f Hv A outer s H E hr=>
  (ar (aR (cX gq (by rfl) Hi dD (ae (ab (uG [none,some 0,some 1] ["at","rows","numbers"] rfl (bu (d5 (by rfl) Ht (af (pv 2)))) (fun _ _ _ _ _=>(aA (i:=0) (show List.Nodup (["at","rows","numbers"]:List Str) from by decide +kernel) rfl (lo rfl))) (fun _ _ _ _ _=>cC) (fun _ _ _ _ _=>(a9 (xY rfl) (by rfl) Ke x9 (ae (ab (bD [none,none,some 0] ["row","number","at"] rfl (bu (lY (by rfl) ID (ae (ab (au (pv 1))) (ae (ab (au (pv 2))) ao)))) (fun _ _ _ _ _=>(have h:=(show List.Nodup (["row","number","at"]:List Str) from by decide +kernel);(jK rfl (bU (aA (i:=0) h rfl (lo rfl)) (bU (aA (i:=1) h rfl (lo rfl)) gS))))) (fun _ _ _ _ _=>cC) (fun _ _ _ _ _=>(aQ cv (ab (bW (af (pv 0)) (af (pv 2)))) (af (pv 1)))))) ao))))) ao))))
abbrev c7:Stmt:=top 3
theorem cb:FnScope ["one","other","rest"] ["one","other"] (defScope c7):=fs
theorem iP(Df:Def K mg "common_divisor" c7)(Kf:mg "abs" = none):Ct P w K mg base "common_divisor" 1 (spF K aT):=
 dN Df cb (fun _ _ _ _ _ _=>rQ fun _ _=>rfl) fun f Hv A outer s H E hr=>
  (ah (p9 100000 Up (aU (lU hr.units) (af (pv 1)) (ab av) (aY _))
  (ah (aN (i:=2) cb.nd rfl (lo rfl) (aQ zX (af (pv 0)) (af (pv 1))))
  (ah (aN (i:=0) cb.nd rfl (lo rfl) (au (pv 1)))
  (ar (aN (i:=1) cb.nd rfl (lo rfl) (au (pv 2)))))))
  (ar (aR (a9 yd (by rfl) Kf bt_abs (ae (af (pv 0)) ao)))))
abbrev ma:Stmt:=top 4
theorem iz:FnScope ["row","divisor","number"] ["row"] (defScope ma):=fs
theorem uW(Df:Def K mg "lowest" ma)(HG:Ct P w K mg base "common_divisor" 1 (spF K aT))(Hi:mg "tuple" = none):Ct P w K mg base "lowest" 2 (spF K cm):=
 dN Df iz (fun _ _ _ _ _ _=>DE fun _=>rfl) fun f Hv A outer s H E hr=>
  (ah (aN (i:=1) iz.nd rfl (lo rfl) av)
  (ah (gC Up rfl (je (au (pv 0))) (aA (i:=2) iz.nd rfl (lo rfl))
  (ar (aN (i:=1) iz.nd rfl (lo rfl) (aV HG hr.m (by rfl) (ae (af (pv 1)) (ae (af (pv 2)) ao))))))
  (ah (df (aU (fL hr.units) (af (pv 1)) (ab av) (aY _))
  (ar (aR (gQ (pv 0))))
  bz)
  (ar (aR (cX gq (by rfl) Hi dD (ae (ab (bD [none,some 1] ["number","divisor"] rfl (cf (dk (pv 0)) (cf (bu (fg (au (pv 0)))) (bu (ft (au (pv 0)))))) (fun _ _ _ _ _=>(aA (i:=0) (show List.Nodup (["number","divisor"]:List Str) from by decide +kernel) rfl (lo rfl))) (fun _ _ _ _ _=>cC) (fun _ _ _ _ _=>(aQ l7 (af (pv 0)) (af (pv 1)))))) ao)))))))
abbrev j5:Stmt:=top 6
theorem rT:FnScope ["row","column","by"] ["row","column","by"] (defScope j5):=fs
theorem rV(Df:Def K mg "cleared" j5)(Mc:Ct P w K mg base "summed" 1 (spF K eN))(Hn:mg "len" = none):Ct P w K mg base "cleared" 2 (spF K cD):=
 dN Df rT (fun _ _ _ _ _ _=>AQ fun _ _ _=>rfl) fun f Hv A outer s H E hr=>
  (ah (df (aU (fL hr.units) (ab (bW (af (pv 0)) (af (pv 1)))) (ab av) (aY _))
  (ar (aR (gQ (pv 0))))
  bz)
  (ar (aR (aV Mc hr.m (by rfl) (ae (ab (de (aM (au (pv 0)) (aM (au (pv 2)) bj)))) (ae (ab (de (aM (bW (af (pv 2)) (af (pv 1))) (aM (gE (ab (bW (af (pv 0)) (af (pv 1))))) bj)))) (ae (ab (a9 cu (by rfl) Hn bt_len (ae (af (pv 0)) ao))) ao)))))))
abbrev eS:Stmt:=top 7
theorem dR:FnScope ["leaders","column","leader","joined","other"] ["leaders","column","leader"] (defScope eS):=fs
theorem kz(Df:Def K mg "with_leader" eS)(Jq:Ct P w K mg base "cleared" 2 (spF K cD))(Ij:Ct P w K mg base "lowest" 2 (spF K cm)):Ct P w K mg base "with_leader" 3 (spM K (.d) bE):=
 ye Df dR (fun _ _ _ _ _ _=>AQ fun _ _ _=>rfl) fun f Hv A outer s H E hr=>
  (ah (aN (i:=3) dR.nd rfl (lo rfl) uu)
  (ah (o9 Up rfl (pv 0) (aA (i:=4) dR.nd rfl (lo rfl))
  (ar (x6 (hu_of hr) (pv 3) (au (pv 4)) (aV Ij hr.m (by rfl) (ae (ab (aV Jq hr.m (by rfl) (ae (ab (uB (hu_of hr) (af (pv 0)) (af (pv 4)))) (ae (af (pv 1)) (ae (af (pv 2)) ao))))) ao)))))
  (ah (x6 (hu_of hr) (pv 3) (au (pv 1)) (au (pv 2)))
  (ar (uC (i:=0) (gQ (pv 3)))))))
abbrev fV:Stmt:=top 8
theorem bF:FnScope ["rows","leaders","row","rest","column","filled"] ["rows"] (defScope fV):=fs
theorem me(Df:Def K mg "leaders_of" fV)(Jq:Ct P w K mg base "cleared" 2 (spF K cD))(Ij:Ct P w K mg base "lowest" 2 (spF K cm))(J3:Ct P w K mg base "with_leader" 3 (spM K (.d) bE))(Ho:mg "enumerate" = none)(Hn:mg "len" = none):Ct P w K mg base "leaders_of" 4 (spF K aK):=
 dN Df bF (fun _ _ _ _ _ _=>DE fun _=>rfl) fun f Hv A outer s H E hr=>
  (ah (aN (i:=1) bF.nd rfl (lo rfl) uu)
  (ah (gC Up rfl (je (au (pv 0))) (aA (i:=2) bF.nd rfl (lo rfl))
  (ah (aN (i:=3) bF.nd rfl (lo rfl) (au (pv 2)))
  (ah (z5 Up rfl (pv 1) (aA (i:=4) bF.nd rfl (lo rfl))
  (ar (aN (i:=3) bF.nd rfl (lo rfl) (aV Jq hr.m (by rfl) (ae (af (pv 3)) (ae (af (pv 4)) (ae (ab (uB (hu_of hr) (af (pv 1)) (af (pv 4)))) ao)))))))
  (ah (qm (i:=5) [none,none] ["column","number"] bF.nd rfl (lo rfl) rfl (bu (l5 (by rfl) Ho (ae (ab (au (pv 3))) ao))) (fun _ _ _ _ _=>(have h:=(show List.Nodup (["column","number"]:List Str) from by decide +kernel);(jK rfl (bU (aA (i:=0) h rfl (lo rfl)) (bU (aA (i:=1) h rfl (lo rfl)) gS))))) (fun _ _ _ _ _=>(fJ (aU (lU hr.units) (af (pv 1)) (ab av) (aY _)))) (fun _ _ _ _ _=>(au (pv 0))))
  (ar (df (jJ B3 (ab (a9 cu (by rfl) Hn bt_len (ae (af (pv 5)) ao))) (ab av) (aY _))
  (ar (aN (i:=1) bF.nd rfl (lo rfl) (o8 (i:=1) J3 hr.m (by rfl) (ae (af (pv 1)) (ae (ab (bW (af (pv 5)) (ab av))) (ae (ab (aV Ij hr.m (by rfl) (ae (af (pv 3)) ao))) ao))))))
  bz))))))
  (ar (aR (gQ (pv 1))))))
abbrev fW:Stmt:=top 9
theorem bR:FnScope ["leaders","column","width","scale","at","leading","told"] ["leaders","column","width"] (defScope fW):=fs
theorem mf(Df:Def K mg "kernel_row" fW)(HG:Ct P w K mg base "common_divisor" 1 (spF K aT))(Ij:Ct P w K mg base "lowest" 2 (spF K cm))(Kf:mg "abs" = none)(Hi:mg "tuple" = none):Ct P w K mg base "kernel_row" 3 (spM K (.d) aI):=
 ye Df bR (fun _ _ _ _ _ _=>AQ fun _ _ _=>rfl) fun f Hv A outer s H E hr=>
  (ah (aN (i:=3) bR.nd rfl (lo rfl) av)
  (ah (o9 Up rfl (pv 0) (aA (i:=4) bR.nd rfl (lo rfl))
  (ah (aN (i:=5) bR.nd rfl (lo rfl) (bW (ab (uB (hu_of hr) (af (pv 0)) (af (pv 4)))) (af (pv 4))))
  (ar (aN (i:=3) bR.nd rfl (lo rfl) (aQ l7 (ab (a9 yd (by rfl) Kf bt_abs (ae (ab (aQ cv (af (pv 3)) (af (pv 5)))) ao))) (ab (aV HG hr.m (by rfl) (ae (af (pv 3)) (ae (af (pv 5)) ao)))))))))
  (ah (aN (i:=6) bR.nd rfl (lo rfl) (aQ cv (ab (de (aM av bj))) (af (pv 2))))
  (ah (jW (pv 6) (au (pv 1)) (au (pv 3)))
  (ah (o9 Up rfl (pv 0) (aA (i:=4) bR.nd rfl (lo rfl))
  (ar (jW (pv 6) (au (pv 4)) (aQ cv (ab (gE (ab (bW (ab (uB (hu_of hr) (af (pv 0)) (af (pv 4)))) (af (pv 1)))))) (ab (aQ l7 (af (pv 3)) (ab (bW (ab (uB (hu_of hr) (af (pv 0)) (af (pv 4)))) (af (pv 4))))))))))
  (ar (uC (i:=0) (aV Ij hr.m (by rfl) (ae (ab (cX gq (by rfl) Hi dD (ae (af (pv 6)) ao))) ao)))))))))
abbrev mh:Stmt:=top 10
theorem nZ:FnScope ["rows","width","leaders"] ["rows","width"] (defScope mh):=fs
theorem uX(Df:Def K mg "kernel" mh)(Ia:Ct P w K mg base "kernel_row" 3 (spM K (.d) aI))(Ib:Ct P w K mg base "leaders_of" 4 (spF K aK))(Ht:mg "range" = none):Ct P w K mg base "kernel" 5 (spF K gs):=
 dN Df nZ (fun _ _ _ _ _ _=>rQ fun _ _=>rfl) fun f Hv A outer s H E hr=>
  (ah (aN (i:=2) nZ.nd rfl (lo rfl) (aV Ib hr.m (by rfl) (ae (af (pv 0)) ao)))
  (ar (aR (xf (j:=2) (k0:=1) [none,some 2,some 1] ["column","leaders","width"] rfl (d5 (by rfl) Ht (af (pv 1))) (fun _ _ _ _ _=>(aA (i:=0) (show List.Nodup (["column","leaders","width"]:List Str) from by decide +kernel) rfl (lo rfl))) (fun _ _ _ _ _=>(fJ (aU (oZ hr.u65) (af (pv 0)) (af (pv 1)) (by with_unfolding_all rfl)))) (fun _ _ _ _ _=>(o8 (i:=1) Ia hr.m (by rfl) (ae (af (pv 1)) (ae (af (pv 0)) (ae (af (pv 2)) ao)))))))))
abbrev eT:Stmt:=top 11
theorem gJ:FnScope ["rows","width","leaders"] ["rows","width"] (defScope eT):=fs
theorem kA(Df:Def K mg "closing_row" eT)(Ia:Ct P w K mg base "kernel_row" 3 (spM K (.d) aI))(Ib:Ct P w K mg base "leaders_of" 4 (spF K aK)):Ct P w K mg base "closing_row" 5 (spF K bo):=
 dN Df gJ (fun _ _ _ _ _ _=>rQ fun _ _=>rfl) fun f Hv A outer s H E hr=>
  (ah (aN (i:=2) gJ.nd rfl (lo rfl) (aV Ib hr.m (by rfl) (ae (af (pv 0)) ao)))
  (ah (df (aU (Ck hr.u65) (ab (aQ qe (af (pv 1)) (ab av))) (af (pv 2)) (by with_unfolding_all rfl))
  (ar (aR p7))
  bz)
  (ar (aR (o8 (i:=2) Ia hr.m (by rfl) (ae (af (pv 2)) (ae (ab (aQ qe (af (pv 1)) (ab av))) (ae (af (pv 1)) ao))))))))
abbrev j6:Stmt:=top 13
theorem gu:FnScope ["rows","row","joined","columns","closing"] ["rows","row"] (defScope j6):=fs
theorem rW(Df:Def K mg "spanned" j6)(HS:Ct P w K mg base "closing_row" 5 (spF K bo))(Md:Ct P w K mg base "kernel" 5 (spF K gs))(Jr:Ct P w K mg base "product" 1 (spF K bY))(Hn:mg "len" = none)(Ik:mg "list" = none)(Ht:mg "range" = none)(Hi:mg "tuple" = none):Ct P w K mg base "spanned" 6 (spF K bO):=
 dN Df gu (fun _ _ _ _ _ _=>rQ fun _ _=>rfl) fun f Hv A outer s H E hr=>
  (ah (aN (i:=2) gu.nd rfl (lo rfl) (aQ bX (ab (cX uh (by rfl) Ik oK (ae (af (pv 0)) ao))) (ab (de (aM (au (pv 1)) bj)))))
  (ah (uP (i:=3) [none,some 2] ["at","joined"] gu.nd rfl (lo rfl) rfl (bu (d5 (by rfl) Ht (ab (a9 cu (by rfl) Hn bt_len (ae (af (pv 1)) ao))))) (fun _ _ _ _ _=>(aA (i:=0) (show List.Nodup (["at","joined"]:List Str) from by decide +kernel) rfl (lo rfl))) (fun _ _ _ _ _=>cC) (fun _ _ _ _ _=>(cX gq (by rfl) Hi dD (ae (ab (bD [none,some 0] ["one","at"] rfl (cf (dk (pv 1)) (cf (bu (fg (au (pv 1)))) (bu (ft (au (pv 1)))))) (fun _ _ _ _ _=>(aA (i:=0) (show List.Nodup (["one","at"]:List Str) from by decide +kernel) rfl (lo rfl))) (fun _ _ _ _ _=>cC) (fun _ _ _ _ _=>(bW (af (pv 0)) (af (pv 1)))))) ao))))
  (ah (aN (i:=4) gu.nd rfl (lo rfl) (aV HS hr.m (by rfl) (ae (af (pv 3)) (ae (ab (a9 cu (by rfl) Hn bt_len (ae (af (pv 2)) ao))) ao))))
  (ah (df (aU Cb (af (pv 4)) (ab p7) (aY _))
  (ar (aR (kU (aM (di z7 (by decide)) (aM (bW (ab (bD [none,some 1] ["other","row"] rfl (bu (je (aV Md hr.m (by rfl) (ae (af (pv 0)) (ae (ab (a9 cu (by rfl) Hn bt_len (ae (af (pv 1)) ao))) ao))))) (fun _ _ _ _ _=>(aA (i:=0) (show List.Nodup (["other","row"]:List Str) from by decide +kernel) rfl (lo rfl))) (fun _ _ _ _ _=>(fJ (aU (lU hr.units) (ab (aV Jr hr.m (by rfl) (ae (af (pv 0)) (ae (af (pv 1)) ao)))) (ab av) (aY _)))) (fun _ _ _ _ _=>(au (pv 0))))) (ab av)) bj)))))
  bz)
  (ar (aR (kU (aM (di DF (by decide)) (aM (bW (af (pv 4)) (ab (gE (ab av)))) (aM (bD [none] ["number"] rfl (bu (je (k7 (af (pv 4)) jL (gU (gE (ab av)))))) (fun _ _ _ _ _=>(aA (i:=0) (show List.Nodup (["number"]:List Str) from by decide +kernel) rfl (lo rfl))) (fun _ _ _ _ _=>cC) (fun _ _ _ _ _=>(gE (af (pv 0))))) bj))))))))))
abbrev eU:Stmt:=top 15
theorem cV:FnScope ["rows","chosen","at","row"] ["rows"] (defScope eU):=fs
theorem kB(Df:Def K mg "independent" eU)(Js:Ct P w K mg base "spanned" 6 (spF K bO))(Ho:mg "enumerate" = none):Ct P w K mg base "independent" 7 (spF K b7):=
 dN Df cV (fun _ _ _ _ _ _=>DE fun _=>rfl) fun f Hv A outer s H E hr=>
  (ah (aN (i:=1) cV.nd rfl (lo rfl) (de bj))
  (ah (gC Up rfl (l5 (by rfl) Ho (ae (ab (au (pv 0))) ao)) (jK rfl (bU (aA (i:=2) cV.nd rfl (lo rfl)) (bU (aA (i:=3) cV.nd rfl (lo rfl)) gS)))
  (ar (df (zW (aU (fL hr.units) (ab (bW (ab (aV Js hr.m (by rfl) (ae (ab (bD [none,some 0] ["other","rows"] rfl (cf (dk (pv 1)) (cf (bu (fg (au (pv 1)))) (bu (ft (au (pv 1)))))) (fun _ _ _ _ _=>(aA (i:=0) (show List.Nodup (["other","rows"]:List Str) from by decide +kernel) rfl (lo rfl))) (fun _ _ _ _ _=>cC) (fun _ _ _ _ _=>(bW (af (pv 1)) (af (pv 0)))))) (ae (af (pv 3)) ao)))) (ab av))) (ab (di z7 (by decide))) (aY _)))
  (ar (lM (jM (pv 1) (au (pv 2)))))
  bz)))
  (ar (aR (gQ (pv 1))))))
abbrev gX:Stmt:=top 16
theorem n0:FnScope ["rows","width"] ["rows","width"] (defScope gX):=fs
theorem og(Df:Def K mg "level_row" gX)(HS:Ct P w K mg base "closing_row" 5 (spF K bo)):Ct P w K mg base "level_row" 6 (spF K b5):=
 dN Df n0 (fun _ _ _ _ _ _=>rQ fun _ _=>rfl) fun f Hv A outer s H E hr=>
  (ar (aR (aV HS hr.m (by rfl) (ae (ab (bD [none] ["row"] rfl (cf (dk (pv 0)) (cf (bu (fg (au (pv 0)))) (bu (ft (au (pv 0)))))) (fun _ _ _ _ _=>(aA (i:=0) (show List.Nodup (["row"]:List Str) from by decide +kernel) rfl (lo rfl))) (fun _ _ _ _ _=>cC) (fun _ _ _ _ _=>(aQ bX (af (pv 0)) (ab (kU (aM (gE (ab av)) bj))))))) (ae (ab (aQ bX (af (pv 1)) (ab av))) ao)))))
abbrev eV:Stmt:=top 17
theorem dS:FnScope ["rows","level","at","row"] ["rows","level"] (defScope eV):=fs
theorem kC(Df:Def K mg "first_below" eV)(Jr:Ct P w K mg base "product" 1 (spF K bY))(Ho:mg "enumerate" = none):Ct P w K mg base "first_below" 2 (spF K br):=
 dN Df dS (fun _ _ _ _ _ _=>rQ fun _ _=>rfl) fun f Hv A outer s H E hr=>
  (ah (gC Up rfl (l5 (by rfl) Ho (ae (ab (au (pv 0))) ao)) (jK rfl (bU (aA (i:=2) dS.nd rfl (lo rfl)) (bU (aA (i:=3) dS.nd rfl (lo rfl)) gS)))
  (ar (df (jJ (nF hr.units0) (ab (aV Jr hr.m (by rfl) (ae (af (pv 3)) (ae (ab (k7 (af (pv 1)) jL (gU (gE (ab av))))) ao)))) (ab (bW (af (pv 1)) (ab (gE (ab av))))) (aY _))
  (ar (aR (gQ (pv 2))))
  bz)))
  (ar (aR p7)))
abbrev pe:Stmt:=top 18
theorem cW:FnScope ["rows","width","chosen","level","low","answer","numbers","at","number","leaving"] ["rows","width"] (defScope pe):=fs
theorem xh(Df:Def K mg "above" pe)(J4:Ct P w K mg base "first_below" 2 (spF K br))(J5:Ct P w K mg base "independent" 7 (spF K b7))(KN:Ct P w K mg base "level_row" 6 (spF K b5))(Js:Ct P w K mg base "spanned" 6 (spF K bO))(Hn:mg "len" = none)(Jd:mg "sorted" = none)(ID:mg "zip" = none):Ct P w K mg base "above" 8 (spF K c5):=
 dN Df cW (fun _ _ _ _ _ _=>rQ fun _ _=>rfl) fun f Hv A outer s H E hr=>
  (ah (aN (i:=2) cW.nd rfl (lo rfl) (aV J5 hr.m (by rfl) (ae (af (pv 0)) ao)))
  (ar (p9 100000 Up (kQ lI)
  (ah (aN (i:=3) cW.nd rfl (lo rfl) (aV KN hr.m (by rfl) (ae (ab (bD [none,some 0] ["at","rows"] rfl (cf (dk (pv 2)) (cf (bu (fg (au (pv 2)))) (bu (ft (au (pv 2)))))) (fun _ _ _ _ _=>(aA (i:=0) (show List.Nodup (["at","rows"]:List Str) from by decide +kernel) rfl (lo rfl))) (fun _ _ _ _ _=>cC) (fun _ _ _ _ _=>(bW (af (pv 1)) (af (pv 0)))))) (ae (af (pv 1)) ao))))
  (ah (aN (i:=4) cW.nd rfl (lo rfl) (aV J4 hr.m (by rfl) (ae (af (pv 0)) (ae (af (pv 3)) ao))))
  (ah (df (aU Cb (af (pv 4)) (ab p7) (aY _))
  (ar (aR (kU (aM (di z7 (by decide)) (aM (k7 (af (pv 3)) jL (gU (gE (ab av)))) bj)))))
  bz)
  (ah (aN (i:=5) cW.nd rfl (lo rfl) (aV Js hr.m (by rfl) (ae (ab (bD [none,some 0] ["at","rows"] rfl (cf (dk (pv 2)) (cf (bu (fg (au (pv 2)))) (bu (ft (au (pv 2)))))) (fun _ _ _ _ _=>(aA (i:=0) (show List.Nodup (["at","rows"]:List Str) from by decide +kernel) rfl (lo rfl))) (fun _ _ _ _ _=>cC) (fun _ _ _ _ _=>(bW (af (pv 1)) (af (pv 0)))))) (ae (ab (bW (af (pv 0)) (af (pv 4)))) ao))))
  (ah (aN (i:=6) cW.nd rfl (lo rfl) (aQ cv (ab (de (aM av bj))) (ab (a9 cu (by rfl) Hn bt_len (ae (af (pv 0)) ao)))))
  (ah (jW (pv 6) (au (pv 4)) (bW (af (pv 5)) (ab av)))
  (ah (gC Up rfl (lY (by rfl) ID (ae (ab (au (pv 2))) (ae (ab (bW (af (pv 5)) (ab av))) ao))) (jK rfl (bU (aA (i:=7) cW.nd rfl (lo rfl)) (bU (aA (i:=8) cW.nd rfl (lo rfl)) gS)))
  (ar (jW (pv 6) (au (pv 7)) (gE (af (pv 8))))))
  (ah (aN (i:=9) cW.nd rfl (lo rfl) (bD [none,some 6] ["at","numbers"] rfl (cf (dk (pv 2)) (cf (bu (fg (au (pv 2)))) (bu (ft (au (pv 2)))))) (fun _ _ _ _ _=>(aA (i:=0) (show List.Nodup (["at","numbers"]:List Str) from by decide +kernel) rfl (lo rfl))) (fun _ _ _ _ _=>(fJ (jJ (nF hr.units0) (ab (bW (af (pv 1)) (af (pv 0)))) (ab av) (aY _)))) (fun _ _ _ _ _=>(au (pv 0)))))
  (ah (df (aU (fL hr.units) (ab (a9 cu (by rfl) Hn bt_len (ae (af (pv 9)) ao))) (ab av) (aY _))
  (ar (aR (kU (aM (di DF (by decide)) (aM (au (pv 6)) bj)))))
  bz)
  (ar (aN (i:=2) cW.nd rfl (lo rfl) (a9 (ur rfl) (by rfl) Jd uy (ae (ab (aQ bX (ab (bD [none,some 9] ["at","leaving"] rfl (cf (dk (pv 2)) (cf (bu (fg (au (pv 2)))) (bu (ft (au (pv 2)))))) (fun _ _ _ _ _=>(aA (i:=0) (show List.Nodup (["at","leaving"]:List Str) from by decide +kernel) rfl (lo rfl))) (fun _ _ _ _ _=>(fJ (aU (lU hr.units) (af (pv 0)) (ab (bW (af (pv 1)) (ab av))) (aY _)))) (fun _ _ _ _ _=>(au (pv 0))))) (ab (de (aM (au (pv 4)) bj))))) ao))))))))))))))))
abbrev dU:Stmt:=top 20
theorem cF:FnScope ["_law_one","_law_other","_law_total","_law_k"] ["_law_one","_law_other"] (defScope dU):=fs
theorem j7(Df:Def K mg "_law_product" dU)(Hn:mg "len" = none)(Ht:mg "range" = none):Ct P w K mg base "_law_product" 1 (spF K aW):=
 dN Df cF (fun _ _ _ _ _ _=>rQ fun _ _=>rfl) fun f Hv A outer s H E hr=>
  (ah (aN (i:=2) cF.nd rfl (lo rfl) av)
  (ah (gC Up rfl (d5 (by rfl) Ht (ab (a9 cu (by rfl) Hn bt_len (ae (af (pv 0)) ao)))) (aA (i:=3) cF.nd rfl (lo rfl))
  (ar (aN (i:=2) cF.nd rfl (lo rfl) (aQ bX (af (pv 2)) (ab (aQ cv (ab (bW (af (pv 0)) (af (pv 3)))) (ab (bW (af (pv 1)) (af (pv 3))))))))))
  (ar (aR (gQ (pv 2))))))
abbrev iQ:Stmt:=top 21
theorem dy:FnScope ["_law_rows","_law_numbers","_law_width","_law_due","_law_row","_law_number","_law_k"] ["_law_rows","_law_numbers","_law_width"] (defScope iQ):=fs
theorem ph(Df:Def K mg "_law_sum" iQ)(Ht:mg "range" = none)(Hi:mg "tuple" = none)(ID:mg "zip" = none):Ct P w K mg base "_law_sum" 1 (spF K b8):=
 dN Df dy (fun _ _ _ _ _ _=>AQ fun _ _ _=>rfl) fun f Hv A outer s H E hr=>
  (ah (aN (i:=3) dy.nd rfl (lo rfl) (aQ cv (ab (de (aM av bj))) (af (pv 2))))
  (ah (gC Up rfl (lY (by rfl) ID (ae (ab (au (pv 0))) (ae (ab (au (pv 1))) ao))) (jK rfl (bU (aA (i:=4) dy.nd rfl (lo rfl)) (bU (aA (i:=5) dy.nd rfl (lo rfl)) gS)))
  (ar (gC Up rfl (d5 (by rfl) Ht (af (pv 2))) (aA (i:=6) dy.nd rfl (lo rfl))
  (ar (jW (pv 3) (au (pv 6)) (aQ bX (ab (bW (af (pv 3)) (af (pv 6)))) (ab (aQ cv (ab (bW (af (pv 4)) (af (pv 6)))) (af (pv 5))))))))))
  (ar (aR (cX gq (by rfl) Hi dD (ae (af (pv 3)) ao))))))
abbrev fX:Stmt:=top 22
theorem ml:FnScope ["_law_found"] ["_law_found"] (defScope fX):=fs
theorem mm(Df:Def K mg "_law_whole" fX)(Kp:mg "bool" = none)(Ln:mg "int" = none)(Hb:mg "isinstance" = none):Ct P w K mg base "_law_whole" 1 (spF K m__law_whole):=
 dN Df ml (fun _ _ _ _ _ _=>DE fun _=>rfl) fun f Hv A outer s H E hr=>
  (ar (aR (BW (um (T:="int") (by decide) (af (pv 0)) (by rfl) Hb (by rfl) Ln BD) (BV (BX (um (T:="bool") (by decide) (af (pv 0)) (by rfl) Hb (by rfl) Kp y4))))))
abbrev eW:Stmt:=top 23
theorem kF:FnScope ["_law_told","_law_width"] ["_law_told","_law_width"] (defScope eW):=fs
theorem kG(Df:Def K mg "_law_is_row" eW)(Ic:Ct P w K mg base "_law_whole" 1 (spF K m__law_whole))(Hb:mg "isinstance" = none)(Hn:mg "len" = none)(Hi:mg "tuple" = none):Ct P w K mg base "_law_is_row" 2 (spF K b9):=
 dN Df kF (fun _ _ _ _ _ _=>rQ fun _ _=>rfl) fun f Hv A outer s H E hr=>
  (ah (df (QW.qt (wV (uc (kQ (um (T:="tuple") (by decide) (af (pv 0)) (by rfl) Hb (by rfl) Hi dD))) (p8 (aU (lU hr.units) (ab (a9 cu (by rfl) Hn bt_len (ae (af (pv 0)) ao))) (af (pv 1)) (aY _)))))
  (ar (aR lI))
  bz)
  (ar (aR (lJ (oZ hr.u65) (ab lI) (ab (bD [none] ["_law_number"] rfl (cf (dk (pv 0)) (cf (bu (fg (au (pv 0)))) (bu (ft (au (pv 0)))))) (fun _ _ _ _ _=>(aA (i:=0) (show List.Nodup (["_law_number"]:List Str) from by decide +kernel) rfl (lo rfl))) (fun _ _ _ _ _=>cC) (fun _ _ _ _ _=>(aV Ic hr.m (by rfl) (ae (af (pv 0)) ao))))) (by with_unfolding_all rfl)))))
abbrev cG:Stmt:=top 24
theorem gY:FnScope ["_law_told","_law_count"] ["_law_told","_law_count"] (defScope cG):=fs
theorem gZ(Df:Def K mg "_law_are_numbers" cG)(Ic:Ct P w K mg base "_law_whole" 1 (spF K m__law_whole))(Hb:mg "isinstance" = none)(Hn:mg "len" = none)(Ik:mg "list" = none):Ct P w K mg base "_law_are_numbers" 2 (spF K aS):=
 dN Df gY (fun _ _ _ _ _ _=>rQ fun _ _=>rfl) fun f Hv A outer s H E hr=>
  (ah (df (QW.qt (wV (uc (kQ (um (T:="list") (by decide) (af (pv 0)) (by rfl) Hb (by rfl) Ik oK))) (p8 (aU (lU hr.units) (ab (a9 cu (by rfl) Hn bt_len (ae (af (pv 0)) ao))) (af (pv 1)) (aY _)))))
  (ar (aR lI))
  bz)
  (ar (aR (lJ (oZ hr.u65) (ab lI) (ab (bD [none] ["_law_number"] rfl (cf (dk (pv 0)) (cf (bu (fg (au (pv 0)))) (bu (ft (au (pv 0)))))) (fun _ _ _ _ _=>(aA (i:=0) (show List.Nodup (["_law_number"]:List Str) from by decide +kernel) rfl (lo rfl))) (fun _ _ _ _ _=>cC) (fun _ _ _ _ _=>(aV Ic hr.m (by rfl) (ae (af (pv 0)) ao))))) (by with_unfolding_all rfl)))))
abbrev eX:Stmt:=top 25
theorem kH:FnScope ["_law_told","_law_rows","_law_width"] ["_law_told","_law_rows","_law_width"] (defScope eX):=fs
theorem kI(Df:Def K mg "_law_walked" eX)(IS:Ct P w K mg base "_law_are_numbers" 2 (spF K aS))(J6:Ct P w K mg base "_law_is_row" 2 (spF K b9))(JR:Ct P w K mg base "_law_product" 1 (spF K aW))(IT:Ct P w K mg base "_law_sum" 1 (spF K b8))(Hb:mg "isinstance" = none)(Hn:mg "len" = none)(Hi:mg "tuple" = none):Ct P w K mg base "_law_walked" 3 (spF K aJ):=
 dN Df kH (fun _ _ _ _ _ _=>AQ fun _ _ _=>rfl) fun f Hv A outer s H E hr=>
  (ah (df (QW.qt (wV (uc (kQ (um (T:="tuple") (by decide) (af (pv 0)) (by rfl) Hb (by rfl) Hi dD))) (p8 (aU (lU hr.units) (ab (a9 cu (by rfl) Hn bt_len (ae (af (pv 0)) ao))) (ab av) (aY _)))))
  (ar (aR (di DG (by decide))))
  bz)
  (ah (df (QW.qt (ub (aU (fL hr.units) (ab (bW (af (pv 0)) (ab av))) (ab (di z7 (by decide))) (aY _)) (oP (kQ (aV J6 hr.m (by rfl) (ae (ab (bW (af (pv 0)) (ab av))) (ae (af (pv 2)) ao)))))))
  (ar (df (aU (fL hr.units) (ab (bD [none,some 0] ["_law_row","_law_told"] rfl (cf (dk (pv 1)) (cf (bu (fg (au (pv 1)))) (bu (ft (au (pv 1)))))) (fun _ _ _ _ _=>(aA (i:=0) (show List.Nodup (["_law_row","_law_told"]:List Str) from by decide +kernel) rfl (lo rfl))) (fun _ _ _ _ _=>(fJ (jJ (nF hr.units0) (ab (aV JR hr.m (by rfl) (ae (af (pv 0)) (ae (ab (bW (af (pv 1)) (ab av))) ao)))) (ab av) (aY _)))) (fun _ _ _ _ _=>(au (pv 0))))) (ab (de bj)) (aY _))
  (ar (aR (di z7 (by decide))))
  bz))
  bz)
  (ah (df (QW.qt (ub (aU (fL hr.units) (ab (bW (af (pv 0)) (ab av))) (ab (di DF (by decide))) (aY _)) (oP (kQ (aV IS hr.m (by rfl) (ae (ab (bW (af (pv 0)) (ab av))) (ae (ab (a9 cu (by rfl) Hn bt_len (ae (af (pv 1)) ao))) ao)))))))
  (ar (df (QW.qt (ub (aU (fL hr.units) (ab (bD [none] ["_law_number"] rfl (bu (je (bW (af (pv 0)) (ab av)))) (fun _ _ _ _ _=>(aA (i:=0) (show List.Nodup (["_law_number"]:List Str) from by decide +kernel) rfl (lo rfl))) (fun _ _ _ _ _=>(fJ (jJ (nF hr.units0) (af (pv 0)) (ab av) (aY _)))) (fun _ _ _ _ _=>(au (pv 0))))) (ab (de bj)) (aY _)) (oP (aU (lU hr.units) (ab (bD [none] ["_law_number"] rfl (bu (je (bW (af (pv 0)) (ab av)))) (fun _ _ _ _ _=>(aA (i:=0) (show List.Nodup (["_law_number"]:List Str) from by decide +kernel) rfl (lo rfl))) (fun _ _ _ _ _=>(fJ (jJ B3 (af (pv 0)) (ab av) (aY _)))) (fun _ _ _ _ _=>(au (pv 0))))) (ab (de bj)) (aY _)))))
  (ar (df (aU (fL hr.units) (ab (aV IT hr.m (by rfl) (ae (af (pv 1)) (ae (ab (bW (af (pv 0)) (ab av))) (ae (af (pv 2)) ao))))) (ab (aQ zT (ab (kU (aM av bj))) (af (pv 2)))) (aY _))
  (ar (aR (di DF (by decide))))
  bz))
  bz))
  bz)
  (ar (aR (di DG (by decide)))))))
abbrev dW:Stmt:=top 26
theorem j8:FnScope ["_law_script","_law_k"] ["_law_script","_law_k"] (defScope dW):=fs
theorem j9(Df:Def K mg "_law_cell_at" dW)(Hn:mg "len" = none):Ct P w K mg base "_law_cell_at" 1 (spF K aX):=
 dN Df j8 (fun _ _ _ _ _ _=>rQ fun _ _=>rfl) fun f Hv A outer s H E hr=>
  (ah (df (jJ (nF hr.units0) (af (pv 1)) (ab (a9 cu (by rfl) Hn bt_len (ae (af (pv 0)) ao))) (aY _))
  (ar (aR (bW (af (pv 0)) (af (pv 1)))))
  bz)
  (ar (aR av)))
abbrev fY:Stmt:=top 27
theorem cH:FnScope ["_law_cell","_law_width","_law_number","_law_row","_law_k"] ["_law_cell","_law_width"] (defScope fY):=fs
theorem mn(Df:Def K mg "_law_mixed" fY)(Ht:mg "range" = none)(Hi:mg "tuple" = none):Ct P w K mg base "_law_mixed" 1 (spF K bP):=
 dN Df cH (fun _ _ _ _ _ _=>rQ fun _ _=>rfl) fun f Hv A outer s H E hr=>
  (ah (aN (i:=2) cH.nd rfl (lo rfl) (aQ fK (af (pv 0)) (ab (aQ kS (ab av) (ab av)))))
  (ah (aN (i:=3) cH.nd rfl (lo rfl) (de bj))
  (ah (gC Up rfl (d5 (by rfl) Ht (af (pv 1))) (aA (i:=4) cH.nd rfl (lo rfl))
  (ah (aN (i:=2) cH.nd rfl (lo rfl) (aQ fK (ab (aQ bX (ab (aQ bX (ab (aQ bX (ab (aQ cv (af (pv 2)) (af (pv 2)))) (ab (aQ cv (ab av) (af (pv 2)))))) (ab (aQ cv (ab av) (af (pv 4)))))) (ab av))) (ab (aQ bX (ab (aQ kS (ab av) (ab av))) (ab av)))))
  (ar (df (aU (fL hr.units) (ab (aQ fK (af (pv 0)) (ab av))) (ab av) (aY _))
  (ar (lM (jM (pv 3) (aQ qe (ab (aQ fK (af (pv 2)) (ab (aQ bX (ab (aQ cv (ab av) (ab (aQ kS (ab av) (ab av))))) (ab av))))) (ab (aQ kS (ab av) (ab av)))))))
  (ar (lM (jM (pv 3) (aQ qe (ab (aQ fK (ab (aQ ug (af (pv 2)) (ab av))) (ab av))) (ab av)))))))))
  (ar (aR (cX gq (by rfl) Hi dD (ae (af (pv 3)) ao)))))))
abbrev mr:Stmt:=top 28
theorem eC:FnScope ["_law_script","_law_width","_law_cell","_law_rows","_law_told","_law_verdict","_law_about","_law_number","_law_row","_law_k","_law_fewer","_law_other"] ["_law_script"] (defScope mr):=fs
theorem Cr{f:Addr}{fd:FuncData}(F:Fun K "law" "law" mr f fd)(Il:Ct P w K mg base "_law_cell_at" 1 (spF K aX))(Kq:Ct P w K mg base "_law_mixed" 1 (spF K bP))(IT:Ct P w K mg base "_law_sum" 1 (spF K b8))(HU:Ct P w K mg base "_law_walked" 3 (spF K aJ))(Kr:Ct P w K mg base "above" 8 (spF K c5))(Hn:mg "len" = none)(Ik:mg "list" = none):FnOk P w K mg base LQ 9 f fd ["_law_script"] (spF K m_law):=
 fnok_of F eC fun Hv A outer s H E hr=>
  (ah (aN (i:=1) eC.nd rfl (lo rfl) (aQ bX (ab av) (ab (aQ fK (ab (aV Il hr.m (by rfl) (ae (af (pv 0)) (ae (ab av) ao)))) (ab av)))))
  (ah (aN (i:=2) eC.nd rfl (lo rfl) (aQ fK (ab (aV Il hr.m (by rfl) (ae (af (pv 0)) (ae (ab av) ao)))) (ab (aQ kS (ab av) (ab av)))))
  (ah (qm (i:=3) [none,some 1] ["_law_cell_of","_law_width"] eC.nd rfl (lo rfl) rfl (bu (je (k7 (af (pv 0)) (gU av) (gU av)))) (fun _ _ _ _ _=>(aA (i:=0) (show List.Nodup (["_law_cell_of","_law_width"]:List Str) from by decide +kernel) rfl (lo rfl))) (fun _ _ _ _ _=>cC) (fun _ _ _ _ _=>(aV Kq hr.m (by rfl) (ae (af (pv 0)) (ae (af (pv 1)) ao)))))
  (ah (aN (i:=4) eC.nd rfl (lo rfl) (aV Kr hr.m (by rfl) (ae (ab (cX uh (by rfl) Ik oK (ae (af (pv 3)) ao))) (ae (af (pv 1)) ao))))
  (ah (aN (i:=5) eC.nd rfl (lo rfl) (aV HU hr.m (by rfl) (ae (af (pv 4)) (ae (af (pv 3)) (ae (af (pv 1)) ao)))))
  (ah (df (aU (fL hr.units) (af (pv 5)) (ab (di DG (by decide))) (aY _))
  (ar (aR lI))
  bz)
  (ah (aN (i:=6) eC.nd rfl (lo rfl) (de bj))
  (ah (aN (i:=7) eC.nd rfl (lo rfl) (au (pv 2)))
  (ah (gC Up rfl (je (au (pv 3))) (aA (i:=8) eC.nd rfl (lo rfl))
  (ah (aN (i:=7) eC.nd rfl (lo rfl) (aQ bX (ab (aQ fK (ab (aQ cv (af (pv 7)) (ab av))) (ab av))) (ab av)))
  (ar (lM (uM (pv 6) (aQ fK (ab (aQ ug (af (pv 7)) (ab av))) (ab (aQ bX (ab (a9 cu (by rfl) Hn bt_len (ae (af (pv 6)) ao))) (ab av)))) (aV IT hr.m (by rfl) (ae (ab (de (aM (au (pv 8)) bj))) (ae (ab (de (aM (aQ bX (ab av) (ab (aQ fK (ab (aQ cv (af (pv 7)) (af (pv 2)))) (ab (aQ kS (ab av) (ab av)))))) bj))) (ae (af (pv 1)) ao)))))))))
  (ah (df (aU (lU hr.units) (ab (aV HU hr.m (by rfl) (ae (ab (aV Kr hr.m (by rfl) (ae (af (pv 6)) (ae (af (pv 1)) ao)))) (ae (af (pv 6)) (ae (af (pv 1)) ao))))) (af (pv 5)) (aY _))
  (ar (aR lI))
  bz)
  (ah (df (aU (fL hr.units) (af (pv 3)) (ab (de bj)) (aY _))
  (ar (aR (lJ (fL hr.units) (af (pv 5)) (ab (di z7 (by decide))) (aY _))))
  bz)
  (ah (aN (i:=9) eC.nd rfl (lo rfl) (aQ fK (af (pv 2)) (ab (a9 cu (by rfl) Hn bt_len (ae (af (pv 3)) ao)))))
  (ah (aN (i:=10) eC.nd rfl (lo rfl) (aQ bX (ab (k7 (af (pv 3)) jL (gU (au (pv 9))))) (ab (k7 (af (pv 3)) (gU (aQ bX (af (pv 9)) (ab av))) jL))))
  (ah (aN (i:=11) eC.nd rfl (lo rfl) (aV HU hr.m (by rfl) (ae (ab (aV Kr hr.m (by rfl) (ae (af (pv 10)) (ae (af (pv 1)) ao)))) (ae (af (pv 10)) (ae (af (pv 1)) ao)))))
  (ah (df (aU (fL hr.units) (af (pv 11)) (ab (di DG (by decide))) (aY _))
  (ar (aR lI))
  bz)
  (ah (df (QW.qt (wV (aU (fL hr.units) (af (pv 5)) (ab (di z7 (by decide))) (aY _)) (p8 (aU (fL hr.units) (ab (bW (ab (bW (af (pv 4)) (ab av))) (af (pv 9)))) (ab av) (aY _)))))
  (ar (aR (lJ (fL hr.units) (af (pv 11)) (af (pv 5)) (aY _))))
  bz)
  (ar (aR lI))))))))))))))))))
end
end LW
namespace PV
open PySem L2 NX
class Cont (α β:Type) where
 run:α->Res β
def Res.bnd{α β:Type}[f:Cont α β](x:Res α):Res β:=x.bind f.run
theorem HY{α β:Type}(a:α)(f:α->Res β):Res.bnd (Res.ok a) (f:=⟨f⟩)=f a:=id rfl
section
variable(env:PV.Env)(i n:Nat)(d:D)(f g:FX)(c c':FT)(fo Q4 fo'':FO)(fs:FOs)(fd:FDs)(s t:FS)(op op':D->D->Res R)(F:List D->Res R)(a:FG)(as:MN)(fi fj:FI)(fp GZ:FP)(T:String)
theorem OD:aH d env=.ok ((.f,d),env):=id rfl
theorem Lo:aB i env=match env[i]? with|some (some r)=>.ok ((.f,r.2),env.set i (some (fz r.1,r.2)))|_=>.bad:=id rfl
theorem Qk:fz .f=.f:=id rfl
theorem Ql(c:O):fz (.l c)=.f:=id rfl
theorem MX(p:Addr):xU (.pin p .f)=true:=id rfl
theorem Me(p:Addr):xU (.pin p .d)=true:=id rfl
theorem MY:ky i env=match env[i]? with|some (some r)=>.ok (r,env.set i none)|_=>.bad:=id rfl
theorem OE:aq f env=Res.bnd (f env) (f:=⟨fun p=>.ok (.val p.1.2,p.2)⟩):=id rfl
theorem OF:aj i env=match env[i]? with|some (some _)=>.ok (.var i,env)|_=>.bad:=id rfl
theorem MZ:ay env=.ok ([],env):=id rfl
theorem Mf:ag fo fs env=Res.bnd (fo env) (f:=⟨fun p=>Res.bnd (fs p.2) (f:=⟨fun q=>.ok (p.1::q.1,q.2)⟩)⟩):=id rfl
theorem M0:cR env=.ok ([],env):=id rfl
theorem Mg:bM f fd env=Res.bnd (f env) (f:=⟨fun p=>Res.bnd (fd p.2) (f:=⟨fun q=>.ok (p.1.2::q.1,q.2)⟩)⟩):=id rfl
theorem OG:Jl env (.val d)=.ok d:=id rfl
theorem OH:Jl env (.var i)=match env[i]? with|some (some r)=>if xU r.1 then .ok r.2 else .bad|_=>.bad:=id rfl
theorem JB:oE env (.val d)=.ok d:=id rfl
theorem JC:oE env (.var i)=match env[i]? with|some (some r)=>.ok r.2|_=>.bad:=id rfl
theorem M1:se env []=.ok []:=id rfl
theorem M3(o:Opd)(os:List Opd):se env (o::os)=Res.bnd (Jl env o) (f:=⟨fun d=>Res.bnd (se env os) (f:=⟨fun ds=>.ok (d::ds)⟩)⟩):=id rfl
theorem Mh:kx env []=.ok []:=id rfl
theorem Mi(o:Opd)(os:List Opd):kx env (o::os)=Res.bnd (oE env o) (f:=⟨fun d=>Res.bnd (kx env os) (f:=⟨fun ds=>.ok (d::ds)⟩)⟩):=id rfl
theorem M4:xU .f=true:=id rfl
theorem M5:xU (.l .f)=true:=id rfl
theorem OI:aF op fo Q4 env=Res.bnd (fo env) (f:=⟨fun p=>Res.bnd (Q4 p.2) (f:=⟨fun q=>Res.bnd (Jl q.2 p.1) (f:=⟨fun a=>Res.bnd (Jl q.2 q.1) (f:=⟨fun b=>Res.bnd (op a b) (f:=⟨fun r=>.ok (r,q.2)⟩)⟩)⟩)⟩)⟩):=id rfl
theorem M6:a7 op fo Q4 env=Res.bnd (fo env) (f:=⟨fun p=>Res.bnd (Q4 p.2) (f:=⟨fun q=>Res.bnd (oE q.2 p.1) (f:=⟨fun a=>Res.bnd (oE q.2 q.1) (f:=⟨fun b=>Res.bnd (op a b) (f:=⟨fun r=>.ok (r,q.2)⟩)⟩)⟩)⟩)⟩):=id rfl
theorem Qm:Hs f env=Res.bnd (f env) (f:=⟨fun p=>match p.1.2 with | .bl k=>.ok (k,p.2)|_=>.bad⟩):=id rfl
theorem OJ:BS c c' env=Res.bnd (c env) (f:=⟨fun p=>if p.1 then c' p.2 else .ok (false,p.2)⟩):=id rfl
theorem Qn:Pl c c' env=Res.bnd (c env) (f:=⟨fun p=>if p.1 then .ok (true,p.2) else c' p.2⟩):=id rfl
theorem OK:BU c env=Res.bnd (c env) (f:=⟨fun p=>.ok (!p.1,p.2)⟩):=id rfl
theorem OL:Em f g env=Res.bnd (f env) (f:=⟨fun p=>match p.1.2 with | .bl true=>g p.2 | .bl false=>.ok ((.f,.bl false),p.2)|_=>.bad⟩):=id rfl
theorem ON:En f env=Res.bnd (f env) (f:=⟨fun p=>match p.1.2 with | .bl k=>.ok ((.f,.bl (!k)),p.2)|_=>.bad⟩):=id rfl
theorem M7:bL F fs env=Res.bnd (fs env) (f:=⟨fun p=>Res.bnd (se p.2 p.1) (f:=⟨fun ds=>Res.bnd (F ds) (f:=⟨fun r=>.ok (r,p.2)⟩)⟩)⟩):=id rfl
theorem OO:cK F fs env=Res.bnd (fs env) (f:=⟨fun p=>Res.bnd (kx p.2 p.1) (f:=⟨fun ds=>Res.bnd (F ds) (f:=⟨fun r=>.ok (r,if aP r.1 r.2 then p.2 else p.2.map frz)⟩)⟩)⟩):=id rfl
theorem OP:v5 fd env=Res.bnd (fd env) (f:=⟨fun p=>if p.1.length<=1000 then .ok ((.f,.tup p.1),p.2) else .bad⟩):=id rfl
theorem OQ:lP fd env=Res.bnd (fd env) (f:=⟨fun p=>if p.1.length<=1000 then .ok ((.l .f,.lst p.1),p.2) else .bad⟩):=id rfl
theorem M8:oT env=.ok (none,env):=id rfl
theorem M9:lQ f env=Res.bnd (f env) (f:=⟨fun p=>match p.1.2 with | .int i=>.ok (some i,p.2)|_=>.bad⟩):=id rfl
theorem OR:AM i f env=if oU env i then(Res.bnd (f env) (f:=⟨fun(p:R×PV.Env)=>match p.2[i]? with
 |some (some (.l .f,.lst ds))=>if ds.length<sizeLine then .ok ((.f,.non),p.2.set i (some (.l .f,.lst (ds++[p.1.2])))) else .bad
 |_=>.bad⟩)) else .bad:=id rfl
theorem Na:oU env i=match env[i]? with|some (some (_,.lst _))=>true|_=>false:=id rfl
theorem Qo:Oj T fo env=Res.bnd (fo env) (f:=⟨fun p=>Res.bnd (oE p.2 p.1) (f:=⟨fun d=>.ok ((.f,.bl (rK T d)),p.2)⟩)⟩):=id rfl
theorem Nb(tk:Bool):eNewD tk env=.ok ((.d,.dct tk [] []),env):=id rfl
theorem Nc(ix:List (Option Nat)):cy fi ix a c f env=Res.bnd (fi env) (f:=⟨fun p=>Res.bnd (ck a c f p.1 (cq ix p.2)) (f:=⟨fun ds=>if ds.length<=sizeLine then .ok ((.l .f,.lst ds),if G0 ds then p.2 else p.2.map frz) else .bad⟩)⟩):=id rfl
theorem K8:cq [] env=[]:=id rfl
theorem K9(ix:List (Option Nat)):cq (none::ix) env=none::cq ix env:=id rfl
theorem La(ix:List (Option Nat)):cq (some i::ix) env=(match env[i]? with|some (some r)=>some (O.f,r.2)|_=>none)::cq ix env:=id rfl
theorem Cs:gT env=.ok (true,env):=id rfl
theorem qz(ds:List D):ck a c f (d::ds) env=Res.bnd (a d env) (f:=⟨fun e=>Res.bnd (c e) (f:=⟨fun p=>if p.1 then(Res.bnd (f p.2) (f:=⟨fun q=>Res.bnd (ck a c f ds q.2) (f:=⟨fun rs=>.ok (q.1.2::rs)⟩)⟩)) else ck a c f ds p.2⟩)⟩):=id rfl
theorem Cu:BY f env=Res.bnd (f env) (f:=⟨fun p=>match p.1.2 with | .lst ds=>.ok (ds,p.2)|_=>.bad⟩):=id rfl
theorem uY:fD f env=Res.bnd (f env) (f:=⟨fun p=>match p.1.2 with | .tup ds=>.ok (ds,p.2)|_=>.bad⟩):=id rfl
theorem u0:fE f env=Res.bnd (f env) (f:=⟨fun p=>match p.1.2 with | .str l=>.ok (l.map fun c=>.str [c],p.2)|_=>.bad⟩):=id rfl
theorem pj:HR fi fj env=match fi env with | .ok a=>.ok a|_=>fj env:=by
 unfold HR;cases fi env <;> rfl
theorem OS:HR (BY f) (HR (fD f) (fE f)) env=Res.bnd (f env) (f:=⟨fun p=>match p.1.2 with
 | .lst ds=>.ok (ds,p.2)
 | .tup ds=>.ok (ds,p.2)
 | .str l=>.ok (l.map fun c=>.str [c],p.2)
 |_=>.bad⟩):=by
 rw[pj,pj,Cu,uY,u0];cases f env with
 |ok p=>
  obtain⟨⟨o,d⟩,e⟩:=p;cases d <;> rfl
 |exc c=>rfl
 |bad=>rfl
theorem Nd:HR (gA i) (HR (fD (aB i)) (fE (aB i))) env=match env[i]? with
 |some (some (_,.lst ds))=>.ok (ds,env)
 |some (some (o,.tup ds))=>.ok (ds,env.set i (some (fz o,.tup ds)))
 |some (some (o,.str l))=>.ok (l.map fun c=>.str [c],env.set i (some (fz o,.str l)))
 |_=>.bad:=by
 rw[pj,pj,uY,u0,Lo];unfold gA;cases env[i]? with
 |none=>rfl
 |some r=>
  cases r with
  |none=>rfl
  |some r=>
   obtain⟨o,d⟩:=r;cases d <;> rfl
theorem Kg:cB fo env=Res.bnd (fo env) (f:=⟨fun p=>Res.bnd (Jl p.2 p.1) (f:=⟨fun d=>match d with
 | .int j=>if -4611686018427387904<=j/\j<4611686018427387904 then .ok ((List.range j.toNat).map fun(k:Nat)=>D.int (k:Int),p.2) else .bad
 |_=>.bad⟩)⟩):=id rfl
theorem mw(k1 k2:Bool):rH k1 k2 fs env=Res.bnd (fs env) (f:=⟨fun p=>match p.1 with
 |[.val d1,.val d2]=>Res.bnd (h8 k1 d1) (f:=⟨fun a=>Res.bnd (h8 k2 d2) (f:=⟨fun b=>.ok ((a.zip b).map fun z=>D.tup [z.1,z.2],p.2)⟩)⟩)
 |_=>.bad⟩):=id rfl
theorem Je:aw i d env=if i<env.length then .ok (env.set i (some (.f,d))) else .bad:=id rfl
theorem Nf:cQ [] env=.ok env:=id rfl
theorem Im(ds:List D):aE a as (d::ds) env=Res.bnd (a d env) (f:=⟨fun e=>as ds e⟩):=id rfl
theorem Lb(ds:List D):iG n as (.tup ds) env=if ds.length=n then as ds env else .bad:=id rfl
theorem HC:sSeq s t env=Res.bnd (s env) (f:=⟨fun o=>match o with | .nx e=>t e|o=>.ok o⟩):=id rfl
theorem Ng:cY env=.ok (.nx env):=id rfl
theorem OT:cM i f env=Res.bnd (f env) (f:=⟨fun p=>if i<p.2.length then .ok (.nx (p.2.set i (some p.1))) else .bad⟩):=id rfl
theorem Nh:oQ f env=Res.bnd (f env) (f:=⟨fun p=>.ok (.nx p.2)⟩):=id rfl
theorem OU:dJ f env=Res.bnd (f env) (f:=⟨fun p=>.ok (.rt p.1)⟩):=id rfl
theorem Qp:Jm c s t env=Res.bnd (c env) (f:=⟨fun p=>if p.1 then s p.2 else t p.2⟩):=id rfl
theorem Ks:rD fi a s env=Res.bnd (fi env) (f:=⟨fun p=>dM a s p.1 p.2⟩):=id rfl
theorem iR(ds:List D):dM a s (d::ds) env=Res.bnd (a d env) (f:=⟨fun e=>Res.bnd (s e) (f:=⟨fun o=>match o with
 | .nx e=>dM a s ds e
 | .ct e=>dM a s ds e
 | .bk e=>.ok (.nx e)
 | .rt r=>.ok (.rt r)⟩)⟩):=id rfl
theorem ju:cN c s (n+1) env=Res.bnd (c env) (f:=⟨fun p=>if p.1 then(Res.bnd (s p.2) (f:=⟨fun o=>match o with
  | .nx e=>cN c s n e
  | .ct e=>cN c s n e
  | .bk e=>.ok (.nx e)
  | .rt r=>.ok (.rt r)⟩)) else .ok (.nx p.2)⟩):=id rfl
theorem bt(ds:List D)(nn:Nat)(h:ds.length=n):fBody n nn s ds=Res.bnd (s (ds.map (fun d=>some (O.f,d))++List.replicate nn none)) (f:=⟨fun o=>match o with
 | .rt r=>.ok r
 | .nx _=>.ok (.f,.non)
 |_=>.bad⟩):=by
 unfold fBody;rw[Tw h];all_goals cases s (ds.map (fun d=>some (O.f,d))++List.replicate nn none) with
 |ok o=>cases o <;> rfl
 |exc c=>rfl
 |bad=>rfl
end
theorem line_le{n:Nat}(h:n<=16777216):n<=sizeLine:=by rw[line_eq];exact h
section
variable(a b:Int)(x y:List Nat)(p q:Bool)(ds es:List D)
theorem EI:eqO (.int a) (.int b)=.ok (.f,.bl (a==b)):=by simp only[eqO,plainD,Ha,Vp,Wq]
theorem EJ:eqO (.str x) (.str y)=.ok (.f,.bl (x==y)):=by simp only[eqO,plainD,Ha,Vp,Wq]
theorem ET:Jp (.int a) (.int b)=.ok (.f,.bl (!(a==b))):=by simp only[Jp,plainD,Ha,Vp,Wq]
theorem Cv:zv (.int a) (.int b)=.ok (.f,.int (a-b)):=id rfl
theorem z8:rJ (.int a) (.int b)=if 0<b/\b<1073741824 then .ok (.f,.int (a / b)) else .bad:=id rfl
theorem Cw:oS (.int a) (.int b)=if 0<b then .ok (.f,.int (a%b)) else .bad:=id rfl
theorem Cy:qf (.int a) (.int b)=if 0<=b/\b<=1000000/\a.natAbs<2 ^ 64 then .ok (.f,.int (a ^ b.toNat)) else .bad:=id rfl
theorem EU:Kw (.int a) (.int b)=.ok (.f,.bl (decide (a<b))):=id rfl
theorem EV:Oh (.int a) (.int b)=.ok (.f,.bl (decide (b<a))):=id rfl
theorem Cz:fO [.lst ds]=.ok (.f,.int ds.length):=id rfl
theorem CA:fO [.tup ds]=.ok (.f,.int ds.length):=id rfl
theorem z9:oV [.lst ds]=.ok (.l .f,.lst ds):=id rfl
theorem xi:gD [.lst ds]=.ok (.f,.tup ds):=id rfl
theorem EW:Hw (.lst ds) (.int a)=match Jw ds a with|some d=>.ok (.f,d)|none=>.bad:=id rfl
theorem CB:Hw (.tup ds) (.int a)=match Jw ds a with|some d=>.ok (.f,d)|none=>.bad:=id rfl
end
theorem He(l:List Int):G0 (l.map D.int)=true:=by
 rw[cw,V9,Uh];intro b _;rfl
theorem flat_strs(l:List (List Nat)):G0 (l.map D.str)=true:=by
 rw[cw,V9,Uh];intro b _;rfl
theorem pk(d:D):aP .f d=cz d:=by rw[aP]
theorem xj(ds:List D):aP (.l .f) (.lst ds)=G0 ds:=by rw[aP,ia]
theorem xk(i:Int):cz (.int i)=true:=by rw[cz];all_goals simp
theorem JD(i:Bool):cz (.bl i)=true:=by rw[cz];all_goals simp
theorem xl(i:List Nat):cz (.str i)=true:=by rw[cz];all_goals simp
theorem iA(ds:List D):cz (.tup ds)=G0 ds:=by rw[cz]
theorem gv(n:Nat)(l:List Int):plainDs n (l.map D.int)=true:=by
 induction l with
 |nil=>rfl
 |cons a l ih=>rw[TY,plainDs,ih,plainD];all_goals simp
theorem AR(n:Nat)(l:List (List Nat)):plainDs n (l.map D.str)=true:=by
 induction l with
 |nil=>rfl
 |cons a l ih=>rw[TY,plainDs,ih,plainD];all_goals simp
theorem oh:∀a b:List Int,jt (a.map D.int) (b.map D.int)=(a==b)
 |[],[]=>by simp[jt]
 |[],_::_=>by simp[jt]
 |_::_,[]=>by simp[jt]
 |a::r,b::t=>by
  rw[TY,TY,jt,Ha,oh r t,Uv];simp
theorem xm(a:Int)(l:List Int):wa (.int a) (l.map D.int)=decide (a∈l):=by
 unfold wa;rw[WR,Uv,Wo,T1];constructor
 ·rintro⟨x,hx,e⟩;have e:Ha (.int x) (.int a)=true:=e;rw[Ha,Uc]at e;rw[<-e];exact hx
 ·intro h;refine⟨a,h,?_⟩;show Ha (.int a) (.int a)=true;rw[Ha,UH]
theorem DH(a:List Nat)(l:List (List Nat)):wa (.str a) (l.map D.str)=decide (a∈l):=by
 unfold wa;rw[WR,Uv,Wo,T1];constructor
 ·rintro⟨x,hx,e⟩;have e:Ha (.str x) (.str a)=true:=e;rw[Ha,Uc]at e;rw[<-e];exact hx
 ·intro h;refine⟨a,h,?_⟩;show Ha (.str a) (.str a)=true;rw[Ha,UH]
theorem Fx(a:Int)(l:List Int):NA (.int a) (.lst (l.map D.int))=.ok (.f,.bl (decide (a∈l))):=by
 unfold NA;dsimp only;rw[gv,xm,plainD];all_goals simp
theorem eY{α:Type}{a:FG}{c:FT}{f:FX}{e:α->D}{p:α->Bool}{r:α->D}(I:PV.Env->Prop)(l:List α)
  (h:∀x∈l,∀env,I env->∃GV,a (e x) env=.ok GV/\∃Hd,c GV=.ok (p x,Hd)/\if p x then ∃o HE,f Hd=.ok ((o,r x),HE)/\I HE else I Hd):∀env,I env->ck a c f (l.map e) env=.ok ((l.filter p).map r):=by
 induction l with
 |nil=>intro env _;rfl
 |cons x l ih=>
  intro env hI;obtain⟨GV,h1,Hd,h2,h3⟩:=h x Tq env hI;have ih:=ih fun y hy=>h y (Tu _ hy)
  rw[TY,qz,h1,HY,h2,HY];cases hp:p x with
  |true=>
   rw[hp]at h3;obtain⟨o,HE,h4,h5⟩:=h3;rw[Tw rfl,h4,HY,ih HE h5,HY,Vq hp];rfl
  |false=>
   rw[hp]at h3;rw[TC TB,ih Hd h3,Vr (by rw[hp];exact TB)]
theorem cI{α:Type}{a:FG}{f:FX}{e:α->D}{r:α->D}(I:PV.Env->Prop)(l:List α)
  (h:∀x∈l,∀env,I env->∃GV,a (e x) env=.ok GV/\∃o HE,f GV=.ok ((o,r x),HE)/\I HE):∀env,I env->ck a gT f (l.map e) env=.ok (l.map r):=by
 induction l with
 |nil=>intro env _;rfl
 |cons x l ih=>
  intro env hI;obtain⟨GV,h1,o,HE,h4,h5⟩:=h x Tq env hI;have ih:=ih fun y hy=>h y (Tu _ hy)
  rw[TY,qz,h1,HY,Cs,HY,Tw rfl,h4,HY,ih HE h5];rfl
theorem Aa{a:FG}{g:FS}(P:Nat->PV.Env->Prop)(ds:List D)(h:∀i d env,ds[i]?=some d->P i env->∃GV,a d env=.ok GV/\∃Hd,(g GV=.ok (.nx Hd)\/g GV=.ok (.ct Hd))/\P (i+1) Hd):
  ∀env,P 0 env->∃env',dM a g ds env=.ok (.nx env')/\P ds.length env':=by
 have key:∀(l:List D) (k:Nat) (env:PV.Env),(∀i d,l[i]?=some d->ds[k+i]?=some d)->P k env->∃env',dM a g l env=.ok (.nx env')/\P (k+l.length) env':=by
  intro l;induction l with
  |nil=>exact fun k env _ hp=>⟨env,rfl,hp⟩
  |cons d l ih=>
   intro k env hd hp;obtain⟨GV,h1,Hd,h2,h3⟩:=h k d env (hd 0 d rfl) hp;obtain⟨env',h4,h5⟩:=ih (k+1) Hd (fun i d e=>by have:=hd (i+1) d (by simpa using e);rw[show k+1+i=k+(i+1) by lia];exact this) h3;refine⟨env',?_,by rw[TQ,show k+(l.length+1)=k+1+l.length by lia];exact h5⟩;rw[iR,h1,HY];rcases h2 with h2|h2
   ·rw[h2,HY];exact h4
   ·rw[h2,HY];exact h4
 intro env hp;obtain⟨env',h1,h2⟩:=key ds 0 env (fun i d e=>by rw[Yj];exact e) hp;exact⟨env',h1,by rw[Yj]at h2;exact h2⟩
section
variable(env:PV.Env)(fo:FO)(fp GZ:FP)(a b:Int)(ds:List D)(x:List Nat)
theorem OV:yc fo fp GZ env=Res.bnd (fo env) (f:=⟨fun p=>Res.bnd (fp p.2) (f:=⟨fun q=>Res.bnd (GZ q.2) (f:=⟨fun t=>Res.bnd (Jl t.2 p.1) (f:=⟨fun d=>Res.bnd (Ov d q.1 t.1) (f:=⟨fun r=>.ok (r,t.2)⟩)⟩)⟩)⟩)⟩):=id rfl
theorem OW:oF fo env=Res.bnd (fo env) (f:=⟨fun p=>Res.bnd (Jl p.2 p.1) (f:=⟨fun d=>match d with
 | .int i=>.ok ((.f,.int (-i)),p.2)
 |_=>.bad⟩)⟩):=id rfl
theorem CF(lo hi:Option Int):Ov (.lst ds) lo hi=.ok (.l .f,.lst (g7 ds lo hi)):=id rfl
theorem ve(lo hi:Option Int)(h:HT.sIx ds.length 0 lo=0/\HT.sIx ds.length ds.length hi=ds.length):g7 ds lo hi=ds:=by
 unfold g7;rw[h.1,h.2,Wj,Zd,Uy (Tn _)]
theorem CG(lo hi:Option Int):Ov (.tup ds) lo hi=.ok (.f,.tup (g7 ds lo hi)):=by
 unfold Ov;dsimp only;split
 ·rename_i h;rw[ve ds lo hi h]
 ·rename_i h;unfold Pn;dsimp only;rw[Tw h]
end
section
variable(env:PV.Env)(fo:FO)(fs:FOs)(f g:FX)(a b c:Int)(ds es:List D)(x y:List Nat)
theorem Fy(d:D):(∃l,h8 true d=.ok l/\h8 false d=.bad/\nr d=some l)\/(∃l,h8 true d=.bad/\h8 false d=.ok l/\nr d=some l)\/(h8 true d=.bad/\h8 false d=.bad/\nr d=none):=by
 cases d with
 |lst l=>exact .inl ⟨l,rfl,rfl,rfl⟩
 |tup l=>exact .inr (.inl ⟨l,rfl,rfl,rfl⟩)
 |_=>exact .inr (.inr ⟨rfl,rfl,rfl⟩)
def xn(k1 k2:Bool)(e:PV.Env)(d1 d2:D):Res (List D×PV.Env):=(h8 k1 d1).bind fun a=>(h8 k2 d2).bind fun b=>.ok ((a.zip b).map fun z=>D.tup [z.1,z.2],e)
def EY(e:PV.Env)(d1 d2:D):Res (List D×PV.Env):=match nr d1,nr d2 with|some a,some b=>.ok ((a.zip b).map fun z=>D.tup [z.1,z.2],e)|_,_=>.bad
def NH(a b:Res (List D×PV.Env)):Res (List D×PV.Env):=match a with | .ok a=>.ok a|_=>b
def wb(g:D->D->Res (List D×PV.Env))(os:List Opd):Res (List D×PV.Env):=match os with|[.val d1,.val d2]=>g d1 d2|_=>.bad
theorem pq(g h:D->D->Res (List D×PV.Env))(os:List Opd):NH (wb g os) (wb h os)=wb (fun a b=>NH (g a b) (h a b)) os:=by
 unfold wb;split <;> rfl
theorem Ab(e:PV.Env)(a b:D):NH (xn true true e a b) (NH (xn true false e a b) (NH (xn false true e a b) (xn false false e a b)))=EY e a b:=by
 unfold xn EY;rcases Fy a with⟨l,h1,h2,h3⟩|⟨l,h1,h2,h3⟩|⟨h1,h2,h3⟩ <;> rcases Fy b with⟨m,i1,i2,i3⟩|⟨m,i1,i2,i3⟩|⟨i1,i2,i3⟩ <;> rw[h1,h2,h3,i1,i2,i3] <;> rfl
theorem Ni:nJ fs env=Res.bnd (fs env) (f:=⟨fun p=>match p.1 with
 |[.val d1,.val d2]=>(match nr d1,nr d2 with|some a,some b=>.ok ((a.zip b).map fun z=>D.tup [z.1,z.2],p.2)|_,_=>.bad)
 |_=>.bad⟩):=by
 unfold nJ;rw[pj,pj,pj,mw,mw,mw,mw];cases fs env with
 |ok p=>
  show NH (wb (xn true true p.2) p.1) (NH (wb (xn true false p.2) p.1) (NH (wb (xn false true p.2) p.1) (wb (xn false false p.2) p.1)))=wb (EY p.2) p.1;rw[pq,pq,pq];exact UN (fun g=>wb g p.1) (funext fun a=>funext fun b=>Ab p.2 a b)
 |_=>rfl
theorem Nj:nr (.lst ds)=some ds:=id rfl
theorem Nk:nr (.tup ds)=some ds:=id rfl
theorem Nl(i:Nat):nM i f g env=Res.bnd (g env) (f:=⟨fun(p:R×PV.Env)=>Res.bnd (f p.2) (f:=⟨fun(q:R×PV.Env)=>match p.2[i]?,q.2[i]? with
 |some (some _),some (some (.l .f,.lst ds))=>(match q.1.2 with
  | .int k=>(match ixN ds.length k with
   |some j=>.ok (.nx (q.2.set i (some (.l .f,.lst (ds.set j p.1.2)))))
   |none=>.bad)
  |_=>.bad)
 |_,_=>.bad⟩)⟩):=id rfl
theorem vf:AO (.lst ds) (.int b)=if 0<=b/\b<1000000/\ds.length*b.toNat<=sizeLine then .ok (.l .f,.lst (List.replicate b.toNat ds).flatten) else .bad:=id rfl
theorem CH:d9 false (.str x)=true:=id rfl
theorem Ac:g8 (.int a) (.int b)=.ok (.f,.int (a+b)):=id rfl
theorem pw:g8 (.lst ds) (.lst es)=if ds.length+es.length<=sizeLine then .ok (.l .f,.lst (ds++es)) else .bad:=id rfl
theorem Ad:g8 (.tup ds) (.tup es)=if ds.length+es.length<=sizeLine\/ds=[] then .ok (.f,.tup (ds++es)) else .bad:=by
 unfold g8;cases ds with
 |nil=>rw[Tw (.inr rfl)];rfl
 |cons d ds=>
  dsimp only;unfold addD;dsimp only;by_cases h:(d::ds).length+es.length<=sizeLine
  ·rw[Tw ⟨nofun,h⟩,Tw (.inl h)]
  ·rw[TC (fun z=>h z.2),TC (fun z=>z.elim h nofun)]
end
section
variable(env:PV.Env)(f g:FX)(ds ks:List D)(i:Nat)
end
section
variable(env:PV.Env)(f:FX)(fs:FOs)(ds:List D)(i:Nat)
theorem Fz:Gw i env=match env[i]? with
 |some (some (ow,.lst ds))=>if isLf ow then(match ds.getLast? with
  |some d=>.ok ((.f,d),env.set i (some (ow,.lst ds.dropLast)))
  |none=>.bad) else .bad
 |_=>.bad:=id rfl
theorem Ae:rN i f env=Res.bnd (f env) (f:=⟨fun(p:R×PV.Env)=>match p.2[i]? with
 |some (some (.pin q c,d))=>.ok (.rt (.t [p.1.1,.pin q c],.tup [p.1.2,d]))
 |_=>.bad⟩):=by
 first
  |exact id rfl
  |(unfold rN;rfl)
theorem CI(k:Int):Cn (.tup ds) (.int k)=if ds≠[]/\ds.length<=10/\0<=k/\k<1000 then .ok (.f,.tup (List.replicate k.toNat ds).flatten) else .bad:=id rfl
theorem qA(np nn:Nat)(c:O)(g:FS)(p:Addr)(d0:D)(h:ds.length+1=np):jY np nn c g p (d0::ds)=Res.bnd (g (some (.pin p c,d0)::(ds.map (fun d=>some (O.f,d))++List.replicate nn none))) (f:=⟨fun o=>match o with
  | .rt r=>.ok r
  |_=>.bad⟩):=by
 unfold jY;dsimp only;rw[Tw h];rfl
end
noncomputable def pv:=(Zz @HY (Zz @OD (Zz @Lo (Zz @MY (Zz @OE (Zz @OF (Zz @MZ (Zz @Mf (Zz @M0 (Zz @Mg (Zz @OG (Zz @OH (Zz @JB (Zz @JC (Zz @M1 (Zz @M3 (Zz @Mh (Zz @Mi (Zz @M4 (Zz @M5 (Zz @OI (Zz @M6 (Zz @Qm (Zz @OJ (Zz @Qn (Zz @OK (Zz @OL (Zz @ON (Zz @M7 (Zz @OO (Zz @OP (Zz @OQ (Zz @OV (Zz @OW (Zz @M8 (Zz @M9 (Zz @OR (Zz @Na (Zz @Qo (Zz @Nb (Zz @Nc (Zz @K8 (Zz @K9 (Zz @La (Zz @OS (Zz @Nd (Zz @Kg (Zz @Je (Zz @Nf (Zz @Im (Zz @Lb (Zz @HC (Zz @Ng (Zz @OT (Zz @Nh (Zz @OU (Zz @Qp (Zz @Ks (Zz @List.getElem?_cons_zero.{0} (Zz @List.getElem?_cons_succ.{0} (Zz @List.set_cons_zero.{0} (Zz @List.set_cons_succ.{0} (Zz @List.length_cons.{0} (Zz @List.length_nil.{0} (Zz @List.map_cons.{0,0} (Zz @List.map_nil.{0,0} (Zz @List.replicate_succ.{0} (Zz @List.replicate_zero.{0} (Zz @List.cons_append.{0} (Zz @List.nil_append.{0} (Zz @Nat.zero_add (Zz @Ni (Zz @Nj (Zz @Nk (Zz @Nl (Zz @Qk (Zz @Ql (Zz @MX @Me))))))))))))))))))))))))))))))))))))))))))))))))))))))))))))))))))))))))))))))
noncomputable def op:=(Zz @EI (Zz @EJ (Zz @ET (Zz @Cv (Zz @EU (Zz @EV (Zz @Cz (Zz @CA (Zz @z9 (Zz @xi (Zz @EW (Zz @CB (Zz @CF (Zz @CG (Zz @pk (Zz @xj (Zz @xk (Zz @JD (Zz @xl (Zz @He (Zz @Ac @CH)))))))))))))))))))))
theorem dV(n:Nat)(w:PV.Env):(∃d,Jl w (.var n)=.ok d)\/Jl w (.var n)=.bad:=by
 unfold Jl;dsimp only;split
 ·split
  ·exact .inl ⟨_,rfl⟩
  ·exact .inr rfl
 ·exact .inr rfl
theorem dA(n:Nat)(w:PV.Env):(∃d,oE w (.var n)=.ok d)\/oE w (.var n)=.bad:=by
 unfold oE;dsimp only;split
 ·exact .inl ⟨_,rfl⟩
 ·exact .inr rfl
section
variable(w:PV.Env)(op:D->D->Res R)(F:List D->Res R)(f g h:FX)(n n' n'':Nat)(x y:D)
end
section
variable(a b c d e g h i j k l m:Option R)(z:PV.Env)(r:R)(o:O)(x:D){ρ:Type}
end
end PV
namespace LW
open PySem L2 NX PV
theorem for_list{α:Type}{a:FG}{g:FS}{e:α->D}(l:List α)(P:Nat->PV.Env->Prop)
  (h:∀k x env,l[k]?=some x->P k env->∃GV,a (e x) env=.ok GV/\∃Hd,g GV=.ok (.nx Hd)/\P (k+1) Hd):∀env,P 0 env->∃env',dM a g (l.map e) env=.ok (.nx env')/\P l.length env':=by
 intro env h0;have:=Aa (a:=a) (g:=g) P (l.map e) (fun i d env hi hp=>by
  rw[TN,UY]at hi;obtain⟨x,hx,rfl⟩:=hi;obtain⟨GV,h1,Hd,h2,h3⟩:=h i x env hx hp;exact⟨GV,h1,Hd,.inl h2,h3⟩) env h0
 rwa [Tt]at this
theorem px{a:FG}{g:FS}{e:Nat->D}(n:Nat)(P:Nat->PV.Env->Prop)
  (h:∀k env,k<n->P k env->∃GV,a (e k) env=.ok GV/\∃Hd,g GV=.ok (.nx Hd)/\P (k+1) Hd):∀env,P 0 env->∃env',dM a g ((List.range n).map e) env=.ok (.nx env')/\P n env':=by
 intro env h0;have:=for_list (a:=a) (g:=g) (e:=e) (List.range n) P (fun k x env hk hp=>by
  obtain⟨h1,h2⟩:=TH.mp hk;rw[TU]at h1;rw[V5]at h2;subst h2;exact h k env h1 hp) env h0
 rwa [TU]at this
abbrev LNN:=List (List Nat)
theorem bh{α β:Type}{l:List α}(f:α->β):(l.map f).length=l.length:=Tt f
theorem jg:(false=true)=False:=VG
theorem yg{α:Type}{l:List α}{i:Nat}{a:α}(h:l[i]?=some a):∃h:i<l.length,l[i]=a:=TH.mp h
theorem g9{α:Type}{l:List α}{i:Nat}(h:i<l.length):l[i]?=some l[i]:=To h
theorem iS{α β:Type}{f:α->β}{a:α}{l:List α}:(a::l).map f=f a::l.map f:=TY
theorem si{α:Type}{a b:α}(h:a∈[b]):a=b:=Ul.mp h
theorem pA{α β:Type}{f:α->β}{l:List α}{b:β}(h:b∈l.map f):∃a,a∈l/\f a=b:=U3.mp h
theorem wc{α:Type}{a:α}{s t:List α}(h:a∈s++t):a∈s\/a∈t:=T3.mp h
theorem rX{α:Type}{s t:List α}:(s++t).length=s.length+t.length:=UC
theorem ax{s t:FS}{env env':PV.Env}(h:s env=.ok (.nx env')):sSeq s t env=t env':=by rw[HC,h,HY]
theorem vg{ds:List D}(h:ds.length<=16777216):ds.length<=sizeLine:=line_le h
theorem ka{l:List Int}{k:Nat}(h:k<l.length):Jw (l.map D.int) (k:Int)=some (.int (l.getD k 0)):=fG (by rw[TN,Th,g9 h];rfl)
theorem kc(x y:D)(t1 t2:Option R)(bG:PV.Env):iG 2 (aE (aw 0) (aE (aw 1) cQ)) (.tup [x,y]) (t1::t2::bG)=.ok (some (.f,x)::some (.f,y)::bG):=by
 rw[Lb,Tw (by simp),Im,Je,Tw (by simp),HY,Im,Je,Tw (by simp),HY];rfl
theorem kJ(x b:Int)(h:0<b):0<=x%b/\x%b<b:=⟨VA _ (by lia),V6 _ h⟩
theorem DI(n:Nat)(h:n<=200):qf (.int 10) (.int (n:Int))=.ok (.f,.int (10 ^ n)):=by
 rw[Cy,Tw (by lia),Uk]
theorem vh(x b:Int)(h:0<b):oS (.int x) (.int b)=.ok (.f,.int (x%b)):=by rw[Cw,Tw h]
theorem CJ(x b:Int)(h:0<b)(h2:b<1073741824):rJ (.int x) (.int b)=.ok (.f,.int (x / b)):=by rw[z8,Tw ⟨h,h2⟩]
theorem xo{α:Type}(l:List α)(k:Nat):g7 l none (some (k:Int))=l.take k:=by
 unfold g7;rw[HT.lp,HT.sT,Wj,Zd];by_cases h:k<=l.length
 ·rw[Yi h]
 ·rw[Nat.min_eq_right (by lia),Uy (Tn _),Uy (by lia)]
theorem xp{α:Type}(l:List α)(k:Nat):g7 l (some (k:Int)) none=l.drop k:=by
 unfold g7;rw[HT.lp,HT.sT];by_cases h:k<=l.length
 ·rw[Yi h,Uy (by rw[Uz];exact Tn _)]
 ·rw[Nat.min_eq_right (by lia),X0 (Tn _),X0 (by lia),YT]
theorem DK(j:Int)(h0:0<=j)(h:j<=1000)(fo:FO)(env env':PV.Env)(o:Opd)(e1:fo env=.ok (o,env'))(e2:Jl env' o=.ok (.int j)):cB fo env=.ok ((List.range j.toNat).map fun(k:Nat)=>D.int (k:Int),env'):=by
 rw[Kg,e1,HY];dsimp only;rw[e2,HY];dsimp only;rw[Tw (by lia)]
theorem mx(n k:Nat)(h:k<n):ixN n (k:Int)=some k:=by
 unfold ixN;rw[Tw (by lia),Tw (by lia)];rfl
theorem yh(l:List Int):zy [.lst (l.map D.int)]=.ok (.f,.int l.sum):=by
 unfold zy;dsimp only;have:(nr (D.lst (l.map D.int))).bind d7=some l:=kW l;rw[this]
theorem isT(ds:List D):rK "tuple" (.tup ds)=true:=rfl
theorem iT{α β:Type}(f:α->β)(l:List α)(lo hi:Option Int):g7 (l.map f) lo hi=(g7 l lo hi).map f:=by
 unfold g7;rw[bh,<-List.map_drop,<-List.map_take]
theorem short{α:Type}{l:List α}(h:l.length<=100000):l.length<sizeLine:=Ts (T9 _) (line_le (by lia))
section
variable(env:PV.Env)(f:FX)(fs:FOs)(fo:FO)
theorem pB(i:Nat)(c:O)(F:Addr->List D->Res R):eFunW c F i fs env=Res.bnd (fs env) (f:=⟨fun p=>match p.1 with
 | .var j::os=>if j=i then(match p.2[i]? with
  |some (some (ow,d0))=>if o6 c ow then Res.bnd (kx (p.2.set i none) os) (f:=⟨fun ds=>Res.bnd (o7 F c d0 ds) (f:=⟨fun x=>if aP x.1.1 x.1.2&&aP c x.2 then .ok (x.1,(p.2.set i none).set i (some (ow,x.2))) else .ok (x.1,((p.2.set i none).map frz).set i (some (ow,x.2)))⟩)⟩) else .bad
  |_=>.bad) else .bad
 |_=>.bad⟩):=id rfl
theorem AS(r:R):frz (some r)=some (.f,r.2):=id rfl
theorem AU:frz none=none:=id rfl
end
theorem set_rangeMap{α:Type}(n k:Nat)(g:Nat->α)(v:α):((List.range n).map g).set k v=(List.range n).map fun i=>if i=k then v else g i:=by
 apply List.ext_getElem
 ·rw[UA,bh,bh]
 ·intro i h1 h2;rw[List.getElem_set,VY,VY,V5];by_cases h:i=k
  ·rw[Tw h.symm,Tw h]
  ·rw[TC (Vn h),TC h]
theorem xq(l:List Int)(k:Nat)(h:k<l.length):(l.take (k+1)).sum=(l.take k).sum+l[k]:=by
 rw[VN h,YB,List.sum_cons,Ze,UX]
theorem CK{x:Int}{n:Nat}(hx:x.natAbs<2 ^ n)(hn:n<=900000):x.natAbs.log2<900000:=by
 rcases YV x.natAbs with e|e
 ·rw[e];decide
 ·have:=(ZG (WM e)).mpr hx;lia
theorem sj{x y:Int}{n m:Nat}(hx:x.natAbs<2 ^ n)(hy:y.natAbs<2 ^ m)(hn:n<=900000)(hm:m<=900000):iO (.int x) (.int y)=.ok (.f,.int (x*y)):=by
 unfold iO;dsimp only;rw[Tw ⟨CK hx hn,CK hy hm⟩]
theorem RY:(2:Nat) ^ 32=4294967296:=by decide +kernel
theorem Gz{x y:Int}(hx:x.natAbs<4294967296)(hy:y.natAbs<4294967296):iO (.int x) (.int y)=.ok (.f,.int (x*y)):=sj (n:=32) (m:=32) (by rw[RY];exact hx) (by rw[RY];exact hy) (by decide) (by decide)
theorem EZ:qf (.int 10) (.int 30)=.ok (.f,.int (10 ^ 30)):=DI 30 (by decide)
theorem bI{α:Type}(l:List α)(k:Nat)(d:α)(h:k<l.length):l.getD k d=l[k]:=by rw[Th,g9 h];rfl
theorem qB(a b:List Int)(k:Nat)(ha:k<a.length)(hb:k<b.length):(((a.zip b).map fun z=>z.1*z.2).take (k+1)).sum=(((a.zip b).map fun z=>z.1*z.2).take k).sum+a.getD k 0*b.getD k 0:=by
 have h:k<((a.zip b).map fun z=>z.1*z.2).length:=by
  rw[bh,U7];lia
 rw[xq _ k h,VY,WW,bI _ _ _ ha,bI _ _ _ hb]
theorem vi(rows:List (List Int))(uZ:List Int)(j k:Nat)(ha:j<rows.length)(hb:j<uZ.length):(((rows.zip uZ).take (j+1)).map fun z=>z.1.getD k 0*z.2).sum=(((rows.zip uZ).take j).map fun z=>z.1.getD k 0*z.2).sum+(rows[j].getD k 0)*uZ[j]:=by
 have h:j<(rows.zip uZ).length:=by
  rw[U7];lia
 rw[VN h,Ub,YB,iS,Vs,List.sum_cons,Ze,UX,WW]
theorem eZ{l:List Int}{k:Nat}(h:k<l.length):l.getD k 0∈l:=by
 rw[bI _ _ _ h];exact VF h
abbrev Bg(n:Nat)(a:List Int):Prop:=∀x∈a,x.natAbs<2 ^ n
def eR(r:List Int):D:=.tup (r.map D.int)
def dot(a b:List Int):Int:=((a.zip b).map fun z=>z.1*z.2).sum
theorem xr(a b:List Int):((a.map D.int).zip (b.map D.int)).map (fun z=>D.tup [z.1,z.2])=(a.zip b).map fun z=>D.tup [.int z.1,.int z.2]:=by
 rw[Zf,TV];rfl
theorem oi{n m:Nat}(hn:n<=900000)(hm:m<=900000)(a b:List Int)(ha:Bg n a)(hb:Bg m b)(hl:a.length<=1000):bY [eR a,eR b]=.ok (.f,.int (dot a b)):=by
 have hc:ck (iG 2 (aE (aw 0) (aE (aw 1) cQ))) gT (aF iO (aj 0) (aj 1)) ((a.zip b).map fun z=>D.tup [.int z.1,.int z.2]) [none,none]=.ok (((a.zip b).map fun z=>z.1*z.2).map D.int):=by
  rw[TV];refine cI (fun env=>∃t u,env=[t,u]) _ ?_ _ ⟨_,_,rfl⟩;rintro⟨x,y⟩ hz env ⟨t,u,rfl⟩;have hx:=ha x (VQ hz).1;have hy:=hb y (VQ hz).2;refine⟨_,kc _ _ _ _ _,?_⟩;simp only[pv,seval,sj hx hy hn hm];exact⟨_,_,rfl,_,_,rfl⟩
 have RZ:(((a.zip b).map fun z=>z.1*z.2).map D.int).length<=16777216:=by
  rw[bh,bh,U7];lia
 unfold bY nU eR;rw[bt (h:=by rfl)];simp only[pv,seval,op,xr,hc,line_le RZ,He,yh];rfl
theorem rY{n m:Nat}(hn:n<=900000)(hm:m<=900000)(a b:List Int)(ha:Bg n a)(hb:Bg m b)(hl:a.length<=1000)(KH:a.length=b.length):aW [eR a,eR b]=.ok (.f,.int (dot a b)):=by
 have hz:((a.zip b).map fun z=>z.1*z.2).take a.length=(a.zip b).map fun z=>z.1*z.2:=by
  rw[Uy];rw[bh,U7];lia
 obtain⟨env',hf,t,rfl⟩:=px (a:=aw 3) (g:=cT) (e:=fun k=>D.int (k:Int)) a.length (fun k env=>∃t,env=[some (.f,eR a),some (.f,eR b),some (.f,.int (((a.zip b).map fun z=>z.1*z.2).take k).sum),t]) (by
  rintro k env hk ⟨t,rfl⟩;have JZ:k<b.length:=KH▸hk;refine⟨[some (.f,eR a),some (.f,eR b),some (.f,.int (((a.zip b).map fun z=>z.1*z.2).take k).sum),some (.f,.int (k:Int))],by simp only[pv,seval],[some (.f,eR a),some (.f,eR b),some (.f,.int (((a.zip b).map fun z=>z.1*z.2).take (k+1)).sum),some (.f,.int (k:Int))],?_,_,rfl⟩;have e1:=ka (l:=a) hk;have e2:=ka (l:=b) JZ;have e3:=sj (ha _ (eZ hk)) (hb _ (eZ JZ)) hn hm;rw[qB a b k hk JZ];unfold cT eR;simp only[pv,seval,op,e1,e2,e3]) [some (.f,eR a),some (.f,eR b),some (.f,.int 0),none] ⟨_,by rw[Xu,Ze]⟩
 unfold aW gG;rw[bt (h:=by rfl)];have hr:cB (aq (bL fO (ag (aj 0) ay))) [some (.f,eR a),some (.f,eR b),some (.f,.int 0),none]=.ok ((List.range a.length).map fun(k:Nat)=>D.int (k:Int),[some (.f,eR a),some (.f,eR b),some (.f,.int 0),none]):=by
  refine(DK (a.length:Int) (by lia) (by lia) _ _ _ (.val (.int (a.length:Int))) ?_ rfl);unfold eR;simp only[pv,seval,op,bh]
 rw[ax (env':=[some (.f,eR a),some (.f,eR b),some (.f,.int 0),none]) (by simp only[pv,seval])];rw[ax (env':=[some (.f,eR a),some (.f,eR b),some (.f,.int (dot a b)),t]) (by
  unfold fB;rw[Ks,hr,HY];rw[hz]at hf;exact hf)]
 unfold eA;simp only[pv,seval]
def co(rows:List (List Int))(uZ:List Int)(j k:Nat):Int:=(((rows.zip uZ).take j).map fun z=>z.1.getD k 0*z.2).sum
theorem qC(rows:List (List Int))(uZ:List Int):((rows.map eR).zip (uZ.map D.int)).map (fun z=>D.tup [z.1,z.2])=(rows.zip uZ).map fun z=>D.tup [eR z.1,.int z.2]:=by
 rw[Zf,TV];rfl
def Rows(n w:Nat)(rows:List (List Int)):Prop:=∀r∈rows,r.length=w/\Bg n r
theorem ke(rows:List (List Int)):G0 (rows.map eR)=true:=by
 rw[cw,V9,Uh];intro r _;show cz (.tup _)=true;rw[iA,He]
theorem E5{n m:Nat}(hn:n<=900000)(hm:m<=900000)(w k:Nat)(hk:k<w)(rows:List (List Int))(uZ:List Int)(hr:Rows n w rows)(Lp:Bg m uZ):ck (iG 2 (aE (aw 0) (aE (aw 1) cQ))) gT (aF iO (aq (aF Hw (aj 0) (aj 2))) (aj 1)) ((rows.zip uZ).map fun z=>D.tup [eR z.1,.int z.2]) [none,none,some (.f,.int (k:Int))]=.ok (((rows.zip uZ).map fun z=>z.1.getD k 0*z.2).map D.int):=by
 rw[TV];refine cI (fun env=>∃t u,env=[t,u,some (.f,.int (k:Int))]) _ ?_ _ ⟨_,_,rfl⟩;rintro⟨r,y⟩ hz env ⟨t,u,rfl⟩;have Q0:=VQ hz;obtain⟨h1,h2⟩:=hr r Q0.1;have JZ:k<r.length:=h1▸hk;have e1:=ka (l:=r) JZ;have e2:=sj (h2 _ (eZ JZ)) (Lp y Q0.2) hn hm;refine⟨_,kc _ _ _ _ _,?_⟩;unfold eR;simp only[pv,seval,op,e1,e2];exact⟨_,_,rfl,_,_,rfl⟩
theorem xt{n m:Nat}(hn:n<=900000)(hm:m<=900000)(w:Nat)(hw:w<=1000)(rows:List (List Int))(uZ:List Int)(hr:Rows n w rows)(Lp:Bg m uZ)(hl:rows.length<=1000):eN [.lst (rows.map eR),.lst (uZ.map D.int),.int (w:Int)]=.ok (.f,eR ((List.range w).map (co rows uZ rows.length))):=by
 have OX:∀k,((rows.zip uZ).map fun z=>z.1.getD k 0*z.2).sum=co rows uZ rows.length k:=fun k=>by
  unfold co;rw[Uy];rw[U7];lia
 have RZ:∀k,(((rows.zip uZ).map fun z=>z.1.getD k 0*z.2).map D.int).length<=16777216:=fun k=>by
  rw[bh,bh,U7];lia
 have hc:ck (aw 0) gT (bL zy (ag (aq (cy (nJ (ag (aq (aB 1)) (ag (aq (aB 2)) ay))) [none,none,some 0] (iG 2 (aE (aw 0) (aE (aw 1) cQ))) gT (aF iO (aq (aF Hw (aj 0) (aj 2))) (aj 1)))) ay)) ((List.range w).map fun(k:Nat)=>D.int (k:Int)) [none,some (.f,.lst (rows.map eR)),some (.f,.lst (uZ.map D.int))]=.ok (((List.range w).map (co rows uZ rows.length)).map D.int):=by
  rw[TV];refine cI (fun env=>∃t,env=[t,some (.f,.lst (rows.map eR)),some (.f,.lst (uZ.map D.int))]) _ ?_ _ ⟨_,rfl⟩;rintro k hk env ⟨t,rfl⟩;have hk:k<w:=UB.mp hk;refine⟨[some (.f,.int (k:Int)),some (.f,.lst (rows.map eR)),some (.f,.lst (uZ.map D.int))],by simp only[pv,seval],?_⟩;simp only[pv,seval,op,qC,E5 hn hm w k hk rows uZ hr Lp,line_le (RZ k),He,yh,OX];exact⟨_,_,rfl,_,rfl⟩
 have hl3:(((List.range w).map (co rows uZ rows.length)).map D.int).length<=16777216:=by
  rw[bh,bh,TU];lia
 unfold eN qw eR;rw[bt (h:=by rfl)];have OY:-4611686018427387904<=(w:Int)/\(w:Int)<4611686018427387904:=by lia
 unfold eR at hc;simp only[pv,seval,op,OY,Uk,and_self,hc,line_le hl3,He]
theorem eD(w k:Nat)(f:Nat->Int)(h:k<w):((List.range w).map f).getD k 0=f k:=by
 rw[bI _ _ _ (by rw[bh,TU];exact h),VY,V5]
theorem Af(x y:D)(a b c d t1 t2 t3:Option R):iG 2 (aE (aw 4) (aE (aw 5) cQ)) (.tup [x,y]) [a,b,c,d,t1,t2,t3]=.ok [a,b,c,d,some (.f,x),some (.f,y),t3]:=by
 rw[Lb,Tw (by simp),Im,Je,Tw (by simp),HY,Im,Je,Tw (by simp),HY];rfl
theorem Ag{n m:Nat}(hn:n<=900000)(hm:m<=900000)(w:Nat)(hw:w<=1000)(R0 N0:D)(f:Nat->Int)(r:List Int)(y:Int)(hr:r.length=w/\Bg n r)(hy:y.natAbs<2 ^ m)(t:Option R):
  ∃t',fT [some (.f,R0),some (.f,N0),some (.f,.int (w:Int)),some (.l .f,.lst (((List.range w).map f).map D.int)),some (.f,eR r),some (.f,.int y),t] =
   .ok (.nx [some (.f,R0),some (.f,N0),some (.f,.int (w:Int)),some (.l .f,.lst (((List.range w).map fun k=>f k+r.getD k 0*y).map D.int)),some (.f,eR r),some (.f,.int y),t']):=by
 obtain⟨env',hf,t',rfl⟩:=px (a:=aw 6) (g:=eP) (e:=fun k=>D.int (k:Int)) w (fun k env=>∃t,env=[some (.f,R0),some (.f,N0),some (.f,.int (w:Int)),some (.l .f,.lst (((List.range w).map fun i=>if i<k then f i+r.getD i 0*y else f i).map D.int)),some (.f,eR r),some (.f,.int y),t]) (by
  rintro k env hk ⟨t,rfl⟩;have JZ:k<r.length:=hr.1.symm▸hk;generalize hg:(fun i=>if i<k then f i+r.getD i 0*y else f i)=g;have gk:g k=f k:=by rw[<-hg];exact TC (U0 _)
  have e0:Jw (((List.range w).map g).map D.int) (k:Int)=some (.int (f k)):=by
   rw[ka (by rw[bh,TU];exact hk),eD w k g hk,gk]
  have e1:=ka (l:=r) JZ;have e2:=sj (hr.2 _ (eZ JZ)) hy hn hm;have e3:ixN (((List.range w).map g).map D.int).length (k:Int)=some k:=mx _ _ (by rw[bh,bh,TU];exact hk);have e4:(((List.range w).map g).map D.int).set k (.int (f k+r.getD k 0*y))=((List.range w).map fun i=>if i<k+1 then f i+r.getD i 0*y else f i).map D.int:=by
   rw[TV,set_rangeMap,TV];refine Uo fun i _=>?_
   show(if i=k then D.int _ else D.int (g i))=D.int (if i<k+1 then f i+r.getD i 0*y else f i);by_cases h:i=k
   ·subst h;rw[Tw rfl,Tw (Nat.lt_add_one _)]
   ·rw[TC h,<-hg];dsimp only;by_cases h2:i<k
    ·rw[Tw h2,Tw (by lia)]
    ·rw[TC h2,TC (by lia)]
  refine⟨[some (.f,R0),some (.f,N0),some (.f,.int (w:Int)),some (.l .f,.lst (((List.range w).map g).map D.int)),some (.f,eR r),some (.f,.int y),some (.f,.int (k:Int))],by simp only[pv,seval],
   [some (.f,R0),some (.f,N0),some (.f,.int (w:Int)),some (.l .f,.lst (((List.range w).map fun i=>if i<k+1 then f i+r.getD i 0*y else f i).map D.int)),some (.f,eR r),some (.f,.int y),some (.f,.int (k:Int))],?_,_,rfl⟩
  rw[<-e4];unfold eP eR;simp only[pv,seval,op,e0,e1,e2,e3]) [some (.f,R0),some (.f,N0),some (.f,.int (w:Int)),some (.l .f,.lst (((List.range w).map f).map D.int)),some (.f,eR r),some (.f,.int y),t] ⟨t,by simp only[TR,Xk]⟩
 refine⟨t',?_⟩;unfold fT;rw[Ks,DK (w:Int) (by lia) (by lia) _ _ _ (.var 2) rfl rfl,HY];refine hf.trans ?_;have:(List.range w).map (fun i=>if i<w then f i+r.getD i 0*y else f i)=(List.range w).map fun k=>f k+r.getD k 0*y:=Uo fun i hi=>Tw (UB.mp hi)
 rw[this]
theorem yi{n m:Nat}(hn:n<=900000)(hm:m<=900000)(w:Nat)(hw:w<=1000)(rows:List (List Int))(uZ:List Int)(hr:Rows n w rows)(Lp:Bg m uZ)(hl:rows.length<=1000)(R1:rows.length=uZ.length):b8 [.lst (rows.map eR),.lst (uZ.map D.int),.int (w:Int)]=.ok (.f,eR ((List.range w).map (co rows uZ rows.length))):=by
 have zl:(rows.zip uZ).length=rows.length:=by
  rw[U7];lia
 have e0:iO (.lst [.int 0]) (.int (w:Int))=.ok (.l .f,.lst (((List.range w).map fun _=>(0:Int)).map D.int)):=by
  show AO (.lst [.int 0]) (.int (w:Int))=_;rw[vf,Tw ⟨by lia,by lia,line_le (by rw[TQ,UI];lia)⟩,Uk];have:(List.replicate w [D.int 0]).flatten=((List.range w).map fun _=>(0:Int)).map D.int:=by
   rw[TV];clear hw hr;induction w with
   |zero=>rfl
   |succ n ih=>rw[Yo,YC,ih,Xb,Ub];rfl
  rw[this]
 obtain⟨env',hf,t1,t2,t3,rfl⟩:=for_list (a:=iG 2 (aE (aw 4) (aE (aw 5) cQ))) (g:=ir) (e:=fun z:List Int×Int=>D.tup [eR z.1,.int z.2]) (rows.zip uZ) (fun j env=>∃t1 t2 t3,env=[some (.f,.lst (rows.map eR)),some (.f,.lst (uZ.map D.int)),some (.f,.int (w:Int)),some (.l .f,.lst (((List.range w).map (co rows uZ j)).map D.int)),t1,t2,t3]) (by
  rintro j ⟨r,y⟩ env hj ⟨t1,t2,t3,rfl⟩;have hz:(r,y)∈rows.zip uZ:=UL hj;have NB:=VQ hz;obtain⟨q1,q2⟩:=VL.mp hj;obtain⟨l1,q1⟩:=yg q1;obtain⟨l2,q2⟩:=yg q2;obtain⟨t',hs⟩:=Ag hn hm w hw (.lst (rows.map eR)) (.lst (uZ.map D.int)) (co rows uZ j) r y (hr r NB.1) (Lp y NB.2) t3;have e:(fun k=>co rows uZ j k+r.getD k 0*y)=co rows uZ (j+1):=funext fun k=>by
   unfold co;rw[vi rows uZ j k l1 l2];dsimp only at q1 q2;rw[q1,q2]
  rw[e]at hs;exact⟨_,Af _ _ _ _ _ _ _ _ _,_,hs,_,_,_,rfl⟩) [some (.f,.lst (rows.map eR)),some (.f,.lst (uZ.map D.int)),some (.f,.int (w:Int)),some (.l .f,.lst (((List.range w).map fun _=>(0:Int)).map D.int)),none,none,none] ⟨_,_,_,by
   have:co rows uZ 0=fun _=>(0:Int):=funext fun k=>by unfold co;rw[Xu];rfl
   rw[this]⟩
 unfold b8 lb;rw[bt (h:=by rfl)];rw[ax (env':=[some (.f,.lst (rows.map eR)),some (.f,.lst (uZ.map D.int)),some (.f,.int (w:Int)),some (.l .f,.lst (((List.range w).map fun _=>(0:Int)).map D.int)),none,none,none]) (by simp only[pv,seval,e0])];rw[ax (env':=[some (.f,.lst (rows.map eR)),some (.f,.lst (uZ.map D.int)),some (.f,.int (w:Int)),some (.l .f,.lst (((List.range w).map (co rows uZ rows.length)).map D.int)),t1,t2,t3]) (by
  unfold ja;rw[Ks];simp only[pv,seval,qC];rw[zl]at hf;exact hf)]
 unfold iu;simp only[pv,seval,op];rfl
end LW
namespace LW
theorem SJ:∀(k n:Nat) (f:Nat->Nat),k<n->(∀i,i<n->f i<k)->∃i j,i<j/\j<n/\f i=f j
 | 0,n,f,h,hf=>absurd (hf 0 h) (TR _)
 |k+1,0,f,h,hf=>absurd h (TR _)
 |k+1,n+1,f,h,hf=>by
  by_cases hc:∃i,i<n/\f i=f n
  ·obtain⟨i,h1,h2⟩:=hc;exact⟨i,n,h1,T9 n,h2⟩
  ·have hn:∀i,i<n->f i≠f n:=fun i hi e=>hc ⟨i,hi,e⟩
   obtain⟨i,j,h1,h2,h3⟩:=SJ k n (fun i=>if f i=k then f n else f i) (by lia) (fun i hi=>by
    have a1:=hf i (by lia);have a2:=hf n (by lia);have a3:=hn i hi;split <;> lia)
   refine⟨i,j,h1,by lia,?_⟩;have b1:=hn i (by lia);have b2:=hn j (by lia);split at h3 <;> split at h3 <;> lia
def sg(n:Nat)(f:Nat->Int):Int:=match n with
 | 0=>0
 |n+1=>sg n f+f n
theorem az{n:Nat}{f g:Nat->Int}(h:∀k,k<n->f k=g k):sg n f=sg n g:=by
 induction n with
 |zero=>rfl
 |succ n ih=>unfold sg;rw[ih fun k hk=>h k (by lia),h n (by lia)]
theorem dB{n:Nat}{f:Nat->Int}(h:∀k,k<n->f k=0):sg n f=0:=by
 induction n with
 |zero=>rfl
 |succ n ih=>unfold sg;rw[ih fun k hk=>h k (by lia),h n (by lia)];rfl
theorem gK(n:Nat)(f g:Nat->Int):sg n (fun k=>f k+g k)=sg n f+sg n g:=by
 induction n with
 |zero=>rfl
 |succ n ih=>unfold sg;rw[ih];lia
theorem cj(n:Nat)(x:Int)(f:Nat->Int):sg n (fun k=>x*f k)=x*sg n f:=by
 induction n with
 |zero=>exact(T5 x).symm
 |succ n ih=>unfold sg;rw[ih,XM]
theorem g0(n:Nat)(x:Int)(f:Nat->Int):sg n (fun k=>f k*x)=sg n f*x:=by
 rw[Us,<-cj];exact az fun k _=>Us _ _
theorem iU(m n:Nat)(f:Nat->Nat->Int):sg m (fun i=>sg n (f i))=sg n fun j=>sg m fun i=>f i j:=by
 induction m with
 |zero=>exact(dB fun _ _=>rfl).symm
 |succ m ih=>
  show sg m (fun i=>sg n (f i))+sg n (f m)=sg n fun j=>(sg m fun i=>f i j)+f m j
  rw[ih,<-gK]
theorem fC{n c:Nat}(h:c<n){f:Nat->Int}(hf:∀k,k<n->k≠c->f k=0):sg n f=f c:=by
 induction n with
 |zero=>lia
 |succ n ih=>
  unfold sg;by_cases hc:c=n
  ·subst hc;rw[dB fun k hk=>hf k (by lia) (by lia),Yk]
  ·rw[ih (by lia) fun k hk=>hf k (by lia),hf n (by lia) (fun e=>hc e.symm),UX]
theorem FA{n:Nat}{f:Nat->Int}{M:Nat}(h:∀k,k<n->(f k).natAbs<=M):(sg n f).natAbs<=n*M:=by
 induction n with
 |zero=>show(0:Int).natAbs<=_;rw[Nat.zero_mul];decide
 |succ n ih=>
  unfold sg;have h1:=ih fun k hk=>h k (by lia)
  have h2:=h n (by lia);have h3:=Int.natAbs_add_le (sg n f) (f n);rw[X5];lia
def Lq(K:Nat):Nat->(Nat->Nat)->Nat
 | 0,_=>0
 |s+1,y=>Lq K s y*K+y s
theorem yj{K:Nat}:∀(s:Nat) (y:Nat->Nat),(∀j,j<s->y j<K)->Lq K s y<K ^ s
 | 0,_,_=>T9 0
 |s+1,y,h=>by
  have h1:=yj s y fun j hj=>h j (by lia)
  have h2:=h s (by lia);show Lq K s y*K+y s<K ^ (s+1);rw[Wc];have h3:(Lq K s y+1)*K<=K ^ s*K:=Vl K h1;rw[X5]at h3;lia
theorem vj{K:Nat}:∀(s:Nat) (y z:Nat->Nat),(∀j,j<s->y j<K/\z j<K)->Lq K s y=Lq K s z->∀j,j<s->y j=z j
 | 0,_,_,_,_,j,hj=>absurd hj (TR j)
 |s+1,y,z,h,e,j,hj=>by
  have e:Lq K s y*K+y s=Lq K s z*K+z s:=e;obtain⟨h1,h2⟩:=h s (by lia);have hd:Lq K s y=Lq K s z:=by
   have e1:(Lq K s y*K+y s) / K=(Lq K s z*K+z s) / K:=by rw[e]
   rw[Wa,Wa (Lq K s z),Nat.mul_add_div (by lia),Nat.mul_add_div (by lia),Nat.div_eq_of_lt h1,Nat.div_eq_of_lt h2]at e1;lia
  rw[hd]at e;by_cases hj2:j=s
  ·subst hj2;lia
  ·exact vj s y z (fun j hj=>h j (by lia)) hd j (by lia)
def Jz(B n i:Nat):Nat:=n / B ^ i%B
theorem vk{B:Nat}:∀(r n m:Nat),n<B ^ r->m<B ^ r->(∀i,i<r->Jz B n i=Jz B m i)->n=m
 | 0,n,m,hn,hm,_=>by
  rw[Nat.pow_zero]at hn hm;lia
 |r+1,n,m,hn,hm,h=>by
  have h0:=h 0 (by lia);unfold Jz at h0;rw[Nat.pow_zero,Nat.div_one,Nat.div_one]at h0;rw[Wc,Wa]at hn hm;have hd:n / B=m / B:=vk r (n / B) (m / B) (Yp hn) (Yp hm) fun i hi=>by
   have:=h (i+1) (by lia);unfold Jz at this ⊢;rw[Wc,Wa,<-X1,<-X1]at this;exact this
  have e1:=Nat.div_add_mod n B;have e2:=Nat.div_add_mod m B;rw[hd,h0]at e1;lia
theorem vm{r s A:Nat}(h:s<r)(m:Nat->Nat->Int)(hA:∀j,j<s->∀i,i<r->(m j i).natAbs<=A):∃x:Nat->Int,(∃i,i<r/\x i≠0)/\(∀i,i<r->(x i).natAbs<=(2*(r*A)+1) ^ s)/\∀j,j<s->sg r (fun i=>m j i*x i)=0:=by
 generalize hX:(2*(r*A)+1) ^ s=X;have R3:∀n i,Jz (X+1) n i<=X:=fun n i=>by
  exact Nat.le_of_lt_succ (Nat.mod_lt (n / (X+1) ^ i) (Wu X))
 have hy:∀n j,j<s->(sg r fun i=>m j i*(Jz (X+1) n i:Int)).natAbs<=r*A*X:=fun n j hj=>by
  rw[Nat.mul_assoc];refine FA fun i hi=>?_
  rw[Vt,UD];exact WL (hA j hj i hi) (R3 n i)
 generalize hC:r*A=C at hX hy;have Hr:∀n j,j<s->((sg r fun i=>m j i*(Jz (X+1) n i:Int))+(C*X:Nat)).toNat<2*(C*X)+1:=fun n j hj=>by
  have:=hy n j hj;generalize (sg r fun i=>m j i*(Jz (X+1) n i:Int))=q at this;generalize C*X=t at this;lia
 have hcmp:(2*(C*X)+1) ^ s<(X+1) ^ r:=by
  have h1:(X+1) ^ (s+1)<=(X+1) ^ r:=Vm (Wu X) h;have h2:2*(C*X)+1<=(X+1)*(2*C+1):=by
   have:(X+1)*(2*C+1)=2*(C*X)+2*C+X+1:=by
    rw[Nat.mul_add,Nat.add_mul,ZK,Nat.one_mul,Wa X,Nat.mul_assoc];lia
   lia
  have h3:(2*(C*X)+1) ^ s<=(X+1) ^ s*X:=by
   rw[<-hX,<-Nat.mul_pow,hX];exact YD h2 s
  have h4:(X+1) ^ s*X<(X+1) ^ (s+1):=by
   rw[Wc];have:0<(X+1) ^ s:=Nat.pow_pos (Wu X);exact Nat.mul_lt_mul_of_pos_left (T9 X) this
  lia
 obtain⟨a,b,h1,h2,h3⟩:=SJ _ _ (fun n=>Lq (2*(C*X)+1) s fun j=>((sg r fun i=>m j i*(Jz (X+1) n i:Int))+(C*X:Nat)).toNat) hcmp fun n _=>yj s _ fun j hj=>Hr n j hj
 have h4:=vj s _ _ (fun j hj=>⟨Hr a j hj,Hr b j hj⟩) h3;refine⟨fun i=>(Jz (X+1) a i:Int)-(Jz (X+1) b i:Int),?_,fun i _=>?_,fun j hj=>?_⟩
 ·apply TZ;intro N1;have:a=b:=vk r a b (by lia) h2 fun i hi=>by
   apply TZ;intro I0;exact N1 ⟨i,hi,fun z=>I0 (by have z:(Jz (X+1) a i:Int)-(Jz (X+1) b i:Int)=0:=z;lia)⟩
  lia
 ·have:=R3 a i;have:=R3 b i;show((Jz (X+1) a i:Int)-(Jz (X+1) b i:Int)).natAbs<=X;lia
 ·have e:=h4 j hj;have ya:=hy a j hj;have yb:=hy b j hj;have:sg r (fun i=>m j i*((Jz (X+1) a i:Int)-(Jz (X+1) b i:Int)))=(sg r fun i=>m j i*(Jz (X+1) a i:Int))-sg r fun i=>m j i*(Jz (X+1) b i:Int):=by
   have e2:sg r (fun i=>m j i*((Jz (X+1) a i:Int)-(Jz (X+1) b i:Int)))+(sg r fun i=>m j i*(Jz (X+1) b i:Int))=sg r fun i=>m j i*(Jz (X+1) a i:Int):=by
    rw[<-gK];refine az fun k _=>?_
    rw[<-XM];congr 1
    lia
   lia
  rw[this];generalize (sg r fun i=>m j i*(Jz (X+1) a i:Int))=qa at e ya;generalize (sg r fun i=>m j i*(Jz (X+1) b i:Int))=qb at e yb;generalize C*X=t at e ya yb;lia
def OZ(r w:Nat)(F:Nat->Nat->Int):Prop:=∀x:Nat->Int,(∀k,k<w->sg r (fun i=>x i*F i k)=0)->∀i,i<r->x i=0
def In(r w:Nat)(F:Nat->Nat->Int)(v:Nat->Int):Prop:=∃(d:Int) (x:Nat->Int),d≠0/\∀k,k<w->d*v k=sg r fun i=>x i*F i k
theorem dX{r w:Nat}{F:Nat->Nat->Int}{i:Nat}(h:i<r):In r w F (F i):=by
 refine⟨1,fun j=>if j=i then 1 else 0,by decide,fun k _=>?_⟩;show 1*F i k=sg r fun j=>(if j=i then 1 else 0)*F j k
 rw[fC h (f:=fun j=>(if j=i then 1 else 0)*F j k) fun j _ hj=>by
  show(if j=i then 1 else 0)*F j k=0;rw[TC hj,UM]]
 show 1*F i k=(if i=i then 1 else 0)*F i k;rw[Tw rfl]
theorem pC{r w:Nat}{F:Nat->Nat->Int}{v:Nat->Int}(h:∀k,k<w->v k=0):In r w F v:=by
 refine⟨1,fun _=>0,by decide,fun k hk=>?_⟩;rw[h k hk,dB fun j _=>UM _,T5]
theorem in_add{r w:Nat}{F:Nat->Nat->Int}{u v:Nat->Int}(a b:Int)(hu:In r w F u)(hv:In r w F v):In r w F fun k=>a*u k+b*v k:=by
 obtain⟨d,x,h1,h2⟩:=hu;obtain⟨e,y,h3,h4⟩:=hv;refine⟨d*e,fun i=>e*a*x i+d*b*y i,fun z=>(Uq.mp z).elim h1 h3,fun k hk=>?_⟩;have e1:d*e*(a*u k+b*v k)=e*a*(d*u k)+d*b*(e*v k):=by
  rw[XM];congr 1
  ·simp only[Us,UK]
  ·simp only[Us,UK]
 rw[e1,h2 k hk,h4 k hk,<-cj,<-cj,<-gK];refine az fun i _=>?_
 rw[ZL,Ue,Ue,Ue,Ue,Ue,Ue]
theorem iC{r w:Nat}{F:Nat->Nat->Int}{u v:Nat->Int}(d:Int)(hd:d≠0)(h:∀k,k<w->d*v k=u k)(hu:In r w F u):In r w F v:=by
 obtain⟨e,x,h1,h2⟩:=hu;refine⟨e*d,x,fun z=>(Uq.mp z).elim h1 hd,fun k hk=>?_⟩;rw[Ue,h k hk,h2 k hk]
theorem bV{r w:Nat}{F:Nat->Nat->Int}{u v:Nat->Int}(h:∀k,k<w->v k=u k)(hu:In r w F u):In r w F v:=iC 1 (by decide) (fun k hk=>by rw[UT,h k hk]) hu
theorem gL{r w:Nat}{F:Nat->Nat->Int}:∀(n:Nat) (x:Nat->Int) (G:Nat->Nat->Int),(∀i,i<n->In r w F (G i))->In r w F fun k=>sg n fun i=>x i*G i k
 | 0,_,_,_=>pC fun _ _=>rfl
 |n+1,x,G,h=>by
  have h1:=gL n x G fun i hi=>h i (by lia)
  refine bV (fun k _=>?_) (in_add 1 (x n) h1 (h n (by lia)));show sg n (fun i=>x i*G i k)+x n*G n k=_;rw[UT]
theorem dH{r s w:Nat}{F G:Nat->Nat->Int}{v:Nat->Int}(hv:In r w F v)(h:∀i,i<r->In s w G (F i)):In s w G v:=by
 obtain⟨d,x,h1,h2⟩:=hv;exact iC d h1 h2 (gL r x F h)
theorem qE{a b w:Nat}{A B:Nat->Nat->Int}(hi:OZ a w A)(h:∀i,i<a->In b w B (A i)):a<=b:=by
 apply TZ;intro Hr;have LP:∃(d:Nat->Int) (m:Nat->Nat->Int),∀i,i<a->d i≠0/\∀k,k<w->d i*A i k=sg b fun j=>m i j*B j k:=by
  have:∀i,∃(p:Int×(Nat->Int)),i<a->p.1≠0/\∀k,k<w->p.1*A i k=sg b fun j=>p.2 j*B j k:=fun i=>by
   by_cases NI:i<a
   ·obtain⟨d,x,h1,h2⟩:=h i NI;exact⟨(d,x),fun _=>⟨h1,h2⟩⟩
   ·exact⟨(0,fun _=>0),fun z=>absurd z NI⟩
  exact⟨fun i=>(this i).choose.1,fun i=>(this i).choose.2,fun i NI=>(this i).choose_spec NI⟩
 obtain⟨d,m,hm⟩:=LP;have hbd:∃M,∀j,j<b->∀i,i<a->(m i j).natAbs<=M:=by
  have h1:∀(n:Nat) (f:Nat->Nat),∃M,∀i,i<n->f i<=M:=fun n f=>by
   induction n with
   |zero=>exact⟨0,fun i hi=>absurd hi (TR _)⟩
   |succ n ih=>
    obtain⟨M,hM⟩:=ih;refine⟨M+f n,fun i hi=>?_⟩;by_cases Lc:i=n
    ·rw[Lc];lia
    ·have:=hM i (by lia);lia
  have h2:∀j,∃M,∀i,i<a->(m i j).natAbs<=M:=fun j=>h1 a fun i=>(m i j).natAbs
  obtain⟨M,hM⟩:=h1 b fun j=>(h2 j).choose
  exact⟨M,fun j hj i NI=>T2 ((h2 j).choose_spec i NI) (hM j hj)⟩
 obtain⟨M,hM⟩:=hbd;obtain⟨x,⟨i0,Q5,O0⟩,_,hx⟩:=vm (r:=a) (s:=b) (A:=M) (by lia) (fun j i=>m i j) hM;have:=hi (fun i=>x i*d i) (fun k hk=>by
  have e1:sg a (fun i=>x i*d i*A i k)=sg a fun i=>sg b fun j=>x i*(m i j*B j k):=az fun i NI=>by
   rw[Ue,(hm i NI).2 k hk,cj]
  rw[e1,iU];refine dB fun j hj=>?_
  have e2:sg a (fun i=>x i*(m i j*B j k))=sg a fun i=>m i j*x i*B j k:=az fun i _=>by rw[<-Ue,Us (x i)]
  rw[e2,g0,hx j hj,UM]) i0 Q5
 exact(Uq.mp this).elim O0 (hm i0 Q5).1
abbrev Vc(l:List Int):Nat->Int:=fun k=>l.getD k 0
abbrev Hj:=List (Nat×List Int)
def Hf(L:Hj)(i:Nat):Nat:=(L.getD i (0,[])).1
def Hg(L:Hj)(i:Nat):List Int:=(L.getD i (0,[])).2
structure Rdd(w:Nat)(L:Hj):Prop where
 col:∀i,i<L.length->Hf L i<w
 len:∀i,i<L.length->(Hg L i).length=w
 own:∀i,i<L.length->(Hg L i).getD (Hf L i) 0≠0
 oth:∀i j,i<L.length->j<L.length->i≠j->(Hg L i).getD (Hf L j) 0=0
abbrev Fm(L:Hj):Nat->Nat->Int:=fun i=>Vc (Hg L i)
theorem Rdd.at{w:Nat}{L:Hj}(H:Rdd w L)(x:Nat->Int){j:Nat}(hj:j<L.length):sg L.length (fun i=>x i*Fm L i (Hf L j))=x j*(Hg L j).getD (Hf L j) 0:=
 fC hj fun i hi LG=>by
  show x i*(Hg L i).getD (Hf L j) 0=0;rw[H.oth i j hi hj LG,T5]
theorem Rdd.inj{w:Nat}{L:Hj}(H:Rdd w L){i j:Nat}(hi:i<L.length)(hj:j<L.length)(e:Hf L i=Hf L j):i=j:=by
 apply TZ;intro h;have h1:=H.oth j i hj hi (fun z=>h z.symm);rw[e]at h1;exact H.own j hj h1
theorem Rdd.zero{w:Nat}{L:Hj}(H:Rdd w L){v:Nat->Int}(hv:In L.length w (Fm L) v)(h0:∀i,i<L.length->v (Hf L i)=0):∀k,k<w->v k=0:=fun k hk=>by
 obtain⟨d,x,h1,h2⟩:=hv;have hx:∀i,i<L.length->x i=0:=fun i hi=>by
  have h:=h2 (Hf L i) (H.col i hi);rw[h0 i hi,T5,H.at x hi]at h;exact(Uq.mp h.symm).resolve_right (H.own i hi)
 have h:=h2 k hk;rw[dB fun i hi=>by rw[hx i hi,UM]]at h;exact(Uq.mp h).resolve_left h1
theorem Rdd.line{w:Nat}{L:Hj}(H:Rdd w L){v:Nat->Int}(hv:In L.length w (Fm L) v){j:Nat}(hj:j<L.length)(h0:∀i,i<L.length->i≠j->v (Hf L i)=0):∃d y:Int,d≠0/\∀k,k<w->d*v k=y*Fm L j k:=by
 obtain⟨d,x,h1,h2⟩:=hv;have hx:∀i,i<L.length->i≠j->x i=0:=fun i hi LG=>by
  have h:=h2 (Hf L i) (H.col i hi);rw[h0 i hi LG,T5,H.at x hi]at h;exact(Uq.mp h.symm).resolve_right (H.own i hi)
 refine⟨d,x j,h1,fun k hk=>?_⟩;rw[h2 k hk];exact fC hj fun i hi LG=>by rw[hx i hi LG,UM]
def gl:List Int->Nat->Nat
 |[],g=>g
 |x::r,g=>gl r (Nat.gcd g x.natAbs)
def low(r:List Int):List Int:=if gl r 0=0 then r else r.map fun x=>x.fdiv (gl r 0:Int)
theorem vn:∀(r:List Int) (g:Nat),gl r g ∣ g/\∀x∈r,gl r g ∣ x.natAbs
 |[],g=>⟨Nat.dvd_refl g,fun _ h=>nomatch h⟩
 |x::r,g=>by
  obtain⟨h1,h2⟩:=vn r (Nat.gcd g x.natAbs);refine⟨YW h1 (Nat.gcd_dvd_left _ _),fun y hy=>?_⟩;rcases TF.mp hy with rfl|hy
  ·exact YW h1 (Nat.gcd_dvd_right _ _)
  ·exact h2 y hy
theorem qF:∀(r:List Int) (g d:Nat),d ∣ g->(∀x∈r,d ∣ x.natAbs)->d ∣ gl r g
 |[],_,_,h,_=>h
 |x::r,g,d,h,hr=>qF r _ d (Nat.dvd_gcd h (hr x Tq)) fun y hy=>hr y (Tu _ hy)
theorem vo:∀(r:List Int) (g:Nat) (y:Int),gl (r.map fun x=>y*x) (y.natAbs*g)=y.natAbs*gl r g
 |[],_,_=>rfl
 |x::r,g,y=>by
  show gl (r.map fun x=>y*x) (Nat.gcd (y.natAbs*g) (y*x).natAbs)=_;rw[Vt,Nat.gcd_mul_left];exact vo r _ y
theorem Ah{r:List Int}(h:gl r 0=0):∀x∈r,x=0:=fun x hx=>by
 have:=(vn r 0).2 x hx;rw[h]at this;exact Xm.mp (Nat.eq_zero_of_zero_dvd this)
theorem my(r:List Int):(low r).length=r.length:=by
 unfold low;split
 ·rfl
 ·rw[bh]
theorem kg(r:List Int):∃g:Nat,g≠0/\(∀k,(g:Int)*(low r).getD k 0=r.getD k 0)/\((∃x∈r,x≠0)->gl (low r) 0=1):=by
 by_cases h:gl r 0=0
 ·refine⟨1,by decide,fun k=>?_,fun⟨x,hx,O0⟩=>absurd (Ah h x hx) O0⟩;unfold low;rw[Tw h];exact UT _
 ·have hm:∀x∈r,(gl r 0:Int)*x.fdiv (gl r 0:Int)=x:=fun x hx=>W2 (Int.ofNat_dvd_left.mpr ((vn r 0).2 x hx))
  refine⟨gl r 0,h,fun k=>?_,fun _=>?_⟩
  ·unfold low;rw[TC h,Th,Th,TN];cases hk:r[k]? with
   |none=>exact T5 _
   |some x=>exact hm x (UL hk)
  ·have e:=vo (low r) 0 (gl r 0:Int);have e2:(low r).map (fun x=>(gl r 0:Int)*x)=r:=by
    unfold low;rw[TC h,TV];refine(Uo fun x hx=>?_).trans (List.map_id _);exact hm x hx
   rw[e2,Nat.mul_zero,UD]at e;exact Nat.eq_of_mul_eq_mul_left (by lia) (e.symm.trans (ZK _).symm)
theorem GA{l:List Int}(h1:gl l 0=1){d y:Int}(hd:d≠0){v:Nat->Int}(h:∀k,k<l.length->d*v k=y*l.getD k 0):∃t:Int,∀k,k<l.length->v k=t*l.getD k 0:=by
 have hdy:d.natAbs ∣ y.natAbs:=by
  have h2:=qF (l.map fun x=>y*x) (y.natAbs*0) d.natAbs (by rw[Nat.mul_zero];exact Nat.dvd_zero _) fun x hx=>by
   obtain⟨z,hz,e⟩:=pA hx;obtain⟨k,hk,ez⟩:=Ur hz;have h3:=h k hk;rw[Th,g9 hk,ez]at h3;have h3:d*v k=y*z:=h3;rw[<-e,<-h3,Vt];exact Nat.dvd_mul_right _ _
  rw[vo,h1,ZK]at h2;exact h2
 obtain⟨t,ht⟩:=WS.mp hdy;refine⟨t,fun k hk=>?_⟩;have h3:=h k hk;rw[ht,Ue]at h3;exact Int.eq_of_mul_eq_mul_left hd h3
abbrev Fs(S:List (List Int)):Nat->Nat->Int:=fun i=>Vc (S.getD i [])
structure Inv(w:Nat)(rows:List (List Int))(L:Hj):Prop where
 red:Rdd w L
 pri:∀i,i<L.length->gl (Hg L i) 0=1
 base:∃S:List (List Int),S.length=L.length/\(∀s∈S,s∈rows)/\OZ L.length w (Fs S)/\(∀i,i<L.length->In L.length w (Fs S) (Fm L i))/\∀i,i<L.length->In L.length w (Fm L) (Fs S i)
 spn:∀r∈rows,In L.length w (Fm L) (Vc r)
theorem aZ{α:Type}{l:List α}{k:Nat}{d:α}(h:k<l.length):l.getD k d∈l:=by
 rw[Th,g9 h];exact VF h
theorem Inv.size{w A:Nat}{rows:List (List Int)}{L:Hj}(H:Inv w rows L)(hA:∀r∈rows,∀k,k<w->(r.getD k 0).natAbs<=A){i:Nat}(hi:i<L.length){k:Nat}(hk:k<w):((Hg L i).getD k 0).natAbs<=L.length*((2*(L.length*A)+1) ^ (L.length-1)*A):=by
 obtain⟨S,s1,s2,s3,s4,s5⟩:=H.base;have hS:∀t,t<L.length->∀k,k<w->(Fs S t k).natAbs<=A:=fun t ht k hk=>hA _ (s2 _ (aZ (by lia))) k hk
 obtain⟨x,⟨i0,Q5,O0⟩,hxb,hx⟩:=vm (r:=L.length) (s:=L.length-1) (A:=A) (by lia) (fun j t=>Fs S t (Hf L (if j<i then j else j+1))) fun j hj t ht=>hS t ht _ (H.red.col _ (by split <;> lia))
 have hv:In L.length w (Fm L) fun k=>sg L.length fun t=>x t*Fs S t k:=gL _ x (Fs S) s5
 obtain⟨d,y,hd,hy⟩:=H.red.line hv hi fun j hj O1=>by
  have h:=hx (if j<i then j else j-1) (by split <;> lia);have e:(if(if j<i then j else j-1)<i then(if j<i then j else j-1) else(if j<i then j else j-1)+1)=j:=by
   by_cases h1:j<i
   ·rw[Tw h1,Tw h1]
   ·rw[TC h1,TC (by lia)];lia
  rw[e]at h;rw[<-h];exact az fun t _=>Us _ _
 have hlen:=H.red.len i hi;obtain⟨t,ht⟩:=GA (H.pri i hi) hd fun k hk=>hy k (hlen▸hk)
 have SK:t≠0:=fun z=>O0 (s3 x (fun k hk=>by
  have:=ht k (hlen.symm▸hk);rw[z,UM]at this;exact this) i0 Q5)
 have hvk:=ht k (hlen.symm▸hk);have hb:(sg L.length fun t=>x t*Fs S t k).natAbs<=L.length*((2*(L.length*A)+1) ^ (L.length-1)*A):=FA fun t ht=>by
  rw[Vt];exact WL (hxb t ht) (hS t ht k hk)
 rw[hvk,Vt]at hb;have:1<=t.natAbs:=by lia
 refine T2 ?_ hb;exact X2 _ this
def Io(row:List Int)(c:Nat)(JA:List Int):List Int:=if row.getD c 0=0 then row else(List.range row.length).map fun k=>row.getD k 0*JA.getD c 0+JA.getD k 0 * -(row.getD c 0)
theorem pD(r:List Int)(q:Nat)(l:List Int):(Io r q l).length=r.length:=by
 unfold Io;split
 ·rfl
 ·rw[bh,TU]
theorem vp{row:List Int}{c:Nat}{b:List Int}(hb:b.getD c 0≠0):∃x y:Int,x≠0/\(∀k,k<row.length->(Io row c b).getD k 0=x*row.getD k 0+y*b.getD k 0)/\(c<row.length->(Io row c b).getD c 0=0):=by
 unfold Io;by_cases h:row.getD c 0=0
 ·refine⟨1,0,by decide,fun k _=>?_,fun _=>?_⟩
  ·rw[Tw h,UT,UM,UX]
  ·rw[Tw h,h]
 ·refine⟨b.getD c 0,-(row.getD c 0),hb,fun k hk=>?_,fun hc=>?_⟩
  ·rw[TC h,eD _ _ _ hk,Us,Us (b.getD k 0)]
  ·rw[TC h,eD _ _ _ hc,Us,<-XM,Int.add_right_neg,T5]
def Ie(L:Hj)(row:List Int):Nat->List Int
 | 0=>row
 |n+1=>Io (Ie L row n) (Hf L n) (Hg L n)
theorem g5(L:Hj)(row:List Int):∀n,(Ie L row n).length=row.length
 | 0=>rfl
 |n+1=>by
  show(Io _ _ _).length=_;rw[pD,g5 L row n]
theorem oj{w:Nat}{L:Hj}(H:Rdd w L){row:List Int}(hr:row.length=w):∀n,n<=L.length->∃(d:Int) (x:Nat->Int),d≠0/\(∀k,k<w->(Ie L row n).getD k 0=d*row.getD k 0+sg L.length fun i=>x i*Fm L i k)/\∀i,i<n->(Ie L row n).getD (Hf L i) 0=0
 | 0,_=>⟨1,fun _=>0,by decide,fun k _=>by rw[UT,dB fun i _=>UM _,UX];rfl,fun i hi=>absurd hi (TR i)⟩
 |n+1,hn=>by
  obtain⟨d,x,h1,h2,h3⟩:=oj H hr n (by lia);obtain⟨a,b,g1,g2,g3⟩:=vp (row:=Ie L row n) (c:=Hf L n) (b:=Hg L n) (H.own n (by lia));rw[g5,hr]at g2 g3;refine⟨a*d,fun i=>a*x i+if i=n then b else 0,fun z=>(Uq.mp z).elim g1 h1,fun k hk=>?_,fun i hi=>?_⟩
  ·show(Io _ _ _).getD k 0=_;rw[g2 k hk,h2 k hk];have e:sg L.length (fun i=>(a*x i+if i=n then b else 0)*Fm L i k)=a*sg L.length (fun i=>x i*Fm L i k)+b*Fm L n k:=by
    have e1:sg L.length (fun i=>(if i=n then b else 0)*Fm L i k)=b*Fm L n k:=by
     have:=fC (n:=L.length) (c:=n) (by lia) (f:=fun i=>(if i=n then b else 0)*Fm L i k) fun i _ Lc=>by
      show(if i=n then b else 0)*Fm L i k=0;rw[TC Lc,UM]
     rw[this];show(if n=n then b else 0)*Fm L n k=_;rw[Tw rfl]
    rw[<-cj,<-e1,<-gK];refine az fun i _=>?_
    rw[ZL,Ue]
   rw[e,XM,Ue,Int.add_assoc]
  ·show(Io _ _ _).getD _ 0=0;by_cases Lc:i=n
   ·subst Lc;exact g3 (H.col i (by lia))
   ·rw[g2 _ (H.col i (by lia)),h3 i (by lia),H.oth n i (by lia) (by lia) (fun z=>Lc z.symm),T5,T5];rfl
def Ig(L:Hj)(q:Nat)(nl:List Int):Hj:=(L.map fun z=>(z.1,low (Io z.2 q nl)))++[(q,nl)]
theorem pE(L:Hj)(q:Nat)(nl:List Int):(Ig L q nl).length=L.length+1:=by
 unfold Ig;rw[rX,bh,Uj]
theorem c8(L:Hj)(q:Nat)(nl:List Int){i:Nat}(h:i<L.length):Hf (Ig L q nl) i=Hf L i/\Hg (Ig L q nl) i=low (Io (Hg L i) q nl):=by
 unfold Hf Hg Ig;rw[Th,Vf (by rw[bh];exact h),TN,Th,g9 h];exact⟨rfl,rfl⟩
theorem cU(L:Hj)(q:Nat)(nl:List Int):Hf (Ig L q nl) L.length=q/\Hg (Ig L q nl) L.length=nl:=by
 unfold Hf Hg Ig;rw[Th,VD (by rw[bh];exact Tn _),bh,Zg];exact⟨rfl,rfl⟩
theorem CM{r:List Int}{k:Nat}(h:r.getD k 0≠0):∃x∈r,x≠0:=by
 by_cases hk:k<r.length
 ·exact⟨_,aZ hk,h⟩
 ·rw[Th,Wb (by lia)]at h;exact absurd rfl h
theorem om{r:List Int}{k:Nat}(h:r.getD k 0≠0):(low r).getD k 0≠0/\gl (low r) 0=1:=by
 obtain⟨g,g1,g2,g3⟩:=kg r;refine⟨fun z=>h ?_,g3 (CM h)⟩;rw[<-g2 k,z,T5]
theorem vq{r:List Int}{k:Nat}(h:r.getD k 0=0):(low r).getD k 0=0:=by
 obtain⟨g,g1,g2,g3⟩:=kg r;have:=g2 k;rw[h]at this;exact(Uq.mp this).resolve_left (by lia)
theorem yk{r w:Nat}{F:Nat->Nat->Int}{l:List Int}(h:In r w F (Vc l)):In r w F (Vc (low l)):=by
 obtain⟨g,g1,g2,_⟩:=kg l;exact iC (g:Int) (by lia) (fun k _=>g2 k) h
theorem qG{r w:Nat}{F:Nat->Nat->Int}{l:List Int}(h:In r w F (Vc (low l))):In r w F (Vc l):=by
 obtain⟨g,g1,g2,_⟩:=kg l;refine bV (fun k _=>?_) (in_add (g:Int) 0 h (pC (v:=fun _=>0) fun _ _=>rfl));rw[T5,UX];exact(g2 k).symm
theorem xu{α:Type}(S:List α)(x d:α){i:Nat}(h:i<S.length):(S++[x]).getD i d=S.getD i d:=by
 rw[Th,Vf h,<-Th]
theorem vx{α:Type}(S:List α)(x d:α):(S++[x]).getD S.length d=x:=by
 rw[Th,VD (Tn _),Zg];rfl
theorem vy{r w:Nat}{S:List (List Int)}{x:List Int}{v:Nat->Int}(hr:S.length=r)(h:In r w (Fs S) v):In (r+1) w (Fs (S++[x])) v:=by
 refine dH h fun i hi=>bV (fun k _=>?_) (dX (F:=Fs (S++[x])) (i:=i) (by lia))
 show(S.getD i []).getD k 0=((S++[x]).getD i []).getD k 0;rw[xu S x [] (by lia)]
theorem vz{r w:Nat}{S:List (List Int)}{x:List Int}(hr:S.length=r):In (r+1) w (Fs (S++[x])) (Vc x):=by
 refine bV (fun k _=>?_) (dX (F:=Fs (S++[x])) (i:=r) (by lia));show x.getD k 0=((S++[x]).getD r []).getD k 0;rw[<-hr,vx]
theorem Inv.start(w:Nat):Inv w [] []:=
 ⟨⟨fun _ h=>absurd h (TR _),fun _ h=>absurd h (TR _),fun _ h=>absurd h (TR _),fun _ _ h=>absurd h (TR _)⟩,fun _ h=>absurd h (TR _),⟨[],rfl,fun _ h=>(nomatch h),fun _ _ _ h=>absurd h (TR _),fun _ h=>absurd h (TR _),fun _ h=>absurd h (TR _)⟩,fun _ h=>nomatch h⟩
theorem Inv.none{w:Nat}{rows:List (List Int)}{L:Hj}(H:Inv w rows L){row:List Int}(hr:row.length=w)(hz:∀k,k<w->(Ie L row L.length).getD k 0=0):Inv w (rows++[row]) L:=by
 obtain⟨S,s1,s2,s3,s4,s5⟩:=H.base;refine⟨H.red,H.pri,⟨S,s1,fun s hs=>Tx _ (s2 s hs),s3,s4,s5⟩,fun r h=>?_⟩;rcases wc h with h|h
 ·exact H.spn r h
 ·rw[si h];obtain⟨d,x,h1,h2,_⟩:=oj H.red hr L.length (Tn _);refine iC d h1 (u:=fun k=>sg L.length fun i=>-x i*Fm L i k) (fun k hk=>?_) (gL L.length (fun i=>-x i) (Fm L) fun i hi=>dX hi);have h:=h2 k hk;rw[hz k hk]at h;have e:sg L.length (fun i=>-x i*Fm L i k) = -sg L.length fun i=>x i*Fm L i k:=by
   have:=cj L.length (-1) fun i=>x i*Fm L i k
   rw[UP,UT]at this;rw[<-this];refine az fun i _=>?_
   rw[UP,UP,UT]
  show d*row.getD k 0=_;rw[e];lia
theorem Inv.more{w:Nat}{rows:List (List Int)}{L:Hj}(H:Inv w rows L){row:List Int}(hr:row.length=w){q:Nat}(hq:q<w)(Hc:(Ie L row L.length).getD q 0≠0):Inv w (rows++[row]) (Ig L q (low (Ie L row L.length))):=by
 obtain⟨d,x,h1,h2,h3⟩:=oj H.red hr L.length (Tn _);have Kx:=g5 L row L.length;generalize Ie L row L.length=bG at Hc h2 h3 Kx;obtain⟨n1,n2⟩:=om Hc;have n3:∀i,i<L.length->(low bG).getD (Hf L i) 0=0:=fun i hi=>vq (h3 i hi)
 have Qq:=my bG;have R4:∀{r:Nat}{F:Nat->Nat->Int},In r w F (Vc bG)->In r w F (Vc (low bG)):=fun h=>yk h
 have R1:∀{r:Nat}{F:Nat->Nat->Int},In r w F (Vc (low bG))->In r w F (Vc bG):=fun h=>qG h
 generalize low bG=nl at n1 n2 n3 Qq R4 R1;have IB:∀i,i<L.length->∃a b:Int,a≠0/\(∀k,k<w->(Io (Hg L i) q nl).getD k 0=a*(Hg L i).getD k 0+b*nl.getD k 0)/\(Io (Hg L i) q nl).getD q 0=0:=fun i hi=>by
  obtain⟨a,b,g1,g2,g3⟩:=vp (row:=Hg L i) (c:=q) (b:=nl) n1;rw[H.red.len i hi]at g2 g3;exact⟨a,b,g1,g2,g3 hq⟩
 have Qr:∀i,i<L.length->(Io (Hg L i) q nl).getD (Hf L i) 0≠0:=fun i hi=>by
  obtain⟨a,b,g1,g2,_⟩:=IB i hi;rw[g2 _ (H.red.col i hi),n3 i hi,T5,UX];exact fun z=>(Uq.mp z).elim g1 (H.red.own i hi)
 have N3:=pE L q nl;have hpri:∀i,i<(Ig L q nl).length->gl (Hg (Ig L q nl) i) 0=1:=fun i hi=>by
  by_cases h:i<L.length
  ·rw[(c8 L q nl h).2];exact(om (Qr i h)).2
  ·obtain rfl:i=L.length:=by lia
   rw[(cU L q nl).2];exact n2
 have hred:Rdd w (Ig L q nl):=by
  refine⟨fun i hi=>?_,fun i hi=>?_,fun i hi=>?_,fun i j hi hj LG=>?_⟩
  ·by_cases h:i<L.length
   ·rw[(c8 L q nl h).1];exact H.red.col i h
   ·obtain rfl:i=L.length:=by lia
    rw[(cU L q nl).1];exact hq
  ·by_cases h:i<L.length
   ·rw[(c8 L q nl h).2,my,pD];exact H.red.len i h
   ·obtain rfl:i=L.length:=by lia
    rw[(cU L q nl).2,Qq,Kx,hr]
  ·by_cases h:i<L.length
   ·rw[(c8 L q nl h).2,(c8 L q nl h).1];exact(om (Qr i h)).1
   ·obtain rfl:i=L.length:=by lia
    rw[(cU L q nl).2,(cU L q nl).1];exact n1
  ·by_cases h:i<L.length
   ·rw[(c8 L q nl h).2];obtain⟨a,b,_,g2,g3⟩:=IB i h;refine vq ?_;by_cases h':j<L.length
    ·rw[(c8 L q nl h').1,g2 _ (H.red.col j h'),n3 j h',H.red.oth i j h h' LG,T5,T5];rfl
    ·obtain rfl:j=L.length:=by lia
     rw[(cU L q nl).1];exact g3
   ·obtain rfl:i=L.length:=by lia
    rw[(cU L q nl).2,(c8 L q nl (i:=j) (by lia)).1];exact n3 j (by lia)
 have hold:∀i,i<L.length->In (Ig L q nl).length w (Fm (Ig L q nl)) (Fm L i):=fun i hi=>by
  obtain⟨a,b,g1,g2,_⟩:=IB i hi;have i1:In (Ig L q nl).length w (Fm (Ig L q nl)) (Vc (Io (Hg L i) q nl)):=by
   refine qG (bV (fun k _=>?_) (dX (i:=i) (by lia)));show _=(Hg (Ig L q nl) i).getD k 0;rw[(c8 L q nl hi).2]
  have i2:In (Ig L q nl).length w (Fm (Ig L q nl)) (Vc nl):=by
   refine bV (fun k _=>?_) (dX (i:=L.length) (by lia));show _=(Hg (Ig L q nl) L.length).getD k 0;rw[(cU L q nl).2]
  refine iC a g1 (fun k hk=>?_) (in_add 1 (-b) i1 i2);show a*(Hg L i).getD k 0=1*(Io (Hg L i) q nl).getD k 0 + -b*nl.getD k 0;rw[g2 k hk,UT,UP];lia
 have K6:In (Ig L q nl).length w (Fm (Ig L q nl)) (Vc nl):=by
  refine bV (fun k _=>?_) (dX (i:=L.length) (by lia));show _=(Hg (Ig L q nl) L.length).getD k 0;rw[(cU L q nl).2]
 have Ih:In (Ig L q nl).length w (Fm (Ig L q nl)) (Vc row):=by
  refine iC d h1 (fun k hk=>?_) (in_add 1 (-1) (R1 K6) (gL L.length x (Fm L) hold));show d*row.getD k 0=1*bG.getD k 0 + -1*_;rw[h2 k hk];lia
 obtain⟨S,s1,s2,s3,s4,s5⟩:=H.base;refine⟨hred,hpri,⟨S++[row],by rw[N3,rX,s1];rfl,fun s hs=>?_,?_,fun i hi=>?_,fun i hi=>?_⟩,fun r h=>?_⟩
 ·rcases wc hs with h|h
  ·exact Tx _ (s2 s h)
  ·exact Tp _ h
 ·rw[N3];intro y hy i hi;have e1:∀k,k<w->sg L.length (fun i=>y i*Fs S i k)+y L.length*row.getD k 0=0:=fun k hk=>by
   refine Zx ?_ (hy k hk);show _=sg L.length (fun i=>y i*Fs (S++[row]) i k)+y L.length*Fs (S++[row]) L.length k;congr 1
   ·refine az fun i hi=>?_
    show y i*(S.getD i []).getD k 0=y i*((S++[row]).getD i []).getD k 0;rw[xu S row [] (by lia)]
   ·show _=y L.length*((S++[row]).getD L.length []).getD k 0;rw[<-s1,vx]
  have SM:y L.length=0:=by
   apply TZ;intro I0;have i1:In L.length w (Fm L) (Vc row):=iC (y L.length) I0 (u:=fun k=>sg L.length fun i=>-y i*Fs S i k) (fun k hk=>by
    have e2:sg L.length (fun i=>-y i*Fs S i k) = -sg L.length fun i=>y i*Fs S i k:=by
     have:=cj L.length (-1) fun i=>y i*Fs S i k
     rw[UP,UT]at this;rw[<-this];refine az fun i _=>?_
     rw[UP,UP,UT]
    have:=e1 k hk;show y L.length*row.getD k 0=_;rw[e2];lia) (gL L.length (fun i=>-y i) (Fs S) s5)
   have i2:In L.length w (Fm L) (Vc bG):=bV (fun k hk=>by
    show bG.getD k 0=d*row.getD k 0+1*_;rw[h2 k hk,UT]) (in_add d 1 i1 (gL L.length x (Fm L) fun i hi=>dX hi))
   exact Hc (H.red.zero i2 h3 q hq)
  by_cases R5:i<L.length
  ·refine s3 y (fun k hk=>?_) i R5;have:=e1 k hk;rw[SM,UM,UX]at this;exact this
  ·obtain rfl:i=L.length:=by lia
   exact SM
 ·rw[N3];have i0:∀i,i<L.length->In (L.length+1) w (Fs (S++[row])) (Fm L i):=fun i hi=>vy s1 (s4 i hi)
  have i1:In (L.length+1) w (Fs (S++[row])) (Vc bG):=bV (fun k hk=>by
   show bG.getD k 0=d*row.getD k 0+1*_;rw[h2 k hk,UT]) (in_add d 1 (vz s1) (gL L.length x (Fm L) i0))
  by_cases h:i<L.length
  ·show In _ w _ (Vc (Hg (Ig L q nl) i));rw[(c8 L q nl h).2];obtain⟨a,b,_,g2,_⟩:=IB i h;exact yk (bV (fun k hk=>g2 k hk) (in_add a b (i0 i h) (R4 i1)))
  ·obtain rfl:i=L.length:=by lia
   show In _ w _ (Vc (Hg (Ig L q nl) L.length));rw[(cU L q nl).2];exact R4 i1
 ·by_cases h:i<L.length
  ·refine dH (bV (fun k _=>?_) (s5 i h)) hold;show((S++[row]).getD i []).getD k 0=(S.getD i []).getD k 0;rw[xu S row [] (by lia)]
  ·obtain rfl:i=L.length:=by lia
   refine bV (fun k _=>?_) Ih;show((S++[row]).getD L.length []).getD k 0=row.getD k 0;rw[<-s1,vx]
 ·rcases wc h with h|h
  ·exact dH (H.spn r h) hold
  ·rw[si h];exact Ih
theorem qH{w:Nat}{S:List (List Int)}{r:List Int}(h:r∈S):In S.length w (Fs S) (Vc r):=by
 obtain⟨i,hi,e⟩:=Ur h;refine bV (fun k _=>?_) (dX (F:=Fs S) hi);show r.getD k 0=(S.getD i []).getD k 0;rw[Th (l:=S),g9 hi,e];rfl
def nz(r:List Int):Bool:=r.any fun x=>!(x==0)
theorem FC{r:List Int}(h:nz r=false)(k:Nat):r.getD k 0=0:=by
 apply TZ;intro hk;obtain⟨x,hx,O0⟩:=CM hk;have:=WJ.mp h x hx;rw[Ug.mpr O0]at this;exact this rfl
def wd:List Int->Nat
 |[]=>0
 |x::r=>if x=0 then wd r+1 else 0
theorem ym:∀{r:List Int},nz r=true->wd r<r.length/\r.getD (wd r) 0≠0/\∀j,j<wd r->r.getD j 0=0
 |[],h=>nomatch h
 |x::r,h=>by
  by_cases hx:x=0
  ·have hr:nz r=true:=by
    unfold nz at h ⊢;rw[XI,hx]at h;exact h
   obtain⟨h1,h2,h3⟩:=ym hr;have e:wd (x::r)=wd r+1:=Tw hx;rw[e];refine⟨Nat.succ_lt_succ h1,h2,fun j hj=>?_⟩;cases j with
   |zero=>exact hx
   |succ j=>exact h3 j (by lia)
  ·have e:wd (x::r)=0:=TC hx;rw[e];exact⟨Wu _,hx,fun j hj=>absurd hj (TR _)⟩
def KZ(w c:Nat)(x:Int):List Int:=(List.range w).map fun k=>if k=c then x else 0
theorem vB(w c:Nat)(x:Int):(KZ w c x).length=w:=by unfold KZ;rw[bh,TU]
theorem jv(w c:Nat)(x:Int){k:Nat}(h:k<w):(KZ w c x).getD k 0=if k=c then x else 0:=by
 unfold KZ;rw[eD _ _ _ h]
def HK(L:Hj):Nat->Nat
 | 0=>1
 |n+1=>Nat.lcm (HK L n) ((Hg L n).getD (Hf L n) 0).natAbs
theorem pF(L:Hj):∀n i,i<n->((Hg L i).getD (Hf L i) 0).natAbs ∣ HK L n
 | 0,i,h=>absurd h (TR i)
 |n+1,i,h=>by
  by_cases hi:i=n
  ·rw[hi];exact Nat.dvd_lcm_right _ _
  ·exact YW (pF L n i (by lia)) (Nat.dvd_lcm_left _ _)
theorem pG{w:Nat}{L:Hj}(H:Rdd w L):∀n,n<=L.length->0<HK L n
 | 0,_=>Nat.one_pos
 |n+1,h=>Nat.lcm_pos (pG H n (by lia)) (Yt.mpr (H.own n (by lia)))
theorem yn{L:Hj}{M:Nat}(hM:∀i,i<L.length->((Hg L i).getD (Hf L i) 0).natAbs<=M):∀n,n<=L.length->HK L n<=M ^ n
 | 0,_=>Tn 1
 |n+1,h=>by
  rw[Wc];refine T2 ?_ (WL (yn hM n (by lia)) (hM n (by lia)));exact Nat.div_le_self _ _
def JE(L:Hj)(c w:Nat):Nat->List Int
 | 0=>KZ w c (HK L L.length:Int)
 |n+1=>(JE L c w n).set (Hf L n) (-((Hg L n).getD c 0)*(HK L L.length:Int).fdiv ((Hg L n).getD (Hf L n) 0))
theorem iV(L:Hj)(c w:Nat):∀n,(JE L c w n).length=w
 | 0=>vB _ _ _
 |n+1=>by
  show((JE L c w n).set _ _).length=w;rw[UA,iV L c w n]
theorem iE(l:List Int)(j k:Nat)(x:Int)(hj:j<l.length):(l.set j x).getD k 0=if k=j then x else l.getD k 0:=by
 rw[Th,List.getElem?_set];by_cases h:j=k
 ·rw[Tw h,Tw hj,Tw h.symm];rfl
 ·rw[TC h,TC (fun z=>h z.symm),<-Th]
theorem gw{w:Nat}{L:Hj}(H:Rdd w L){c k:Nat}(hk:k<w):∀n,n<=L.length->(∀i,i<n->k≠Hf L i)->(JE L c w n).getD k 0=if k=c then(HK L L.length:Int) else 0
 | 0,_,_=>jv _ _ _ hk
 |n+1,hn,h=>by
  show((JE L c w n).set _ _).getD k 0=_;rw[iE _ _ _ _ (by rw[iV];exact H.col n (by lia)),TC (h n (by lia)),gw H hk n (by lia) fun i hi=>h i (by lia)]
theorem vC{w:Nat}{L:Hj}(H:Rdd w L)(c:Nat):∀n,n<=L.length->∀i,i<n->(JE L c w n).getD (Hf L i) 0 = -((Hg L i).getD c 0)*(HK L L.length:Int).fdiv ((Hg L i).getD (Hf L i) 0)
 | 0,_,i,h=>absurd h (TR i)
 |n+1,hn,i,h=>by
  show((JE L c w n).set _ _).getD _ 0=_;rw[iE _ _ _ _ (by rw[iV];exact H.col n (by lia))];by_cases hi:i=n
  ·rw[hi,Tw rfl]
  ·rw[TC fun e=>hi (H.inj (by lia) (by lia) e),vC H c n (by lia) i (by lia)]
abbrev AV(L:Hj)(c w:Nat):List Int:=JE L c w L.length
def kr(L:Hj)(c w:Nat):List Int:=low (AV L c w)
def IU(L:Hj)(c:Nat):Bool:=L.any fun z=>z.1==c
theorem vD{L:Hj}{c:Nat}(h:IU L c=false):∀i,i<L.length->c≠Hf L i:=fun i hi e=>by
 have:=WJ.mp h _ (aZ (d:=(0,[])) hi);exact this (Uc.mpr e.symm)
theorem vE{L:Hj}{c:Nat}(h:IU L c=true):∃i,i<L.length/\c=Hf L i:=by
 obtain⟨z,hz,e⟩:=Wo.mp h;obtain⟨i,hi,ez⟩:=Ur hz;refine⟨i,hi,?_⟩;unfold Hf;rw[Th,g9 hi,ez];exact(Uc.mp e).symm
theorem CN{n a b:Nat}(ha:a<n)(hb:b<n)(KH:a≠b){f:Nat->Int}(h:∀k,k<n->k≠a->k≠b->f k=0):sg n f=f a+f b:=by
 have e1:sg n (fun k=>(if k=a then f a else 0)+if k=b then f b else 0)=sg n f:=az fun k hk=>by
  by_cases h1:k=a
  ·rw[Tw h1,TC (by lia),h1,UX]
  ·rw[TC h1,Yk];by_cases h2:k=b
   ·rw[Tw h2,h2]
   ·rw[TC h2,h k hk h1 h2]
 rw[<-e1,gK,fC ha fun k _ hk=>TC hk,fC hb fun k _ hk=>TC hk,Tw rfl,Tw rfl]
theorem oq{w:Nat}{L:Hj}(H:Rdd w L){c:Nat}(hc:c<w)(hk:IU L c=false){j:Nat}(hj:j<L.length):sg w (fun k=>(Hg L j).getD k 0*(AV L c w).getD k 0)=0:=by
 have hf:=vD hk;rw[CN hc (H.col j hj) (hf j hj) fun k JZ h1 h2=>by
  by_cases R6:IU L k=true
  ·obtain⟨i,hi,e⟩:=vE R6;rw[e,H.oth j i hj hi (fun z=>h2 (by rw[z];exact e)),UM]
  ·rw[gw H JZ _ (Tn _) (vD (Wh.mpr R6)),TC h1,T5]]
 rw[gw H hc _ (Tn _) hf,Tw rfl,vC H c _ (Tn _) j hj];have hd:(Hg L j).getD (Hf L j) 0*(HK L L.length:Int).fdiv ((Hg L j).getD (Hf L j) 0)=(HK L L.length:Int):=W2 (WS.mp (by rw[UD];exact pF L _ j hj));have e:(Hg L j).getD (Hf L j) 0*(-((Hg L j).getD c 0)*(HK L L.length:Int).fdiv ((Hg L j).getD (Hf L j) 0)) = -((Hg L j).getD c 0)*(HK L L.length:Int):=by
  rw[UK,hd]
 rw[e,UP];lia
theorem xv(L:Hj)(c w:Nat):∃g:Nat,g≠0/\∀k,(g:Int)*(kr L c w).getD k 0=(AV L c w).getD k 0:=by
 obtain⟨g,h1,h2,_⟩:=kg (AV L c w);exact⟨g,h1,h2⟩
theorem vG{w:Nat}{rows:List (List Int)}{L:Hj}(H:Inv w rows L){c:Nat}(hc:c<w)(hk:IU L c=false){r:List Int}(hr:r∈rows):sg w (fun k=>r.getD k 0*(kr L c w).getD k 0)=0:=by
 obtain⟨g,g1,g2⟩:=xv L c w;obtain⟨d,x,d1,d2⟩:=H.spn r hr;have e:(d*(g:Int))*sg w (fun k=>r.getD k 0*(kr L c w).getD k 0)=0:=by
  rw[<-cj];have e1:sg w (fun k=>d*(g:Int)*(r.getD k 0*(kr L c w).getD k 0))=sg w fun k=>sg L.length fun i=>x i*((Hg L i).getD k 0*(AV L c w).getD k 0):=az fun k hk=>by
   have e2:d*(g:Int)*(r.getD k 0*(kr L c w).getD k 0)=(d*r.getD k 0)*((g:Int)*(kr L c w).getD k 0):=by
    rw[Ue,UK (g:Int),<-Ue]
   have d2:d*r.getD k 0=sg L.length fun i=>x i*(Hg L i).getD k 0:=d2 k hk
   rw[e2,g2 k,d2,<-g0];exact az fun i _=>Ue _ _ _
  rw[e1,<-iU];refine dB fun i hi=>?_
  rw[cj,oq H.red hc hk hi,T5]
 exact(Uq.mp e).resolve_left fun z=>(Uq.mp z).elim d1 (by lia)
def fre(L:Hj)(w:Nat):List Nat:=(List.range w).filter fun c=>!IU L c
theorem kh(L:Hj)(c w:Nat):(kr L c w).length=w:=by unfold kr;rw[my,iV]
theorem CP{w:Nat}{L:Hj}(H:Rdd w L){c:Nat}(hc:c<w)(hk:IU L c=false):(kr L c w).getD c 0≠0:=by
 refine(om ?_).1;rw[gw H hc _ (Tn _) (vD hk),Tw rfl];have:=pG H L.length (Tn _);lia
theorem CQ{w:Nat}{L:Hj}(H:Rdd w L){c k:Nat}(hk:k<w)(JZ:IU L k=false)(h:k≠c):(kr L c w).getD k 0=0:=by
 refine vq ?_;rw[gw H hk _ (Tn _) (vD JZ),TC h]
def mz(L:Hj)(w:Nat):List (List Int):=(fre L w).map fun c=>kr L c w
def Ech(L:Hj):Prop:=∀i,i<L.length->∀j,j<Hf L i->(Hg L i).getD j 0=0
theorem Ech.start:Ech []:=fun _ h=>absurd h (TR _)
theorem Ech.more{w:Nat}{L:Hj}(H:Rdd w L)(E:Ech L){nl:List Int}{q:Nat}(hq:q<w)(Hc:nl.getD q 0≠0)(hj:∀j,j<q->nl.getD j 0=0):Ech (Ig L q nl):=fun i hi j O1=>by
 rw[pE]at hi;by_cases h:i<L.length
 ·rw[(c8 L q nl h).1]at O1;rw[(c8 L q nl h).2];refine vq ?_;have hz:=E i h j O1;by_cases h0:(Hg L i).getD q 0=0
  ·unfold Io;rw[Tw h0];exact hz
  ·have SN:Hf L i<=q:=by
    apply TZ;intro Hr;exact h0 (E i h q (by lia))
   obtain⟨x,y,_,h2,_⟩:=vp (row:=Hg L i) (c:=q) (b:=nl) Hc;rw[h2 j (by rw[H.len i h];lia),hz,hj j (by lia),T5,T5];rfl
 ·obtain rfl:i=L.length:=by lia
  rw[(cU L q nl).1]at O1;rw[(cU L q nl).2];exact hj j O1
theorem Ai{w:Nat}{L:Hj}(H:Rdd w L){c:Nat}(hc:c<w)(hk:IU L c=false){j:Nat}(hj:j<L.length):sg w (fun k=>(Hg L j).getD k 0*(kr L c w).getD k 0)=0:=by
 obtain⟨g,g1,g2⟩:=xv L c w;have e:(g:Int)*sg w (fun k=>(Hg L j).getD k 0*(kr L c w).getD k 0)=0:=by
  rw[<-cj];refine Zx (az fun k _=>?_) (oq H hc hk hj);rw[UK,g2 k]
 exact(Uq.mp e).resolve_left (by lia)
theorem vH{w:Nat}{L:Hj}(H:Rdd w L){row:List Int}(hr:row.length=w)(h:∀c,c<w->IU L c=false->sg w (fun k=>row.getD k 0*(kr L c w).getD k 0)=0):∀k,k<w->(Ie L row L.length).getD k 0=0:=fun c hc=>by
 obtain⟨d,x,_,h2,h3⟩:=oj H hr L.length (Tn _);by_cases hk:IU L c=true
 ·obtain⟨i,hi,e⟩:=vE hk;rw[e];exact h3 i hi
 ·have hk:=Wh.mpr hk;have e1:sg w (fun k=>(Ie L row L.length).getD k 0*(kr L c w).getD k 0)=0:=by
   have e2:sg w (fun k=>(Ie L row L.length).getD k 0*(kr L c w).getD k 0)=sg w fun k=>d*(row.getD k 0*(kr L c w).getD k 0)+sg L.length fun i=>x i*((Hg L i).getD k 0*(kr L c w).getD k 0):=az fun k JZ=>by
    rw[h2 k JZ,ZL,Ue,<-g0];congr 1
    exact az fun i _=>Ue _ _ _
   rw[e2,gK,cj,h c hc hk,T5,Yk,iU];refine dB fun i hi=>?_
   rw[cj,Ai H hc hk hi,T5]
  rw[fC hc fun k JZ Od=>by
   by_cases KW:IU L k=true
   ·obtain⟨i,hi,e⟩:=vE KW;rw[e,h3 i hi,UM]
   ·rw[CQ H JZ (Wh.mpr KW) Od,T5]]at e1
  exact(Uq.mp e1).resolve_right (CP H hc hk)
def rZ(rs:List (List Int))(row:List Int)(k:Nat):List Int:=rs.map (fun r=>r.getD k 0)++[row.getD k 0]
def mB(rs:List (List Int))(row:List Int)(w:Nat):List (List Int):=(List.range w).map (rZ rs row)
theorem xw(rs:List (List Int))(row:List Int)(k:Nat):(rZ rs row k).length=rs.length+1:=by
 unfold rZ;rw[rX,bh];rfl
theorem vI(rs:List (List Int))(row:List Int)(k:Nat){j:Nat}(h:j<rs.length):(rZ rs row k).getD j 0=(rs.getD j []).getD k 0:=by
 unfold rZ;rw[Th,Vf (by rw[bh];exact h),TN,g9 h,Th (l:=rs),g9 h];rfl
theorem ot(rs:List (List Int))(row:List Int)(k:Nat):(rZ rs row k).getD rs.length 0=row.getD k 0:=by
 have:=vx (rs.map fun r=>r.getD k 0) (row.getD k 0) 0;rw[bh]at this;exact this
theorem Aj{w:Nat}{rs:List (List Int)}{row:List Int}{L:Hj}(H:Inv (rs.length+1) (mB rs row w) L)(hk:IU L rs.length=false):∀k,k<w->sg rs.length (fun j=>(rs.getD j []).getD k 0*(kr L rs.length (rs.length+1)).getD j 0)+row.getD k 0*(kr L rs.length (rs.length+1)).getD rs.length 0=0:=fun k O2=>by
 have h:=vG H (T9 _) hk (r:=rZ rs row k) (U3.mpr ⟨k,UB.mpr O2,rfl⟩);have h:sg rs.length (fun j=>(rZ rs row k).getD j 0*(kr L rs.length (rs.length+1)).getD j 0)+(rZ rs row k).getD rs.length 0*(kr L rs.length (rs.length+1)).getD rs.length 0=0:=h;rw[ot,az fun j hj=>by rw[vI rs row k hj]]at h;exact h
theorem yo{w:Nat}{L:Hj}(H:Rdd w L){c:Nat}(hc:c<w)(hk:IU L c=false):1<=(kr L c w).getD c 0:=by
 obtain⟨g,g1,g2⟩:=xv L c w;have h:=g2 c;rw[gw H hc _ (Tn _) (vD hk),Tw rfl]at h;have hp:=pG H L.length (Tn _);apply TZ;intro hn;have:(g:Int)*(kr L c w).getD c 0<=0:=VC (by lia) (by lia);lia
theorem yp{w:Nat}{rs:List (List Int)}{row:List Int}{L:Hj}(H:Inv (rs.length+1) (mB rs row w) L)(E:Ech L)(hk:IU L rs.length=true):¬ In rs.length w (Fs rs) (Vc row):=fun Hc=>by
 obtain⟨d,x,h1,h2⟩:=Hc;obtain⟨i,hi,e⟩:=vE hk;have hz:∀r∈mB rs row w,sg (rs.length+1) (fun j=>(if j=rs.length then -d else x j)*r.getD j 0)=0:=fun r hr=>by
  obtain⟨k,O2,er⟩:=pA hr;rw[<-er];show sg rs.length (fun j=>(if j=rs.length then -d else x j)*(rZ rs row k).getD j 0)+(if rs.length=rs.length then -d else x rs.length)*(rZ rs row k).getD rs.length 0=0;rw[Tw rfl,ot,az (g:=fun j=>x j*Fs rs j k) fun j hj=>by
   rw[TC (by lia),vI rs row k hj]]
  have:=h2 k (UB.mp O2);rw[<-this,UP];show d*row.getD k 0+_=0;lia
 obtain⟨S,s1,s2,_,s4,_⟩:=H.base;obtain⟨dd,y,g1,g2⟩:=s4 i hi;have hl:sg (rs.length+1) (fun j=>(if j=rs.length then -d else x j)*(Hg L i).getD j 0)=0:=by
  have e1:dd*sg (rs.length+1) (fun j=>(if j=rs.length then -d else x j)*(Hg L i).getD j 0)=0:=by
   rw[<-cj];have e2:sg (rs.length+1) (fun j=>dd*((if j=rs.length then -d else x j)*(Hg L i).getD j 0))=sg (rs.length+1) fun j=>sg L.length fun t=>y t*((if j=rs.length then -d else x j)*Fs S t j):=az fun j hj=>by
    rw[UK];have g2:dd*(Hg L i).getD j 0=sg L.length fun t=>y t*Fs S t j:=g2 j hj
    rw[g2,<-cj];exact az fun t _=>UK _ _ _
   rw[e2,<-iU];refine dB fun t ht=>?_
   rw[cj,hz _ (s2 _ (aZ (d:=[]) (by lia))),T5]
  exact(Uq.mp e1).resolve_left g1
 rw[fC (c:=rs.length) (T9 _) fun j hj hjm=>by rw[E i hi j (by lia),T5],Tw rfl]at hl;have ho:=H.red.own i hi;rw[<-e]at ho;exact(Uq.mp hl).elim (fun z=>h1 (by lia)) ho
theorem vJ{w:Nat}{rs:List (List Int)}{row:List Int}{L M:Hj}(H:Inv (rs.length+1) (mB rs row w) L)(E:Ech L)(hk:IU L rs.length=true)(HM:Inv w rs M)(hr:row.length=w):∃c,c<w/\IU M c=false/\sg w (fun k=>row.getD k 0*(kr M c w).getD k 0)≠0:=by
 apply TZ;intro N1;have hz:=vH HM.red hr fun c hc Od=>TZ fun I0=>N1 ⟨c,hc,Od,I0⟩
 have H2:=HM.none hr hz;refine yp H E hk (dH (H2.spn row (Tp _ (Ul.mpr rfl))) fun i hi=>?_);obtain⟨S,s1,s2,_,s4,_⟩:=HM.base;exact dH (s4 i hi) fun j hj=>qH (s2 _ (aZ (by lia)))
def dt(rows:List (List Int))(w:Nat)(i:Nat)(x:Nat->Int):Int:=sg w fun k=>(rows.getD i []).getD k 0*x k
structure Mv(rows:List (List Int))(w:Nat)(B:List Nat)(l t:Nat)(x:Nat->Int)(s c:Int)(a:Nat->Int):Prop where
 pos:1<=s
 lev:∀p,p<B.length->dt rows w (B.getD p 0) x=s
 low:dt rows w l x<s
 fst:∀i,i<l->s<=dt rows w i x
 cps:1<=c
 sum:∀k,k<w->c*(rows.getD l []).getD k 0=sg B.length fun p=>a p*(rows.getD (B.getD p 0) []).getD k 0
 les:∀p,p<B.length->B.getD p 0<t->a p<=0
 lea:∀p,p<B.length->B.getD p 0=t->0<a p
 mem:t∈B
theorem mem_at{B:List Nat}{j:Nat}(h:j∈B):∃p,p<B.length/\B.getD p 0=j:=by
 obtain⟨p,hp,e⟩:=Ur h;exact⟨p,hp,by rw[Th,g9 hp];exact e⟩
theorem iF{B:List Nat}{p:Nat}(h:p<B.length):B.getD p 0∈B:=by
 rw[Th,g9 h];exact VF h
section
variable{rows:List (List Int)}{w:Nat}
theorem Mv.at_l{B:List Nat}{l t:Nat}{x:Nat->Int}{s c:Int}{a:Nat->Int}(M:Mv rows w B l t x s c a):l∉B:=fun h=>by
 obtain⟨p,hp,e⟩:=mem_at h;have:=M.lev p hp;rw[e]at this;have:=M.low;lia
theorem yq{n:Nat}{F:Nat->Nat}{a x:Nat->Int}{c:Int}{l:Nat}(h:∀k,k<w->c*(rows.getD l []).getD k 0=sg n fun p=>a p*(rows.getD (F p) []).getD k 0):c*dt rows w l x=sg n fun p=>a p*dt rows w (F p) x:=by
 unfold dt;rw[<-cj];have e:∀k,k<w->c*((rows.getD l []).getD k 0*x k)=sg n fun p=>a p*((rows.getD (F p) []).getD k 0*x k):=fun k hk=>by
  rw[<-Ue,h k hk,<-g0];exact az fun p _=>Ue _ _ _
 rw[az e,iU];exact az fun p _=>cj _ _ _
theorem CT{n:Nat}{f:Nat->Int}(h:∀k,k<n->f k<=0):sg n f<=0:=by
 induction n with
 |zero=>exact YE _
 |succ n ih=>
  have h1:=ih fun k hk=>h k (by lia)
  have h2:=h n (by lia);show sg n f+f n<=0;lia
theorem CU{n:Nat}{f:Nat->Int}(h:∀k,k<n->f k<=0){q:Nat}(hq:q<n)(Hr:f q<0):sg n f<0:=by
 induction n with
 |zero=>lia
 |succ n ih=>
  have h2:=h n (by lia);show sg n f+f n<0;by_cases e:q=n
  ·subst e;have:=CT (n:=q) (f:=f) fun k hk=>h k (by lia)
   lia
  ·have:=ih (fun k hk=>h k (by lia)) (by lia);lia
theorem E6{B B2:List Nat}{t t2 l2:Nat}{x x2:Nat->Int}{s s2 c c2:Int}{a a2:Nat->Int}(M:Mv rows w B t t2 x s c a)(M2:Mv rows w B2 l2 t x2 s2 c2 a2)(hl:l2<=t)(hg:∀j∈B2,t<j->j∈B):False:=by
 have I0:l2≠t:=fun e=>M2.at_l (by rw[e];exact M2.mem)
 have e1:=yq (x:=x) M2.sum;have e2:=yq (x:=x2) M2.sum;have e3:sg B2.length (fun p=>a2 p*dt rows w (B2.getD p 0) x2)=sg B2.length (fun p=>a2 p*s2):=az fun p hp=>by rw[M2.lev p hp]
 obtain⟨q,hq,eq⟩:=mem_at M2.mem;have neg:sg B2.length (fun p=>a2 p*(dt rows w (B2.getD p 0) x-s))<0:=by
  have each:∀p,p<B2.length->a2 p*(dt rows w (B2.getD p 0) x-s)<=0:=fun p hp=>by
   rcases Nat.lt_trichotomy (B2.getD p 0) t with h|h|h
   ·exact Int.mul_nonpos_of_nonpos_of_nonneg (M2.les p hp h) (by have:=M.fst _ h;lia)
   ·have h1:=M2.lea p hp h;have h2:=M.low;rw[h];exact VC (by lia) (by lia)
   ·obtain⟨p2,Ry,RI⟩:=mem_at (hg _ (iF hp) h)
    have:=M.lev p2 Ry;rw[RI]at this;rw[this,Int.sub_self,T5];exact YE _
  refine CU each hq ?_;have h1:=M2.lea q hq eq;have h2:=M.low;rw[eq];exact Int.mul_neg_of_pos_of_neg h1 (by lia)
 have e4:sg B2.length (fun p=>a2 p*(dt rows w (B2.getD p 0) x-s))=sg B2.length (fun p=>a2 p*dt rows w (B2.getD p 0) x) + -(sg B2.length a2*s):=by
  rw[<-g0,<-UT (sg B2.length fun p=>a2 p*s),<-UP,<-cj,<-gK];refine az fun p _=>?_
  rw[Int.mul_sub];lia
 rw[e4,<-e1]at neg;rw[e3,g0]at e2;have h1:=M.fst l2 (by lia);have h2:=M2.low;have p1:=M.pos;have p2:=M2.pos;have pc:=M2.cps;generalize sg B2.length a2=A at neg e2;generalize dt rows w l2 x=u at neg h1;generalize dt rows w l2 x2=v at e2 h2;have n1:s2*(c2*u)<s2*(A*s):=Wi (by lia) (by lia);have n2:s2*(A*s)=s*(c2*v):=by rw[e2,UK,UK s A s2,Us s2 s]
 have n3:s*(c2*v)<s2*(c2*u):=by
  have m1:s*v<s*s2:=Wi h2 (by lia);have m2:s2*s<=s2*u:=WX h1 (by lia);have m3:s*v<s2*u:=by rw[Us s2 s]at m2;lia
  have m4:=Wi m3 (show 0<c2 by lia);rw[UK s c2 v,UK s2 c2 u];exact m4
 rw[n2]at n1;lia
structure Wk(rows:List (List Int))(w:Nat)(N:Nat)(σ:Nat->List Nat)(lo le:Nat->Nat):Prop where
 mv:∀i,i<N->∃x s c a,Mv rows w (σ i) (lo i) (le i) x s c a
 nx:∀i,i<N->∀j,j∈σ (i+1)<->j=lo i\/(j∈σ i/\j≠le i)
theorem Wk.same{N:Nat}{σ:Nat->List Nat}{lo le:Nat->Nat}(W:Wk rows w N σ lo le){j a:Nat}:∀d,a+d<=N->(∀i,a<=i->i<a+d->lo i≠j/\le i≠j)->(j∈σ (a+d)<->j∈σ a)
 | 0,_,_=>Iff.rfl
 |d+1,h,hi=>by
  have ih:=W.same (j:=j) (a:=a) d (by lia) fun i h1 h2=>hi i h1 (by lia)
  have hn:=W.nx (a+d) (by lia) j;have hh:=hi (a+d) (by lia) (by lia);rw[show a+(d+1)=a+d+1 from rfl,hn,<-ih];constructor
  ·rintro(h|h)
   ·exact absurd h.symm hh.1
   ·exact h.1
  ·exact fun h=>.inr ⟨h,fun e=>hh.2 e.symm⟩
theorem Wk.not{N:Nat}{σ:Nat->List Nat}{lo le:Nat->Nat}(W:Wk rows w N σ lo le){t a b:Nat}(hb:b<=N)(h:∀i,a<=i->i<b->lo i<=t/\le i<=t){p q:Nat}(hp:a<=p/\p<b)(hq:a<=q/\q<b)(e1:lo p=t)(e2:le q=t):False:=by
 obtain⟨x,s,c,y,M⟩:=W.mv p (by lia);obtain⟨x2,s2,c2,y2,M2⟩:=W.mv q (by lia);rw[e1]at M;rw[e2]at M2;refine E6 M M2 (h q hq.1 hq.2).1 fun j hj hjt=>?_
 have g:∀i,a<=i->i<b->(j∈σ i<->j∈σ a):=fun i h1 h2=>by
  have:=W.same (j:=j) (a:=a) (i-a) (by lia) fun z z1 z2=>by
   have:=h z z1 (by lia);lia
  rw[show a+(i-a)=i by lia]at this;exact this
 exact(g p hp.1 hp.2).mpr ((g q hq.1 hq.2).mp hj)
theorem Wk.isin{N:Nat}{σ:Nat->List Nat}{lo le:Nat->Nat}(W:Wk rows w N σ lo le){j a:Nat}(h0:j∈σ a):∀d,a+d<=N->(∀i,a<=i->i<a+d->le i≠j)->j∈σ (a+d)
 | 0,_,_=>h0
 |d+1,h,hi=>(W.nx (a+d) (by lia) j).mpr (.inr ⟨W.isin h0 d (by lia) fun i h1 h2=>hi i h1 (by lia),fun e=>hi (a+d) (by lia) (by lia) e.symm⟩)
theorem Wk.out{N:Nat}{σ:Nat->List Nat}{lo le:Nat->Nat}(W:Wk rows w N σ lo le){j a:Nat}(h0:j∉σ a):∀d,a+d<=N->(∀i,a<=i->i<a+d->lo i≠j)->j∉σ (a+d)
 | 0,_,_=>h0
 |d+1,h,hi=>fun hm=>by
  rcases(W.nx (a+d) (by lia) j).mp hm with e|e
  ·exact hi (a+d) (by lia) (by lia) e.symm
  ·exact W.out h0 d (by lia) (fun i h1 h2=>hi i h1 (by lia)) e.1
theorem Wk.once{N:Nat}{σ:Nat->List Nat}{lo le:Nat->Nat}(W:Wk rows w N σ lo le){t a b:Nat}(hb:b<=N)(h:∀i,a<=i->i<b->lo i<=t/\le i<=t){p q:Nat}(hp:a<=p)(hpq:p<q)(hq:q<b)(e1:lo p=t\/le p=t)(e2:lo q=t\/le q=t):False:=by
 obtain⟨x,s,c,y,M⟩:=W.mv p (by lia);obtain⟨x2,s2,c2,y2,M2⟩:=W.mv q (by lia);have np:=W.nx p (by lia) t;have ee:p+1+(q-(p+1))=q:=by lia
 rcases e1 with e1|e1 <;> rcases e2 with e2|e2
 ·have hm:=W.isin (j:=t) (a:=p+1) (np.mpr (.inl e1.symm)) (q-(p+1)) (by lia) fun i i1 i2 e=>W.not hb h ⟨hp,by lia⟩ ⟨by lia,by lia⟩ e1 e
  rw[ee,<-e2]at hm;exact M2.at_l hm
 ·exact W.not hb h ⟨hp,by lia⟩ ⟨by lia,hq⟩ e1 e2
 ·exact W.not hb h ⟨by lia,hq⟩ ⟨hp,by lia⟩ e2 e1
 ·have hn:t∉σ (p+1):=fun hm=>by
   rcases np.mp hm with e|e
   ·exact M.at_l (by rw[<-e,<-e1];exact M.mem)
   ·exact e.2 e1.symm
  have hm:=W.out hn (q-(p+1)) (by lia) fun i i1 i2 e=>W.not hb h ⟨by lia,by lia⟩ ⟨hp,by lia⟩ e e1
  rw[ee]at hm;exact hm (by rw[<-e2];exact M2.mem)
theorem Wk.short{N:Nat}{σ:Nat->List Nat}{lo le:Nat->Nat}(W:Wk rows w N σ lo le):∀(t a b:Nat),a<=b->b<=N->(∀i,a<=i->i<b->lo i<t/\le i<t)->b-a+1<=2 ^ t
 | 0,a,b,KH,_,h=>by
  have:¬ a<b:=fun hl=>absurd (h a (Tn _) hl).1 (TR _)
  show b-a+1<=1;lia
 |t+1,a,b,KH,hb,h=>by
  have e2:2 ^ (t+1)=2 ^ t+2 ^ t:=by rw[Wc];lia
  have h':∀i,a<=i->i<b->lo i<=t/\le i<=t:=fun i h1 h2=>by have:=h i h1 h2;lia
  by_cases hx:∃i,a<=i/\i<b/\(lo i=t\/le i=t)
  ·obtain⟨i,i1,i2,i3⟩:=hx;have g1:=W.short t a i i1 (by lia) fun z z1 z2=>by
    have hz:=h' z z1 (by lia);have n1:lo z≠t:=fun e=>W.once hb h' z1 z2 i2 (.inl e) i3
    have n2:le z≠t:=fun e=>W.once hb h' z1 z2 i2 (.inr e) i3
    lia
   have g2:=W.short t (i+1) b (by lia) hb fun z z1 z2=>by
    have hz:=h' z (by lia) z2;have n1:lo z≠t:=fun e=>W.once hb h' i1 z1 z2 i3 (.inl e)
    have n2:le z≠t:=fun e=>W.once hb h' i1 z1 z2 i3 (.inr e)
    lia
   lia
  ·have g:=W.short t a b KH hb fun z z1 z2=>by
    have hz:=h' z z1 z2;have n1:lo z≠t:=fun e=>hx ⟨z,z1,z2,.inl e⟩
    have n2:le z≠t:=fun e=>hx ⟨z,z1,z2,.inr e⟩
    lia
   lia
end
def sel(rows:List (List Int))(B:List Nat):List (List Int):=B.map fun j=>rows.getD j []
theorem fZ(rows:List (List Int))(B:List Nat):(sel rows B).length=B.length:=bh _
theorem vK(rows:List (List Int)){B:List Nat}{p:Nat}(h:p<B.length):(sel rows B).getD p []=rows.getD (B.getD p 0) []:=by
 unfold sel;rw[Th,TN,g9 h,Th (l:=B),g9 h];rfl
theorem xx{n w:Nat}{A G:Nat->Nat->Int}(hi:OZ n w A)(h:∀i,i<n->In n w G (A i)):OZ n w G:=fun x hx j hj=>TZ fun I0=>by
 cases n with
 |zero=>lia
 |succ m=>
  have Lc:∀p,p<m+1->p≠j->In m w (fun p=>if p=j then G m else G p) (G p):=fun p hp hpj=>by
   by_cases e:p=m
   ·have h0:=dX (w:=w) (F:=fun p=>if p=j then G m else G p) (i:=j) (r:=m) (by lia);rw[Tw rfl]at h0;rw[e];exact h0
   ·have h0:=dX (w:=w) (F:=fun p=>if p=j then G m else G p) (i:=p) (r:=m) (by lia);rw[TC hpj]at h0;exact h0
  have MJ:In m w (fun p=>if p=j then G m else G p) (G j):=by
   have hs:=gL (r:=m) (w:=w) (F:=fun p=>if p=j then G m else G p) (m+1) x (fun p k=>if p=j then 0 else G p k) (fun p hp=>by
    by_cases e:p=j
    ·exact pC fun k _=>Tw e
    ·exact bV (fun k _=>TC e) (Lc p hp e))
   refine iC (-x j) (by lia) (fun k hk=>?_) hs;have h0:=hx k hk;have e:sg (m+1) (fun i=>x i*G i k)=sg (m+1) (fun p=>x p*if p=j then 0 else G p k)+sg (m+1) (fun p=>if p=j then x j*G j k else 0):=by
    rw[<-gK];refine az fun p _=>?_
    by_cases e:p=j
    ·rw[Tw e,Tw e,e,T5,Yk]
    ·rw[TC e,TC e,UX]
   have e1:sg (m+1) (fun p=>if p=j then x j*G j k else 0)=x j*G j k:=by
    rw[fC hj fun p _ hp=>TC hp,Tw rfl]
   rw[e1]at e;rw[UP];lia
  have:=qE (a:=m+1) (b:=m) hi fun i R5=>dH (h i R5) fun p hp=>by
   by_cases e:p=j
   ·rw[e];exact MJ
   ·exact Lc p hp e
  lia
theorem CV{r w A:Nat}{F:Nat->Nat->Int}(hi:OZ r w F)(hA:∀i,i<r->∀k,k<w->(F i k).natAbs<=A):r<=w:=TZ fun h=>by
 obtain⟨x,⟨i,hi1,I0⟩,_,hx⟩:=vm (r:=r) (s:=w) (A:=A) (by lia) (fun k i=>F i k) (fun j hj i hi=>hA i hi j hj);exact I0 (hi x (fun k hk=>by rw[<-hx k hk];exact az fun i _=>Us _ _) i hi1)
structure Ch(rows:List (List Int))(w n:Nat)(B:List Nat):Prop where
 srt:B.Pairwise (·< ·)
 lt:∀j∈B,j<n
 ind:OZ B.length w (Fs (sel rows B))
 spn:∀i,i<n->In B.length w (Fs (sel rows B)) (Vc (rows.getD i []))
theorem Ch.start(rows:List (List Int))(w:Nat):Ch rows w 0 []:=⟨.nil,fun _ h=>(nomatch h),fun _ _ i h=>absurd h (TR i),fun i h=>absurd h (TR i)⟩
section
variable{rows:List (List Int)}{w n:Nat}{B:List Nat}
theorem Ch.skip(H:Ch rows w n B)(h:In B.length w (Fs (sel rows B)) (Vc (rows.getD n []))):Ch rows w (n+1) B:=⟨H.srt,fun j hj=>VS (H.lt j hj),H.ind,fun i hi=>by
 rcases Wv.mp hi with e|e
 ·exact H.spn i e
 ·rw[e];exact h⟩
theorem Ch.take(H:Ch rows w n B)(h:¬ In B.length w (Fs (sel rows B)) (Vc (rows.getD n []))):Ch rows w (n+1) (B++[n]):=by
 have es:sel rows (B++[n])=sel rows B++[rows.getD n []]:=by unfold sel;rw[Ub];rfl
 have el:=fZ rows B;have eb:(B++[n]).length=B.length+1:=by rw[rX,Uj]
 refine⟨List.pairwise_append.mpr ⟨H.srt,XN _ _,fun a ha b hb=>by rw[si hb];exact H.lt a ha⟩,fun j hj=>?_,?_,?_⟩
 ·rcases wc hj with h|h
  ·exact VS (H.lt j h)
  ·rw[si h];exact T9 _
 ·rw[eb,es];intro x hx;have key:∀k,k<w->sg B.length (fun p=>x p*Fs (sel rows B) p k)+x B.length*(rows.getD n []).getD k 0=0:=fun k hk=>by
   have:=hx k hk;have e1:sg B.length (fun p=>x p*Fs (sel rows B++[rows.getD n []]) p k)=sg B.length (fun p=>x p*Fs (sel rows B) p k):=az fun p hp=>by
    show x p*((sel rows B++[rows.getD n []]).getD p []).getD k 0=x p*((sel rows B).getD p []).getD k 0;rw[xu _ _ _ (by rw[el];exact hp)]
   have e2:Fs (sel rows B++[rows.getD n []]) B.length k=(rows.getD n []).getD k 0:=by
    show((sel rows B++[rows.getD n []]).getD B.length []).getD k 0=_;rw[<-el,vx]
   have h3:sg B.length (fun p=>x p*Fs (sel rows B++[rows.getD n []]) p k)+x B.length*Fs (sel rows B++[rows.getD n []]) B.length k=0:=this;rw[e1,e2]at h3;exact h3
  have z:x B.length=0:=TZ fun I0=>h ⟨x B.length,fun p=>-x p,I0,fun k hk=>by
   have:=key k hk;have e:sg B.length (fun p=>-x p*Fs (sel rows B) p k) = -sg B.length (fun p=>x p*Fs (sel rows B) p k):=by
    have:=cj B.length (-1) fun p=>x p*Fs (sel rows B) p k
    rw[UP,UT]at this;rw[<-this];exact az fun p _=>by rw[UP,UP,UT]
   rw[e];show x B.length*(rows.getD n []).getD k 0=_;lia⟩
  intro i hi;rcases Wv.mp hi with e|e
  ·exact H.ind x (fun k hk=>by
    have:=key k hk;rw[z,UM,UX]at this;exact this) i e
  ·rw[e];exact z
 ·rw[eb,es];intro i hi;rcases Wv.mp hi with e|e
  ·exact vy el (H.spn i e)
  ·rw[e];exact vz el
theorem mC(h:B.Pairwise (·< ·)){p q:Nat}(hp:p<B.length)(hq:q<B.length)(e:B.getD p 0=B.getD q 0):p=q:=by
 rw[Th,g9 hp,Th,g9 hq]at e;have e:B[p]=B[q]:=e;have h2:=Xs.mp h;rcases Nat.lt_trichotomy p q with z|z|z
 ·have:=h2 p q hp hq z;lia
 ·exact z
 ·have:=h2 q p hq hp z;lia
theorem Ch.swap(H:Ch rows w n B){l q:Nat}{c:Int}{a:Nat->Int}(hl:l<n)(hq:q<B.length)(hs:∀k,k<w->c*(rows.getD l []).getD k 0=sg B.length fun p=>a p*(rows.getD (B.getD p 0) []).getD k 0)(ha:a q≠0){C:List Nat}(hC:C.Pairwise (·< ·))(hm:∀j,j∈C<->j=l\/(j∈B/\j≠B.getD q 0))(hlen:C.length=B.length):Ch rows w n C:=by
 have O3:∀j,j∈C->In C.length w (Fs (sel rows C)) (Vc (rows.getD j [])):=fun j hj=>by
  have:=qH (w:=w) (S:=sel rows C) (r:=rows.getD j []) (U3.mpr ⟨j,hj,rfl⟩);rw[fZ]at this;exact this
 have inq:In C.length w (Fs (sel rows C)) (Vc (rows.getD (B.getD q 0) [])):=by
  have h1:=gL (r:=C.length) (w:=w) (F:=Fs (sel rows C)) B.length (fun p=>if p=q then c else -a p) (fun p=>if p=q then Vc (rows.getD l []) else Vc (rows.getD (B.getD p 0) [])) (fun p hp=>by
   by_cases e:p=q
   ·rw[Tw e];exact O3 l ((hm l).mpr (.inl rfl))
   ·rw[TC e];exact O3 _ ((hm _).mpr (.inr ⟨iF hp,fun z=>e (mC H.srt hp hq z)⟩)))
  refine iC (a q) ha (fun k hk=>?_) h1;have h2:=hs k hk;have e:sg B.length (fun i=>(if i=q then c else -a i)*(if i=q then Vc (rows.getD l []) else Vc (rows.getD (B.getD i 0) [])) k)+sg B.length (fun p=>a p*(rows.getD (B.getD p 0) []).getD k 0)=sg B.length (fun p=>if p=q then c*(rows.getD l []).getD k 0+a q*(rows.getD (B.getD q 0) []).getD k 0 else 0):=by
   rw[<-gK];refine az fun p _=>?_
   by_cases e:p=q
   ·rw[Tw e,Tw e,Tw e,e]
   ·rw[TC e,TC e,TC e,UP];exact Int.add_left_neg _
  have e1:sg B.length (fun p=>if p=q then c*(rows.getD l []).getD k 0+a q*(rows.getD (B.getD q 0) []).getD k 0 else 0)=c*(rows.getD l []).getD k 0+a q*(rows.getD (B.getD q 0) []).getD k 0:=by
   rw[fC hq fun p _ hp=>TC hp,Tw rfl]
  rw[e1]at e;show a q*(rows.getD (B.getD q 0) []).getD k 0=_;lia
 have R7:∀p,p<B.length->In C.length w (Fs (sel rows C)) (Fs (sel rows B) p):=fun p hp=>by
  show In C.length w (Fs (sel rows C)) (Vc ((sel rows B).getD p []));rw[vK rows hp];by_cases e:p=q
  ·rw[e];exact inq
  ·exact O3 _ ((hm _).mpr (.inr ⟨iF hp,fun z=>e (mC H.srt hp hq z)⟩))
 refine⟨hC,fun j hj=>?_,?_,fun i hi=>dH (H.spn i hi) R7⟩
 ·rcases(hm j).mp hj with e|e
  ·rw[e];exact hl
  ·exact H.lt j e.1
 ·rw[hlen]at R7 ⊢;exact xx H.ind R7
end
end LW
namespace LW
open PySem L2 NX PV
theorem CW(a:Int){b:Int}(h:b≠0):Co (.int a) (.int b)=.ok (.f,.int (a.fmod b)):=by
 unfold Co;dsimp only;rw[Tw h]
theorem pH(a:Int){b:Int}{n:Nat}(h:b≠0)(h2:b.natAbs<2 ^ n)(hn:n<=9000):l6 (.int a) (.int b)=.ok (.f,.int (a.fdiv b)):=by
 have:b.natAbs.log2<9000:=by
  have:=(ZG (fun z=>h (Xm.mp z))).mpr h2;lia
 unfold l6;dsimp only;rw[Tw ⟨h,this⟩]
theorem lg(a:Int){b:Int}(h:0<b):a.fmod b=a%b:=by
 rw[Int.fmod_eq_emod,Tw (.inl (Yl h)),UX]
theorem GC(a:Int){b:Int}(h:b≠0):(a.fmod b).natAbs<b.natAbs:=by
 rcases YX h with hb|hb
 ·have e:a.fmod b = -((-a)%(-b)):=by
   rw[<-lg (-a) (b:=-b) (by lia),XS,ZM]
  have h1:=VA (-a) (b:=-b) (by lia);have h2:=V6 (-a) (b:=-b) (by lia);lia
 ·rw[lg a hb];have h1:=VA a (b:=b) (by lia);have h2:=V6 a hb;lia
theorem qI{a b:Int}(hb:0<b)(hr:0<a%b):2*(b%(a%b))<b:=by
 have h1:=V6 a hb;have h2:=V6 b hr;have h3:=VA b (b:=a%b) (by lia);have h4:=Int.mul_ediv_add_emod b (a%b);have h5:1<=b / (a%b):=by
  have:=Int.ediv_nonneg (Yl hb) (Yl hr);rcases Int.lt_or_eq_of_le this with h|h
  ·lia
  ·rw[<-h,T5]at h4;lia
 have h6:a%b*1<=a%b*(b / (a%b)):=WX h5 (Yl hr);lia
theorem GD{a b:Int}(hb:b≠0)(hr:a.fmod b≠0):2*(b.fmod (a.fmod b)).natAbs<b.natAbs:=by
 rcases YX hb with h|h
 ·have e:a.fmod b = -((-a)%(-b)):=by
   rw[<-lg (-a) (b:=-b) (by lia),XS,ZM]
  have h0:=VA (-a) (b:=-b) (by lia);have hp:0<(-a)%(-b):=by lia
  have e2:b.fmod (a.fmod b) = -((-b)%((-a)%(-b))):=by
   rw[e,<-lg (-b) hp,<-XS,ZM]
  have:=qI (a:=-a) (b:=-b) (by lia) hp;have:=VA (-b) (b:=(-a)%(-b)) (by lia);lia
 ·rw[lg a h]at hr ⊢;have h0:=VA a (b:=b) (by lia);have hp:0<a%b:=by lia
  rw[lg b hp];have:=qI (a:=a) h hp;have:=VA b (b:=a%b) (by lia);lia
theorem yr(a b:Int):Int.gcd b (a.fmod b)=Int.gcd a b:=by rw[Int.fmod_def,Int.gcd_sub_mul_left_right,Int.gcd_comm]
abbrev r6:FT:=Hs (a7 Jp (aj 1) (aq (aH (.int 0))))
theorem pI(F:Nat)(a:Int)(t:Option R):cN r6 aO (F+1) [some (.f,.int a),some (.f,.int 0),t]=.ok (.nx [some (.f,.int a),some (.f,.int 0),t]):=by
 have hc:r6 [some (.f,.int a),some (.f,.int 0),t]=.ok (false,[some (.f,.int a),some (.f,.int 0),t]):=by
  have e:((0:Int)==0)=true:=rfl;simp only[pv,seval,op,e,W7]
 rw[ju,hc,HY];dsimp only;rw[TC TB]
theorem CY(F:Nat)(a b:Int)(hb:b≠0)(t:Option R):cN r6 aO (F+1) [some (.f,.int a),some (.f,.int b),t]=cN r6 aO F [some (.f,.int b),some (.f,.int (a.fmod b)),some (.f,.int (a.fmod b))]:=by
 have hc:r6 [some (.f,.int a),some (.f,.int b),t]=.ok (true,[some (.f,.int a),some (.f,.int b),t]):=by
  have e:(b==0)=false:=Ug.mpr hb;simp only[pv,seval,op,e,Bool.not_false]
 have R8:aO [some (.f,.int a),some (.f,.int b),t]=.ok (.nx [some (.f,.int b),some (.f,.int (a.fmod b)),some (.f,.int (a.fmod b))]):=by
  unfold aO;have hm:=CW a hb;rw[ax (env':=[some (.f,.int a),some (.f,.int b),some (.f,.int (a.fmod b))]) (by simp only[pv,seval,op,hm])];rw[ax (env':=[some (.f,.int b),some (.f,.int b),some (.f,.int (a.fmod b))]) (by simp only[pv,seval,op])];simp only[pv,seval,op]
 rw[ju,hc,HY];dsimp only;rw[Tw rfl,R8,HY]
theorem vM:∀(n F:Nat) (a b:Int) (t:Option R),b.natAbs<2 ^ n->2*n+1<=F->∃(c:Int) (u:Option R),c.natAbs=Int.gcd a b/\cN r6 aO F [some (.f,.int a),some (.f,.int b),t]=.ok (.nx [some (.f,.int c),some (.f,.int 0),u])
 | 0,F,a,b,t,h,hF=>by
  have:b=0:=by
   have:b.natAbs<1:=h;lia
  subst this;obtain⟨F,rfl⟩:∃G,F=G+1:=⟨F-1,by lia⟩
  exact⟨a,t,(Xo a).symm,pI F a t⟩
 |n+1,F,a,b,t,h,hF=>by
  obtain⟨F,rfl⟩:∃G,F=G+1:=⟨F-1,by lia⟩
  by_cases hb:b=0
  ·subst hb;exact⟨a,t,(Xo a).symm,pI F a t⟩
  rw[CY F a b hb t,<-yr a b];obtain⟨F,rfl⟩:∃G,F=G+1:=⟨F-1,by lia⟩
  by_cases hr:a.fmod b=0
  ·rw[hr];exact⟨b,_,(Xo b).symm,pI F b _⟩
  rw[CY F b _ hr,<-yr b (a.fmod b)];refine vM n F _ _ _ ?_ (by lia);have:=GD hb hr;rw[Wc]at h;lia
theorem CZ(c:Int):AN [.int c]=.ok (.f,.int (c.natAbs:Int)):=by
 show Res.ok (O.f,D.int (if c<0 then -c else c))=_;split <;> (congr 3;lia)
theorem yt{n:Nat}(hn:n<=9000)(a b:Int)(h:b.natAbs<2 ^ n):aT [.int a,.int b]=.ok (.f,.int (Int.gcd a b:Int)):=by
 obtain⟨c,u,hc,e⟩:=vM n 100000 a b none h (by lia);have ha:=CZ c;unfold aT fu;rw[bt (h:=by rfl)];rw[ax (env':=[some (.f,.int c),some (.f,.int 0),u]) (by
  unfold dE;exact e)]
 unfold dm;rw[<-hc];simp only[pv,seval,op,ha]
theorem C0{n:Nat}:∀(r:List Int) (g:Nat),Bg n r->g<2 ^ n->gl r g<2 ^ n
 |[],g,_,h=>h
 |x::r,g,hb,h=>C0 r _ (fun y hy=>hb y (Tu _ hy)) (by
  rcases YV g with e|e
  ·rw[e,Nat.gcd_zero_left];exact hb x Tq
  ·exact UW (Nat.gcd_le_left _ e) h)
theorem qJ{n:Nat}(hn:n<=9000)(E0:Option R):∀(r:List Int) (g:Nat) (t:Option R),Bg n r->∃u,dM (aw 2) eO (r.map D.int) [E0,some (.f,.int (g:Int)),t]=.ok (.nx [E0,some (.f,.int (gl r g:Int)),u])
 |[],g,t,_=>⟨t,rfl⟩
 |x::r,g,t,hb=>by
  have hd:=yt hn (g:Int) x (hb x Tq);have eg:Int.gcd (g:Int) x=Nat.gcd g x.natAbs:=rfl;rw[eg]at hd;obtain⟨u,e⟩:=qJ hn E0 r (Nat.gcd g x.natAbs) (some (.f,.int x)) fun y hy=>hb y (Tu _ hy)
  have ha:aw 2 (.int x) [E0,some (.f,.int (g:Int)),t]=.ok [E0,some (.f,.int (g:Int)),some (.f,.int x)]:=rfl;have R8:eO [E0,some (.f,.int (g:Int)),some (.f,.int x)]=.ok (.nx [E0,some (.f,.int ((Nat.gcd g x.natAbs:Nat):Int)),some (.f,.int x)]):=by
   unfold eO;simp only[pv,seval,op,hd]
  refine⟨u,?_⟩;rw[iS,iR,ha,HY,R8,HY];exact e
theorem mD{n:Nat}(hn:n<=9000)(r:List Int)(hb:Bg n r)(hl:r.length<=1000):cm [eR r]=.ok (.f,eR (low r)):=by
 obtain⟨u,e⟩:=qJ hn (some (.f,eR r)) r 0 none hb;have hg:=C0 r 0 hb (Xi n);unfold cm qx;rw[bt (h:=by rfl)];rw[ax (env':=[some (.f,eR r),some (.f,.int ((0:Nat):Int)),none]) (by
  generalize eR r=ER;simp only[pv,seval,op] <;> rfl)]
 rw[ax (env':=[some (.f,eR r),some (.f,.int (gl r 0:Int)),u]) (by
  unfold k9 eR;simp only[pv,seval,op];exact e)]
 unfold jZ low;by_cases h0:gl r 0=0
 ·rw[Tw h0];have e0:(((gl r 0:Nat):Int)==0)=true:=by rw[h0];rfl
  rw[HC];generalize eR r=ER;simp only[pv,seval,op,e0]
 ·rw[TC h0];have e0:(((gl r 0:Nat):Int)==0)=false:=Ug.mpr (by lia);have hz:((gl r 0:Nat):Int)≠0:=by lia
  have hc:ck (aw 0) gT (aF l6 (aj 0) (aj 1)) (r.map D.int) [none,some (.f,.int (gl r 0:Int))]=.ok ((r.map fun x=>x.fdiv (gl r 0:Int)).map D.int):=by
   rw[TV];refine cI (fun env=>∃t,env=[t,some (.f,.int (gl r 0:Int))]) _ ?_ _ ⟨_,rfl⟩;rintro x _ env ⟨t,rfl⟩;have hf:=pH x hz (by rw[UD];exact hg) hn;refine⟨[some (.f,.int x),some (.f,.int (gl r 0:Int))],rfl,.f,[some (.f,.int x),some (.f,.int (gl r 0:Int))],?_,_,rfl⟩;simp only[pv,seval,op,hf];rfl
  have hlen:((r.map fun x=>x.fdiv (gl r 0:Int)).map D.int).length<=sizeLine:=vg (by rw[bh,bh];lia);have Mj:=He (r.map fun x=>x.fdiv (gl r 0:Int));rw[ax (env':=[some (.f,eR r),some (.f,.int (gl r 0:Int)),u]) (by
   generalize eR r=ER;simp only[pv,seval,op,e0,jg])]
  unfold eR;generalize (aF l6 (aj 0) (aj 1))=FZ1 at hc ⊢;simp only[pv,seval,op,hc,hlen,Mj]
end LW
namespace PV
open PySem L2 NX
theorem jw{fs:FOs}{env:PV.Env}:i7 fs env=Res.bnd (fs env) (f:=⟨fun p=>match p.1 with
 |[.val d]=>(match d with | .lst a=>.ok (rO a,p.2) | .tup a=>.ok (rO a,p.2)|_=>.bad)
 |_=>.bad⟩):=by
 unfold i7 HR qr;cases fs env with
 |ok p=>
  obtain⟨os,e⟩:=p;match os with
  |[]=>rfl
  |[.val d]=>cases d <;> rfl
  |[.var _]=>rfl
  | .val _::_::_=>rfl
  | .var _::_::_=>rfl
 |_=>rfl
theorem Ak{i:Nat}{a:FG}{g:FS}{env env':PV.Env}{ks vs:List D}(hi:env[i]?=some (some (.d,.dct false ks vs)))(h:∀p,∃e,dM a g ks (env.set i (some (.pin p .f,.dct false ks vs)))=.ok (.nx e)/\l0 i p e=true/\nS i e=true/\e.set i (some (.d,.dct false ks vs))=env'):uS i a g env=.ok (.nx env'):=by
 unfold uS;rw[hi];refine zZ fun p=>?_
 obtain⟨e,h1,h2,h3,h4⟩:=h p;rw[h1];show(if l0 i p e&&nS i e then Res.ok (Out.nx (e.set i (some (.d,.dct false ks vs)))) else .bad)=_;rw[h2,h3,h4];rfl
theorem forD_eq{i:Nat}{a:FG}{g:FS}{env env':PV.Env}{p:Addr}{ks vs:List D}(hi:env[i]?=some (some (.pin p .d,.dct false ks vs))){e:PV.Env}(h1:dM a g ks (env.set i (some (.pin p .f,.dct false ks vs)))=.ok (.nx e))(h2:l0 i p e=true)(h3:cleanE i e=true)(h4:e.set i (some (.pin p .d,.dct false ks vs))=env'):nP i a g env=.ok (.nx env'):=by
 unfold nP;rw[hi];show(dM a g ks (env.set i (some (.pin p .f,.dct false ks vs)))).bind (uK i p (.dct false ks vs))=_;rw[h1];show(if l0 i p e&&cleanE i e then Res.ok (Out.nx (e.set i (some (.pin p .d,.dct false ks vs)))) else .bad)=_;rw[h2,h3,h4];rfl
end PV
namespace LW
open PySem L2 NX PV
def Nm(r:List Int):List Int:=(r.zipIdx.filter fun z=>!(z.1==0)).map fun z=>(z.2:Int)
theorem xy(r:List Int):rO (r.map D.int)=r.zipIdx.map fun z=>D.tup [.int (z.2:Int),.int z.1]:=by
 unfold rO;rw[List.zipIdx_map,TV];rfl
theorem ou(r:List Int):ck (iG 2 (aE (aw 0) (aE (aw 1) cQ))) (Hs (a7 Jp (aj 1) (aq (aH (.int 0))))) (aB 0) (rO (r.map D.int)) [none,none]=.ok ((Nm r).map D.int):=by
 rw[xy];rw[eY (p:=fun z:Int×Nat=>!(z.1==0)) (r:=fun z:Int×Nat=>D.int (z.2:Int)) (fun env=>∃t1 t2,env=[t1,t2]) r.zipIdx ?_ _ ⟨_,_,rfl⟩]
 ·unfold Nm;rw[TV];rfl
 ·rintro z _ env ⟨t1,t2,rfl⟩;refine⟨[some (.f,.int (z.2:Int)),some (.f,.int z.1)],by simp only[pv,seval],[some (.f,.int (z.2:Int)),some (.f,.int z.1)],by simp only[pv,seval,op],?_⟩;cases h:(z.1==0) with
  |true=>exact⟨_,_,rfl⟩
  |false=>exact⟨.f,_,rfl,_,_,rfl⟩
theorem C3(r:List Int):(Nm r).length<=r.length:=by
 unfold Nm;rw[bh];exact T2 (VJ _ _) (X6 (YU))
theorem Pr{r:List Int}{c:Nat}(h:c<r.length):Hw (eR r) (.int (c:Int))=.ok (.f,.int (r.getD c 0)):=by
 unfold eR;rw[CB,fG (j:=c) (v:=D.int (r.getD c 0)) (by rw[TN,g9 h,bI r c 0 h];rfl)]
theorem ox{n:Nat}(SO:n<=900000)(row JA:List Int)(c:Nat)(hc:c<row.length)(hl:JA.length=row.length)(h1:Bg n row)(h2:Bg n JA)(hw:row.length<=1000):cD [eR row,.int (c:Int),eR JA]=.ok (.f,eR (Io row c JA)):=by
 have i1:=Pr hc;have i2:=Pr (r:=JA) (c:=c) (by lia);unfold cD nV;rw[bt (h:=by rfl)];unfold Io;by_cases h0:row.getD c 0=0
 ·rw[Tw h0];have e0:(row.getD c 0==0)=true:=by rw[h0];rfl
  rw[HC];generalize eR row=ER at i1 ⊢;simp only[pv,seval,op,i1,e0]
 ·rw[TC h0];have e0:(row.getD c 0==0)=false:=Ug.mpr h0;have hn:Bg n [JA.getD c 0,-(row.getD c 0)]:=fun x hx=>by
   rcases TF.mp hx with rfl|hx
   ·exact h2 _ (eZ (by lia))
   ·rw[si hx,Wm];exact h1 _ (eZ hc)
  have hr:Rows n row.length [row,JA]:=fun x hx=>by
   rcases TF.mp hx with rfl|hx
   ·exact⟨rfl,h1⟩
   ·rw[si hx];exact⟨hl,h2⟩
  have hs:=xt SO SO row.length hw [row,JA] [JA.getD c 0,-(row.getD c 0)] hr hn (by show 2<=1000;decide);have ec:((List.range row.length).map (co [row,JA] [JA.getD c 0,-(row.getD c 0)] 2))=(List.range row.length).map fun k=>row.getD k 0*JA.getD c 0+JA.getD k 0 * -(row.getD c 0):=by
   refine Uo fun k _=>?_
   unfold co;simp
  have hs:eN [.lst [eR row,eR JA],.lst [.int (JA.getD c 0),.int (-(row.getD c 0))],.int (row.length:Int)]=.ok (.f,eR ((List.range row.length).map (co [row,JA] [JA.getD c 0,-(row.getD c 0)] 2))):=hs;rw[ec]at hs;have K7:fO [eR row]=.ok (.f,.int (row.length:Int)):=by
   show Res.ok (O.f,D.int (((row.map D.int).length:Nat):Int))=_;rw[bh]
  generalize eR ((List.range row.length).map fun k=>row.getD k 0*JA.getD c 0+JA.getD k 0 * -(row.getD c 0))=RES at hs ⊢;rw[ax (env':=[some (.f,eR row),some (.f,.int (c:Int)),some (.f,eR JA)]) (by
   generalize eR row=ER at i1 ⊢;generalize eR JA=EB;simp only[pv,seval,op,i1,e0,jg])]
  generalize eR row=ER at i1 hs K7 ⊢;generalize eR JA=EB at i2 hs ⊢;simp only[pv,seval,op,i1,i2,hs,K7]
def kL(L:Hj):List D:=L.map fun z=>D.int (z.1:Int)
def vL(L:Hj):List D:=L.map fun z=>eR z.2
def dL(L:Hj):D:=.dct false (kL L) (vL L)
theorem Qs(a b:Nat):Ha (.int (a:Int)) (.int (b:Int))=(a==b):=by
 rw[Ha,Uv,Uc,Uc];lia
theorem FD:∀(L:Hj) (i:Nat),i<L.length->(∀j,j<i->Hf L j≠Hf L i)->PV.getD (kL L) (vL L) (.int (Hf L i:Int))=some (eR (Hg L i))
 |[],i,h,_=>absurd h (TR i)
 |(c,r)::L,0,_,_=>by
  show(((D.int (c:Int),eR r)::(kL L).zip (vL L)).find? (fun p=>Ha (.int (c:Int)) p.1)).map (·.2)=some (eR r);rw[V1 (by show Ha (.int (c:Int)) (.int (c:Int))=true;rw[Qs,UH])];rfl
 |(c,r)::L,i+1,h,hj=>by
  have hc:c≠Hf L i:=hj 0 (Wu i);have:=FD L i (Nat.lt_of_succ_lt_succ h) fun j O1=>hj (j+1) (Nat.succ_lt_succ O1)
  show(((D.int (c:Int),eR r)::(kL L).zip (vL L)).find? (fun p=>Ha (.int (Hf L i:Int)) p.1)).map (·.2)=some (eR (Hg L i));rw[V2 (by show ¬ Ha (.int (Hf L i:Int)) (.int (c:Int))=true;rw[Qs,Uc];exact fun e=>hc e.symm)];exact this
theorem Q6{w:Nat}{L:Hj}(H:Rdd w L){i:Nat}(hi:i<L.length):Mx (dL L) (.int (Hf L i:Int))=.ok (.f,eR (Hg L i)):=by
 unfold Mx dL;dsimp only;rw[Tw (show d9 false (.int (Hf L i:Int))=true from rfl),FD L i hi fun j hj e=>by have:=H.inj (by lia) hi e;lia]
theorem FE(L:Hj)(q:Nat)(l:List Int)(h:∀i,i<L.length->Hf L i≠q):nG (kL L) (vL L) (.int (q:Int)) (eR l)=(kL (L++[(q,l)]),vL (L++[(q,l)])):=by
 have ha:(kL L).any (Ha (.int (q:Int)))=false:=by
  unfold kL;rw[WR,WJ];intro z hz;obtain⟨i,hi,e⟩:=Ur hz;have hq:=h i hi;unfold Hf at hq;rw[Th,g9 hi,e]at hq;show ¬ Ha (.int (q:Int)) (.int (z.1:Int))=true;rw[Qs,Uc];exact fun e=>hq e.symm
 unfold nG;rw[ha,TC TB];unfold kL vL;rw[Ub,Ub];rfl
theorem cO(r:List Int):cz (eR r)=true:=by
 unfold eR;rw[iA,He]
theorem vN(L:Hj):G0 (vL L)=true:=by
 unfold vL;rw[cw,V9,Uh];exact fun z _=>cO z.2
theorem gx(L:Hj):aP .d (dL L)=true:=vN L
theorem Bg.mono{n m:Nat}{a:List Int}(h:Bg n a)(hn:n<=m):Bg m a:=fun x hx=>Ts (h x hx) (Vm (by decide) hn)
theorem Bg.at{n:Nat}{a:List Int}(h:Bg n a)(k:Nat):(a.getD k 0).natAbs<2 ^ n:=by
 by_cases hk:k<a.length
 ·exact h _ (eZ hk)
 ·rw[Th,Wb (by lia)];exact Xi n
theorem qK{x y:Int}{n m:Nat}(hx:x.natAbs<2 ^ n)(hy:y.natAbs<2 ^ m):(x*y).natAbs<2 ^ (n+m):=by
 rw[Vt,Nat.pow_add];exact Nat.mul_lt_mul_of_lt_of_lt hx hy
theorem vO{n m:Nat}{row b:List Int}(h1:Bg n row)(h2:Bg m b)(c:Nat):Bg (n+m+1) (Io row c b):=by
 unfold Io;split
 ·exact h1.mono (by lia)
 ·intro x hx;obtain⟨k,_,e⟩:=pA hx;rw[<-e];have a1:=qK (h1.at k) (h2.at c);have a2:=qK (h2.at k) (show(-(row.getD c 0)).natAbs<2 ^ n by rw[Wm];exact h1.at c);rw[Nat.add_comm m n]at a2;have a3:=Int.natAbs_add_le (row.getD k 0*b.getD c 0) (b.getD k 0 * -(row.getD c 0));rw[Wc];lia
def J0(t:Option R):Bool:=match t with
 |some r=>aP r.1 r.2
 |none=>true
abbrev IF(L:Hj)(q:Nat)(nl:List Int)(k:Nat):Hj:=(L.take k).map fun z=>(z.1,low (Io z.2 q nl))
theorem yu(L:Hj)(q:Nat)(nl:List Int){k i:Nat}(hk:k<=L.length)(h:i<(IF L q nl k).length):Hf (IF L q nl k) i=Hf L i:=by
 have hl:i<k:=by
  rw[bh,T8]at h;lia
 unfold Hf IF;rw[Th,TN,V7,Tw hl,g9 (by lia),Th,g9 (by lia)];rfl
theorem Al{w n:Nat}(hw:w<=1000)(hn:n+n+1<=9000){L:Hj}(H:Rdd w L)(hb:∀i,i<L.length->Bg n (Hg L i))(hL:L.length<=1000){q:Nat}(hq:q<w){nl:List Int}(Mz:nl.length=w)(Lp:Bg n nl)(p:Addr):∃t4,J0 t4=true/\dM (aw 4) cp (kL L) [some (.pin p .f,dL L),some (.f,.int (q:Int)),some (.f,eR nl),some (.d,dL []),none]=.ok (.nx [some (.pin p .f,dL L),some (.f,.int (q:Int)),some (.f,eR nl),some (.d,dL (IF L q nl L.length)),t4]):=by
 obtain⟨env',hf,t4,h4,rfl⟩:=for_list (a:=aw 4) (g:=cp) (e:=fun z:Nat×List Int=>D.int (z.1:Int)) L (fun k env=>∃t4,J0 t4=true/\env=[some (.pin p .f,dL L),some (.f,.int (q:Int)),some (.f,eR nl),some (.d,dL (IF L q nl k)),t4]) (by
  rintro k x env hx ⟨t4,h4,rfl⟩;obtain⟨hk,ex⟩:=yg hx;have ec:Hf L k=x.1:=by unfold Hf;rw[Th,hx];rfl
  have er:Hg L k=x.2:=by unfold Hg;rw[Th,hx];rfl
  have hd:=Q6 H hk;have hc:=ox (n:=n) (by lia) (Hg L k) nl q (by rw[H.len k hk];exact hq) (by rw[H.len k hk,Mz]) (hb k hk) Lp (by rw[H.len k hk];exact hw);have KD:=mD hn (Io (Hg L k) q nl) (vO (hb k hk) Lp q) (by rw[pD,H.len k hk];exact hw);have hp:=FE (IF L q nl k) (Hf L k) (low (Io (Hg L k) q nl)) fun i hi e=>by
   have R6:i<k:=by
    rw[bh,T8]at hi;lia
   rw[yu L q nl (by lia) hi]at e;have:=H.inj (by lia) hk e;lia
  have ej:IF L q nl k++[(Hf L k,low (Io (Hg L k) q nl))]=IF L q nl (k+1):=by
   unfold IF;rw[VN hk,Ub,ex,ec,er];rfl
  rw[ej]at hp;have Qt:(kL (IF L q nl k)).length<sizeLine:=short (by unfold kL;rw[bh,bh,T8];lia);rw[<-ec];refine⟨[some (.pin p .f,dL L),some (.f,.int (q:Int)),some (.f,eR nl),some (.d,dL (IF L q nl k)),some (.f,.int (Hf L k:Int))],rfl,[some (.pin p .f,dL L),some (.f,.int (q:Int)),some (.f,eR nl),some (.d,dL (IF L q nl (k+1))),some (.f,.int (Hf L k:Int))],?_,_,rfl,rfl⟩;have NJ:=cO (low (Io (Hg L k) q nl));have SQ:=cO (Io (Hg L k) q nl);unfold cp;generalize dL L=DL at hd ⊢;have e1:cK cm (ag (aq (cK cD (ag (aq (aF Mx (aj 0) (aj 4))) (ag (aj 1) (ag (aj 2) ay))))) ay) [some (.pin p .f,DL),some (.f,.int (q:Int)),some (.f,eR nl),some (.d,dL (IF L q nl k)),some (.f,.int (Hf L k:Int))]=.ok ((.f,eR (low (Io (Hg L k) q nl))),[some (.pin p .f,DL),some (.f,.int (q:Int)),some (.f,eR nl),some (.d,dL (IF L q nl k)),some (.f,.int (Hf L k:Int))]):=by
   generalize dL (IF L q nl k)=DJ;generalize eR (low (Io (Hg L k) q nl))=E1 at KD NJ ⊢;generalize eR (Io (Hg L k) q nl)=E2 at KD hc SQ;generalize eR (Hg L k)=E3 at hd hc;generalize eR nl=E4 at hc ⊢;simp only[pv,seval,op,hd,hc,KD,NJ,SQ]
  unfold Ce;rw[e1];show(if d9 false (.int (Hf L k:Int))&&decide ((kL (IF L q nl k)).length<sizeLine) then _ else _)=_;rw[Ux Qt];show Res.ok (Out.nx [some (.pin p .f,DL),some (.f,.int (q:Int)),some (.f,eR nl),some (.d,.dct false (nG (kL (IF L q nl k)) (vL (IF L q nl k)) (.int (Hf L k:Int)) (eR (low (Io (Hg L k) q nl)))).1 (nG (kL (IF L q nl k)) (vL (IF L q nl k)) (.int (Hf L k:Int)) (eR (low (Io (Hg L k) q nl)))).2),some (.f,.int (Hf L k:Int))])=_;rw[hp];rfl) [some (.pin p .f,dL L),some (.f,.int (q:Int)),some (.f,eR nl),some (.d,dL []),none] ⟨none,rfl,rfl⟩
 exact⟨t4,h4,hf⟩
theorem forD_eq{i:Nat}{a:FG}{g:FS}{env env':PV.Env}{p:Addr}{ks vs:List D}(hi:env[i]?=some (some (.pin p .d,.dct false ks vs))){e:PV.Env}(h1:dM a g ks (env.set i (some (.pin p .f,.dct false ks vs)))=.ok (.nx e))(h2:l0 i p e=true)(h3:cleanE i e=true)(h4:e.set i (some (.pin p .d,.dct false ks vs))=env'):nP i a g env=.ok (.nx env'):=PV.forD_eq hi h1 h2 h3 h4
theorem C4{w n:Nat}(hw:w<=1000)(hn:n+n+1<=9000){L:Hj}(H:Rdd w L)(hb:∀i,i<L.length->Bg n (Hg L i))(hL:L.length<=1000){q:Nat}(hq:q<w)(SN:∀i,i<L.length->Hf L i≠q){nl:List Int}(Mz:nl.length=w)(Lp:Bg n nl)(p:Addr):bE p [dL L,.int (q:Int),eR nl]=.ok (.t [.d,.pin p .d],.tup [dL (Ig L q nl),dL L]):=by
 obtain⟨t4,h4,e⟩:=Al hw hn H hb hL hq Mz Lp p;have e1:dn [some (.pin p .d,dL L),some (.f,.int (q:Int)),some (.f,eR nl),some (.d,dL []),none]=.ok (.nx [some (.pin p .d,dL L),some (.f,.int (q:Int)),some (.f,eR nl),some (.d,dL (IF L q nl L.length)),t4]):=by
  unfold dn;refine forD_eq (ks:=kL L) (vs:=vL L) rfl e (by show decide (p=p)=true;exact Ux rfl) ?_ rfl;show(List.all [none,some (O.f,D.int (q:Int)),some (.f,eR nl),some (.d,dL (IF L q nl L.length)),t4] J0)=true;have c1:J0 (some (.f,eR nl))=true:=cO nl;have c2:J0 (some (.f,.int (q:Int)))=true:=rfl;have c3:J0 (some (.d,dL (IF L q nl L.length)))=true:=gx _;have c0:J0 none=true:=rfl;simp only[VU,Yh,c0,c1,c2,c3,h4,Vp]
 have hj:IF L q nl L.length++[(q,nl)]=Ig L q nl:=by
  unfold IF Ig;rw[List.take_length]
 have hp:=FE (IF L q nl L.length) q nl fun i hi e=>by
  rw[yu L q nl (Tn _) hi]at e;rw[bh,T8]at hi;exact SN i (by lia) e
 rw[hj]at hp;have Qt:(kL (IF L q nl L.length)).length<sizeLine:=short (by unfold kL;rw[bh,bh,T8];lia);unfold bE ij;rw[qA (h:=by rfl)];simp only[List.map,List.replicate,VZ,Vz];rw[ax (env':=[some (.pin p .d,dL L),some (.f,.int (q:Int)),some (.f,eR nl),some (.d,dL []),none]) (by
  show _=Res.ok (Out.nx [some (.pin p .d,dL L),some (.f,.int (q:Int)),some (.f,eR nl),some (.d,.dct false [] []),none]);generalize dL L=D0;generalize eR nl=EN;simp only[pv,seval,op])]
 rw[ax e1];unfold fw;rw[ax (env':=[some (.pin p .d,dL L),some (.f,.int (q:Int)),some (.f,eR nl),some (.d,dL (Ig L q nl)),t4]) (by
  show(if d9 false (.int (q:Int))&&decide ((kL (IF L q nl L.length)).length<sizeLine) then _ else _)=_;rw[Ux Qt];show Res.ok (Out.nx [some (.pin p .d,dL L),some (.f,.int (q:Int)),some (.f,eR nl),some (.d,.dct false (nG (kL (IF L q nl L.length)) (vL (IF L q nl L.length)) (.int (q:Int)) (eR nl)).1 (nG (kL (IF L q nl L.length)) (vL (IF L q nl L.length)) (.int (q:Int)) (eR nl)).2),t4])=_;rw[hp];rfl)]
 rfl
def Ld(t:Option R):Bool:=match t with
 |some r=>okO r.1 r.2
 |none=>true
theorem mE:∀r:List Int,uQ (r.map D.int)=true
 |[]=>rfl
 |x::r=>by
  rw[iS,uQ,mE r];rfl
theorem C5(r:List Int):noD (eR r)=true:=by
 unfold eR;rw[noD,mE]
theorem yv:∀rows:List (List Int),uQ (rows.map eR)=true
 |[]=>rfl
 |x::r=>by rw[iS,uQ,yv r,C5];rfl
theorem C6(a c d e f g:Option R)(h:Ld a=true/\Ld c=true/\Ld d=true/\Ld e=true/\Ld f=true):nS 1 [a,g,c,d,e,f]=true:=by
 obtain⟨h1,h2,h3,h4,h5⟩:=h;show(List.all [a,none,c,d,e,f] _)=true;show(List.all [a,none,c,d,e,f] Ld)=true;simp only[VU,Yh,h1,h2,h3,h4,h5,W6];rfl
theorem xA(rows:List (List Int)):Ld (some (.f,.lst (rows.map eR)))=true:=by
 show noD (.lst (rows.map eR))=true;rw[noD,yv]
theorem C7(r:List Int):Ld (some (.f,eR r))=true:=C5 r
theorem E7(l:List Int):Ld (some (.l .f,.lst (l.map D.int)))=true:=mE l
theorem pJ{n a:Nat}{L:Hj}(hb:∀i,i<L.length->Bg n (Hg L i)){row:List Int}(hr:Bg a row):∀k,k<=L.length->Bg (a+k*(n+1)) (Ie L row k)
 | 0,_=>hr.mono (by lia)
 |k+1,h=>by
  have:=vO (pJ hb hr k (by lia)) (hb k (by lia)) (Hf L k);refine this.mono ?_;rw[X5];lia
def LM(L:Hj)(t4:Option R)(k:Nat):Option R:=if k=0 then t4 else some (.f,.int (Hf L (k-1):Int))
theorem yw(L:Hj){t4:Option R}(h:Ld t4=true)(k:Nat):Ld (LM L t4 k)=true:=by
 unfold LM;split
 ·exact h
 ·rfl
theorem C8(rows:List (List Int)){w n a:Nat}(hw:w<=1000){L:Hj}(H:Rdd w L)(hb:∀i,i<L.length->Bg n (Hg L i)){r:List Int}(hr:r.length=w)(Pt:Bg a r)(hz:a+L.length*(n+1)+n<=900000)(t4 t5:Option R)(h4:Ld t4=true)(h5:Ld t5=true):dO [some (.f,.lst (rows.map eR)),some (.d,dL L),some (.f,eR r),some (.f,eR r),t4,t5]=.ok (.nx [some (.f,.lst (rows.map eR)),some (.d,dL L),some (.f,eR r),some (.f,eR (Ie L r L.length)),LM L t4 L.length,t5]):=by
 have key:∀p,dM (aw 4) cE (kL L) [some (.f,.lst (rows.map eR)),some (.pin p .f,dL L),some (.f,eR r),some (.f,eR r),t4,t5]=.ok (.nx [some (.f,.lst (rows.map eR)),some (.pin p .f,dL L),some (.f,eR r),some (.f,eR (Ie L r L.length)),LM L t4 L.length,t5]):=fun p=>by
  obtain⟨env',hf,rfl⟩:=for_list (a:=aw 4) (g:=cE) (e:=fun z:Nat×List Int=>D.int (z.1:Int)) L (fun k env=>env=[some (.f,.lst (rows.map eR)),some (.pin p .f,dL L),some (.f,eR r),some (.f,eR (Ie L r k)),LM L t4 k,t5]) (by
   rintro k x env hx rfl;obtain⟨hk,ex⟩:=yg hx;have ec:Hf L k=x.1:=by unfold Hf;rw[Th,hx];rfl
   have hd:=Q6 H hk;have hkm:k*(n+1)<=L.length*(n+1):=Vl _ (VT hk);have hc:=ox (n:=a+k*(n+1)+n) (by lia) (Ie L r k) (Hg L k) (Hf L k) (by rw[g5,hr];exact H.col k hk) (by rw[g5,hr];exact H.len k hk) ((pJ hb Pt k (by lia)).mono (by lia)) ((hb k hk).mono (by lia)) (by rw[g5,hr];exact hw);have fl:=cO (Io (Ie L r k) (Hf L k) (Hg L k));rw[<-ec];refine⟨[some (.f,.lst (rows.map eR)),some (.pin p .f,dL L),some (.f,eR r),some (.f,eR (Ie L r k)),some (.f,.int (Hf L k:Int)),t5],rfl,[some (.f,.lst (rows.map eR)),some (.pin p .f,dL L),some (.f,eR r),some (.f,eR (Ie L r (k+1))),LM L t4 (k+1),t5],?_,rfl⟩;show _=Res.ok (Out.nx [some (.f,.lst (rows.map eR)),some (.pin p .f,dL L),some (.f,eR r),some (.f,eR (Io (Ie L r k) (Hf L k) (Hg L k))),some (.f,.int (Hf L k:Int)),t5]);unfold cE;generalize dL L=DL at hd ⊢;generalize eR (Hg L k)=EL at hc hd ⊢;generalize eR (Io (Ie L r k) (Hf L k) (Hg L k))=EC at hc fl ⊢;generalize eR (Ie L r k)=ES at hc ⊢;generalize eR r=ER;simp only[pv,seval,op,hd,hc,fl]) [some (.f,.lst (rows.map eR)),some (.pin p .f,dL L),some (.f,eR r),some (.f,eR r),t4,t5] rfl
  exact hf
 unfold dO;exact Ak (ks:=kL L) (vs:=vL L) rfl fun p=>⟨_,key p,(by show decide (p=p)=true;exact Ux rfl),C6 _ _ _ _ _ _ ⟨xA rows,C7 r,C7 _,yw L h4 _,h5⟩,rfl⟩
theorem Am(R0:Option R)(DL:D)(ER:Option R)(bG:List Int)(hl:bG.length<=1000)(h:Nm bG=[])(t4 t5:Option R):bN [R0,some (.d,DL),ER,some (.f,eR bG),t4,t5]=.ok (.nx [R0,some (.d,DL),ER,some (.f,eR bG),t4,some (.l .f,.lst [])]):=by
 have hc:=ou bG;rw[h]at hc;have hc:ck (iG 2 (aE (aw 0) (aE (aw 1) cQ))) (Hs (a7 Jp (aj 1) (aq (aH (.int 0))))) (aB 0) (rO (bG.map D.int)) [none,none]=.ok []:=hc;unfold bN eR;generalize (iG 2 (aE (aw 0) (aE (aw 1) cQ)))=AA at hc ⊢;generalize (Hs (a7 Jp (aj 1) (aq (aH (.int 0)))))=BB at hc ⊢;rw[ax (env':=[R0,some (.d,DL),ER,some (.f,.tup (bG.map D.int)),t4,some (.l .f,.lst [])]) (by
  have f0:G0 []=true:=rfl;have z0:0<=sizeLine:=Um _;simp only[pv,seval,op,jw,hc,f0,z0,UI])]
 have c0:decide ((0:Int)<((([]:List D).length:Nat):Int))=false:=rfl;simp only[pv,seval,op,c0,UI,Int.cast_ofNat_Int,decide_false,jg] <;> rfl
theorem An(R0:Option R)(ER:Option R){L:Hj}(bG:List Int){n:Nat}(hn:n<=9000)(hb:Bg n bG)(hl:bG.length<=1000)(q:Nat)(more:List Int)(h:Nm bG=(q:Int)::more)(hpw:∀p,bE p [dL L,.int (q:Int),eR (low bG)]=.ok (.t [.d,.pin p .d],.tup [dL (Ig L q (low bG)),dL L]))(t4 t5:Option R):bN [R0,some (.d,dL L),ER,some (.f,eR bG),t4,t5]=.ok (.nx [R0,some (.d,dL (Ig L q (low bG))),ER,some (.f,eR bG),t4,some (.l .f,.lst (((q:Int)::more).map D.int))]):=by
 have hc:=ou bG;have hle:=C3 bG;rw[h]at hc hle;have KD:=mD hn bG hb hl;have NJ:=cO (low bG);have hw:=qp (F:=bE) (c:=.d) (r:=(.d,dL (Ig L q (low bG)))) (d':=dL L) hpw;have hz:(((q:Int)::more).map D.int).length<=sizeLine:=line_le (by rw[bh];lia);have hf:=He ((q:Int)::more);have HV:Jw (((q:Int)::more).map D.int) (0:Int)=some (.int (q:Int)):=fG (j:=0) rfl;have c0:decide ((0:Int)<(((((q:Int)::more).map D.int).length:Nat):Int))=true:=Ux (by rw[bh,TQ];lia);have cd:=gx (Ig L q (low bG));have cn:=gx L;generalize dL (Ig L q (low bG))=D1 at hw cd ⊢;generalize dL L=D0 at hw cn ⊢;generalize ((q:Int)::more).map D.int=LL at hc hz hf HV c0 ⊢;generalize eR (low bG)=ELO at KD hw NJ;unfold bN;have R9:i7 (ag (aq (aB 3)) ay) [R0,some (.d,D0),ER,some (.f,eR bG),t4,t5]=.ok (rO (bG.map D.int),[R0,some (.d,D0),ER,some (.f,eR bG),t4,t5]):=by
  unfold eR;simp only[pv,seval,jw]
 generalize hAA:(iG 2 (aE (aw 0) (aE (aw 1) cQ)))=AA at hc ⊢;generalize hBB:(Hs (a7 Jp (aj 1) (aq (aH (.int 0)))))=BB at hc ⊢;clear hAA hBB;generalize i7 (ag (aq (aB 3)) ay)=IE at R9 ⊢;generalize eR bG=ERR at R9 KD ⊢;rw[ax (env':=[R0,some (.d,D0),ER,some (.f,ERR),t4,some (.l .f,.lst LL)]) (by
  simp only[pv,seval,op,R9,hc,hz,hf])]
 have own:o6 .d .d=true:=rfl;simp only[pv,seval,op,c0,HV,KD,NJ,pB,own,hw,cd,cn,JB,JC,Vp,Wq]
theorem Ao{r:List Int}(h:∀x∈r,x=0):Nm r=[]:=by
 unfold Nm;rw[V3.mpr ?_]
 ·rfl
 ·intro z hz;have:=h z.1 (List.fst_mem_of_mem_zipIdx hz);rw[this];decide
theorem qL:∀(r:List Int) (n q:Nat),q<r.length->r.getD q 0≠0->(∀j,j<q->r.getD j 0=0)->∃more,((r.zipIdx n).filter fun z=>!(z.1==0)).map (fun z=>(z.2:Int))=((n+q:Nat):Int)::more
 |[],n,q,h,_,_=>by simp at h
 |x::r,n,0,h,h0,_=>by
  have h0:x≠0:=h0;rw[VX,Vq (by simpa using h0),iS];exact⟨_,rfl⟩
 |x::r,n,q+1,h,h0,hj=>by
  have hx:x=0:=hj 0 (by lia);rw[VX,Vr (by rw[hx];exact TB)];obtain⟨more,e⟩:=qL r (n+1) q (by rw[TQ]at h;lia) h0 fun j hjq=>hj (j+1) (by lia)
  exact⟨more,by rw[e,show n+1+q=n+(q+1) by lia]⟩
theorem vP{r:List Int}{q:Nat}(h:q<r.length)(h0:r.getD q 0≠0)(hj:∀j,j<q->r.getD j 0=0):∃more,Nm r=(q:Int)::more:=by
 obtain⟨more,e⟩:=qL r 0 q h h0 hj;rw[Yj]at e;exact⟨more,e⟩
theorem Ap{w:Nat}{rows:List (List Int)}{L:Hj}(H:Inv w rows L):L.length<=rows.length:=by
 obtain⟨S,s1,s2,s3,_,_⟩:=H.base;exact qE (B:=Fs rows) s3 fun i hi=>qH (s2 _ (aZ (by lia)))
theorem ki{w:Nat}{rows:List (List Int)}(h6:rows.length<=6)(hr:∀r∈rows,r.length=w/\Bg 175 r){L:Hj}(H:Inv w rows L):L.length<=rows.length/\∀i,i<L.length->Bg 1260 (Hg L i):=by
 have hl:=Ap H;refine⟨hl,fun i hi x hx=>?_⟩;obtain⟨k,hk,e⟩:=Ur hx;have O2:k<w:=by rw[<-H.red.len i hi];exact hk
 have h:=H.size (A:=2 ^ 175) (fun r h k _=>VT ((hr r h).2.at k)) hi O2;rw[bI _ _ _ hk,e]at h;refine UW h ?_;have SR:L.length<=6:=by lia
 have h1:2*(L.length*2 ^ 175)+1<=2*(6*2 ^ 175)+1:=Nat.succ_le_succ (Nat.mul_le_mul_left 2 (Vl _ SR));have h2:(2*(L.length*2 ^ 175)+1) ^ (L.length-1)<=(2*(6*2 ^ 175)+1) ^ 5:=T2 (YD h1 _) (Vm (Wu _) (by lia));exact UW (WL SR (Vl _ h2)) (by decide +kernel)
theorem kj{rows:List (List Int)}{w:Nat}(hw:w<=7)(h6:rows.length<=6)(hr:∀r∈rows,r.length=w/\Bg 175 r):∀(rs ps:List (List Int)) (L:Hj),ps++rs=rows->Inv w ps L->Ech L->∀t2 t3 t4 t5:Option R,Ld t4=true->Ld t5=true->
  ∃(L':Hj) (u2 u3 u4 u5:Option R),Inv w rows L'/\Ech L'/\dM (aw 2) bZ (rs.map eR) [some (.f,.lst (rows.map eR)),some (.d,dL L),t2,t3,t4,t5]=.ok (.nx [some (.f,.lst (rows.map eR)),some (.d,dL L'),u2,u3,u4,u5])
 |[],ps,L,e,H,EL,t2,t3,t4,t5,_,_=>⟨L,t2,t3,t4,t5,by rw[<-e,Ui];exact H,EL,rfl⟩
 |r::rs,ps,L,e,H,EL,t2,t3,t4,t5,h4,h5=>by
  have Jb:ps.length+1<=6:=by
   have:=UN List.length e;rw[rX,TQ]at this;lia
  have O4:∀s∈ps,s.length=w/\Bg 175 s:=fun s hs=>hr s (by rw[<-e];exact Tx _ hs)
  obtain⟨rl,rb⟩:=hr r (by rw[<-e];exact Tp _ Tq);obtain⟨l1,l2⟩:=ki (by lia) O4 H;have hl721:L.length*(1260+1)<=6*1261:=Vl _ (by lia);have ha:aw 2 (eR r) [some (.f,.lst (rows.map eR)),some (.d,dL L),t2,t3,t4,t5]=.ok [some (.f,.lst (rows.map eR)),some (.d,dL L),some (.f,eR r),t3,t4,t5]:=rfl;have e1:=C8 rows (by lia) H.red l2 rl rb (by lia) t4 t5 h4 h5;have Kx:(Ie L r L.length).length=w:=by rw[g5,rl]
  have Qu:Bg 7800 (Ie L r L.length):=(pJ l2 rb L.length (Tn _)).mono (by lia);have SU:=yw L h4 L.length;have e':(ps++[r])++rs=rows:=by rw[US];exact e
  have SV:∀(D':D) (u5:Option R),bN [some (.f,.lst (rows.map eR)),some (.d,dL L),some (.f,eR r),some (.f,eR (Ie L r L.length)),LM L t4 L.length,t5]=.ok (.nx [some (.f,.lst (rows.map eR)),some (.d,D'),some (.f,eR r),some (.f,eR (Ie L r L.length)),LM L t4 L.length,u5])->bZ [some (.f,.lst (rows.map eR)),some (.d,dL L),some (.f,eR r),t3,t4,t5]=.ok (.nx [some (.f,.lst (rows.map eR)),some (.d,D'),some (.f,eR r),some (.f,eR (Ie L r L.length)),LM L t4 L.length,u5]):=fun D' u5 e2=>by
   unfold bZ;rw[ax (env':=[some (.f,.lst (rows.map eR)),some (.d,dL L),some (.f,eR r),some (.f,eR r),t4,t5]) (by
    generalize dL L=D0;generalize eR r=ER;simp only[pv,seval,op]),ax e1,e2]
  by_cases hz:nz (Ie L r L.length)=true
  ·obtain⟨f1,f2,f3⟩:=ym hz;obtain⟨more,hf⟩:=vP f1 f2 f3;have hq:wd (Ie L r L.length)<w:=by rw[Kx]at f1;exact f1
   have H':=H.more rl hq f2;obtain⟨m1,m2⟩:=ki (by rw[rX];exact Jb) (fun s hs=>by
    rcases wc hs with h|h
    ·exact O4 s h
    ·rw[si h];exact⟨rl,rb⟩) H'
   have Lp:Bg 1260 (low (Ie L r L.length)):=by
    have:=m2 L.length (by rw[pE];lia);rw[(cU L _ _).2]at this;exact this
   obtain⟨d,x,_,_,MI⟩:=oj H.red rl L.length (Tn _);have e2:=An (some (.f,.lst (rows.map eR))) (some (.f,eR r)) (Ie L r L.length) (n:=7800) (by decide) Qu (by lia) (wd (Ie L r L.length)) more hf (fun p=>C4 (n:=1260) (by lia) (by decide) H.red l2 (by lia) hq (fun i hi e=>f2 (by rw[<-e];exact MI i hi)) (by rw[my];exact Kx) Lp p) (LM L t4 L.length) t5;obtain⟨L',u2,u3,u4,u5,H2,E2,e3⟩:=kj hw h6 hr rs (ps++[r]) _ e' H' (EL.more H.red hq (om f2).1 fun j hj=>vq (f3 j hj)) (some (.f,eR r)) (some (.f,eR (Ie L r L.length))) (LM L t4 L.length) (some (.l .f,.lst (((wd (Ie L r L.length):Int)::more).map D.int))) SU (E7 _);refine⟨L',u2,u3,u4,u5,H2,E2,?_⟩;rw[iS,iR,ha,HY,SV _ _ e2,HY];exact e3
  ·have hz0:∀x∈Ie L r L.length,x=0:=fun x hx=>by
    obtain⟨k,hk,ek⟩:=Ur hx;have:=FC (Wh.mpr hz) k;rw[bI _ _ _ hk,ek]at this;exact this
   have e2:=Am (some (.f,.lst (rows.map eR))) (dL L) (some (.f,eR r)) (Ie L r L.length) (by lia) (Ao hz0) (LM L t4 L.length) t5;obtain⟨L',u2,u3,u4,u5,H2,E2,e3⟩:=kj hw h6 hr rs (ps++[r]) L e' (H.none rl fun k _=>FC (Wh.mpr hz) k) EL (some (.f,eR r)) (some (.f,eR (Ie L r L.length))) (LM L t4 L.length) (some (.l .f,.lst [])) SU rfl;refine⟨L',u2,u3,u4,u5,H2,E2,?_⟩;rw[iS,iR,ha,HY,SV _ _ e2,HY];exact e3
theorem kn{rows:List (List Int)}{w:Nat}(hw:w<=7)(h6:rows.length<=6)(hr:∀r∈rows,r.length=w/\Bg 175 r):∃L,Inv w rows L/\Ech L/\aK [.lst (rows.map eR)]=.ok (.d,dL L):=by
 obtain⟨L,u2,u3,u4,u5,H,E,e⟩:=kj hw h6 hr rows [] [] rfl (Inv.start w) Ech.start none none none none rfl rfl;refine⟨L,H,E,?_⟩;unfold aK i8;rw[bt (h:=by rfl)];rw[ax (env':=[some (.f,.lst (rows.map eR)),some (.d,dL []),none,none,none,none]) (by
  show _=Res.ok (Out.nx [some (.f,.lst (rows.map eR)),some (.d,.dct false [] []),none,none,none,none]);simp only[pv,seval,op])]
 rw[ax (env':=[some (.f,.lst (rows.map eR)),some (.d,dL L),u2,u3,u4,u5]) (by
  unfold gF;generalize hD:dL []=D0 at e ⊢;generalize rows.map eR=RR at e ⊢;generalize bZ=BB at e ⊢;simp only[pv,seval,op];exact e)]
 unfold fP;generalize dL L=D1;simp only[pv,seval,op]
structure KOk(w:Nat)(L:Hj):Prop where
 red:Rdd w L
 big:∀i,i<L.length->Bg 1260 (Hg L i)
 few:L.length<=6
 wid:w<=7
theorem E8(c:Int):AN [.int c]=.ok (.f,.int (c.natAbs:Int)):=CZ c
theorem Aq{w:Nat}{L:Hj}(H:KOk w L){k:Nat}(hk:k<=L.length):HK L k<2 ^ 7561:=by
 have h:=yn (L:=L) (M:=2 ^ 1260) (fun i hi=>VT ((H.big i hi).at _)) k hk;rw[<-Nat.pow_mul]at h;have hk6:1260*k<=7560:=by have:=H.few;lia
 exact UW h (Nat.pow_lt_pow_right (by decide) (by lia))
theorem qM(a b c d e f g:Option R):cleanE 0 [a,b,c,d,e,f,g]=(J0 b&&(J0 c&&(J0 d&&(J0 e&&(J0 f&&J0 g))))):=by
 show(List.all [none,b,c,d,e,f,g] J0)=_;simp only[VU,Yh,W6];rfl
theorem C9(a:Nat){l:Int}(hl:l≠0):(((a:Int)*l).natAbs:Int).fdiv ((Int.gcd (a:Int) l:Nat):Int)=(Nat.lcm a l.natAbs:Int):=by
 rw[Vt,UD,<-Int.ofNat_fdiv];rfl
theorem GF(p:Addr){w:Nat}{L:Hj}(H:KOk w L)(c:Nat):∃u4 u5,J0 u4=true/\J0 u5=true/\dQ [some (.pin p .d,dL L),some (.f,.int (c:Int)),some (.f,.int (w:Int)),some (.f,.int 1),none,none,none]=.ok (.nx [some (.pin p .d,dL L),some (.f,.int (c:Int)),some (.f,.int (w:Int)),some (.f,.int (HK L L.length:Int)),u4,u5,none]):=by
 obtain⟨env',hf,u4,u5,h4,h5,rfl⟩:=for_list (a:=aw 4) (g:=du) (e:=fun z:Nat×List Int=>D.int (z.1:Int)) L (fun k env=>∃u4 u5,J0 u4=true/\J0 u5=true/\env=[some (.pin p .f,dL L),some (.f,.int (c:Int)),some (.f,.int (w:Int)),some (.f,.int (HK L k:Int)),u4,u5,none]) (by
  rintro k x env hx ⟨u4,u5,_,_,rfl⟩;obtain⟨hk,ex⟩:=yg hx;have ec:Hf L k=x.1:=by unfold Hf;rw[Th,hx];rfl
  have hd:=Q6 H.red hk;have HZ:=Pr (r:=Hg L k) (c:=Hf L k) (by rw[H.red.len k hk];exact H.red.col k hk);have Q7:=H.red.own k hk;have Q8:=(H.big k hk).at (Hf L k)
  have Qu:=Aq H (k:=k) (by lia);have esc:(HK L (k+1):Int)=(Nat.lcm (HK L k) ((Hg L k).getD (Hf L k) 0).natAbs:Int):=rfl;rw[<-ec,esc];generalize (Hg L k).getD (Hf L k) 0=l at HZ Q7 Q8;have hm:=sj (x:=(HK L k:Int)) (y:=l) (n:=7561) (m:=1260) (by rw[UD];exact Qu) Q8 (by decide) (by decide);have KH:=E8 ((HK L k:Int)*l);have Kz:=yt (n:=1260) (by decide) (HK L k:Int) l Q8;have hg0:Int.gcd (HK L k:Int) l≠0:=fun z=>Q7 (Int.gcd_eq_zero_iff.mp z).2
  have Q9:((Int.gcd (HK L k:Int) l:Nat):Int).natAbs<2 ^ 1260:=by
   rw[UD];exact UW (Nat.gcd_le_right _ (Yt.mpr Q7)) Q8
  have Nn:=pH ((((HK L k:Int)*l).natAbs:Nat):Int) (b:=((Int.gcd (HK L k:Int) l:Nat):Int)) (by lia) Q9 (by decide);rw[C9 _ Q7]at Nn;refine⟨[some (.pin p .f,dL L),some (.f,.int (c:Int)),some (.f,.int (w:Int)),some (.f,.int (HK L k:Int)),some (.f,.int (Hf L k:Int)),u5,none],rfl,[some (.pin p .f,dL L),some (.f,.int (c:Int)),some (.f,.int (w:Int)),some (.f,.int (Nat.lcm (HK L k) l.natAbs:Int)),some (.f,.int (Hf L k:Int)),some (.f,.int l),none],?_,_,_,rfl,rfl,rfl⟩;unfold du;generalize dL L=DL at hd ⊢;generalize eR (Hg L k)=EL at hd HZ ⊢;generalize ((Int.gcd (HK L k:Int) l:Nat):Int)=GG at Kz Nn;generalize ((((HK L k:Int)*l).natAbs:Nat):Int)=AA at KH Nn;generalize ((Nat.lcm (HK L k) l.natAbs:Nat):Int)=LC at Nn ⊢;generalize (HK L k:Int)=SC at hm KH Kz ⊢;rw[ax (env':=[some (.pin p .f,DL),some (.f,.int (c:Int)),some (.f,.int (w:Int)),some (.f,.int SC),some (.f,.int (Hf L k:Int)),some (.f,.int l),none]) (by simp only[pv,seval,op,hd,HZ])];simp only[pv,seval,op,hm,KH,Kz,Nn]) [some (.pin p .f,dL L),some (.f,.int (c:Int)),some (.f,.int (w:Int)),some (.f,.int 1),none,none,none] ⟨none,none,rfl,rfl,rfl⟩
 refine⟨u4,u5,h4,h5,?_⟩;unfold dQ;refine PV.forD_eq (ks:=kL L) (vs:=vL L) rfl hf (by show decide (p=p)=true;exact Ux rfl) ?_ rfl;rw[qM,h4,h5];rfl
theorem Ar(l:List Int):aP (.l .f) (.lst (l.map D.int))=true:=by
 rw[aP,ia,He]
theorem Dc(l:List Int)(k:Nat)(h:k<l.length):ixN (l.map D.int).length (k:Int)=some k:=mx _ _ (by rw[bh];exact h)
theorem De{w:Nat}{L:Hj}(H:KOk w L){k:Nat}(hk:k<L.length):((HK L L.length:Int).fdiv ((Hg L k).getD (Hf L k) 0)).natAbs<2 ^ 7561:=by
 have hd:(Hg L k).getD (Hf L k) 0*(HK L L.length:Int).fdiv ((Hg L k).getD (Hf L k) 0)=(HK L L.length:Int):=W2 (WS.mp (by rw[UD];exact pF L _ k hk));have h0:=H.red.own k hk;have hb:=Aq H (Tn L.length);generalize (HK L L.length:Int).fdiv ((Hg L k).getD (Hf L k) 0)=q at hd;have e:=UN Int.natAbs hd;rw[Vt,UD]at e;have h1:1*q.natAbs<=((Hg L k).getD (Hf L k) 0).natAbs*q.natAbs:=Vl _ (Yt.mpr h0);rw[Nat.one_mul]at h1;lia
theorem pK{w:Nat}{L:Hj}(H:KOk w L)(c:Nat):∀k,k<=L.length->Bg 8821 (JE L c w k)
 | 0,_=>fun x hx=>by
  unfold JE KZ at hx;obtain⟨j,_,e⟩:=pA hx;have hb:=Aq H (Tn L.length);by_cases hj:j=c
  ·rw[Tw hj]at e;rw[<-e,UD];exact Ts hb (Vm (by decide) (by decide))
  ·rw[TC hj]at e;rw[<-e];exact Xi 8821
 |k+1,hk=>fun x hx=>by
  have hx:x∈(JE L c w k).set (Hf L k) (-((Hg L k).getD c 0)*(HK L L.length:Int).fdiv ((Hg L k).getD (Hf L k) 0)):=hx;rcases Xw hx with h|h
  ·exact pK H c k (by lia) x h
  ·rw[h];exact qK (n:=1260) (m:=7561) (by rw[Wm];exact(H.big k (by lia)).at c) (De H (by lia))
theorem GH(p:Addr){w:Nat}{L:Hj}(H:KOk w L){c:Nat}(hc:c<w)(u4 u5:Option R)(h4:J0 u4=true)(h5:J0 u5=true):∃v4,dP [some (.pin p .d,dL L),some (.f,.int (c:Int)),some (.f,.int (w:Int)),some (.f,.int (HK L L.length:Int)),u4,u5,some (.l .f,.lst ((JE L c w 0).map D.int))]=.ok (.nx [some (.pin p .d,dL L),some (.f,.int (c:Int)),some (.f,.int (w:Int)),some (.f,.int (HK L L.length:Int)),v4,u5,some (.l .f,.lst ((JE L c w L.length).map D.int))]):=by
 obtain⟨env',hf,v4,g4,rfl⟩:=for_list (a:=aw 4) (g:=dq) (e:=fun z:Nat×List Int=>D.int (z.1:Int)) L (fun k env=>∃v4,J0 v4=true/\env=[some (.pin p .f,dL L),some (.f,.int (c:Int)),some (.f,.int (w:Int)),some (.f,.int (HK L L.length:Int)),v4,u5,some (.l .f,.lst ((JE L c w k).map D.int))]) (by
  rintro k x env hx ⟨v4,_,rfl⟩;obtain⟨hk,ex⟩:=yg hx;have ec:Hf L k=x.1:=by unfold Hf;rw[Th,hx];rfl
  have hd:=Q6 H.red hk;have i1:=Pr (r:=Hg L k) (c:=c) (by rw[H.red.len k hk];exact hc);have i2:=Pr (r:=Hg L k) (c:=Hf L k) (by rw[H.red.len k hk];exact H.red.col k hk);have Nn:=pH (HK L L.length:Int) (H.red.own k hk) ((H.big k hk).at (Hf L k)) (by decide);have hm:=sj (x:=-((Hg L k).getD c 0)) (y:=(HK L L.length:Int).fdiv ((Hg L k).getD (Hf L k) 0)) (n:=1260) (m:=7561) (by rw[Wm];exact(H.big k hk).at c) (De H hk) (by decide) (by decide);have e3:=Dc (JE L c w k) (Hf L k) (by rw[iV];exact H.red.col k hk);have e4:((JE L c w k).map D.int).set (Hf L k) (.int (-((Hg L k).getD c 0)*(HK L L.length:Int).fdiv ((Hg L k).getD (Hf L k) 0)))=(JE L c w (k+1)).map D.int:=by
   rw[<-List.map_set];rfl
  rw[<-ec];refine⟨[some (.pin p .f,dL L),some (.f,.int (c:Int)),some (.f,.int (w:Int)),some (.f,.int (HK L L.length:Int)),some (.f,.int (Hf L k:Int)),u5,some (.l .f,.lst ((JE L c w k).map D.int))],rfl,[some (.pin p .f,dL L),some (.f,.int (c:Int)),some (.f,.int (w:Int)),some (.f,.int (HK L L.length:Int)),some (.f,.int (Hf L k:Int)),u5,some (.l .f,.lst ((JE L c w (k+1)).map D.int))],?_,_,rfl,rfl⟩;rw[<-e4];unfold dq;generalize (HK L L.length:Int).fdiv ((Hg L k).getD (Hf L k) 0)=QQ at Nn hm ⊢;generalize (HK L L.length:Int)=SC at Nn ⊢;generalize dL L=DL at hd ⊢;generalize eR (Hg L k)=EL at hd i1 i2 ⊢;generalize (JE L c w k).map D.int=UU at e3 ⊢;simp only[pv,seval,op,hd,i1,i2,Nn,hm,e3]) [some (.pin p .f,dL L),some (.f,.int (c:Int)),some (.f,.int (w:Int)),some (.f,.int (HK L L.length:Int)),u4,u5,some (.l .f,.lst ((JE L c w 0).map D.int))] ⟨u4,h4,rfl⟩
 refine⟨v4,?_⟩;unfold dP;refine PV.forD_eq (ks:=kL L) (vs:=vL L) rfl hf (by show decide (p=p)=true;exact Ux rfl) ?_ rfl;have c6:J0 (some (.l .f,.lst ((JE L c w L.length).map D.int)))=true:=Ar _;rw[qM,g4,h5,c6];rfl
theorem qN(w c:Nat)(x:Int):((((List.range w).map fun _=>(0:Int)).map D.int).set c (.int x))=(KZ w c x).map D.int:=by
 unfold KZ;rw[TV,set_rangeMap,TV];refine Uo fun i _=>?_
 show(if i=c then D.int x else D.int 0)=D.int (if i=c then x else 0);split <;> rfl
theorem FH(w:Nat)(hw:w<=1000):iO (.lst [.int 0]) (.int (w:Int))=.ok (.l .f,.lst (((List.range w).map fun _=>(0:Int)).map D.int)):=by
 show AO (.lst [.int 0]) (.int (w:Int))=_;rw[vf,Tw ⟨by lia,by lia,line_le (by rw[TQ,UI];lia)⟩,Uk];have:(List.replicate w [D.int 0]).flatten=((List.range w).map fun _=>(0:Int)).map D.int:=by
  rw[TV];clear hw;induction w with
  |zero=>rfl
  |succ n ih=>rw[Yo,YC,ih,Xb,Ub];rfl
 rw[this]
theorem oy{w:Nat}{L:Hj}(H:KOk w L){c:Nat}(hc:c<w)(p:Addr):aI p [dL L,.int (c:Int),.int (w:Int)]=.ok (.t [.f,.pin p .d],.tup [eR (kr L c w),dL L]):=by
 have hw:=H.wid;obtain⟨u4,u5,h4,h5,e2⟩:=GF p H c;obtain⟨v4,e1⟩:=GH p H hc u4 u5 h4 h5;have KD:=mD (n:=8821) (by decide) (AV L c w) (pK H c _ (Tn _)) (by rw[iV];lia);have NJ:=cO (kr L c w);have hz:=FH w (by lia);have e3:ixN (((List.range w).map fun _=>(0:Int)).map D.int).length (c:Int)=some c:=mx _ _ (by rw[bh,bh,TU];exact hc);have ez:=qN w c (HK L L.length:Int);unfold aI i9;rw[qA (h:=by rfl)];simp only[List.map,List.replicate,VZ,Vz];rw[ax (env':=[some (.pin p .d,dL L),some (.f,.int (c:Int)),some (.f,.int (w:Int)),some (.f,.int 1),none,none,none]) (by
  generalize dL L=DL;simp only[pv,seval,op])]
 rw[ax e2];unfold fR;rw[ax (env':=[some (.pin p .d,dL L),some (.f,.int (c:Int)),some (.f,.int (w:Int)),some (.f,.int (HK L L.length:Int)),u4,u5,some (.l .f,.lst (((List.range w).map fun _=>(0:Int)).map D.int))]) (by
  generalize dL L=DL;simp only[pv,seval,op,hz])]
 rw[ax (env':=[some (.pin p .d,dL L),some (.f,.int (c:Int)),some (.f,.int (w:Int)),some (.f,.int (HK L L.length:Int)),u4,u5,some (.l .f,.lst ((JE L c w 0).map D.int))]) (by
  show _=Res.ok (Out.nx [some (.pin p .d,dL L),some (.f,.int (c:Int)),some (.f,.int (w:Int)),some (.f,.int (HK L L.length:Int)),u4,u5,some (.l .f,.lst ((KZ w c (HK L L.length:Int)).map D.int))]);rw[<-ez];generalize dL L=DL;generalize ((List.range w).map fun _=>(0:Int)).map D.int=ZZ at e3 ⊢;simp only[pv,seval,op,e3])]
 rw[ax e1];unfold fQ;have KD:cm [.tup ((JE L c w L.length).map D.int)]=.ok (.f,eR (kr L c w)):=KD;generalize eR (kr L c w)=EK at KD NJ ⊢;generalize dL L=DL;simp only[pv,seval,op,KD,NJ,Ae]
theorem cZ{w:Nat}{L:Hj}(H:KOk w L){c:Nat}(hc:c<w):o7 aI .d (dL L) [.int (c:Int),.int (w:Int)]=.ok ((.f,eR (kr L c w)),dL L):=qp (r:=(.f,eR (kr L c w))) (oy H hc)
theorem vQ(L:Hj)(c:Nat):(PV.getD (kL L) (vL L) (.int (c:Int))).isSome=IU L c:=by
 induction L with
 |nil=>rfl
 |cons z L ih=>
  show((((D.int (z.1:Int),eR z.2)::(kL L).zip (vL L)).find? (fun p=>Ha (.int (c:Int)) p.1)).map (·.2)).isSome=(z.1==c||IU L c)
  by_cases h:z.1=c
  ·rw[V1 (by show Ha (.int (c:Int)) (.int (z.1:Int))=true;rw[Qs,Uc];exact h.symm),Uc.mpr h];rfl
  ·rw[V2 (by show ¬ Ha (.int (c:Int)) (.int (z.1:Int))=true;rw[Qs,Uc];exact fun e=>h e.symm),Ug.mpr h,YN];exact ih
theorem Dg(L:Hj)(c:Nat):qo (.int (c:Int)) (dL L)=.ok (.f,.bl (!IU L c)):=by
 unfold qo dL;dsimp only;rw[Tw (show d9 false (.int (c:Int))=true from rfl),vQ]
theorem xB{α β:Type}(x:α)(f:α->Res β):(Res.ok x).bind f=f x:=rfl
theorem oz{w:Nat}{L:Hj}(H:KOk w L)(p:Addr):∀(cs:List Nat),(∀c∈cs,c<w)->∀t:Option R,∃t',compLE (aw 0) (Hs (a7 qo (aj 0) (aj 1))) (eFunW (.d) aI 1 (ag (aj 1) (ag (aj 0) (ag (aj 2) ay)))) (cs.map fun(c:Nat)=>D.int (c:Int)) [t,some (.pin p .d,dL L),some (.f,.int (w:Int))]=.ok (((cs.filter fun c=>!IU L c).map fun c=>kr L c w).map eR,[t',some (.pin p .d,dL L),some (.f,.int (w:Int))])
 |[],_,t=>⟨t,rfl⟩
 |c::cs,h,t=>by
  have hn:=Dg L c;have hk:=cZ H (h c Tq);have cd:=gx L;have fk:=cO (kr L c w);obtain⟨t',e⟩:=oz H p cs (fun x hx=>h x (Tu _ hx)) (some (.f,.int (c:Int)));refine⟨t',?_⟩;rw[iS];unfold compLE;have ha:aw 0 (.int (c:Int)) [t,some (.pin p .d,dL L),some (.f,.int (w:Int))]=.ok [some (.f,.int (c:Int)),some (.pin p .d,dL L),some (.f,.int (w:Int))]:=rfl;rw[ha,xB];have ec:(Hs (a7 qo (aj 0) (aj 1))) [some (.f,.int (c:Int)),some (.pin p .d,dL L),some (.f,.int (w:Int))]=.ok (!IU L c,[some (.f,.int (c:Int)),some (.pin p .d,dL L),some (.f,.int (w:Int))]):=by
   generalize dL L=DL at hn ⊢;simp only[pv,seval,op,hn]
  rw[ec,xB];cases hb:IU L c with
  |true=>
   rw[Vr (by rw[hb];exact TB)];exact e
  |false=>
   rw[Vq (by rw[hb];rfl),iS,iS];have ef:eFunW (.d) aI 1 (ag (aj 1) (ag (aj 0) (ag (aj 2) ay))) [some (.f,.int (c:Int)),some (.pin p .d,dL L),some (.f,.int (w:Int))]=.ok ((.f,eR (kr L c w)),[some (.f,.int (c:Int)),some (.pin p .d,dL L),some (.f,.int (w:Int))]):=by
    have own:o6 .d (.pin p .d)=true:=rfl;generalize dL L=DL at hk cd ⊢;generalize eR (kr L c w)=EK at hk fk ⊢;simp only[pv,seval,op,pB,own,hk,fk,cd,JB,JC,pk,Vp,Wq]
   rw[Tw (by rfl),ef,xB,e,xB]
theorem f6(rows:List (List Int)):G0 (rows.map eR)=true:=ke rows
theorem qO(L:Hj)(w:Nat):(mz L w).length<=w:=by
 unfold mz;rw[bh];exact T2 (VJ _ _) (X6 TU)
theorem xC{w:Nat}{rows:List (List Int)}{L:Hj}(H:KOk w L)(hl:aK [.lst (rows.map eR)]=.ok (.d,dL L)):gs [.lst (rows.map eR),.int (w:Int)]=.ok (.l .f,.lst ((mz L w).map eR)):=by
 have hw:=H.wid;have cd:=gx L;obtain⟨ks,vs,ed,fv⟩:∃ks vs,dL L=.dct false ks vs/\G0 vs=true:=⟨_,_,rfl,vN L⟩
 have hlen:((mz L w).map eR).length<=sizeLine:=line_le (by rw[bh];have:=qO L w;lia);have Mj:=f6 (mz L w);have Kz:pb (aw 0) (Hs (a7 qo (aj 0) (aj 1))) (eFunW (.d) aI 1 (ag (aj 1) (ag (aj 0) (ag (aj 2) ay)))) ((List.range w).map fun(c:Nat)=>D.int (c:Int)) (fun q=>[none,some (.pin q .d,.dct false ks vs),some (.f,.int (w:Int))]) 1 (.dct false ks vs)=.ok ((mz L w).map eR):=by
  refine xb fun q=>?_
  obtain⟨t',e⟩:=oz H q (List.range w) (fun c hc=>UB.mp hc) none;rw[ed]at e;exact⟨_,e,rfl⟩
 unfold gs qy;rw[bt (h:=by rfl)];rw[ax (env':=[some (.f,.lst (rows.map eR)),some (.f,.int (w:Int)),some (.d,dL L)]) (by
  generalize dL L=DL at hl cd ⊢;simp only[pv,seval,op,hl,cd])]
 rw[ed];have hr:=DK (w:Int) (by lia) (by lia) (aj 1) [some (.f,.lst (rows.map eR)),some (.f,.int (w:Int)),some (.d,.dct false ks vs)] [some (.f,.lst (rows.map eR)),some (.f,.int (w:Int)),some (.d,.dct false ks vs)] (.var 1) rfl rfl;rw[Uk]at hr;have ec:k8 (cB (aj 1)) [none,some 2,some 1] 2 1 (aw 0) (Hs (a7 qo (aj 0) (aj 1))) (eFunW (.d) aI 1 (ag (aj 1) (ag (aj 0) (ag (aj 2) ay)))) [some (.f,.lst (rows.map eR)),some (.f,.int (w:Int)),some (.d,.dct false ks vs)]=.ok ((.l .f,.lst ((mz L w).map eR)),[some (.f,.lst (rows.map eR)),some (.f,.int (w:Int)),some (.d,.dct false ks vs)]):=by
  unfold k8;rw[hr];show(pb (aw 0) (Hs (a7 qo (aj 0) (aj 1))) (eFunW (.d) aI 1 (ag (aj 1) (ag (aj 0) (ag (aj 2) ay)))) ((List.range w).map fun(c:Nat)=>D.int (c:Int)) (fun q=>[none,some (.pin q .d,.dct false ks vs),some (.f,.int (w:Int))]) 1 (.dct false ks vs)).bind _=_;rw[Kz];show(if((mz L w).map eR).length<=sizeLine/\G0 ((mz L w).map eR)=true/\G0 vs=true then _ else _)=_;rw[Tw ⟨hlen,Mj,fv⟩]
 generalize k8 (cB (aj 1)) [none,some 2,some 1] 2 1 (aw 0) (Hs (a7 qo (aj 0) (aj 1))) (eFunW (.d) aI 1 (ag (aj 1) (ag (aj 0) (ag (aj 2) ay))))=EE at ec ⊢;simp only[pv,seval,op,ec]
theorem E9(L:Hj)(c:Nat):Qb (.int (c:Int)) (dL L)=.ok (.f,.bl (IU L c)):=by
 unfold Qb dL;dsimp only;rw[Tw (show d9 false (.int (c:Int))=true from rfl),vQ]
def LR(L:Hj)(n:Nat):D:=if IU L (n-1) then .non else eR (kr L (n-1) n)
theorem oA{n:Nat}(h1:1<=n){rows:List (List Int)}{L:Hj}(H:KOk n L)(hl:aK [.lst (rows.map eR)]=.ok (.d,dL L)):bo [.lst (rows.map eR),.int (n:Int)]=.ok (.f,LR L n):=by
 have hi:=E9 L (n-1);have hk:=cZ H (c:=n-1) (by lia);rw[show(((n-1:Nat)):Int)=(n:Int)-1 by lia]at hi hk;have cd:=gx L;have fk:=cO (kr L (n-1) n);have own:o6 .d .d=true:=rfl;unfold bo ik LR;rw[bt (h:=by rfl)];generalize dL L=DL at hl hi hk cd ⊢;rw[ax (env':=[some (.f,.lst (rows.map eR)),some (.f,.int (n:Int)),some (.d,DL)]) (by
  simp only[pv,seval,op,hl,cd])]
 cases hb:IU L (n-1) with
 |true=>
  rw[hb]at hi;rw[Tw rfl,HC];simp only[pv,seval,op,hi]
 |false=>
  rw[hb]at hi;rw[TC TB];rw[ax (env':=[some (.f,.lst (rows.map eR)),some (.f,.int (n:Int)),some (.d,DL)]) (by
   simp only[pv,seval,op,hi,jg])]
  generalize eR (kr L (n-1) n)=EK at hk fk ⊢;simp only[pv,seval,op,pB,own,hk,fk,cd,JB,JC,pk,Vp,Wq]
theorem qP{w:Nat}{L:Hj}(H:KOk w L)(c:Nat):Bg 8821 (kr L c w):=fun x hx=>by
 obtain⟨g,g1,g2⟩:=xv L c w;obtain⟨k,hk,e⟩:=Ur hx;have h:=g2 k;rw[bI _ _ _ hk,e]at h;have hb:=(pK H c L.length (Tn _)).at k;rw[<-h,Vt,UD]at hb;refine UW ?_ hb;exact X2 _ (Nat.pos_of_ne_zero g1)
theorem mF{α:Type}(l:List α):g7 l none (some (-1))=l.take (l.length-1):=by
 have e:HT.sIx l.length l.length (some (-1))=l.length-1:=by
  show(if(-1:Int)<0 then((-1:Int)+(l.length:Int)).toNat else min (-1:Int).toNat l.length)=_;rw[Tw (by decide)];lia
 unfold g7;rw[HT.lp,Wj,Zd,e]
theorem vR{r:List Int}(h:0<r.length):Jw (r.map D.int) (-1:Int)=some (.int (r.getD (r.length-1) 0)):=by
 have e:(r.map D.int)[r.length-1]?=some (.int (r.getD (r.length-1) 0)):=by
  rw[TN,g9 (by lia),bI r _ 0 (by lia)];rfl
 have hi:ixN (r.map D.int).length (-1:Int)=some (r.length-1):=by
  unfold ixN;rw[bh,TC (by decide),Tw (by lia)];congr 1
  lia
 unfold Jw;rw[hi];exact e
def oB(rs:List (List Int))(w:Nat):List (List Int):=(List.range w).map fun k=>rs.map fun r=>r.getD k 0
theorem xD(rs:List (List Int))(k:Nat)(h:∀r∈rs,k<r.length):ck (aw 0) gT (aF Hw (aj 0) (aj 1)) (rs.map eR) [none,some (.f,.int (k:Int))]=.ok ((rs.map fun r=>r.getD k 0).map D.int):=by
 rw[cI (r:=fun r:List Int=>D.int (r.getD k 0)) (fun env=>∃t,env=[t,some (.f,.int (k:Int))]) rs ?_ _ ⟨none,rfl⟩]
 ·rw[TV];rfl
 ·rintro r hr env ⟨t,rfl⟩;have i1:=Pr (h r hr);refine⟨[some (.f,eR r),some (.f,.int (k:Int))],rfl,.f,[some (.f,eR r),some (.f,.int (k:Int))],?_,_,rfl⟩;generalize eR r=ER at i1 ⊢;simp only[pv,seval,op,i1]
abbrev Ra:FX:=bL gD (ag (aq (cy (HR (gA 1) (HR (fD (aB 1)) (fE (aB 1)))) [none,some 0] (aw 0) gT (aF Hw (aj 0) (aj 1)))) ay)
theorem vS(rs:List (List Int))(w:Nat)(hl:rs.length<=1000)(h:∀r∈rs,r.length=w):ck (aw 0) gT Ra ((List.range w).map fun(k:Nat)=>D.int (k:Int)) [none,some (.f,.lst (rs.map eR))]=.ok ((oB rs w).map eR):=by
 rw[cI (r:=fun k:Nat=>eR (rs.map fun r=>r.getD k 0)) (fun env=>∃t,env=[t,some (.f,.lst (rs.map eR))]) (List.range w) ?_ _ ⟨none,rfl⟩]
 ·unfold oB;rw[TV];rfl
 ·rintro k hk env ⟨t,rfl⟩;have hc:=xD rs k fun r hr=>by rw[h r hr];exact UB.mp hk
  have hz:((rs.map fun r=>r.getD k 0).map D.int).length<=sizeLine:=line_le (by rw[bh,bh];lia);have hf:=He (rs.map fun r=>r.getD k 0);refine⟨[some (.f,.int (k:Int)),some (.f,.lst (rs.map eR))],rfl,.f,[some (.f,.int (k:Int)),some (.f,.lst (rs.map eR))],?_,_,rfl⟩;unfold Ra eR;rw[show(rs.map fun r=>D.tup (r.map D.int))=rs.map eR from rfl];generalize (aF Hw (aj 0) (aj 1))=FF at hc ⊢;generalize (rs.map fun r=>r.getD k 0).map D.int=LL at hc hz hf ⊢;generalize rs.map eR=RR at hc ⊢;simp only[pv,seval,op,hc,hz,hf]
theorem xE(r:List Int):ck (aw 0) gT (oF (aj 0)) (r.map D.int) [none]=.ok ((r.map fun x=>-x).map D.int):=by
 rw[cI (r:=fun x:Int=>D.int (-x)) (fun env=>∃t,env=[t]) r ?_ _ ⟨none,rfl⟩]
 ·rw[TV];rfl
 ·rintro x hx env ⟨t,rfl⟩;exact⟨[some (.f,.int x)],rfl,.f,[some (.f,.int x)],by simp only[pv,seval,op],_,rfl⟩
theorem qQ{rows:List (List Int)}{row:List Int}{w:Nat}(hw:w<=900)(hr:∀r∈rows,r.length=w)(Ih:row.length=w)(hl:rows.length<=900){L:Hj}(H:KOk (rows.length+1) L)(Mk:aK [.lst ((oB (rows++[row]) w).map eR)]=.ok (.d,dL L))(T:FS):
  sSeq (cM 2 (aF g8 (aq (bL oV (ag (aj 0) ay))) (aq (lP (bM (aB 1) cR)))))
  (sSeq (cM 3 (cy (cB (aq (bL fO (ag (aj 1) ay)))) [none,some 2] (aw 0) gT Ra))
  (sSeq (cM 4 (cK bo (ag (aj 3) (ag (aq (bL fO (ag (aj 2) ay))) ay)))) T)) [some (.f,.lst (rows.map eR)),some (.f,eR row),none,none,none]=T [some (.f,.lst (rows.map eR)),some (.f,eR row),some (.l .f,.lst ((rows++[row]).map eR)),some (.l .f,.lst ((oB (rows++[row]) w).map eR)),some (.f,LR L (rows.length+1))]:=by
 have IB:=oA (n:=rows.length+1) (by lia) H Mk;have Sv:∀r∈rows++[row],r.length=w:=fun r hx=>by
  rcases wc hx with h|h
  ·exact hr r h
  ·rw[si h];exact Ih
 have MD:=vS (rows++[row]) w (by rw[rX,Uj];lia) Sv;have JS:g8 (.lst (rows.map eR)) (.lst [eR row])=.ok (.l .f,.lst ((rows++[row]).map eR)):=by
  rw[pw,Tw (line_le (by rw[bh,Uj];lia)),Ub];rfl
 have K7:fO [eR row]=.ok (.f,.int (w:Int)):=by
  show Res.ok (O.f,D.int (((row.map D.int).length:Nat):Int))=_;rw[bh,Ih]
 have SW:fO [.lst ((rows++[row]).map eR)]=.ok (.f,.int ((rows.length+1:Nat):Int)):=by
  show Res.ok (O.f,D.int ((((rows++[row]).map eR).length:Nat):Int))=_;rw[bh,rX,Uj]
 have SX:((oB (rows++[row]) w).map eR).length<=sizeLine:=line_le (by unfold oB;rw[bh,bh,TU];lia);have SY:=f6 (oB (rows++[row]) w);have S1:cz (LR L (rows.length+1))=true:=by
  unfold LR;split
  ·rfl
  ·exact cO _
 rw[ax (env':=[some (.f,.lst (rows.map eR)),some (.f,eR row),some (.l .f,.lst ((rows++[row]).map eR)),none,none]) (by
  generalize eR row=ER at JS ⊢;simp only[pv,seval,op,JS])]
 have OY:=DK (w:Int) (by lia) (by lia) (aq (bL fO (ag (aj 1) ay))) [some (.f,.lst (rows.map eR)),some (.f,eR row),some (.l .f,.lst ((rows++[row]).map eR)),none,none] [some (.f,.lst (rows.map eR)),some (.f,eR row),some (.l .f,.lst ((rows++[row]).map eR)),none,none] (.val (.int (w:Int))) (by
  generalize eR row=ER at K7 ⊢;simp only[pv,seval,op,K7]) rfl
 rw[Uk]at OY;generalize LR L (rows.length+1)=CL at IB S1 ⊢;generalize Ra=IC at MD ⊢;rw[ax (env':=[some (.f,.lst (rows.map eR)),some (.f,eR row),some (.l .f,.lst ((rows++[row]).map eR)),some (.l .f,.lst ((oB (rows++[row]) w).map eR)),none]) (by
  generalize cB (aq (bL fO (ag (aj 1) ay)))=IR at OY ⊢;generalize (oB (rows++[row]) w).map eR=CC at MD SX SY ⊢;generalize (rows++[row]).map eR=JJ at OY MD ⊢;generalize eR row=ER at OY ⊢;simp only[pv,seval,op,OY,MD,SX,SY])]
 rw[ax (env':=[some (.f,.lst (rows.map eR)),some (.f,eR row),some (.l .f,.lst ((rows++[row]).map eR)),some (.l .f,.lst ((oB (rows++[row]) w).map eR)),some (.f,CL)]) (by
  generalize (oB (rows++[row]) w).map eR=CC at IB ⊢;generalize (rows++[row]).map eR=JJ at SW ⊢;generalize eR row=ER;simp only[pv,seval,op,SW,IB,S1])]
def gy:List Nat:=[115,117,109]
def gM:List Nat:=[114,111,119]
section
variable{rows:List (List Int)}{row:List Int}{w:Nat}{L:Hj}
theorem mG(hw:w<=900)(hr:∀r∈rows,r.length=w)(Ih:row.length=w)(hl:rows.length<=900)(H:KOk (rows.length+1) L)(Mk:aK [.lst ((oB (rows++[row]) w).map eR)]=.ok (.d,dL L))(hk:IU L rows.length=false):
  bO [.lst (rows.map eR),eR row]=.ok (.f,.tup [.str gy,.int ((kr L rows.length (rows.length+1)).getD rows.length 0),.lst ((((kr L rows.length (rows.length+1)).take rows.length).map fun x=>-x).map D.int)]):=by
 have st:=fun T=>qQ hw hr Ih hl H Mk T
 have ec:LR L (rows.length+1)=eR (kr L rows.length (rows.length+1)):=by
  unfold LR;rw[show rows.length+1-1=rows.length from rfl,hk,TC TB]
 rw[ec]at st;have kl:=kh L rows.length (rows.length+1);generalize kr L rows.length (rows.length+1)=K at st kl;have HV:=vR (r:=K) (by lia);rw[kl,show rows.length+1-1=rows.length from rfl]at HV;have Jt:g7 (K.map D.int) none (some (-1))=(K.take rows.length).map D.int:=by
  rw[iT,mF,kl];rfl
 have O5:=xE (K.take rows.length);have hz:(((K.take rows.length).map fun x=>-x).map D.int).length<=sizeLine:=line_le (by rw[bh,bh,T8];lia);have Lg:=He ((K.take rows.length).map fun x=>-x);have NK:Mu (eR K) .non=.ok (.f,.bl false):=id rfl;unfold bO j0;rw[bt (h:=by rfl)];simp only[List.map,List.replicate,VZ,Vz];rw[st];clear st;rw[ax (env':=[some (.f,.lst (rows.map eR)),some (.f,eR row),some (.l .f,.lst ((rows++[row]).map eR)),some (.l .f,.lst ((oB (rows++[row]) w).map eR)),some (.f,eR K)]) (by
  generalize eR K=EK at NK ⊢;generalize eR row=ER;simp only[pv,seval,op,NK,jg])]
 unfold eR gy;generalize ((K.take rows.length).map fun x=>-x).map D.int=NN at O5 hz Lg ⊢;generalize (oF (aj 0))=NG at O5 ⊢;simp only[pv,seval,op,HV,Jt,O5,hz,Lg]
theorem xF(ks:List (List Int))(row:List Int)(hb:Bg 175 row)(hk:∀k∈ks,Bg 8821 k/\k.length<=1000):ck (aw 0) (Hs (a7 Jp (aq (cK bY (ag (aj 0) (ag (aj 1) ay)))) (aq (aH (.int 0))))) (aB 0) (ks.map eR) [none,some (.f,eR row)]=.ok ((ks.filter fun o=>!(dot o row==0)).map eR):=by
 refine eY (p:=fun o:List Int=>!(dot o row==0)) (fun env=>∃t,env=[t,some (.f,eR row)]) ks ?_ _ ⟨none,rfl⟩;rintro k KW env ⟨t,rfl⟩;have hp:=oi (n:=8821) (m:=175) (by decide) (by decide) k row (hk k KW).1 hb (hk k KW).2;refine⟨[some (.f,eR k),some (.f,eR row)],rfl,[some (.f,eR k),some (.f,eR row)],?_,?_⟩
 ·generalize eR k=EK at hp ⊢;generalize eR row=ER at hp ⊢;simp only[pv,seval,op,hp]
 ·cases hd:(dot k row==0) with
  |true=>exact⟨_,rfl⟩
  |false=>exact⟨.f,[some (.f,eR k),some (.f,eR row)],rfl,_,rfl⟩
theorem mH(hw:w<=900)(hr:∀r∈rows,r.length=w)(Ih:row.length=w)(hbr:Bg 175 row)(hl:rows.length<=900)(H:KOk (rows.length+1) L)(Mk:aK [.lst ((oB (rows++[row]) w).map eR)]=.ok (.d,dL L))(hk:IU L rows.length=true){L2:Hj}(H2:KOk w L2)(hld2:aK [.lst (rows.map eR)]=.ok (.d,dL L2)){o:List Int}{more:List (List Int)}(hf:(mz L2 w).filter (fun o=>!(dot o row==0))=o::more):
  bO [.lst (rows.map eR),eR row]=.ok (.f,.tup [.str gM,eR o]):=by
 have st:=fun T=>qQ hw hr Ih hl H Mk T
 have ec:LR L (rows.length+1)=.non:=by
  unfold LR;rw[show rows.length+1-1=rows.length from rfl,hk,Tw rfl]
 rw[ec]at st;have Qv:=xC (rows:=rows) H2 hld2;have K7:fO [eR row]=.ok (.f,.int (w:Int)):=by
  show Res.ok (O.f,D.int (((row.map D.int).length:Nat):Int))=_;rw[bh,Ih]
 have Pu:=xF (mz L2 w) row hbr fun k hk=>by
  unfold mz at hk;obtain⟨c,hc,e⟩:=pA hk;rw[<-e];exact⟨qP H2 c,by rw[kh];lia⟩
 have hfz:=T2 (VJ (fun o=>!(dot o row==0)) (mz L2 w)) (qO L2 w);rw[hf]at Pu hfz;have hz:((o::more).map eR).length<=sizeLine:=line_le (by rw[bh];lia);have Mj:=f6 (o::more);have Q2:=f6 (mz L2 w);have HV:Jw ((o::more).map eR) (0:Int)=some (eR o):=fG (j:=0) rfl;have NK:Mu .non .non=.ok (.f,.bl true):=id rfl;unfold bO j0;rw[bt (h:=by rfl)];simp only[List.map,List.replicate,VZ,Vz];rw[st];clear st;rw[HC];generalize (Hs (a7 Jp (aq (cK bY (ag (aj 0) (ag (aj 1) ay)))) (aq (aH (.int 0)))))=BB at Pu ⊢;generalize (o::more).map eR=OM at Pu hz Mj HV ⊢;generalize (mz L2 w).map eR=KK at Qv Pu Q2 ⊢;generalize (rows++[row]).map eR=JJ;generalize (oB (rows++[row]) w).map eR=CC;unfold gM;generalize eR row=ER at K7 Pu ⊢;generalize eR o=EO at HV ⊢;simp only[pv,seval,op,NK,K7,Qv,Q2,Pu,hz,Mj,HV]
end
theorem dot_sg{a b:List Int}(h:a.length=b.length):dot a b=sg a.length fun k=>a.getD k 0*b.getD k 0:=by
 have key:∀n,n<=a.length->(((a.zip b).map fun z=>z.1*z.2).take n).sum=sg n fun k=>a.getD k 0*b.getD k 0:=fun n=>by
  induction n with
  |zero=>intro _;rfl
  |succ n ih=>
   intro hn;rw[qB a b n (by lia) (by lia),ih (by lia)];rfl
 have:=key a.length (Tn _);rw[Uy (by rw[bh,U7];lia)]at this;exact this
theorem Dh(rows:List (List Int))(row:List Int)(w:Nat):oB (rows++[row]) w=mB rows row w:=by
 unfold oB mB rZ;refine Uo fun k _=>?_
 rw[Ub];rfl
theorem xG{rows:List (List Int)}{row:List Int}{w n:Nat}(hr:∀r∈rows,r.length=w/\Bg n r)(Pt:Bg n row):∀c∈mB rows row w,c.length=rows.length+1/\Bg n c:=fun c hc=>by
 obtain⟨k,_,e⟩:=pA hc;rw[<-e];refine⟨xw _ _ _,fun x hx=>?_⟩;unfold rZ at hx;rcases wc hx with h|h
 ·obtain⟨r,h1,h2⟩:=pA h;rw[<-h2];exact(hr r h1).2.at k
 ·rw[si h];exact Pt.at k
theorem yx{rows:List (List Int)}{row:List Int}{w:Nat}(hw:w<=6)(hl:rows.length<=6)(hr:∀r∈rows,r.length=w/\Bg 175 r)(Ih:row.length=w)(Pt:Bg 175 row):
  (∃(km:Int) (ns:List Int),1<=km/\km.natAbs<2 ^ 8821/\ns.length=rows.length/\Bg 8821 ns/\(∀k,k<w->sg rows.length (fun j=>(rows.getD j []).getD k 0*ns.getD j 0)=row.getD k 0*km)/\bO [.lst (rows.map eR),eR row]=.ok (.f,.tup [.str gy,.int km,.lst (ns.map D.int)]))\/
  (∃o:List Int,o.length=w/\Bg 8821 o/\(∀r∈rows,dot r o=0)/\dot row o≠0/\¬ In rows.length w (Fs rows) (Vc row)/\bO [.lst (rows.map eR),eR row]=.ok (.f,.tup [.str gM,eR o])):=by
 have IB:(mB rows row w).length=w:=by unfold mB;rw[bh,TU]
 have OX:=xG (w:=w) hr Pt;obtain⟨L,H,E,Mk⟩:=kn (w:=rows.length+1) (by lia) (by lia) OX;obtain⟨l1,l2⟩:=ki (by lia) OX H;have KO:KOk (rows.length+1) L:=⟨H.red,l2,by lia,by lia⟩
 rw[<-Dh]at Mk;have Pw:∀r∈rows,r.length=w:=fun r h=>(hr r h).1
 cases hk:IU L rows.length with
 |false=>
  left;have hs:=mG (by lia) Pw Ih (by lia) KO Mk hk;have LN:=Aj H hk;have O6:=yo H.red (T9 _) hk;have Sa:=qP KO rows.length;have Qt:=kh L rows.length (rows.length+1);generalize kr L rows.length (rows.length+1)=K at hs LN O6 Sa Qt;refine⟨K.getD rows.length 0,(K.take rows.length).map fun x=>-x,O6,Sa.at _,by rw[bh,T8];lia,fun x hx=>?_,fun k O2=>?_,hs⟩
  ·obtain⟨y,hy,e⟩:=pA hx;rw[<-e,Wm];exact Sa y (VO hy)
  ·have h:=LN k O2;have e:sg rows.length (fun j=>(rows.getD j []).getD k 0*((K.take rows.length).map fun x=>-x).getD j 0) = -sg rows.length fun j=>(rows.getD j []).getD k 0*K.getD j 0:=by
    have hm:=cj rows.length (-1) fun j=>(rows.getD j []).getD k 0*K.getD j 0
    rw[UP,UT]at hm;rw[<-hm];refine az fun j hj=>?_
    have:((K.take rows.length).map fun x=>-x).getD j 0 = -(K.getD j 0):=by
     rw[Th,TN,V7,Tw hj,g9 (by lia),Th,g9 (by lia)];rfl
    rw[this,Int.mul_neg,UP,UT]
   rw[e];lia
 |true=>
  right;obtain⟨M,HM,_,hldM⟩:=kn (w:=w) (by lia) hl hr;obtain⟨m1,m2⟩:=ki hl hr HM;have KM:KOk w M:=⟨HM.red,m2,by lia,by lia⟩
  obtain⟨c,hc,Od,I0⟩:=vJ H E hk HM Ih;have Qw:kr M c w∈(mz M w).filter fun o=>!(dot o row==0):=by
   refine Vg.mpr ⟨U3.mpr ⟨c,Vg.mpr ⟨UB.mpr hc,by rw[Od];rfl⟩,rfl⟩,?_⟩;have hd:dot (kr M c w) row≠0:=by
    rw[dot_sg (by rw[kh,Ih]),kh];intro z;exact I0 (Zx (az fun k _=>Us _ _) z)
   rw[Ug.mpr hd];rfl
  obtain⟨o,more,hf⟩:∃o more,(mz M w).filter (fun o=>!(dot o row==0))=o::more:=by
   cases hq:(mz M w).filter fun o=>!(dot o row==0) with
   |nil=>rw[hq]at Qw;cases Qw
   |cons o more=>exact⟨o,more,rfl⟩
  have ho:o∈(mz M w).filter fun o=>!(dot o row==0):=by rw[hf];exact Tq
  obtain⟨ho1,IA⟩:=Vg.mp ho;obtain⟨c',Pb,eo⟩:=pA ho1;obtain⟨hc1,Lh⟩:=Vg.mp Pb;rw[XE]at Lh;have Qx:o.length=w:=by rw[<-eo];exact kh M c' w
  have hs:=mH (by lia) Pw Ih Pt (by lia) KO Mk hk KM hldM hf;refine⟨o,Qx,by rw[<-eo];exact qP KM c',fun r h=>?_,?_,yp H E hk,hs⟩
  ·rw[dot_sg (by rw[Pw r h,Qx]),Pw r h,<-eo];exact vG HM (UB.mp hc1) Lh h
  ·rw[XE,Ug,dot_sg (by rw[Qx,Ih]),Qx]at IA;rw[dot_sg (by rw[Qx,Ih]),Ih];intro z;exact IA (Zx (az fun k _=>Us _ _) z)
theorem vT(env:PV.Env)(f:FT):zV f env=Res.bnd (f (env.map frz)) (f:=⟨fun p=>.ok (p.1,env)⟩):=id rfl
theorem lh:eqO (.str gM) (.str [114,111,119])=.ok (.f,.bl true):=rfl
theorem r9:eqO (.str gy) (.str [114,111,119])=.ok (.f,.bl false):=rfl
abbrev qD(B:List Nat):List D:=B.map fun(q:Nat)=>D.int (q:Int)
structure Rs(rows:List (List Int))(w:Nat):Prop where
 hw:w<=6
 hl:rows.length<=12
 ok:∀r∈rows,r.length=w/\Bg 175 r
theorem mI(rows:List (List Int))(B:List Nat)(h:∀q∈B,q<rows.length):ck (aw 0) gT (aF Hw (aj 1) (aj 0)) (qD B) [none,some (.f,.lst (rows.map eR))]=.ok ((sel rows B).map eR):=by
 rw[cI (r:=fun q:Nat=>eR (rows.getD q [])) (fun env=>∃t,env=[t,some (.f,.lst (rows.map eR))]) B ?_ _ ⟨none,rfl⟩]
 ·unfold sel;rw[TV];rfl
 ·rintro q hq env ⟨t,rfl⟩;have Sb:=h q hq;have HV:Jw (rows.map eR) (q:Int)=some (eR (rows.getD q [])):=fG (by rw[TN,g9 Sb,bI rows q [] Sb];rfl);refine⟨[some (.f,.int (q:Int)),some (.f,.lst (rows.map eR))],rfl,.f,[some (.f,.int (q:Int)),some (.f,.lst (rows.map eR))],?_,_,rfl⟩;generalize rows.map eR=RR at HV ⊢;generalize eR (rows.getD q [])=EQ at HV ⊢;simp only[pv,seval,op,HV]
section
variable{rows:List (List Int)}{w n:Nat}{B:List Nat}
theorem qR(H:Rs rows w)(h:∀q∈B,q<rows.length):∀r∈sel rows B,r.length=w/\Bg 175 r:=fun r hr=>by
 unfold sel at hr;obtain⟨q,h1,e⟩:=pA hr;rw[<-e];exact H.ok _ (aZ (h q h1))
theorem Ch.few(C:Ch rows w n B)(H:Rs rows w)(hn:n<=rows.length):B.length<=w:=CV (A:=2 ^ 175) C.ind fun i hi k hk=>by
 show(((sel rows B).getD i []).getD k 0).natAbs<=2 ^ 175;exact VT ((qR H (fun q hq=>Ts (C.lt q hq) hn) _ (aZ (by rw[fZ];exact hi))).2.at k)
theorem Fb(H:Rs rows w)(C:Ch rows w n B)(hn:n<rows.length):∃B2,Ch rows w (n+1) B2/\bS [some (.f,.lst (rows.map eR)),some (.l .f,.lst (qD B)),some (.f,.int (n:Int)),some (.f,eR (rows.getD n []))]=.ok (.nx [some (.f,.lst (rows.map eR)),some (.l .f,.lst (qD B2)),some (.f,.int (n:Int)),some (.f,eR (rows.getD n []))]):=by
 have Hr:∀q∈B,q<rows.length:=fun q hq=>Nat.lt_trans (C.lt q hq) hn
 have J2:=C.few H (VT hn);have hw:=H.hw;have JT:=mI rows B Hr;have NM:=qR H Hr;have Kx:=fZ rows B;have hz:((sel rows B).map eR).length<=sizeLine:=line_le (by rw[bh];lia);have hf:=f6 (sel rows B);have Np:=H.ok _ (aZ (d:=[]) hn);have O7:(qD B).length<sizeLine:=short (by rw[bh];lia);have Ol:=yx (rows:=sel rows B) hw (by lia) NM Np.1 Np.2;unfold bS;rcases Ol with⟨km,ns,k1,k2,k3,k4,k5,hs⟩|⟨o,o1,o2,o3,o4,o5,hs⟩
 ·refine⟨B,C.skip ⟨km,fun j=>ns.getD j 0,by lia,fun k hk=>?_⟩,?_⟩
  ·have:=k5 k hk;rw[Kx]at this;show km*(rows.getD n []).getD k 0=_;rw[Us,<-this];exact az fun j _=>Us _ _
  generalize hT:D.tup [.str gy,.int km,.lst (ns.map D.int)]=TT at hs;have fo:cz TT=false:=by
   rw[<-hT,iA];simp only[G0,cz,Yr,WK]
  have i0:Hw TT (.int 0)=.ok (.f,.str gy):=by rw[<-hT];rfl
  clear hT;have he:=r9;generalize qD B=CD at JT O7 ⊢;generalize (sel rows B).map eR=SB at JT hz hf hs;generalize eR (rows.getD n [])=EC at hs ⊢;generalize rows.map eR=RR at JT ⊢;generalize (aF Hw (aj 1) (aj 0))=IX at JT ⊢;simp only[pv,seval,op,vT,iS,Vs,AS,AU,JT,hz,hf,hs,fo,i0,he,jg]
 ·rw[Kx]at o5;refine⟨B++[n],C.take o5,?_⟩;have fo:cz (.tup [.str gM,eR o])=true:=by
   rw[iA];simp only[G0,cO,cz,Vp]
  have i0:Hw (.tup [.str gM,eR o]) (.int 0)=.ok (.f,.str gM):=rfl;have he:=lh;have eq:qD (B++[n])=qD B++[.int (n:Int)]:=by unfold qD;rw[Ub];rfl
  rw[eq];generalize D.tup [.str gM,eR o]=TT at hs fo i0;generalize qD B=CD at JT O7 ⊢;generalize (sel rows B).map eR=SB at JT hz hf hs;generalize eR (rows.getD n [])=EC at hs ⊢;generalize rows.map eR=RR at JT ⊢;generalize (aF Hw (aj 1) (aj 0))=IX at JT ⊢;simp only[pv,seval,op,vT,iS,Vs,AS,AU,JT,hz,hf,hs,fo,i0,he,O7]
theorem qS(l:List (List Int))(k:Nat):((l.map eR).zipIdx k).map (fun z=>D.tup [.int (z.2:Int),z.1])=(l.zipIdx k).map fun z=>D.tup [.int (z.2:Int),eR z.1]:=by
 rw[List.zipIdx_map,TV];rfl
theorem vU{rows l:List (List Int)}{r:List Int}{k:Nat}(hd:rows.drop k=r::l):k<rows.length/\rows.getD k []=r/\rows.drop (k+1)=l:=by
 have hk:k<rows.length:=by
  have:=UN List.length hd;rw[Uz,TQ]at this;lia
 rw[UZ hk]at hd;injection hd with h1 h2;exact⟨hk,by rw[bI rows k [] hk,h1],h2⟩
theorem qT(H:Rs rows w):∀(l:List (List Int)) (k:Nat) (B:List Nat) (t2 t3:Option R),rows.drop k=l->k<=rows.length->Ch rows w k B->∃B2 u2 u3,Ch rows w rows.length B2/\dM (iG 2 (aE (aw 2) (aE (aw 3) cQ))) bS ((l.zipIdx k).map fun z=>D.tup [.int (z.2:Int),eR z.1]) [some (.f,.lst (rows.map eR)),some (.l .f,.lst (qD B)),t2,t3]=.ok (.nx [some (.f,.lst (rows.map eR)),some (.l .f,.lst (qD B2)),u2,u3])
 |[],k,B,t2,t3,hd,hk,C=>⟨B,t2,t3,by
   have e:k=rows.length:=by
    have:=UN List.length hd;rw[Uz,UI]at this;lia
   rw[<-e];exact C,rfl⟩
 |r::l,k,B,t2,t3,hd,_,C=>by
  obtain⟨hk,er,hd2⟩:=vU hd;obtain⟨B1,C1,e1⟩:=Fb H C hk;rw[er]at e1;obtain⟨B2,u2,u3,C2,e2⟩:=qT H l (k+1) B1 (some (.f,.int (k:Int))) (some (.f,eR r)) hd2 hk C1;refine⟨B2,u2,u3,C2,?_⟩;have ha:iG 2 (aE (aw 2) (aE (aw 3) cQ)) (.tup [.int (k:Int),eR r]) [some (.f,.lst (rows.map eR)),some (.l .f,.lst (qD B)),t2,t3]=.ok [some (.f,.lst (rows.map eR)),some (.l .f,.lst (qD B)),some (.f,.int (k:Int)),some (.f,eR r)]:=by
   generalize eR r=EC;generalize qD B=CD;simp only[pv,seval]
  rw[VX,iS,iR,ha,HY,e1,HY];exact e2
theorem mJ(H:Rs rows w):∃B,Ch rows w rows.length B/\b7 [.lst (rows.map eR)]=.ok (.l .f,.lst (qD B)):=by
 obtain⟨B,u2,u3,C,e⟩:=qT H rows 0 [] none none Wj (Um _) (Ch.start rows w);refine⟨B,C,?_⟩;have en:rO (rows.map eR)=(rows.zipIdx 0).map fun z=>D.tup [.int (z.2:Int),eR z.1]:=qS rows 0
 unfold b7 il;rw[bt (h:=by rfl)];rw[ax (env':=[some (.f,.lst (rows.map eR)),some (.l .f,.lst []),none,none]) (by
  generalize rows.map eR=RR;simp only[pv,seval,op])]
 rw[ax (env':=[some (.f,.lst (rows.map eR)),some (.l .f,.lst (qD B)),u2,u3]) (by
  unfold fS;rw[<-en]at e;generalize rows.map eR=RR at e ⊢;generalize bS=BB at e ⊢;simp only[pv,seval,op,jw];exact e)]
 unfold fA;simp only[pv,seval,op]
end
theorem snoc_getD(r:List Int)(x:Int){k:Nat}(h:k<r.length):(r++[x]).getD k 0=r.getD k 0:=by
 rw[Th,Vf h,Th]
theorem vV(r:List Int)(x:Int):(r++[x]).getD r.length 0=x:=by
 rw[Th,VD (Tn _),Zg];rfl
abbrev ext(S:List (List Int)):List (List Int):=S.map fun r=>r++[-1]
theorem Di{S:List (List Int)}{p:Nat}(h:p<S.length):(ext S).getD p []=S.getD p []++[-1]:=by
 rw[Th,TN,g9 h,Th,g9 h];rfl
theorem yy{S:List (List Int)}{w:Nat}(h:∀r∈S,r.length=w/\Bg 175 r):∀r∈ext S,r.length=w+1/\Bg 175 r:=fun r hr=>by
 obtain⟨s,h1,e⟩:=pA hr;rw[<-e];refine⟨by rw[rX,Uj,(h s h1).1],fun x hx=>?_⟩;rcases wc hx with z|z
 ·exact(h s h1).2 x z
 ·rw[si z];decide +kernel
theorem xH{S:List (List Int)}{w:Nat}(hr:∀r∈S,r.length=w)(hi:OZ S.length w (Fs S)){L:Hj}(H:Inv (w+1) (ext S) L)(E:Ech L):IU L w=false:=by
 cases hk:IU L w with
 |false=>rfl
 |true=>
  exfalso;obtain⟨i,Sd,e⟩:=vE hk;obtain⟨T,t1,t2,_,t4,_⟩:=H.base;have Lc:=dH (t4 i Sd) (G:=Fs (ext S)) (s:=(ext S).length) fun j hj=>qH (t2 _ (aZ (by lia)))
  obtain⟨d,x,d0,hx⟩:=Lc;rw[bh]at hx;have z:∀p,p<S.length->x p=0:=hi x fun k hk=>by
   have h1:=hx k (by lia);have e0:Fm L i k=0:=E i Sd k (by lia);rw[e0,T5]at h1;rw[h1];refine az fun p hp=>?_
   show x p*(S.getD p []).getD k 0=x p*((ext S).getD p []).getD k 0;rw[Di hp,snoc_getD _ _ (by rw[hr _ (aZ hp)];exact hk)]
  have h1:=hx w (by lia);rw[dB fun p hp=>by rw[z p hp,UM]]at h1;have ho:=H.red.own i Sd;rw[<-e]at ho;exact(Uq.mp h1).elim d0 ho
theorem As(rows:List (List Int))(hl:∀r∈rows,r.length<=100):ck (aw 0) gT (aF g8 (aj 0) (aq (v5 (bM (oF (aq (aH (.int 1)))) cR)))) (rows.map eR) [none]=.ok ((ext rows).map eR):=by
 rw[cI (r:=fun r:List Int=>eR (r++[-1])) (fun env=>∃t,env=[t]) rows ?_ _ ⟨none,rfl⟩]
 ·rw[TV];rfl
 ·rintro r hr env ⟨t,rfl⟩;have ha:g8 (eR r) (.tup [.int (-1)])=.ok (.f,eR (r++[-1])):=by
   unfold eR;rw[Ad,Tw (.inl (line_le (by rw[bh,Uj];have:=hl r hr;lia))),Ub];rfl
  refine⟨[some (.f,eR r)],rfl,.f,[some (.f,eR r)],?_,_,rfl⟩;generalize eR r=ER at ha ⊢;generalize eR (r++[-1])=E1 at ha ⊢;have e:-(1:Int) = -1:=rfl;simp only[pv,seval,op,e,ha]
section
variable{rows:List (List Int)}{w:Nat}{B:List Nat}
theorem Au(H:Rs rows w)(C:Ch rows w rows.length B):∃K:List Int,K.length=w+1/\Bg 8821 K/\1<=K.getD w 0/\(∀p,p<B.length->dt rows w (B.getD p 0) (Vc K)=K.getD w 0)/\b5 [.lst ((sel rows B).map eR),.int (w:Int)]=.ok (.f,eR K):=by
 have hw:=H.hw;have J2:=C.few H (Tn _);have NM:=qR H C.lt;have Kx:=fZ rows B;have O8:=C.ind;have HV:∀p,p<B.length->(sel rows B).getD p []=rows.getD (B.getD p 0) []:=fun p hp=>vK rows hp
 generalize sel rows B=S at NM Kx O8 HV;rw[<-Kx]at O8;obtain⟨L,I,E,Mk⟩:=kn (rows:=ext S) (w:=w+1) (by lia) (by rw[bh];lia) (yy NM);obtain⟨l1,l2⟩:=ki (by rw[bh];lia) (yy NM) I;rw[bh]at l1;have KO:KOk (w+1) L:=⟨I.red,l2,by lia,by lia⟩
 have hk:=xH (fun r h=>(NM r h).1) O8 I E;refine⟨kr L w (w+1),kh _ _ _,qP KO w,yo I.red (T9 _) hk,fun p hp=>?_,?_⟩
 ·have S2:p<S.length:=by lia
  have h1:=vG I (T9 _) hk (r:=S.getD p []++[-1]) (U3.mpr ⟨_,aZ S2,rfl⟩);have hSl:=(NM _ (aZ (d:=[]) S2)).1;have h2:sg w (fun k=>(S.getD p []++[-1]).getD k 0*(kr L w (w+1)).getD k 0)+(S.getD p []++[-1]).getD w 0*(kr L w (w+1)).getD w 0=0:=h1;have h3:(S.getD p []++[-1]).getD w 0 = -1:=by
   have:=vV (S.getD p []) (-1);rw[hSl]at this;exact this
  rw[h3,az (g:=fun k=>(rows.getD (B.getD p 0) []).getD k 0*Vc (kr L w (w+1)) k) fun k hk=>by rw[snoc_getD _ _ (by lia),HV p hp]]at h2;unfold dt;lia
 ·have hc:=As S fun r hr=>by rw[(NM r hr).1];lia
  have IB:=oA (n:=w+1) (by lia) KO Mk;have ec:LR L (w+1)=eR (kr L w (w+1)):=by
   unfold LR;rw[show w+1-1=w from rfl,hk,TC TB]
  rw[ec,show((w+1:Nat):Int)=(w:Int)+1 by lia]at IB;have hz:((ext S).map eR).length<=sizeLine:=line_le (by rw[bh,bh];lia);have hf:=f6 (ext S);have fk:=cO (kr L w (w+1));unfold b5 j3;rw[bt (h:=by rfl)];generalize (aF g8 (aj 0) (aq (v5 (bM (oF (aq (aH (.int 1)))) cR))))=FF at hc ⊢;generalize (ext S).map eR=RM at hc IB hz hf;generalize S.map eR=RR at hc ⊢;generalize eR (kr L w (w+1))=EK at IB fk ⊢;simp only[pv,seval,op,hc,hz,hf,IB,fk]
theorem Dj{lv:List Int}(Nq:lv.length=w+1){i:Nat}(hi:(rows.getD i []).length=w):dot (rows.getD i []) (lv.take w)=dt rows w i (Vc lv):=by
 rw[dot_sg (by rw[hi,T8];lia),hi];unfold dt;refine az fun k hk=>?_
 have:(lv.take w).getD k 0=lv.getD k 0:=by
  rw[Th,V7,Tw hk,Th]
 rw[this]
theorem vW(H:Rs rows w){lv:List Int}(Nq:lv.length=w+1)(hb:Bg 8821 lv):∀(l:List (List Int)) (k:Nat) (t2 t3:Option R),rows.drop k=l->k<=rows.length->(∀j,j<k->lv.getD w 0<=dt rows w j (Vc lv))->
  (∃i,i<rows.length/\dt rows w i (Vc lv)<lv.getD w 0/\(∀j,j<i->lv.getD w 0<=dt rows w j (Vc lv))/\dM (iG 2 (aE (aw 2) (aE (aw 3) cQ))) bc ((l.zipIdx k).map fun z=>D.tup [.int (z.2:Int),eR z.1]) [some (.f,.lst (rows.map eR)),some (.f,eR lv),t2,t3]=.ok (.rt (.f,.int (i:Int))))\/
  ((∀j,j<rows.length->lv.getD w 0<=dt rows w j (Vc lv))/\∃u2 u3,dM (iG 2 (aE (aw 2) (aE (aw 3) cQ))) bc ((l.zipIdx k).map fun z=>D.tup [.int (z.2:Int),eR z.1]) [some (.f,.lst (rows.map eR)),some (.f,eR lv),t2,t3]=.ok (.nx [some (.f,.lst (rows.map eR)),some (.f,eR lv),u2,u3]))
 |[],k,t2,t3,hd,hk,h=>.inr ⟨by
   have e:k=rows.length:=by
    have:=UN List.length hd;rw[Uz,UI]at this;lia
   rw[<-e];exact h,t2,t3,rfl⟩
 |r::l,k,t2,t3,hd,_,h=>by
  obtain⟨hk,er,hd2⟩:=vU hd;have Np:=H.ok _ (aZ (d:=[]) hk);have hw:=H.hw;have S3:=Dj (rows:=rows) Nq Np.1;rw[er]at Np S3;have hp:=oi (n:=175) (m:=8821) (by decide) (by decide) r (lv.take w) Np.2 (fun x hx=>hb x (VO hx)) (by lia);rw[S3]at hp;have Jt:g7 (lv.map D.int) none (some (-1))=(lv.take w).map D.int:=by
   rw[iT,mF,Nq];rfl
  have HV:=vR (r:=lv) (by lia);rw[Nq,show w+1-1=w from rfl]at HV;have ha:iG 2 (aE (aw 2) (aE (aw 3) cQ)) (.tup [.int (k:Int),eR r]) [some (.f,.lst (rows.map eR)),some (.f,eR lv),t2,t3]=.ok [some (.f,.lst (rows.map eR)),some (.f,eR lv),some (.f,.int (k:Int)),some (.f,eR r)]:=by
   generalize eR r=EC;generalize eR lv=EL;simp only[pv,seval]
  have eb:∀b,decide (dt rows w k (Vc lv)<lv.getD w 0)=b->bc [some (.f,.lst (rows.map eR)),some (.f,eR lv),some (.f,.int (k:Int)),some (.f,eR r)]=if b then .ok (.rt (.f,.int (k:Int))) else .ok (.nx [some (.f,.lst (rows.map eR)),some (.f,eR lv),some (.f,.int (k:Int)),some (.f,eR r)]):=fun b Pg=>by
   have hp:bY [eR r,.tup ((lv.take w).map D.int)]=.ok (.f,.int (dt rows w k (Vc lv))):=hp;unfold bc;rw[show eR lv=.tup (lv.map D.int) from rfl];generalize eR r=EC at hp ⊢;generalize dt rows w k (Vc lv)=DD at hp Pg;generalize lv.getD w 0=LA at HV Pg;generalize (lv.take w).map D.int=LT at Jt hp;generalize lv.map D.int=LD at Jt HV ⊢;generalize rows.map eR=RR;cases b with
   |true=>simp only[pv,seval,op,Jt,HV,hp,Pg]
   |false=>simp only[pv,seval,op,Jt,HV,hp,Pg,jg]
  rw[VX,iS,iR,ha,HY];by_cases Hr:dt rows w k (Vc lv)<lv.getD w 0
  ·left;refine⟨k,hk,Hr,h,?_⟩;rw[eb true (Ux Hr),Tw rfl,HY]
  ·rw[eb false (Ua Hr),TC TB,HY];dsimp only;exact vW H Nq hb l (k+1) (some (.f,.int (k:Int))) (some (.f,eR r)) hd2 hk fun j hj=>by
    by_cases e:j=k
    ·rw[e];lia
    ·exact h j (by lia)
theorem mK(H:Rs rows w){lv:List Int}(Nq:lv.length=w+1)(hb:Bg 8821 lv):
  (∃i,i<rows.length/\dt rows w i (Vc lv)<lv.getD w 0/\(∀j,j<i->lv.getD w 0<=dt rows w j (Vc lv))/\br [.lst (rows.map eR),eR lv]=.ok (.f,.int (i:Int)))\/
  ((∀j,j<rows.length->lv.getD w 0<=dt rows w j (Vc lv))/\br [.lst (rows.map eR),eR lv]=.ok (.f,.non)):=by
 have en:rO (rows.map eR)=(rows.zipIdx 0).map fun z=>D.tup [.int (z.2:Int),eR z.1]:=qS rows 0
 have ef:∀r,dM (iG 2 (aE (aw 2) (aE (aw 3) cQ))) bc ((rows.zipIdx 0).map fun z=>D.tup [.int (z.2:Int),eR z.1]) [some (.f,.lst (rows.map eR)),some (.f,eR lv),none,none]=r->dw [some (.f,.lst (rows.map eR)),some (.f,eR lv),none,none]=r:=fun r hr=>by
  unfold dw;rw[<-en]at hr;generalize rows.map eR=RR at hr ⊢;generalize eR lv=EL at hr ⊢;generalize bc=BB at hr ⊢;simp only[pv,seval,op,jw];exact hr
 unfold br iq;rw[bt (h:=by rfl)];simp only[iS,Vs,List.replicate,VZ,Vz];rcases vW H Nq hb rows 0 none none Wj (Um _) (fun j hj=>absurd hj (TR j)) with⟨i,h1,h2,h3,e⟩|⟨h1,u2,u3,e⟩
 ·left;refine⟨i,h1,h2,h3,?_⟩;rw[HC,ef _ e,HY];rfl
 ·right;refine⟨h1,?_⟩;rw[ax (ef _ e)];rfl
end
theorem ins_map{α β:Type}(f:α->β)(lt:β->β->Bool)(x:α):∀l:List α,ins lt (f x) (l.map f)=(ins (fun a b=>lt (f a) (f b)) x l).map f
 |[]=>rfl
 |y::ys=>by
  rw[iS,ins,ins];cases lt (f y) (f x) with
  |true=>rw[Tw rfl,Tw rfl,ins_map f lt x ys,iS]
  |false=>rw[TC TB,TC TB,iS,iS]
theorem oC{α β:Type}(f:α->β)(lt:β->β->Bool):∀l:List α,fM lt (l.map f)=(fM (fun a b=>lt (f a) (f b)) l).map f
 |[]=>rfl
 |x::l=>by
  show ins lt (f x) (fM lt (l.map f))=_;rw[oC f lt l,ins_map];rfl
theorem Av:Ord (fun a b:Nat=>ltI (a:Int) (b:Int)):=⟨fun a=>by simp[ltI],fun a b c=>by simp only[ltI,T1];lia,fun a b=>by simp only[ltI,Ud];lia⟩
theorem Aw(l:List Nat)(nd:l.Nodup)(h:l.length<64):∃C:List Nat,C.Pairwise (·< ·)/\(∀j,j∈C<->j∈l)/\C.length=l.length/\jT [.lst (qD l)]=.ok (.l .f,.lst (qD C)):=by
 have hp:=iL (fun a b:Nat=>ltI (a:Int) (b:Int)) l;refine⟨fM (fun a b:Nat=>ltI (a:Int) (b:Int)) l,?_,fun j=>hp.mem_iff,hp.length_eq,?_⟩
 ·have h1:=fN Av l;have h2:(fM (fun a b:Nat=>ltI (a:Int) (b:Int)) l).Nodup:=hp.nodup_iff.mpr nd;refine(h1.and h2).imp fun{a b} h=>?_
  have h3:=h.1;have h4:=h.2;simp only[ltI,Ud]at h3;lia
 ·have e:qD l=(l.map fun q:Nat=>(q:Int)).map D.int:=by rw[TV];rfl
  rw[e];unfold jT;dsimp only;rw[Tw (by rw[bh,bh];exact h)];unfold oX;rw[kW];dsimp only;rw[oC,TV];rfl
def Ju(n low:Nat)(km:Int)(B:List Nat)(ns:List Int):Nat->List Int
 | 0=>KZ n low km
 |p+1=>(Ju n low km B ns p).set (B.getD p 0) (-(ns.getD p 0))
section
variable{n low:Nat}{km:Int}{B:List Nat}{ns:List Int}
theorem g6:∀m,(Ju n low km B ns m).length=n
 | 0=>vB _ _ _
 |m+1=>by
  show((Ju n low km B ns m).set _ _).length=n;rw[UA,g6 m]
theorem pL(Hr:∀j∈B,j<n){j:Nat}(hj:j<n):∀m,m<=B.length->(∀p,p<m->B.getD p 0≠j)->(Ju n low km B ns m).getD j 0=if j=low then km else 0
 | 0,_,_=>jv _ _ _ hj
 |m+1,hm,h=>by
  show((Ju n low km B ns m).set _ _).getD j 0=_;rw[iE _ _ _ _ (by rw[g6];exact Hr _ (iF (by lia))),TC (fun e=>h m (by lia) e.symm)];exact pL Hr hj m (by lia) fun p hp=>h p (by lia)
theorem yz(hs:B.Pairwise (·< ·))(Hr:∀j∈B,j<n){p:Nat}:∀m,m<=B.length->p<m->(Ju n low km B ns m).getD (B.getD p 0) 0 = -(ns.getD p 0)
 | 0,_,h=>absurd h (TR _)
 |m+1,hm,h=>by
  show((Ju n low km B ns m).set _ _).getD _ 0=_;rw[iE _ _ _ _ (by rw[g6];exact Hr _ (iF (by lia)))];by_cases e:p=m
  ·rw[e,Tw rfl]
  ·rw[TC (fun z=>e (mC hs (by lia) (by lia) z))];exact yz hs Hr m (by lia) (by lia)
theorem vX{b:Nat}(hk:km.natAbs<2 ^ b)(hn:Bg b ns):∀m,Bg b (Ju n low km B ns m)
 | 0=>fun x hx=>by
  have hx:x∈KZ n low km:=hx;unfold KZ at hx;obtain⟨k,_,e⟩:=pA hx;rw[<-e];split
  ·exact hk
  ·exact Xi _
 |m+1=>fun x hx=>by
  have hx:x∈(Ju n low km B ns m).set (B.getD m 0) (-(ns.getD m 0)):=hx;rcases Xw hx with h|h
  ·exact vX hk hn m x h
  ·rw[h,Wm];exact hn.at m
theorem Dk{l:List Int}{i:Nat}(v:Int)(hi:i<l.length)(f:Nat->Int):sg l.length (fun j=>(l.set i v).getD j 0*f j)=sg l.length (fun j=>l.getD j 0*f j)+(v-l.getD i 0)*f i:=by
 have e:sg l.length (fun j=>(l.set i v).getD j 0*f j)=sg l.length fun j=>l.getD j 0*f j+if j=i then(v-l.getD i 0)*f i else 0:=az fun j hj=>by
  rw[iE _ _ _ _ hi];by_cases e:j=i
  ·rw[Tw e,Tw e,e,Int.sub_mul];lia
  ·rw[TC e,TC e,UX]
 rw[e,gK,fC hi (f:=fun j=>if j=i then(v-l.getD i 0)*f i else 0) fun k _ hk=>TC hk,Tw rfl]
theorem vY(hs:B.Pairwise (·< ·))(Hr:∀j∈B,j<n)(hl:low<n)(S4:low∉B)(f:Nat->Int):∀m,m<=B.length->sg n (fun j=>(Ju n low km B ns m).getD j 0*f j)=km*f low + -(sg m fun p=>ns.getD p 0*f (B.getD p 0))
 | 0,_=>by
  show sg n (fun j=>(KZ n low km).getD j 0*f j)=km*f low + -0;rw[fC hl fun k hk I0=>by rw[jv _ _ _ hk,TC I0,UM],jv _ _ _ hl,Tw rfl,Int.neg_zero,UX]
 |m+1,hm=>by
  have ih:=vY hs Hr hl S4 f m (by lia);have hB:=iF (B:=B) (p:=m) (by lia);have h1:=Dk (l:=Ju n low km B ns m) (i:=B.getD m 0) (-(ns.getD m 0)) (by rw[g6];exact Hr _ hB) f;rw[g6,ih,pL Hr (Hr _ hB) m (by lia) (fun p hp e=>by have:=mC hs (p:=p) (q:=m) (by lia) (by lia) e;lia),TC (fun e=>S4 (by rw[<-e];exact hB)),Int.sub_zero,UP]at h1;show sg n (fun j=>((Ju n low km B ns m).set (B.getD m 0) (-(ns.getD m 0))).getD j 0*f j)=km*f low + -(sg m (fun p=>ns.getD p 0*f (B.getD p 0))+ns.getD m 0*f (B.getD m 0));rw[h1];lia
theorem vZ(Hr:∀j∈B,j<n)(Mz:ns.length=B.length)(a b c d e f g:Option R)(t7 t8:Option R):∃u7 u8,dM (iG 2 (aE (aw 7) (aE (aw 8) cQ))) eh (((qD B).zip (ns.map D.int)).map fun z=>D.tup [z.1,z.2]) [a,b,c,d,e,f,some (.l .f,.lst ((Ju n low km B ns 0).map D.int)),t7,t8,g]=.ok (.nx [a,b,c,d,e,f,some (.l .f,.lst ((Ju n low km B ns B.length).map D.int)),u7,u8,g]):=by
 have hz:((qD B).zip (ns.map D.int)).map (fun z=>D.tup [z.1,z.2])=(B.zip ns).map fun z=>D.tup [.int (z.1:Int),.int z.2]:=by
  unfold qD;rw[Zf,TV];rfl
 rw[hz];have hzl:(B.zip ns).length=B.length:=by rw[U7];lia
 obtain⟨env',ef,u7,u8,rfl⟩:=for_list (a:=iG 2 (aE (aw 7) (aE (aw 8) cQ))) (g:=eh) (e:=fun z:Nat×Int=>D.tup [.int (z.1:Int),.int z.2]) (B.zip ns) (fun k env=>∃u7 u8,env=[a,b,c,d,e,f,some (.l .f,.lst ((Ju n low km B ns k).map D.int)),u7,u8,g]) (by
  rintro k x env hx ⟨u7,u8,rfl⟩;obtain⟨hk,ex⟩:=yg hx;have S5:k<B.length:=by lia
  have hkn:k<ns.length:=by lia
  have e1:B.getD k 0=x.1:=by rw[<-ex,WW,Th,g9 S5];rfl
  have e2:ns.getD k 0=x.2:=by rw[<-ex,WW,bI ns k 0 hkn]
  have e3:=Dc (Ju n low km B ns k) x.1 (by rw[g6,<-e1];exact Hr _ (iF S5));have e4:((Ju n low km B ns k).map D.int).set x.1 (.int (-x.2))=(Ju n low km B ns (k+1)).map D.int:=by
   rw[<-List.map_set,<-e1,<-e2];rfl
  refine⟨[a,b,c,d,e,f,some (.l .f,.lst ((Ju n low km B ns k).map D.int)),some (.f,.int (x.1:Int)),some (.f,.int x.2),g],rfl,[a,b,c,d,e,f,some (.l .f,.lst ((Ju n low km B ns (k+1)).map D.int)),some (.f,.int (x.1:Int)),some (.f,.int x.2),g],?_,_,_,rfl⟩;rw[<-e4];unfold eh;generalize (Ju n low km B ns k).map D.int=UU at e3 ⊢;simp only[pv,seval,op,e3]) _ ⟨t7,t8,rfl⟩
 rw[hzl]at ef;exact⟨u7,u8,ef⟩
theorem qU(N:List Int)(h:∀q∈B,q<N.length):ck (aw 0) (Hs (aF Kw (aq (aF Hw (aj 1) (aj 0))) (aq (aH (.int 0))))) (aB 0) (qD B) [none,some (.f,.lst (N.map D.int))]=.ok (qD (B.filter fun q=>decide (N.getD q 0<0))):=by
 refine eY (p:=fun q:Nat=>decide (N.getD q 0<0)) (fun env=>∃t,env=[t,some (.f,.lst (N.map D.int))]) B ?_ _ ⟨none,rfl⟩;rintro q hq env ⟨t,rfl⟩;have HV:=ka (l:=N) (h q hq);refine⟨[some (.f,.int (q:Int)),some (.f,.lst (N.map D.int))],rfl,[some (.f,.int (q:Int)),some (.f,.lst (N.map D.int))],?_,?_⟩
 ·generalize N.map D.int=NL at HV ⊢;simp only[pv,seval,op,HV]
 ·cases decide (N.getD q 0<0) with
  |true=>exact⟨.f,[some (.f,.int (q:Int)),some (.f,.lst (N.map D.int))],rfl,_,rfl⟩
  |false=>exact⟨_,rfl⟩
theorem xI(t:Nat)(more:List Nat):ck (aw 0) (Hs (a7 Jp (aj 0) (aq (aF Hw (aj 1) (aq (aH (.int 0))))))) (aB 0) (qD B) [none,some (.f,.lst (qD (t::more)))]=.ok (qD (B.filter fun q=>!decide (q=t))):=by
 refine eY (p:=fun q:Nat=>!decide (q=t)) (fun env=>∃u,env=[u,some (.f,.lst (qD (t::more)))]) B ?_ _ ⟨none,rfl⟩;rintro q hq env ⟨u,rfl⟩;have HV:Jw (qD (t::more)) (0:Int)=some (.int (t:Int)):=fG (j:=0) rfl;have hb:(!((q:Int)==(t:Int))) = !decide (q=t):=by
  congr 1
  rw[Uv,Uc,Xp];lia
 refine⟨[some (.f,.int (q:Int)),some (.f,.lst (qD (t::more)))],rfl,[some (.f,.int (q:Int)),some (.f,.lst (qD (t::more)))],?_,?_⟩
 ·generalize qD (t::more)=NL at HV ⊢;simp only[pv,seval,op,HV,hb]
 ·cases decide (q=t) with
  |true=>exact⟨_,rfl⟩
  |false=>exact⟨.f,[some (.f,.int (q:Int)),some (.f,.lst (qD (t::more)))],rfl,_,rfl⟩
end
section
variable{rows:List (List Int)}{w:Nat}{B:List Nat}
theorem Ax{lv:List Int}{i:Nat}:dt rows w i (Vc (lv.take w))=dt rows w i (Vc lv):=by
 unfold dt;refine az fun k hk=>?_
 have:(lv.take w).getD k 0=lv.getD k 0:=by
  rw[Th,V7,Tw hk,Th]
 show _*(lv.take w).getD k 0=_;rw[this]
theorem qV:∀{l:List Nat}{t:Nat},l.Pairwise (·< ·)->t∈l->(l.filter fun q=>!decide (q=t)).length+1=l.length
 |[],_,_,h=>nomatch h
 |a::l,t,hs,h=>by
  rw[Vj]at hs;by_cases e:a=t
  ·rw[Vr (by rw[e];simp),List.filter_eq_self.mpr fun x hx=>by
    have:=hs.1 x hx;rw[Ua (by lia)];rfl]
   rfl
  ·rw[Vq (by rw[Ua e];rfl),TQ,TQ,qV hs.2 ((TF.mp h).resolve_left fun z=>e z.symm)]
theorem mL{p:Nat->Bool}:∀{l:List Nat}{t:Nat}{more:List Nat},l.Pairwise (·< ·)->l.filter p=t::more->t∈l/\p t=true/\∀j∈l,j<t->p j=false
 |[],_,_,_,h=>nomatch h
 |a::l,t,more,hs,h=>by
  rw[Vj]at hs;cases hp:p a with
  |true=>
   rw[Vq hp]at h;injection h with h1 h2;refine⟨by rw[h1];exact Tq,by rw[<-h1];exact hp,fun j hj Hr=>?_⟩;rcases TF.mp hj with e|e
   ·lia
   ·have:=hs.1 j e;lia
  |false=>
   rw[Vr (by rw[hp];exact TB)]at h;obtain⟨h1,h2,h3⟩:=mL hs.2 h;refine⟨Tu _ h1,h2,fun j hj Hr=>?_⟩;rcases TF.mp hj with e|e
   ·rw[e];exact hp
   ·exact h3 j e Hr
theorem Fc(T:FS)(H:Rs rows w)(C:Ch rows w rows.length B){lv:List Int}(J7:b5 [.lst ((sel rows B).map eR),.int (w:Int)]=.ok (.f,eR lv)){i:Nat}(hi:i<rows.length)(Ml:br [.lst (rows.map eR),eR lv]=.ok (.f,.int (i:Int))){km:Int}{ns:List Int}(Mz:ns.length=B.length)(Lw:bO [.lst ((sel rows B).map eR),eR (rows.getD i [])]=.ok (.f,.tup [.str gy,.int km,.lst (ns.map D.int)]))(t3 t4 t5 t6 t7 t8 t9:Option R):∃u7 u8 u9:Option R,∀T,cS=T->
  cx [some (.f,.lst (rows.map eR)),some (.f,.int (w:Int)),some (.l .f,.lst (qD B)),t3,t4,t5,t6,t7,t8,t9]=T [some (.f,.lst (rows.map eR)),some (.f,.int (w:Int)),some (.f,.lst (qD B)),some (.f,eR lv),some (.f,.int (i:Int)),some (.f,.tup [.str gy,.int km,.lst (ns.map D.int)]),some (.l .f,.lst ((Ju rows.length i km B ns B.length).map D.int)),u7,u8,u9]:=by
 have hw:=H.hw;have J2:=C.few H (Tn _);have JT:=mI rows B C.lt;have Kx:=fZ rows B;have hsz:((sel rows B).map eR).length<=sizeLine:=line_le (by rw[bh];lia);have Px:=f6 (sel rows B);have Qy:=cO lv;have HV:Jw (rows.map eR) (i:Int)=some (eR (rows.getD i [])):=fG (by rw[TN,g9 hi,bI rows i [] hi];rfl);have LO:fO [.lst (rows.map eR)]=.ok (.f,.int (rows.length:Int)):=by
  show Res.ok (O.f,D.int (((rows.map eR).length:Nat):Int))=_;rw[bh]
 have hl:=H.hl;have hm:=FH rows.length (by lia);have e3:ixN (((List.range rows.length).map fun _=>(0:Int)).map D.int).length (i:Int)=some i:=mx _ _ (by rw[bh,bh,TU];exact hi);have ez:=qN rows.length i km;have O9:=fun c d e f=>vZ (n:=rows.length) (low:=i) (km:=km) C.lt Mz (some (.f,.lst (rows.map eR))) (some (.f,.int (w:Int))) c d e f (frz t9) (frz t7) (frz t8)
 have O9:=O9 (some (.f,.lst (qD B))) (some (.f,eR lv)) (some (.f,.int (i:Int))) (some (.f,.tup [.str gy,.int km,.lst (ns.map D.int)]));obtain⟨u7,u8,MA⟩:=O9;refine⟨u7,u8,frz t9,fun T hTT=>?_⟩;generalize hT:D.tup [.str gy,.int km,.lst (ns.map D.int)]=TT at Lw MA;have fo:cz TT=false:=by
  rw[<-hT,iA];simp only[G0,cz,Yr,WK]
 have i1:Hw TT (.int 1)=.ok (.f,.int km):=by rw[<-hT];rfl
 have i2:Hw TT (.int 2)=.ok (.f,.lst (ns.map D.int)):=by rw[<-hT];rfl
 clear hT;have NK:Mu (.int (i:Int)) .non=.ok (.f,.bl false):=id rfl;have en0:Ju rows.length i km B ns 0=KZ rows.length i km:=rfl;rw[en0]at MA;generalize (Ju rows.length i km B ns B.length).map D.int=NN at MA ⊢;generalize (sel rows B).map eR=SB at JT hsz Px J7 Lw;generalize rows.map eR=RR at JT HV LO Ml MA ⊢;generalize eR (rows.getD i [])=EC at HV Lw;generalize eR lv=EL at J7 Qy Ml MA ⊢;generalize hCD:qD B=CD at JT MA ⊢;generalize hIX:(aF Hw (aj 1) (aj 0))=IX at JT;unfold cx;rw[hIX,hTT];rw[ax (env':=[some (.f,.lst RR),some (.f,.int (w:Int)),some (.l .f,.lst CD),some (.f,EL),t4,t5,t6,t7,t8,t9]) (by
  simp only[pv,seval,op,JT,hsz,Px,J7,Qy])]
 rw[ax (env':=[some (.f,.lst RR),some (.f,.int (w:Int)),some (.l .f,.lst CD),some (.f,EL),some (.f,.int (i:Int)),t5,t6,t7,t8,t9]) (by
  simp only[pv,seval,op,Ml])]
 rw[ax (env':=[some (.f,.lst RR),some (.f,.int (w:Int)),some (.l .f,.lst CD),some (.f,EL),some (.f,.int (i:Int)),t5,t6,t7,t8,t9]) (by
  simp only[pv,seval,op,NK,jg])]
 rw[ax (env':=[some (.f,.lst RR),some (.f,.int (w:Int)),some (.f,.lst CD),some (.f,EL),some (.f,.int (i:Int)),some (.f,TT),frz t6,frz t7,frz t8,frz t9]) (by
  simp only[pv,seval,op,JT,hsz,Px,HV,Lw,fo,iS,Vs,AS,AU,jg])]
 rw[ax (env':=[some (.f,.lst RR),some (.f,.int (w:Int)),some (.f,.lst CD),some (.f,EL),some (.f,.int (i:Int)),some (.f,TT),some (.l .f,.lst (((List.range rows.length).map fun _=>(0:Int)).map D.int)),frz t7,frz t8,frz t9]) (by
  simp only[pv,seval,op,LO,hm])]
 rw[ax (env':=[some (.f,.lst RR),some (.f,.int (w:Int)),some (.f,.lst CD),some (.f,EL),some (.f,.int (i:Int)),some (.f,TT),some (.l .f,.lst ((KZ rows.length i km).map D.int)),frz t7,frz t8,frz t9]) (by
  rw[<-ez];generalize ((List.range rows.length).map fun _=>(0:Int)).map D.int=ZZ at e3 ⊢;simp only[pv,seval,op,i1,e3])]
 rw[ax (env':=[some (.f,.lst RR),some (.f,.int (w:Int)),some (.f,.lst CD),some (.f,EL),some (.f,.int (i:Int)),some (.f,TT),some (.l .f,.lst NN),u7,u8,frz t9]) (by
  unfold nW;generalize eh=BB at MA ⊢;generalize (KZ rows.length i km).map D.int=UU at MA ⊢;generalize ns.map D.int=NG at MA i2 ⊢;simp only[pv,seval,op,i2];exact MA)]
theorem Dl(a0 a1 a3 a5 u7 u8 u9:Option R)(i:Nat)(N:List Int)(h:∀q∈B,q<N.length)(hf:B.filter (fun q=>decide (N.getD q 0<0))=[]):cS [a0,a1,some (.f,.lst (qD B)),a3,some (.f,.int (i:Int)),a5,some (.l .f,.lst (N.map D.int)),u7,u8,u9]=.ok (.rt (.f,.tup [.str gy,.lst (N.map D.int)])):=by
 have Lr:=qU N h;rw[hf]at Lr;have Lr:ck (aw 0) (Hs (aF Kw (aq (aF Hw (aj 1) (aj 0))) (aq (aH (.int 0))))) (aB 0) (qD B) [none,some (.f,.lst (N.map D.int))]=.ok []:=Lr;unfold cS;generalize (Hs (aF Kw (aq (aF Hw (aj 1) (aj 0))) (aq (aH (.int 0)))))=CC at Lr ⊢;have z0:0<=sizeLine:=Um _;have f0:G0 []=true:=rfl;have K7:((0:Nat):Int)=0:=rfl;have Qz:((0:Int)==0)=true:=rfl;have fnl:G0 (N.map D.int)=true:=He N;generalize N.map D.int=NS at Lr ⊢;generalize qD B=CD at Lr ⊢;rw[ax (env':=[a0,a1,some (.f,.lst CD),a3,some (.f,.int (i:Int)),a5,some (.l .f,.lst NS),u7,u8,some (.l .f,.lst [])]) (by
  simp only[pv,seval,op,Lr,z0,f0,UI])]
 rw[HC];unfold gy;simp only[pv,seval,op,UI,K7,Qz]
theorem Fd(a0 a1 a3 a5 u7 u8 u9:Option R)(i:Nat)(hB:B.length<=20)(hs:B.Pairwise (·< ·))(QA:i∉B)(N:List Int)(h:∀q∈B,q<N.length){t:Nat}{more:List Nat}(hf:B.filter (fun q=>decide (N.getD q 0<0))=t::more):∃(C:List Nat) (v9:Option R),C.Pairwise (·< ·)/\(∀j,j∈C<->j=i\/(j∈B/\j≠t))/\C.length=B.length/\
  cS [a0,a1,some (.f,.lst (qD B)),a3,some (.f,.int (i:Int)),a5,some (.l .f,.lst (N.map D.int)),u7,u8,u9]=.ok (.nx [a0,a1,some (.l .f,.lst (qD C)),a3,some (.f,.int (i:Int)),a5,some (.l .f,.lst (N.map D.int)),u7,u8,v9]):=by
 have htB:t∈B:=(mL hs hf).1;have Lr:=qU N h;have hml:=VJ (fun q=>decide (N.getD q 0<0)) B;rw[hf]at Lr hml;have Nw:=xI (B:=B) t more;have Mj:=qV hs htB;obtain⟨C,c1,c2,c3,c4⟩:=Aw (B.filter (fun q=>!decide (q=t))++[i]) (T7.mpr ⟨(hs.filter _).imp fun h=>TK h,XN _ _,fun a ha b hb e=>by
  rw[Ul]at hb;exact QA (by rw[<-hb,<-e];exact(Vg.mp ha).1)⟩) (by rw[rX,Uj];lia)
 have JS:g8 (.lst (qD (B.filter fun q=>!decide (q=t)))) (.lst [.int (i:Int)])=.ok (.l .f,.lst (qD (B.filter (fun q=>!decide (q=t))++[i]))):=by
  rw[pw,Tw (line_le (by rw[bh,Uj];lia))];unfold qD;rw[Ub];rfl
 refine⟨C,some (.l .f,.lst (qD (t::more))),c1,fun j=>?_,by rw[c3,rX,Uj];exact Mj,?_⟩
 ·rw[c2 j,T3,Ul,Vg,XE,Ud];constructor
  ·rintro(h|h)
   ·exact .inr h
   ·exact .inl h
  ·rintro(h|h)
   ·exact .inr h
   ·exact .inl h
 ·unfold cS;generalize (Hs (aF Kw (aq (aF Hw (aj 1) (aj 0))) (aq (aH (.int 0)))))=CC at Lr ⊢;generalize (Hs (a7 Jp (aj 0) (aq (aF Hw (aj 1) (aq (aH (.int 0)))))))=CO at Nw ⊢;have fq:∀l:List Nat,G0 (qD l)=true:=fun l=>by
   rw[cw,V9,Uh];exact fun _ _=>rfl
  have z1:(qD (t::more)).length<=sizeLine:=line_le (by rw[bh];lia);have z2:(qD (B.filter fun q=>!decide (q=t))).length<=sizeLine:=line_le (by rw[bh];lia);have f1:=fq (t::more);have f2:=fq (B.filter fun q=>!decide (q=t));have f3:=fq C;have K7:fO [.lst (qD (t::more))]=.ok (.f,.int ((more.length+1:Nat):Int)):=by
   show Res.ok (O.f,D.int (((qD (t::more)).length:Nat):Int))=_;rw[bh,TQ]
  have I0:(((more.length+1:Nat):Int)==0)=false:=Ug.mpr (by lia);generalize ((more.length+1:Nat):Int)=ML at K7 I0;generalize N.map D.int=NS at Lr ⊢;generalize qD B=CD at Lr Nw ⊢;generalize qD (t::more)=TM at Lr Nw z1 f1 K7 ⊢;generalize qD (B.filter fun q=>!decide (q=t))=BF at Nw z2 f2 JS;generalize qD (B.filter (fun q=>!decide (q=t))++[i])=BI at JS c4;generalize qD C=QC at c4 f3 ⊢;rw[ax (env':=[a0,a1,some (.f,.lst CD),a3,some (.f,.int (i:Int)),a5,some (.l .f,.lst NS),u7,u8,some (.l .f,.lst TM)]) (by
   simp only[pv,seval,op,Lr,z1,f1])]
  rw[ax (env':=[a0,a1,some (.f,.lst CD),a3,some (.f,.int (i:Int)),a5,some (.l .f,.lst NS),u7,u8,some (.l .f,.lst TM)]) (by
   simp only[pv,seval,op,K7,I0,jg])]
  simp only[pv,seval,op,Nw,z2,f2,JS,c4,f3]
end
inductive Vd(rows:List (List Int))(w:Nat):D->Prop
 |row:∀r:List Int,r.length=w->Bg 8821 r->(∀j,j<rows.length->1<=dt rows w j (Vc r))->Vd rows w (.tup [.str gM,eR r])
 |sum:∀N:List Int,N.length=rows.length->Bg 8821 N->(∀j,j<rows.length->0<=N.getD j 0)->(∃j,j<rows.length/\0<N.getD j 0)->(∀k,k<w->sg rows.length (fun j=>N.getD j 0*(rows.getD j []).getD k 0)=0)->Vd rows w (.tup [.str gy,.lst (N.map D.int)])
section
variable{rows:List (List Int)}{w:Nat}{B:List Nat}
theorem Dm(H:Rs rows w)(C:Ch rows w rows.length B){lv:List Int}(Nq:lv.length=w+1)(J7:b5 [.lst ((sel rows B).map eR),.int (w:Int)]=.ok (.f,eR lv))(Ml:br [.lst (rows.map eR),eR lv]=.ok (.f,.non))(t3 t4 t5 t6 t7 t8 t9:Option R):
  cx [some (.f,.lst (rows.map eR)),some (.f,.int (w:Int)),some (.l .f,.lst (qD B)),t3,t4,t5,t6,t7,t8,t9]=.ok (.rt (.f,.tup [.str gM,eR (lv.take w)])):=by
 have hw:=H.hw;have J2:=C.few H (Tn _);have JT:=mI rows B C.lt;have Kx:=fZ rows B;have hsz:((sel rows B).map eR).length<=sizeLine:=line_le (by rw[bh];lia);have Px:=f6 (sel rows B);have Qy:=cO lv;have NK:Mu .non .non=.ok (.f,.bl true):=id rfl;have Jt:g7 (lv.map D.int) none (some (-1))=(lv.take w).map D.int:=by
  rw[iT,mF,Nq];rfl
 generalize (sel rows B).map eR=SB at JT hsz Px J7;generalize rows.map eR=RR at JT Ml ⊢;generalize hCD:qD B=CD at JT ⊢;generalize hIX:(aF Hw (aj 1) (aj 0))=IX at JT;unfold cx;rw[hIX];rw[ax (env':=[some (.f,.lst RR),some (.f,.int (w:Int)),some (.l .f,.lst CD),some (.f,eR lv),t4,t5,t6,t7,t8,t9]) (by
  generalize eR lv=EL at J7 Qy ⊢;simp only[pv,seval,op,JT,hsz,Px,J7,Qy])]
 rw[ax (env':=[some (.f,.lst RR),some (.f,.int (w:Int)),some (.l .f,.lst CD),some (.f,eR lv),some (.f,.non),t5,t6,t7,t8,t9]) (by
  generalize eR lv=EL at Ml ⊢;have fn:cz .non=true:=rfl;simp only[pv,seval,op,Ml,fn])]
 rw[HC];unfold gM;rw[show eR (lv.take w)=.tup ((lv.take w).map D.int) from rfl,show eR lv=.tup (lv.map D.int) from rfl];simp only[pv,seval,op,NK,Jt]
theorem Ay(H:Rs rows w)(C:Ch rows w rows.length B)(t3 t4 t5 t6 t7 t8 t9:Option R):
  (∃d,Vd rows w d/\cx [some (.f,.lst (rows.map eR)),some (.f,.int (w:Int)),some (.l .f,.lst (qD B)),t3,t4,t5,t6,t7,t8,t9]=.ok (.rt (.f,d)))\/
  (∃(B2:List Nat) (l t:Nat),Ch rows w rows.length B2/\(∃x s c a,Mv rows w B l t x s c a)/\(∀j,j∈B2<->j=l\/(j∈B/\j≠t))/\l<rows.length/\t<rows.length/\∃u3 u4 u5 u6 u7 u8 u9:Option R,cx [some (.f,.lst (rows.map eR)),some (.f,.int (w:Int)),some (.l .f,.lst (qD B)),t3,t4,t5,t6,t7,t8,t9]=.ok (.nx [some (.f,.lst (rows.map eR)),some (.f,.int (w:Int)),some (.l .f,.lst (qD B2)),u3,u4,u5,u6,u7,u8,u9])):=by
 obtain⟨K,k1,k2,k3,k4,J7⟩:=Au H C;have hw:=H.hw;have J2:=C.few H (Tn _);rcases mK H k1 k2 with⟨i,hi,Hr,hfst,Ml⟩|⟨LV,Ml⟩
 ·have Kx:=fZ rows B;have Np:=H.ok _ (aZ (d:=[]) hi);have QA:i∉B:=fun hm=>by
   obtain⟨p,hp,e⟩:=mem_at hm;have:=k4 p hp;rw[e]at this;lia
  rcases yx (rows:=sel rows B) hw (by lia) (qR H C.lt) Np.1 Np.2 with⟨km,ns,s1,s2,s3,s4,s5,hs⟩|⟨_,_,_,_,_,o5,_⟩
  ·rw[Kx]at s3 s5;have LN:∀k,k<w->km*(rows.getD i []).getD k 0=sg B.length fun p=>ns.getD p 0*(rows.getD (B.getD p 0) []).getD k 0:=fun k hk=>by
    rw[Us,<-s5 k hk];exact az fun p hp=>by rw[vK rows hp,Us]
   obtain⟨u7,u8,u9,QB⟩:=Fc cS H C J7 hi Ml s3 hs t3 t4 t5 t6 t7 t8 t9;have QB:=QB _ rfl;have Se:=g6 (n:=rows.length) (low:=i) (km:=km) (B:=B) (ns:=ns) B.length;have Nr:∀p,p<B.length->(Ju rows.length i km B ns B.length).getD (B.getD p 0) 0 = -(ns.getD p 0):=fun p hp=>yz C.srt C.lt B.length (Tn _) hp
   have Mm:∀j,j<rows.length->j∉B->(Ju rows.length i km B ns B.length).getD j 0=if j=i then km else 0:=fun j hj hn=>pL C.lt hj B.length (Tn _) fun p hp e=>hn (by rw[<-e];exact iF hp)
   have S6:=vX (n:=rows.length) (low:=i) (B:=B) s2 s4 B.length;have S7:=fun k=>vY (km:=km) (ns:=ns) C.srt C.lt hi QA (fun j=>(rows.getD j []).getD k 0) B.length (Tn _)
   generalize Ju rows.length i km B ns B.length=N at QB Se Nr Mm S6 S7;have S8:∀q∈B,q<N.length:=fun q hq=>by rw[Se];exact C.lt q hq
   cases hf:B.filter fun q=>decide (N.getD q 0<0) with
   |nil=>
    left;refine⟨_,.sum N Se S6 (fun j hj=>?_) ⟨i,hi,by rw[Mm i hi QA,Tw rfl];lia⟩ (fun k hk=>?_),QB.trans (Dl _ _ _ _ _ _ _ i N S8 hf)⟩
    ·by_cases hm:j∈B
     ·have:=V3.mp hf j hm;rw[Xp]at this;lia
     ·rw[Mm j hj hm];split <;> lia
    ·rw[S7 k,LN k hk];lia
   |cons t more=>
    right;obtain⟨f1,f2,f3⟩:=mL C.srt hf;rw[Xp]at f2;obtain⟨B2,v9,c1,c2,c3,hgo⟩:=Fd (some (.f,.lst (rows.map eR))) (some (.f,.int (w:Int))) (some (.f,eR K)) (some (.f,.tup [.str gy,.int km,.lst (ns.map D.int)])) u7 u8 u9 i (by lia) C.srt QA N S8 hf;obtain⟨q,hq,eq⟩:=mem_at f1;have hnq:=Nr q hq;rw[eq]at hnq;refine⟨B2,i,t,C.swap hi hq LN (by lia) c1 (fun j=>by rw[eq];exact c2 j) c3,⟨Vc K,K.getD w 0,km,fun p=>ns.getD p 0,k3,k4,Hr,hfst,s1,LN,fun p hp Sf=>?_,fun p hp Sf=>?_,f1⟩,c2,hi,C.lt t f1,_,_,_,_,_,_,_,QB.trans hgo⟩
    ·have h1:=f3 _ (iF hp) Sf;rw[Ud,Nr p hp]at h1;show ns.getD p 0<=0;lia
    ·have h1:=Nr p hp;rw[Sf]at h1;show 0<ns.getD p 0;lia
  ·rw[Kx]at o5;exact absurd (C.spn i hi) o5
 ·left;refine⟨_,.row (K.take w) (by rw[T8];lia) (fun x hx=>k2 x (VO hx)) (fun j hj=>?_),Dm H C k1 J7 Ml _ _ _ _ _ _ _⟩;rw[Ax];have:=LV j hj;lia
theorem yA(H:Rs rows w):∀(n:Nat) (B:List Nat) (t3 t4 t5 t6 t7 t8 t9:Option R),Ch rows w rows.length B->
  (∃d,Vd rows w d/\cN (Hs (aH (.bl true))) cx n [some (.f,.lst (rows.map eR)),some (.f,.int (w:Int)),some (.l .f,.lst (qD B)),t3,t4,t5,t6,t7,t8,t9]=.ok (.rt (.f,d)))\/
  (∃σ lo le,σ 0=B/\Wk rows w n σ lo le/\∀i,i<n->lo i<rows.length/\le i<rows.length)
 | 0,B,_,_,_,_,_,_,_,_=>.inr ⟨fun _=>B,fun _=>0,fun _=>0,rfl,⟨fun i h=>absurd h (TR i),fun i h=>absurd h (TR i)⟩,fun i h=>absurd h (TR i)⟩
 |n+1,B,t3,t4,t5,t6,t7,t8,t9,C=>by
  have hc:(Hs (aH (.bl true))) [some (.f,.lst (rows.map eR)),some (.f,.int (w:Int)),some (.l .f,.lst (qD B)),t3,t4,t5,t6,t7,t8,t9]=.ok (true,[some (.f,.lst (rows.map eR)),some (.f,.int (w:Int)),some (.l .f,.lst (qD B)),t3,t4,t5,t6,t7,t8,t9]):=rfl;rcases Ay H C t3 t4 t5 t6 t7 t8 t9 with⟨d,v,e⟩|⟨B2,l,t,C2,M,hm,hl,ht,u3,u4,u5,u6,u7,u8,u9,e⟩
  ·left;refine⟨d,v,?_⟩;rw[ju,hc,HY];dsimp only;rw[Tw rfl,e,HY]
  ·rcases yA H n B2 u3 u4 u5 u6 u7 u8 u9 C2 with⟨d,v,e2⟩|⟨σ,lo,le,h0,W,hb⟩
   ·left;refine⟨d,v,?_⟩;rw[ju,hc,HY];dsimp only;rw[Tw rfl,e,HY];exact e2
   ·right;refine⟨fun i=>match i with | 0=>B|i+1=>σ i,fun i=>match i with | 0=>l|i+1=>lo i,fun i=>match i with | 0=>t|i+1=>le i,rfl,⟨fun i hi=>?_,fun i hi j=>?_⟩,fun i hi=>?_⟩
    ·cases i with
     |zero=>exact M
     |succ i=>exact W.mv i (by lia)
    ·cases i with
     |zero=>
      show j∈σ 0<->_;rw[h0];exact hm j
     |succ i=>exact W.nx i (by lia) j
    ·cases i with
     |zero=>exact⟨hl,ht⟩
     |succ i=>exact hb i (by lia)
theorem Az(H:Rs rows w):∃d,Vd rows w d/\c5 [.lst (rows.map eR),.int (w:Int)]=.ok (.f,d):=by
 obtain⟨B,C,Lc⟩:=mJ H;have Mj:G0 (qD B)=true:=by
  rw[cw,V9,Uh];exact fun _ _=>rfl
 rcases yA H 100000 B none none none none none none none C with⟨d,v,e⟩|⟨σ,lo,le,_,W,hb⟩
 ·refine⟨d,v,?_⟩;unfold c5 uT;rw[bt (h:=by rfl)];rw[ax (env':=[some (.f,.lst (rows.map eR)),some (.f,.int (w:Int)),some (.l .f,.lst (qD B)),none,none,none,none,none,none,none]) (by
   generalize rows.map eR=RR at Lc ⊢;generalize qD B=CD at Lc Mj ⊢;simp only[pv,seval,op,Lc,Mj])]
  unfold nX;rw[e];rfl
 ·exfalso;have h:=W.short rows.length 0 100000 (Um _) (Tn _) fun i _ hi=>hb i hi
  have h2:2 ^ rows.length<=2 ^ 12:=Vm (by decide) H.hl;have h3:(2:Nat) ^ 12=4096:=rfl;lia
end
theorem p_whole(x:Int):m__law_whole [.int x]=.ok (.f,.bl true):=by
 have h1:rK "int" (.int x)=true:=rfl;have h2:rK "bool" (.int x)=false:=rfl;unfold m__law_whole jb;rw[bt (h:=by rfl)];simp only[pv,seval,op,h1,h2,Bool.not_false]
theorem lj(l:List Int):ck (aw 0) gT (cK m__law_whole (ag (aj 0) ay)) (l.map D.int) [none]=.ok ((l.map fun _=>true).map D.bl):=by
 rw[cI (r:=fun _:Int=>D.bl true) (fun env=>∃t,env=[t]) l ?_ _ ⟨none,rfl⟩]
 ·rw[TV];rfl
 ·rintro x _ env ⟨t,rfl⟩;have h:=p_whole x;exact⟨[some (.f,.int x)],rfl,.f,[some (.f,.int x)],by simp only[pv,seval,op,h],_,rfl⟩
theorem yB(l:List Int):qo (.bl false) (.lst ((l.map fun _=>true).map D.bl))=.ok (.f,.bl true):=by
 have hp:plainDs 40 ((l.map fun _=>true).map D.bl)=true:=by
  induction l with
  |nil=>rfl
  |cons a l ih=>rw[iS,iS,plainDs,ih];rfl
 have e1:wa (.bl false) ((l.map fun _=>true).map D.bl)=false:=by
  unfold wa;rw[WR,WR,WJ];intro x _;exact TB
 show B9 (.bl false) (.lst ((l.map fun _=>true).map D.bl))=_;unfold B9 NA;dsimp only;rw[hp,show plainD 40 (.bl false)=true from rfl,Vp,Tw rfl,e1];rfl
theorem yC(l:List Int)(h:l.length<=1000):((l.map fun _=>true).map D.bl).length<=sizeLine:=line_le (by rw[bh,bh];lia)
theorem JD(l:List Int):G0 ((l.map fun _=>true).map D.bl)=true:=by
 rw[cw,V9,Uh];exact fun _ _=>rfl
theorem xJ{r:List Int}{w:Nat}(h:r.length=w)(hw:w<=1000):b9 [eR r,.int (w:Int)]=.ok (.f,.bl true):=by
 have h1:rK "tuple" (.tup (r.map D.int))=true:=rfl;have hc:=lj r;have hn:=yB r;have hz:=yC r (by lia);have hf:=JD r;have hq:((w:Int)==(w:Int))=true:=UH _;unfold b9 iw;rw[bt (h:=by rfl)];unfold eR;rw[ax (env':=[some (.f,.tup (r.map D.int)),some (.f,.int (w:Int))]) (by
  simp only[pv,seval,op,h1,bh,h,hq,W7,jg])]
 generalize (cK m__law_whole (ag (aj 0) ay))=FW at hc ⊢;generalize ((r.map fun _=>true).map D.bl)=BL at hc hn hz hf;simp only[pv,seval,op,hc,hn,hz,hf]
theorem Fe{l:List Int}{n:Nat}(h:l.length=n)(hn0:n<=1000):aS [.lst (l.map D.int),.int (n:Int)]=.ok (.f,.bl true):=by
 have h1:rK "list" (.lst (l.map D.int))=true:=rfl;have hc:=lj l;have hn:=yB l;have hz:=yC l (by lia);have hf:=JD l;have hq:((n:Int)==(n:Int))=true:=UH _;unfold aS dG;rw[bt (h:=by rfl)];rw[ax (env':=[some (.f,.lst (l.map D.int)),some (.f,.int (n:Int))]) (by
  simp only[pv,seval,op,h1,bh,h,hq,W7,jg])]
 generalize (cK m__law_whole (ag (aj 0) ay))=FW at hc ⊢;generalize ((l.map fun _=>true).map D.bl)=BL at hc hn hz hf;simp only[pv,seval,op,hc,hn,hz,hf]
theorem rep_int(n:Nat):(List.replicate n [D.int 0]).flatten=(List.replicate n (0:Int)).map D.int:=by
 induction n with
 |zero=>rfl
 |succ n ih=>rw[UO,Ve,ih,UO];rfl
theorem Ff(n:Nat)(h:n<1000):Cn (.tup [.int 0]) (.int (n:Int))=.ok (.f,.tup ((List.replicate n (0:Int)).map D.int)):=by
 rw[CI,Tw ⟨by simp,by show 1<=10;decide,by lia,by lia⟩,Uk,rep_int]
theorem GI(a b:List Int)(h:a=b):eqO (eR a) (eR b)=.ok (.f,.bl true):=by
 subst h;unfold eqO eR;rw[plainD,gv,Ha,oh];simp
theorem Fg{rows:List (List Int)}{ns:List Int}(h:ns.length=rows.length)(k:Nat):co rows ns rows.length k=sg rows.length fun j=>(rows.getD j []).getD k 0*ns.getD j 0:=by
 have key:∀n,n<=rows.length->co rows ns n k=sg n fun j=>(rows.getD j []).getD k 0*ns.getD j 0:=fun n=>by
  induction n with
  |zero=>intro _;rfl
  |succ n ih=>
   intro hn;have:=vi rows ns n k (by lia) (by lia);show co rows ns (n+1) k=sg n _+(rows.getD n []).getD k 0*ns.getD n 0;rw[<-ih (by lia),bI rows n [] (by lia),bI ns n 0 (by lia)];exact this
 exact key rows.length (Tn _)
theorem Dn:eqO (.lst []) (.lst [])=.ok (.f,.bl true):=rfl
theorem xK{N:List Int}(h:∀x∈N,0<=x):ck (aw 0) (Hs (aF Kw (aj 0) (aq (aH (.int 0))))) (aB 0) (N.map D.int) [none]=.ok []:=by
 have hh:=eY (a:=aw 0) (c:=Hs (aF Kw (aj 0) (aq (aH (.int 0))))) (f:=aB 0) (p:=fun _:Int=>false) (r:=D.int) (e:=D.int) (fun env=>∃t,env=[t]) N (by
  rintro x hx env ⟨t,rfl⟩;have Hr:decide (x<0)=false:=Ua (by have:=h x hx;lia);exact⟨[some (.f,.int x)],rfl,[some (.f,.int x)],by simp only[pv,seval,op,Hr],_,rfl⟩) [none] ⟨none,rfl⟩
 rw[hh,V3.mpr fun _ _=>TB];rfl
theorem xM(N:List Int):ck (aw 0) (Hs (aF Oh (aj 0) (aq (aH (.int 0))))) (aB 0) (N.map D.int) [none]=.ok ((N.filter fun x=>decide (0<x)).map D.int):=by
 refine eY (p:=fun x:Int=>decide (0<x)) (fun env=>∃t,env=[t]) N ?_ _ ⟨none,rfl⟩;rintro x hx env ⟨t,rfl⟩;refine⟨[some (.f,.int x)],rfl,[some (.f,.int x)],by simp only[pv,seval,op],?_⟩;cases decide (0<x) with
 |true=>exact⟨.f,[some (.f,.int x)],rfl,_,rfl⟩
 |false=>exact⟨_,rfl⟩
section
variable{rows:List (List Int)}{w:Nat}
theorem Fh(H:Rs rows w){N:List Int}(Mz:N.length=rows.length)(Lp:Bg 8821 N)(h0:∀j,j<rows.length->0<=N.getD j 0)(h1:∃j,j<rows.length/\0<N.getD j 0)(hs:∀k,k<w->sg rows.length (fun j=>N.getD j 0*(rows.getD j []).getD k 0)=0):
  aJ [.tup [.str gy,.lst (N.map D.int)],.lst (rows.map eR),.int (w:Int)]=.ok (.f,.str gy):=by
 have hw:=H.hw;have hl:=H.hl;have S9:rK "tuple" (.tup [.str gy,.lst (N.map D.int)])=true:=rfl;obtain⟨n3,h3,q3⟩:∃n:Int,fO [.tup [.str gy,.lst (N.map D.int)]]=.ok (.f,.int n)/\(n==2)=true:=⟨2,rfl,rfl⟩
 have i0:Hw (.tup [.str gy,.lst (N.map D.int)]) (.int 0)=.ok (.f,.str gy):=rfl;have i1:Hw (.tup [.str gy,.lst (N.map D.int)]) (.int 1)=.ok (.f,.lst (N.map D.int)):=rfl;have q0:(gy==[115,117,109])=true:=rfl;have q1:(gy==[114,111,119])=false:=rfl;have Pj:=Fe (l:=N) (n:=rows.length) Mz (by lia);have LO:fO [.lst (rows.map eR)]=.ok (.f,.int (rows.length:Int)):=by
  show Res.ok (O.f,D.int (((rows.map eR).length:Nat):Int))=_;rw[bh]
 have s1:=yi (n:=175) (m:=8821) (by decide) (by decide) w (by lia) rows N H.ok Lp (by lia) Mz.symm;have s2:=Ff w (by lia);have he:=GI ((List.range w).map (co rows N rows.length)) (List.replicate w 0) (by
  apply List.ext_getElem
  ·rw[bh,TU,WN]
  ·intro k k1 k2;rw[WN]at k2;rw[VY,V5,List.getElem_replicate,Fg Mz];exact Zx (az fun j _=>Us _ _) (hs k k2))
 have he:eqO (eR ((List.range w).map (co rows N rows.length))) (.tup ((List.replicate w (0:Int)).map D.int))=.ok (.f,.bl true):=he;have f1:=cO ((List.range w).map (co rows N rows.length));have O5:=xK (N:=N) fun x hx=>by
  obtain⟨j,hj,e⟩:=Ur hx;have:=h0 j (by lia);rw[bI N j 0 hj,e]at this;exact this
 have O4:=xM N;have I0:Jp (.lst ((N.filter fun x=>decide (0<x)).map D.int)) (.lst [])=.ok (.f,.bl true):=by
  obtain⟨j,j1,j2⟩:=h1;have hm:N.getD j 0∈N.filter fun x=>decide (0<x):=Vg.mpr ⟨aZ (by lia),Ux j2⟩
  cases hF:N.filter fun x=>decide (0<x) with
  |nil=>rw[hF]at hm;cases hm
  |cons a l=>
   have e:plainD 40 (.lst ((a::l).map D.int))=true:=by rw[plainD,gv]
   unfold Jp;rw[e];rfl
 have Ta:((N.filter fun x=>decide (0<x)).map D.int).length<=sizeLine:=line_le (by
  rw[bh];have:=VJ (fun x=>decide (0<x)) N;lia)
 have Tb:=He (N.filter fun x=>decide (0<x));have Qz:=Dn;have z0:0<=sizeLine:=Um _;have f0:G0 []=true:=rfl;unfold aJ eQ;rw[bt (h:=by rfl)];generalize hT:D.tup [.str gy,.lst (N.map D.int)]=TT at S9 h3 i0 i1 ⊢;clear hT;generalize eR ((List.range w).map (co rows N rows.length))=E1 at s1 he f1;generalize D.tup ((List.replicate w (0:Int)).map D.int)=E2 at s2 he;generalize rows.map eR=RR at LO s1 ⊢;generalize (N.filter fun x=>decide (0<x)).map D.int=PN at O4 I0 Ta Tb;generalize N.map D.int=NN at i1 Pj s1 O5 O4;rw[ax (env':=[some (.f,TT),some (.f,.lst RR),some (.f,.int (w:Int))]) (by
  simp only[pv,seval,op,S9,h3,q3,W7,jg])]
 rw[ax (env':=[some (.f,TT),some (.f,.lst RR),some (.f,.int (w:Int))]) (by
  simp only[pv,seval,op,i0,q1,jg])]
 rw[HC];generalize (Hs (aF Kw (aj 0) (aq (aH (.int 0)))))=C1 at O5 ⊢;generalize (Hs (aF Oh (aj 0) (aq (aH (.int 0)))))=C2 at O4 ⊢;have har2:aS [.lst NN,.int (rows.length:Int)]=.ok (.f,.bl true):=Pj;simp only[pv,seval,op,i0,i1,q0,LO,har2,O5,O4,z0,f0,Ta,Tb,Qz,I0,s1,s2,he,f1,UI];rfl
theorem Fi(H:Rs rows w){o:List Int}(ho:o.length=w)(Oi:Bg 8821 o)(h0:∀j,j<rows.length->1<=dt rows w j (Vc o)):
  aJ [.tup [.str gM,eR o],.lst (rows.map eR),.int (w:Int)]=.ok (.f,.str gM):=by
 have hw:=H.hw;have h1:rK "tuple" (.tup [.str gM,eR o])=true:=rfl;obtain⟨n3,h3,q3⟩:∃n:Int,fO [.tup [.str gM,eR o]]=.ok (.f,.int n)/\(n==2)=true:=⟨2,rfl,rfl⟩
 have i0:Hw (.tup [.str gM,eR o]) (.int 0)=.ok (.f,.str gM):=rfl;have i1:Hw (.tup [.str gM,eR o]) (.int 1)=.ok (.f,eR o):=rfl;have q1:(gM==[114,111,119])=true:=rfl;have Tc:=xJ ho (by lia);have Qz:=Dn;have MB:ck (aw 0) (Hs (aF Kw (aq (cK aW (ag (aj 0) (ag (aq (aF Hw (aj 1) (aq (aH (.int 1))))) ay)))) (aq (aH (.int 1))))) (aB 0) (rows.map eR) [none,some (.f,.tup [.str gM,eR o])]=.ok []:=by
  generalize hT:D.tup [.str gM,eR o]=TT at i1 ⊢;clear hT;have h:=eY (a:=aw 0) (c:=(Hs (aF Kw (aq (cK aW (ag (aj 0) (ag (aq (aF Hw (aj 1) (aq (aH (.int 1))))) ay)))) (aq (aH (.int 1)))))) (f:=aB 0) (p:=fun _:List Int=>false) (r:=eR) (e:=eR) (fun env=>∃t,env=[t,some (.f,TT)]) rows (by
   rintro x hx env ⟨t,rfl⟩;obtain⟨j,hj,e⟩:=Ur hx;have QD:=H.ok x hx;have hp:=rY (n:=175) (m:=8821) (by decide) (by decide) x o QD.2 Oi (by rw[QD.1];lia) (by rw[QD.1,ho]);have hd:dot x o=dt rows w j (Vc o):=by
    rw[dot_sg (by rw[QD.1,ho]),QD.1];unfold dt;rw[bI rows j [] hj,e]
   have e0:decide (dot x o<1)=false:=Ua (by have:=h0 j hj;lia);refine⟨[some (.f,eR x),some (.f,TT)],rfl,[some (.f,eR x),some (.f,TT)],?_,_,rfl⟩;generalize eR x=EX at hp ⊢;generalize eR o=EO at hp i1;generalize dot x o=DT at hp e0;simp only[pv,seval,op,i1,hp,e0]) [none,some (.f,TT)] ⟨none,rfl⟩
  rw[h,V3.mpr fun _ _=>TB];rfl
 unfold aJ eQ;rw[bt (h:=by rfl)];generalize hT:D.tup [.str gM,eR o]=TT at h1 h3 i0 i1 MB ⊢;clear hT;generalize eR o=EO at i1 Tc;generalize rows.map eR=RR at MB ⊢;rw[ax (env':=[some (.f,TT),some (.f,.lst RR),some (.f,.int (w:Int))]) (by
  simp only[pv,seval,op,h1,h3,q3,W7,jg])]
 rw[HC];generalize (Hs (aF Kw (aq (cK aW (ag (aj 0) (ag (aq (aF Hw (aj 1) (aq (aH (.int 1))))) ay)))) (aq (aH (.int 1)))))=CC at MB ⊢;have z0:0<=sizeLine:=Um _;have f0:G0 []=true:=rfl;simp only[pv,seval,op,i0,i1,q1,Tc,MB,z0,f0,Qz,UI];rfl
end
def dv(w:Nat)(s:List Int)(x:Nat->Int):Int:=sg w fun k=>s.getD k 0*x k
theorem Dp{n:Nat}{f:Nat->Int}(h:∀k,k<n->0<=f k):0<=sg n f:=by
 induction n with
 |zero=>exact YE _
 |succ n ih=>
  have h1:=ih fun k hk=>h k (by lia)
  have h2:=h n (by lia);show 0<=sg n f+f n;lia
theorem Dq{n:Nat}{f:Nat->Int}(h:∀k,k<n->0<=f k){q:Nat}(hq:q<n)(Hr:0<f q):0<sg n f:=by
 induction n with
 |zero=>lia
 |succ n ih=>
  have h2:=h n (by lia);show 0<sg n f+f n;by_cases e:q=n
  ·subst e;have:=Dp (n:=q) (f:=f) fun k hk=>h k (by lia)
   lia
  ·have:=ih (fun k hk=>h k (by lia)) (by lia);lia
theorem DM{rows:List (List Int)}{w:Nat}{x:Nat->Int}{N:List Int}(hx:∀j,j<rows.length->N.getD j 0≠0->1<=dt rows w j x)(h0:∀j,j<rows.length->0<=N.getD j 0)(h1:∃j,j<rows.length/\0<N.getD j 0)(hs:∀k,k<w->sg rows.length (fun j=>N.getD j 0*(rows.getD j []).getD k 0)=0):False:=by
 obtain⟨q,hq,Hc⟩:=h1;have e:sg rows.length (fun j=>N.getD j 0*dt rows w j x)=0:=by
  have e1:sg rows.length (fun j=>N.getD j 0*dt rows w j x)=sg rows.length fun j=>sg w fun k=>(N.getD j 0*(rows.getD j []).getD k 0)*x k:=az fun j _=>by
   unfold dt;rw[<-cj];exact az fun k _=>(Ue _ _ _).symm
  rw[e1,iU];refine dB fun k hk=>?_
  rw[g0,hs k hk,UM]
 have:=Dq (n:=rows.length) (f:=fun j=>N.getD j 0*dt rows w j x) (fun j hj=>by
  by_cases z:N.getD j 0=0
  ·rw[z,UM];exact YE _
  ·exact Int.mul_nonneg (h0 j hj) (by have:=hx j hj z;lia)) hq (Int.mul_pos Hc (by have:=hx q hq (by lia);lia))
 lia
inductive VW(rows:List (List Int))(w:Nat):D->List Nat->Prop
 |row:∀r:List Int,(∀s∈rows,1<=dv w s (Vc r))->VW rows w (.tup [.str gM,eR r]) gM
 |sum:∀N:List Int,N.length=rows.length->(∀j,j<rows.length->0<=N.getD j 0)->(∃j,j<rows.length/\0<N.getD j 0)->(∀k,k<w->sg rows.length (fun j=>N.getD j 0*(rows.getD j []).getD k 0)=0)->VW rows w (.tup [.str gy,.lst (N.map D.int)]) gy
theorem v3{rows:List (List Int)}{w:Nat}(H:Rs rows w):∃d s,VW rows w d s/\c5 [.lst (rows.map eR),.int (w:Int)]=.ok (.f,d)/\aJ [d,.lst (rows.map eR),.int (w:Int)]=.ok (.f,.str s):=by
 obtain⟨d,v,ha⟩:=Az H;cases v with
 |row r r1 r2 r3=>
  refine⟨_,_,.row r fun s hs=>?_,ha,Fi H r1 r2 r3⟩;obtain⟨j,hj,e⟩:=Ur hs;have:=r3 j hj;unfold dt at this;rw[bI _ _ _ hj,e]at this;exact this
 |sum N n1 n2 n3 n4 n5=>exact⟨_,_,.sum N n1 n3 n4 n5,ha,Fh H n1 n2 n3 n4 n5⟩
theorem yD{rows:List (List Int)}{w:Nat}{d:D}{s:List Nat}(v:VW rows w d s):s=gM\/s=gy:=by
 cases v with
 |row r h=>exact .inl rfl
 |sum N a b c e=>exact .inr rfl
def Mlt(w:Nat)(s r:List Int):Prop:=∃f:Int,1<=f/\∀k,k<w->s.getD k 0=f*r.getD k 0
theorem Mlt.dvs{w:Nat}{s r:List Int}(h:Mlt w s r)(x:Nat->Int):∃f:Int,1<=f/\dv w s x=f*dv w r x:=by
 obtain⟨f,h1,h2⟩:=h;refine⟨f,h1,?_⟩;unfold dv;rw[<-cj];exact az fun k hk=>by rw[h2 k hk,Ue]
theorem Mlt.up{w:Nat}{s r:List Int}(h:Mlt w s r){x:Nat->Int}:1<=dv w s x<->1<=dv w r x:=by
 obtain⟨f,h1,h2⟩:=h.dvs x;rw[h2];constructor
 ·intro h;apply TZ;intro hn;have:=VC (show 0<=f by lia) (show dv w r x<=0 by lia);lia
 ·intro h;have:=Int.mul_pos (show 0<f by lia) (show 0<dv w r x by lia);lia
section
variable{rows A:List (List Int)}{w:Nat}{d e:D}{s t:List Nat}
theorem AB{x:Nat->Int}(h:∀s∈rows,1<=dv w s x):∀j,j<rows.length->1<=dt rows w j x:=fun j hj=>h _ (aZ hj)
theorem AD(v:VW rows w d s)(u:VW A w e t)(h1:∀r∈rows,∃a∈A,Mlt w a r)(h2:∀a∈A,∃r∈rows,Mlt w a r):t=s:=by
 cases v with
 |row r hr=>
  cases u with
  |row _ _=>rfl
  |sum N n1 n2 n3 n4=>exact(DM (x:=Vc r) (fun j hj _=>AB (fun a ha=>by
    obtain⟨r',q1,q2⟩:=h2 a ha;exact q2.up.mpr (hr r' q1)) j hj) n2 n3 n4).elim
 |sum N n1 n2 n3 n4=>
  cases u with
  |sum _ _ _ _ _=>rfl
  |row r hr=>exact(DM (x:=Vc r) (fun j hj _=>AB (fun q hq=>by
    obtain⟨a,q1,q2⟩:=h1 q hq;exact q2.up.mp (hr a q1)) j hj) n2 n3 n4).elim
theorem Dr{r:List Int}(hr:∀s∈rows,1<=dv w s (Vc r))(u:VW A w e t)(h:∀a∈A,a∈rows):t=gM:=by
 cases u with
 |row _ _=>rfl
 |sum N n1 n2 n3 n4=>exact(DM (x:=Vc r) (fun j hj _=>AB (fun a ha=>hr a (h a ha)) j hj) n2 n3 n4).elim
theorem Ds{N:List Int}(n2:∀j,j<rows.length->0<=N.getD j 0)(n3:∃j,j<rows.length/\0<N.getD j 0)(n4:∀k,k<w->sg rows.length (fun j=>N.getD j 0*(rows.getD j []).getD k 0)=0){q:Nat}(hq:N.getD q 0=0)(u:VW A w e t)(h:∀j,j<rows.length->j≠q->rows.getD j []∈A):t=gy:=by
 cases u with
 |sum _ _ _ _ _=>rfl
 |row r hr=>exact(DM (x:=Vc r) (fun j hj I0=>hr _ (h j hj fun e=>I0 (by rw[e];exact hq))) n2 n3 n4).elim
theorem Dt(v:VW [] w d s):s=gM:=by
 cases v with
 |row _ _=>rfl
 |sum N n1 n2 n3 n4=>
  obtain⟨j,hj,_⟩:=n3;exact absurd hj (TR _)
end
theorem p40:(0:Int)<10 ^ 40:=by decide +kernel
theorem Du:qf (.int 10) (.int 40)=.ok (.f,.int (10 ^ 40)):=DI 40 (by decide)
def Ip(x:Int):Nat->Int
 | 0=>x%10 ^ 40
 |k+1=>(Ip x k*Ip x k+48271*Ip x k+7*(k:Int)+1)%(10 ^ 40+121)
theorem Fj(x:Int):∀k,0<=Ip x k/\Ip x k<10 ^ 40+121
 | 0=>by
  have h:=kJ x (10 ^ 40) p40;show 0<=x%10 ^ 40/\x%10 ^ 40<10 ^ 40+121;lia
 |k+1=>kJ _ _ (by decide +kernel)
def NO(x:Int)(k:Nat):Int:=if x%5==4 then Ip x (k+1)%(2*10 ^ 30+1)-10 ^ 30 else Ip x (k+1) / 1000%9-4
def Le(w:Nat)(x:Int):List Int:=(List.range w).map (NO x)
theorem Dv(w:Nat)(x:Int):(Le w x).length=w/\Bg 100 (Le w x):=by
 refine⟨by unfold Le;rw[bh,TU],fun y hy=>?_⟩;obtain⟨k,_,rfl⟩:=pA hy;unfold NO;refine UW (m:=10 ^ 30) ?_ (by decide +kernel);split
 ·have h:=kJ (Ip x (k+1)) (2*10 ^ 30+1) (by decide +kernel);generalize Ip x (k+1)%(2*10 ^ 30+1)=z at h;obtain⟨h1,h2⟩:=h;lia
 ·have h:=kJ (Ip x (k+1) / 1000) 9 (by decide);lia
theorem AE(x:Int)(w k:Nat)(hk:k<1000)(L:List D)(hL:L.length<1000):b6 [some (.f,.int x),some (.f,.int (w:Int)),some (.f,.int (Ip x k)),some (.l .f,.lst L),some (.f,.int (k:Int))]=.ok (.nx [some (.f,.int x),some (.f,.int (w:Int)),some (.f,.int (Ip x (k+1))),some (.l .f,.lst (L++[.int (NO x k)])),some (.f,.int (k:Int))]):=by
 have hb:=Fj x k;have b140:(10:Int) ^ 40+121<2 ^ 140:=by decide +kernel
 have hn:(Ip x k).natAbs<2 ^ 140:=by
  have e:((2:Nat) ^ 140:Int)=2 ^ 140:=by rfl
  lia
 have e1:=sj (x:=Ip x k) (y:=Ip x k) hn hn (by decide) (by decide);have e2:=sj (x:=48271) (y:=Ip x k) (n:=20) (by decide) hn (by decide) (by decide);have e3:iO (.int 7) (.int (k:Int))=.ok (.f,.int (7*(k:Int))):=Gz (by decide) (by lia);have p4:=Du;have p3:=EZ;have m1:=vh (Ip x k*Ip x k+48271*Ip x k+7*(k:Int)+1) (10 ^ 40+121) (by decide +kernel);have m5:=vh x 5 (by decide);have u2:iO (.int 2) (.int (10 ^ 30))=.ok (.f,.int (2*10 ^ 30)):=sj (n:=2) (m:=200) (by decide) (by decide +kernel) (by decide) (by decide);have Sg:=vh (Ip x (k+1)) (2*10 ^ 30+1) (by decide +kernel);have f9:=CJ (Ip x (k+1)) 1000 (by decide) (by decide);have m9:=vh (Ip x (k+1) / 1000) 9 (by decide);have ez:(Ip x k*Ip x k+48271*Ip x k+7*(k:Int)+1)%(10 ^ 40+121)=Ip x (k+1):=rfl;rw[ez]at m1;have hz:L.length<sizeLine:=short (by lia);unfold b6 NO;generalize Ip x (k+1)=z at m1 Sg f9 m9 ⊢;generalize Ip x k=y at e1 e2 m1 ⊢;generalize (10:Int) ^ 40=P4 at p4 m1;generalize (10:Int) ^ 30=P3 at p3 u2 Sg ⊢;rw[ax (env':=[some (.f,.int x),some (.f,.int (w:Int)),some (.f,.int z),some (.l .f,.lst L),some (.f,.int (k:Int))]) (by
  simp only[pv,↓reduceIte,Nat.reduceAdd,Nat.reduceLT,Nat.reduceLeDiff,Nat.reduceEqDiff,op,e1,e2,e3,p4,m1])]
 cases h5:x%5==4 with
 |true=>simp only[pv,↓reduceIte,Nat.reduceAdd,Nat.reduceLT,Nat.reduceLeDiff,Nat.reduceEqDiff,op,m5,h5,p3,u2,Sg,hz,Wq]
 |false=>simp only[pv,↓reduceIte,Nat.reduceAdd,Nat.reduceLT,Nat.reduceLeDiff,Nat.reduceEqDiff,op,m5,h5,f9,m9,hz,jg]
theorem AF(x:Int)(w:Nat)(hw:w<=100):bP [.int x,.int (w:Int)]=.ok (.f,eR (Le w x)):=by
 obtain⟨env',hf,u4,rfl⟩:=px (a:=aw 4) (g:=b6) (e:=fun(k:Nat)=>D.int (k:Int)) w (fun k env=>∃u4,env=[some (.f,.int x),some (.f,.int (w:Int)),some (.f,.int (Ip x k)),some (.l .f,.lst (((List.range k).map (NO x)).map D.int)),u4]) (by
  rintro k env hk ⟨u4,rfl⟩;have e:=AE x w k (by lia) (((List.range k).map (NO x)).map D.int) (by rw[bh,bh,TU];lia);refine⟨[some (.f,.int x),some (.f,.int (w:Int)),some (.f,.int (Ip x k)),some (.l .f,.lst (((List.range k).map (NO x)).map D.int)),some (.f,.int (k:Int))],rfl,_,e,some (.f,.int (k:Int)),?_⟩;rw[Xb,Ub,Ub];rfl) _ ⟨none,rfl⟩
 have p4:=Du;have m1:=vh x (10 ^ 40) p40;have hr:-4611686018427387904<=(w:Int)/\(w:Int)<4611686018427387904:=by lia
 unfold bP jd;rw[bt (h:=by rfl)];rw[ax (env':=[some (.f,.int x),some (.f,.int (w:Int)),some (.f,.int (Ip x 0)),none,none]) (by
  show _=Res.ok (Out.nx [some (.f,.int x),some (.f,.int (w:Int)),some (.f,.int (x%10 ^ 40)),none,none]);generalize x%10 ^ 40=z at m1 ⊢;generalize (10:Int) ^ 40=P4 at p4 m1;simp only[pv,↓reduceIte,Nat.reduceAdd,Nat.reduceLT,Nat.reduceLeDiff,Nat.reduceEqDiff,op,p4,m1])]
 rw[ax (env':=[some (.f,.int x),some (.f,.int (w:Int)),some (.f,.int (Ip x 0)),some (.l .f,.lst []),none]) (by
  generalize Ip x 0=z;simp only[pv,↓reduceIte,Nat.reduceAdd,Nat.reduceLT,Nat.reduceLeDiff,Nat.reduceEqDiff,op])]
 rw[ax (env':=[some (.f,.int x),some (.f,.int (w:Int)),some (.f,.int (Ip x w)),some (.l .f,.lst ((Le w x).map D.int)),u4]) (by
  unfold gI Le;rw[show((List.range 0).map (NO x)).map D.int=[] from rfl]at hf;generalize Ip x 0=z at hf ⊢;generalize b6=BB at hf ⊢;simp only[pv,↓reduceIte,Nat.reduceAdd,Nat.reduceLT,Nat.reduceLeDiff,Nat.reduceEqDiff,op,hr,Uk];exact hf)]
 unfold fU eR;have fl:=He (Le w x);generalize (Le w x).map D.int=L at fl ⊢;simp only[pv,↓reduceIte,Nat.reduceAdd,Nat.reduceLT,Nat.reduceLeDiff,Nat.reduceEqDiff,op,fl]
theorem Dw(i:Nat)(f g:FX)(env:PV.Env):DA i f g env=if oU env i then Res.bnd (f env) (f:=⟨fun p=>Res.bnd (g p.2) (f:=⟨fun q=>match q.2[i]?,p.1.2 with
 |some (some (.l .f,.lst ds)),.int k=>if ds.length<sizeLine/\0<=k/\k.toNat<=ds.length then .ok ((.f,.non),q.2.set i (some (.l .f,.lst (ds.take k.toNat++q.1.2::ds.drop k.toNat)))) else .bad
 |_,_=>.bad⟩)⟩) else .bad:=id rfl
theorem Fl:qf (.int 10) (.int 12)=.ok (.f,.int (10 ^ 12)):=DI 12 (by decide)
theorem pM{α:Type}(A:List α)(x:α)(p:Nat)(s:α):s∈A.take p++x::A.drop p<->s=x\/s∈A:=by
 rw[T3,TF];constructor
 ·rintro(h|h|h)
  ·exact .inr (VO h)
  ·exact .inl h
  ·exact .inr (Yq h)
 ·rintro(h|h)
  ·exact .inr (.inl h)
  ·rw[<-List.take_append_drop p A]at h;rcases wc h with h|h
   ·exact .inl h
   ·exact .inr (.inr h)
theorem AG{α:Type}(A:List α)(x:α){p:Nat}(h:p<=A.length):(A.take p++x::A.drop p).length=A.length+1:=by
 rw[rX,TQ,T8,Uz];lia
section
variable{rows:List (List Int)}{w:Nat}
theorem AH(a0 a3 a4 a5:Option R){c nu:Int}(hc:c.natAbs<2 ^ 100)(hn:nu.natAbs<2 ^ 100)(hw:w<=6){A:List (List Int)}(hA:A.length<=100){r:List Int}(hr:r.length=w/\Bg 100 r):∃(s:List Int) (p:Nat) (Rb:Int),p<=A.length/\(s.length=w/\Bg 145 s)/\Mlt w s r/\Rb.natAbs<2 ^ 100/\
  iy [a0,some (.f,.int (w:Int)),some (.f,.int c),a3,a4,a5,some (.l .f,.lst (A.map eR)),some (.f,.int nu),some (.f,eR r),none,none,none]=.ok (.nx [a0,some (.f,.int (w:Int)),some (.f,.int c),a3,a4,a5,some (.l .f,.lst ((A.take p++s::A.drop p).map eR)),some (.f,.int Rb),some (.f,eR r),none,none,none]):=by
 have e1:=sj (x:=nu) (y:=48271) (n:=100) (m:=20) hn (by decide) (by decide) (by decide);have m1:=vh (nu*48271) 2147483647 (by decide);have b1:=kJ (nu*48271) 2147483647 (by decide);generalize nu*48271=y at e1 m1 b1;generalize y%2147483647=z at m1 b1;have NP:(z+1).natAbs<2 ^ 100:=Ts (m:=2 ^ 32) (by rw[RY];lia) (Vm (by decide) (by decide));have e2:=sj (x:=z+1) (y:=c) (n:=100) (m:=100) NP hc (by decide) (by decide);have Td:=Fl;have m2:=vh ((z+1)*c) (10 ^ 12) (by decide +kernel);have b2:=kJ ((z+1)*c) (10 ^ 12) (by decide +kernel);have f7:=CJ (z+1) 7 (by decide) (by decide);have m3:=vh ((z+1) / 7) ((A.length:Int)+1) (by lia);have b3:=kJ ((z+1) / 7) ((A.length:Int)+1) (by lia);obtain⟨p,hp⟩:=WC b3.1;rw[hp]at m3 b3;generalize (z+1)*c=y2 at e2 m2 b2;generalize hg:y2%10 ^ 12=g at m2 b2;have e12:(10:Int) ^ 12=1000000000000:=by decide +kernel
 have e45:(2:Nat) ^ 45=35184372088832:=by decide +kernel
 have Q9:(1+g).natAbs<2 ^ 45:=by
  rw[e45];rw[e12]at b2;lia
 have hs:=yi (n:=100) (m:=45) (by decide) (by decide) w (by lia) [r] [1+g] (fun q hq=>by rw[si hq];exact hr) (fun x hx=>by rw[si hx];exact Q9) (by show 1<=1000;decide) rfl;have hs:b8 [.lst [eR r],.lst [.int (1+g)],.int (w:Int)]=.ok (.f,eR ((List.range w).map (co [r] [1+g] 1))):=hs;have OX:∀k,co [r] [1+g] 1 k=(1+g)*r.getD k 0:=fun k=>by
  show r.getD k 0*(1+g)+0=_;rw[UX,Us]
 have Kx:((List.range w).map (co [r] [1+g] 1)).length=w:=by rw[bh,TU]
 have Qu:Bg 145 ((List.range w).map (co [r] [1+g] 1)):=fun x hx=>by
  obtain⟨k,_,e⟩:=pA hx;rw[<-e,OX];exact qK (n:=45) (m:=100) Q9 (hr.2.at k)
 have hsm:Mlt w ((List.range w).map (co [r] [1+g] 1)) r:=⟨1+g,by lia,fun k hk=>by rw[eD _ _ _ hk,OX]⟩
 refine⟨(List.range w).map (co [r] [1+g] 1),p,z+1,by lia,⟨Kx,Qu⟩,hsm,NP,?_⟩;have fx:=cO ((List.range w).map (co [r] [1+g] 1));have fr:=cO r;generalize (List.range w).map (co [r] [1+g] 1)=s at hs fx;have LO:fO [.lst (A.map eR)]=.ok (.f,.int (A.length:Int)):=by
  show Res.ok (O.f,D.int (((A.map eR).length:Nat):Int))=_;rw[bh]
 have Te:(A.map eR).length<sizeLine/\0<=(p:Int)/\(p:Int).toNat<=(A.map eR).length:=⟨short (by rw[bh];lia),by lia,by rw[bh];lia⟩
 have hR:(A.take p++s::A.drop p).map eR=(A.map eR).take (p:Int).toNat++eR s::(A.map eR).drop (p:Int).toNat:=by
  rw[Ub,iS,List.map_take,List.map_drop,Uk]
 rw[hR];unfold iy;generalize (A.length:Int)=NL at LO m3;generalize A.map eR=RR at LO Te ⊢;generalize eR s=ES at hs fx ⊢;generalize eR r=ER at hs fr ⊢;generalize (10:Int) ^ 12=P12 at Td m2;rw[ax (env':=[a0,some (.f,.int (w:Int)),some (.f,.int c),a3,a4,a5,some (.l .f,.lst RR),some (.f,.int (z+1)),some (.f,ER),none,none,none]) (by
  simp only[pv,↓reduceIte,Nat.reduceAdd,Nat.reduceLT,Nat.reduceLeDiff,Nat.reduceEqDiff,op,e1,m1])]
 generalize z+1=z1 at e2 f7 m3 ⊢;simp only[pv,↓reduceIte,Nat.reduceAdd,Nat.reduceLT,Nat.reduceLeDiff,Nat.reduceEqDiff,op,Dw,LO,f7,m3,e2,Td,m2,hs,fx,fr];rw[Tw Te];rfl
theorem AI(a0 a4 a5:Option R){c:Int}(hc:c.natAbs<2 ^ 100)(hw:w<=6)(hl:rows.length<=12)(hr:∀r∈rows,r.length=w/\Bg 100 r)(o3:O)(ho:o3=.f\/o3=.l .f):∃(A:List (List Int)) (t7 t8:Option R),Rs A w/\(∀r∈rows,∃a∈A,Mlt w a r)/\(∀a∈A,∃r∈rows,Mlt w a r)/\
  pd [a0,some (.f,.int (w:Int)),some (.f,.int c),some (o3,.lst (rows.map eR)),a4,a5,some (.l .f,.lst []),some (.f,.int c),none,none,none,none]=.ok (.nx [a0,some (.f,.int (w:Int)),some (.f,.int c),some (.f,.lst (rows.map eR)),a4,a5,some (.l .f,.lst (A.map eR)),t7,t8,none,none,none]):=by
 obtain⟨env',hf,A,nu,t8,g1,g2,g3,g4,rfl⟩:=for_list (a:=aw 8) (g:=iy) (e:=eR) rows (fun k env=>∃(A:List (List Int)) (nu:Int) (t8:Option R),A.length=k/\(∀a∈A,(a.length=w/\Bg 145 a)/\∃r∈rows,Mlt w a r)/\(∀j,j<k->∃a∈A,Mlt w a (rows.getD j []))/\nu.natAbs<2 ^ 100/\env=[a0,some (.f,.int (w:Int)),some (.f,.int c),some (.f,.lst (rows.map eR)),a4,a5,some (.l .f,.lst (A.map eR)),some (.f,.int nu),t8,none,none,none]) (by
  rintro k r env hx ⟨A,nu,t8,g1,g2,g3,g4,rfl⟩;obtain⟨hk,ex⟩:=yg hx;have Rc:=UL hx;have Py:rows.getD k []=r:=by rw[bI rows k [] hk];exact ex
  obtain⟨s,p,Rb,h1,h2,h3,h4,e⟩:=AH a0 (some (.f,.lst (rows.map eR))) a4 a5 hc g4 hw (A:=A) (by lia) (hr r Rc);refine⟨[a0,some (.f,.int (w:Int)),some (.f,.int c),some (.f,.lst (rows.map eR)),a4,a5,some (.l .f,.lst (A.map eR)),some (.f,.int nu),some (.f,eR r),none,none,none],rfl,_,e,A.take p++s::A.drop p,Rb,_,by rw[AG A s h1,g1],fun a ha=>?_,fun j hj=>?_,h4,rfl⟩
  ·rcases(pM A s p a).mp ha with e|e
   ·rw[e];exact⟨h2,r,Rc,h3⟩
   ·exact g2 a e
  ·by_cases ej:j=k
   ·rw[ej,Py];exact⟨s,(pM A s p s).mpr (.inl rfl),h3⟩
   ·obtain⟨a,a1,a2⟩:=g3 j (by lia);exact⟨a,(pM A s p a).mpr (.inr a1),a2⟩) [a0,some (.f,.int (w:Int)),some (.f,.int c),some (.f,.lst (rows.map eR)),a4,a5,some (.l .f,.lst (([]:List (List Int)).map eR)),some (.f,.int c),none,none,none,none] ⟨[],c,none,rfl,(fun _ h=>nomatch h),(fun j hj=>absurd hj (TR j)),hc,rfl⟩
 refine⟨A,some (.f,.int nu),t8,⟨hw,by lia,fun a ha=>⟨(g2 a ha).1.1,(g2 a ha).1.2.mono (by decide)⟩⟩,fun r Rc=>?_,fun a ha=>(g2 a ha).2,?_⟩
 ·obtain⟨j,hj,e⟩:=Ur Rc;obtain⟨a,a1,a2⟩:=g3 j hj;rw[bI rows j [] hj,e]at a2;exact⟨a,a1,a2⟩
 ·unfold pd;rw[Vs]at hf;generalize iy=BB at hf ⊢;generalize rows.map eR=RR at hf ⊢;generalize A.map eR=AA at hf ⊢;rcases ho with rfl|rfl
  ·simp only[pv,seval,op];exact hf
  ·simp only[pv,seval,op];exact hf
end
theorem eq_nilR(rows:List (List Int)):eqO (.lst (rows.map eR)) (.lst [])=.ok (.f,.bl rows.isEmpty):=by
 have hp:plainDs 39 (rows.map eR)=true:=by
  induction rows with
  |nil=>rfl
  |cons r rows ih=>
   rw[iS,plainDs,ih,W6];show plainD 39 (.tup (r.map D.int))=true;rw[plainD];exact gv _ _
 unfold eqO;rw[plainD,hp];cases rows <;> rfl
theorem oD(ns:List Int)(k:Nat):aX [.lst (ns.map D.int),.int (k:Int)]=.ok (.f,.int (ns.getD k 0)):=by
 unfold aX gH;rw[bt (h:=by rfl)];simp only[pv,seval,op,bh];by_cases h:k<ns.length
 ·have h1:(k:Int)<(ns.length:Int):=by lia
  have h2:Jw (ns.map D.int) (k:Int)=some (.int (ns.getD k 0)):=fG (by rw[TN,Th,g9 h];rfl);simp only[h1,decide_true,pv,seval,h2]
 ·have h1:¬ (k:Int)<(ns.length:Int):=by lia
  simp only[h1,decide_false,pv,seval,jg,Th,Wb (Nat.le_of_not_lt h),XQ]
theorem AJ{α:Type}(l:List α):(g7 l (some 2) (some 12)).length<=10:=by
 have e1:HT.sIx l.length 0 (some 2)=min 2 l.length:=by
  show(if(2:Int)<0 then((2:Int)+(l.length:Int)).toNat else min (2:Int).toNat l.length)=_;rw[TC (by decide)];rfl
 have e2:HT.sIx l.length l.length (some 12)=min 12 l.length:=by
  show(if(12:Int)<0 then((12:Int)+(l.length:Int)).toNat else min (12:Int).toNat l.length)=_;rw[TC (by decide)];rfl
 unfold g7;rw[e1,e2,T8,Uz];lia
theorem GJ(s:List Nat):eqO (.str s) (.str s)=.ok (.f,.bl true):=by
 unfold eqO;rw[show plainD 40 (.str s)=true from rfl];simp[Ha]
theorem GK(s:List Nat):Jp (.str s) (.str s)=.ok (.f,.bl false):=by
 unfold Jp;rw[show plainD 40 (.str s)=true from rfl];simp[Ha]
section
variable{rows A:List (List Int)}{w:Nat}{d:D}{s:List Nat}
theorem AK(S0:D)(c:Int)(HA:Rs A w)(v:VW rows w d s)(h1:∀r∈rows,∃a∈A,Mlt w a r)(h2:∀a∈A,∃r∈rows,Mlt w a r)(t7 t8:Option R):∃t6 u7 u8:Option R,Jm (Hs (a7 Jp (aq (cK aJ (ag (aq (cK c5 (ag (aj 6) (ag (aj 1) ay)))) (ag (aj 6) (ag (aj 1) ay))))) (aj 5))) (dJ (aH (.bl false))) cY [some (.f,S0),some (.f,.int (w:Int)),some (.f,.int c),some (.f,.lst (rows.map eR)),some (.f,d),some (.f,.str s),some (.l .f,.lst (A.map eR)),t7,t8,none,none,none]=.ok (.nx [some (.f,S0),some (.f,.int (w:Int)),some (.f,.int c),some (.f,.lst (rows.map eR)),some (.f,d),some (.f,.str s),t6,u7,u8,none,none,none]):=by
 obtain⟨dA,sA,vA,ha,hk⟩:=v3 HA;have e:sA=s:=AD v vA h1 h2;subst e;have hn:=GK sA;generalize A.map eR=AA at ha hk ⊢;generalize rows.map eR=RR;cases hf:cz dA with
 |true=>
  refine⟨some (.l .f,.lst AA),t7,t8,?_⟩;simp only[pv,seval,op,ha,hk,hf,hn,jg]
 |false=>
  refine⟨some (.f,.lst AA),frz t7,frz t8,?_⟩;simp only[pv,seval,op,ha,hk,hf,hn,iS,Vs,AS,AU,jg]
theorem AL(S0:D)(c:Int){F:List (List Int)}(HF:Rs F w)(t6 u7 u8:Option R)(q:Nat):∃(dF:D) (t:List Nat) (v6 v7 v8 v10:Option R),VW F w dF t/\cM 11 (cK aJ (ag (aq (cK c5 (ag (aj 10) (ag (aj 1) ay)))) (ag (aj 10) (ag (aj 1) ay)))) [some (.f,S0),some (.f,.int (w:Int)),some (.f,.int c),some (.f,.lst (rows.map eR)),some (.f,d),some (.f,.str s),t6,u7,u8,some (.f,.int (q:Int)),some (.l .f,.lst (F.map eR)),none]=.ok (.nx [some (.f,S0),some (.f,.int (w:Int)),some (.f,.int c),some (.f,.lst (rows.map eR)),some (.f,d),some (.f,.str s),v6,v7,v8,some (.f,.int (q:Int)),v10,some (.f,.str t)]):=by
 obtain⟨dF,t,v,ha,hk⟩:=v3 HF;generalize F.map eR=AA at ha hk ⊢;generalize rows.map eR=RR;cases hf:cz dF with
 |true=>
  refine⟨dF,t,t6,u7,u8,some (.l .f,.lst AA),v,?_⟩;simp only[pv,seval,op,ha,hk,hf]
 |false=>
  refine⟨dF,t,frz t6,frz u7,frz u8,some (.f,.lst AA),v,?_⟩;simp only[pv,seval,op,ha,hk,hf,iS,Vs,AS,AU,jg]
theorem Dx(S0:D)(c:Int)(H:Rs rows w)(HA:Rs A w)(v:VW rows w d s)(h1:∀r∈rows,∃a∈A,Mlt w a r)(h2:∀a∈A,∃r∈rows,Mlt w a r)(t7 t8:Option R):∃o,l8 [some (.f,S0),some (.f,.int (w:Int)),some (.f,.int c),some (.f,.lst (rows.map eR)),some (.f,d),some (.f,.str s),some (.l .f,.lst (A.map eR)),t7,t8,none,none,none]=.ok (.rt (o,.bl true)):=by
 obtain⟨t6,u7,u8,e1⟩:=AK S0 c HA v h1 h2 t7 t8;refine⟨.f,?_⟩;unfold l8;rw[ax e1];have KL:=eq_nilR rows;have hs:=GJ s;cases hem:rows.isEmpty with
 |true=>
  have hr0:rows=[]:=List.isEmpty_iff.mp hem;rw[hem]at KL;subst hr0;have es:=Dt v;subst es;have hs:eqO (.str gM) (.str [114,111,119])=.ok (.f,.bl true):=lh;rw[HC];generalize ([]:List (List Int)).map eR=RR at KL ⊢;generalize gM=SS at hs ⊢;simp only[pv,seval,op,KL,hs]
 |false=>
  rw[hem]at KL;have O6:0<rows.length:=by
   cases rows with
   |nil=>cases hem
   |cons a l=>exact Wu _
  have hl:=H.hl;rw[ax (env':=[some (.f,S0),some (.f,.int (w:Int)),some (.f,.int c),some (.f,.lst (rows.map eR)),some (.f,d),some (.f,.str s),t6,u7,u8,none,none,none]) (by
   generalize rows.map eR=RR at KL ⊢;simp only[pv,seval,op,KL,jg])]
  have LO:fO [.lst (rows.map eR)]=.ok (.f,.int (rows.length:Int)):=by
   show Res.ok (O.f,D.int (((rows.map eR).length:Nat):Int))=_;rw[bh]
  have mq:=vh c (rows.length:Int) (by lia);have bq:=kJ c (rows.length:Int) (by lia);obtain⟨q,hq⟩:=WC bq.1;rw[hq]at mq bq;have Sb:q<rows.length:=by lia
  rw[ax (env':=[some (.f,S0),some (.f,.int (w:Int)),some (.f,.int c),some (.f,.lst (rows.map eR)),some (.f,d),some (.f,.str s),t6,u7,u8,some (.f,.int (q:Int)),none,none]) (by
   generalize (rows.length:Int)=NL at LO mq;generalize rows.map eR=RR at LO ⊢;simp only[pv,seval,op,LO,mq])]
  have c1:g7 (rows.map eR) none (some (q:Int))=(rows.take q).map eR:=by rw[iT,xo]
  have c2:g7 (rows.map eR) (some ((q:Int)+1)) none=(rows.drop (q+1)).map eR:=by
   rw[iT,show(q:Int)+1=((q+1:Nat):Int) by lia,xp]
  have JS:g8 (.lst ((rows.take q).map eR)) (.lst ((rows.drop (q+1)).map eR))=.ok (.l .f,.lst ((rows.take q++rows.drop (q+1)).map eR)):=by
   rw[pw,Tw (line_le (by rw[bh,bh,T8,Uz];lia)),Ub]
  have fF:=ke (rows.take q++rows.drop (q+1));have Tf:∀a∈rows.take q++rows.drop (q+1),a∈rows:=fun a ha=>by
   rcases wc ha with h|h
   ·exact VO h
   ·exact Yq h
  have hFj:∀j,j<rows.length->j≠q->rows.getD j []∈rows.take q++rows.drop (q+1):=fun j hj I0=>by
   rw[bI rows j [] hj];rcases Nat.lt_or_gt_of_ne I0 with h|h
   ·refine Tx _ (Vh.mpr ⟨j,?_⟩);rw[V7,Tw h,g9 hj]
   ·refine Tp _ (Vh.mpr ⟨j-(q+1),?_⟩);rw[YL,show q+1+(j-(q+1))=j by lia,g9 hj]
  have HF:Rs (rows.take q++rows.drop (q+1)) w:=⟨H.hw,by rw[rX,T8,Uz];lia,fun a ha=>H.ok a (Tf a ha)⟩
  rw[ax (env':=[some (.f,S0),some (.f,.int (w:Int)),some (.f,.int c),some (.f,.lst (rows.map eR)),some (.f,d),some (.f,.str s),t6,u7,u8,some (.f,.int (q:Int)),some (.l .f,.lst ((rows.take q++rows.drop (q+1)).map eR)),none]) (by
   have f1:=ke (rows.take q);have f2:=ke (rows.drop (q+1));generalize (rows.take q++rows.drop (q+1)).map eR=FF at JS fF ⊢;generalize (rows.take q).map eR=F1 at c1 JS f1;generalize (rows.drop (q+1)).map eR=F2 at c2 JS f2;generalize rows.map eR=RR at c1 c2 ⊢;simp only[pv,seval,op,c1,c2,JS,f1,f2,fF])]
  obtain⟨dF,t,v6,v7,v8,v10,vF,e3⟩:=AL (rows:=rows) (d:=d) (s:=s) S0 c HF t6 u7 u8 q;rw[ax e3];have SK:(t==([]:List Nat))=false:=by
   rcases yD vF with e|e <;> rw[e] <;> rfl
  rw[ax (env':=[some (.f,S0),some (.f,.int (w:Int)),some (.f,.int c),some (.f,.lst (rows.map eR)),some (.f,d),some (.f,.str s),v6,v7,v8,some (.f,.int (q:Int)),v10,some (.f,.str t)]) (by
   generalize rows.map eR=RR;simp only[pv,seval,op,SK,jg])]
  cases v with
  |row r hr=>
   have et:=Dr hr vF Tf;subst et;have hb:(gM==[114,111,119])=true:=rfl;rw[HC];generalize rows.map eR=RR;generalize D.tup [.str gM,eR r]=DD;generalize gM=SS at hb hs ⊢;simp only[pv,seval,op,hb,hs]
  |sum N n1 n2 n3 n4=>
   have hb:(gy==[114,111,119])=false:=rfl;have i1:Hw (.tup [.str gy,.lst (N.map D.int)]) (.int 1)=.ok (.f,.lst (N.map D.int)):=rfl;have HV:=ka (l:=N) (k:=q) (by lia);by_cases hz:N.getD q 0=0
   ·have et:=Ds n2 n3 n4 hz vF hFj;subst et;have N5:(N.getD q 0==0)=true:=Uc.mpr hz;rw[HC];generalize N.getD q 0=y at HV N5;generalize N.map D.int=NN at i1 HV ⊢;generalize hT:D.tup [.str gy,.lst NN]=DD at i1 ⊢;clear hT;generalize rows.map eR=RR;generalize gy=SS at hb hs ⊢;simp only[pv,seval,op,hb,hs,i1,HV,N5,jg]
   ·have N5:(N.getD q 0==0)=false:=Ug.mpr hz;generalize N.getD q 0=y at HV N5;generalize N.map D.int=NN at i1 HV ⊢;generalize hT:D.tup [.str gy,.lst NN]=DD at i1 ⊢;clear hT;generalize rows.map eR=RR;generalize gy=SS at hb hs ⊢;rw[ax (env':=[some (.f,S0),some (.f,.int (w:Int)),some (.f,.int c),some (.f,.lst RR),some (.f,DD),some (.f,.str SS),v6,v7,v8,some (.f,.int (q:Int)),v10,some (.f,.str t)]) (by
     simp only[pv,seval,op,hb,i1,HV,N5,jg])]
    simp only[pv,seval,op]
end
theorem law_plain(ns:List Int)(h:ns.length<=63):∃o,m_law [.lst (ns.map D.int)]=.ok (o,.bl true):=by
 have c0:=oD ns 0;have c1:=oD ns 1;have m0:=vh (ns.getD 0 0) 4 (by decide);have b0:=kJ (ns.getD 0 0) 4 (by decide);have Tg:qf (.int 10) (.int 20)=.ok (.f,.int (10 ^ 20)):=DI 20 (by decide);have m1:=vh (ns.getD 1 0) (10 ^ 20) (by decide +kernel);have b1:=kJ (ns.getD 1 0) (10 ^ 20) (by decide +kernel);have hc:(ns.getD 1 0%10 ^ 20).natAbs<2 ^ 100:=by
  have e:(10:Int) ^ 20<2 ^ 100:=by decide +kernel
  have e2:((2:Nat) ^ 100:Int)=2 ^ 100:=rfl;lia
 obtain⟨w0,hw0⟩:=WC b0.1;rw[hw0]at m0 b0;have Ll:(1:Int)+(w0:Int)=((w0+1:Nat):Int):=by lia
 have hw4:w0+1<=4:=by lia
 generalize ns.getD 0 0=x0 at c0 m0;generalize MD:ns.getD 1 0%10 ^ 20=c at m1 b1 hc;clear MD b1;generalize ns.getD 1 0=x1 at c1 m1;have Jt:g7 (ns.map D.int) (some 2) (some 12)=(g7 ns (some 2) (some 12)).map D.int:=iT _ _ _ _;have IB:=AJ ns;generalize g7 ns (some 2) (some 12)=cs at Jt IB;have c0:aX [.lst (ns.map D.int),.int 0]=.ok (.f,.int x0):=c0;have c1:aX [.lst (ns.map D.int),.int 1]=.ok (.f,.int x1):=c1;generalize w0+1=w at Ll hw4;have MB:ck (aw 0) gT (cK bP (ag (aj 0) (ag (aj 1) ay))) (cs.map D.int) [none,some (.f,.int (w:Int))]=.ok ((cs.map (Le w)).map eR):=by
  rw[cI (r:=fun x:Int=>eR (Le w x)) (fun env=>∃t,env=[t,some (.f,.int (w:Int))]) cs ?_ _ ⟨none,rfl⟩]
  ·rw[TV];rfl
  ·rintro x hx env ⟨t,rfl⟩;have hm:=AF x w (by lia);have fm:=cO (Le w x);refine⟨[some (.f,.int x),some (.f,.int (w:Int))],rfl,.f,[some (.f,.int x),some (.f,.int (w:Int))],?_,_,rfl⟩;generalize eR (Le w x)=EM at hm fm ⊢;simp only[pv,↓reduceIte,Nat.reduceAdd,Nat.reduceLT,Nat.reduceLeDiff,Nat.reduceEqDiff,op,hm,fm]
 have Pw:(cs.map (Le w)).length<=10:=by rw[bh];exact IB
 have Py:∀r∈cs.map (Le w),r.length=w/\Bg 100 r:=fun r hr=>by
  obtain⟨x,_,e⟩:=pA hr;rw[<-e];exact Dv w x
 generalize cs.map (Le w)=rows at MB Pw Py;have H:Rs rows w:=⟨by lia,by lia,fun r hr=>⟨(Py r hr).1,(Py r hr).2.mono (by decide)⟩⟩
 have fr:=ke rows;have hz:(rows.map eR).length<=sizeLine:=line_le (by rw[bh];lia);generalize cs.map D.int=CS at Jt MB;generalize ns.map D.int=NS at c0 c1 Jt ⊢;obtain⟨d,s,v,ha,hk⟩:=v3 H;have hs0:(s==([]:List Nat))=false:=by
  rcases yD v with e|e <;> rw[e] <;> rfl
 unfold m_law Cq;rw[bt (h:=by rfl)];rw[ax (env':=[some (.f,.lst NS),some (.f,.int (w:Int)),none,none,none,none,none,none,none,none,none,none]) (by
  rw[<-Ll];generalize (w0:Int)=W0 at m0;simp only[pv,↓reduceIte,Nat.reduceAdd,Nat.reduceLT,Nat.reduceLeDiff,Nat.reduceEqDiff,op,c0,m0])]
 rw[ax (env':=[some (.f,.lst NS),some (.f,.int (w:Int)),some (.f,.int c),none,none,none,none,none,none,none,none,none]) (by
  generalize (10:Int) ^ 20=P at Tg m1;simp only[pv,↓reduceIte,Nat.reduceAdd,Nat.reduceLT,Nat.reduceLeDiff,Nat.reduceEqDiff,op,c1,Tg,m1])]
 rw[ax (env':=[some (.f,.lst NS),some (.f,.int (w:Int)),some (.f,.int c),some (.l .f,.lst (rows.map eR)),none,none,none,none,none,none,none,none]) (by
  generalize rows.map eR=RR at MB fr hz ⊢;generalize (cK bP (ag (aj 0) (ag (aj 1) ay)))=FM at MB ⊢;simp only[pv,↓reduceIte,Nat.reduceAdd,Nat.reduceLT,Nat.reduceLeDiff,Nat.reduceEqDiff,op,Jt,MB,fr,hz])]
 have e4:∃o3:O,(o3=.f\/o3=.l .f)/\cM 4 (cK c5 (ag (aq (bL oV (ag (aj 3) ay))) (ag (aj 1) ay))) [some (.f,.lst NS),some (.f,.int (w:Int)),some (.f,.int c),some (.l .f,.lst (rows.map eR)),none,none,none,none,none,none,none,none]=.ok (.nx [some (.f,.lst NS),some (.f,.int (w:Int)),some (.f,.int c),some (o3,.lst (rows.map eR)),some (.f,d),none,none,none,none,none,none,none]):=by
  generalize rows.map eR=RR at ha fr ⊢;cases hf:cz d with
  |true=>exact⟨.l .f,.inr rfl,by simp only[pv,↓reduceIte,Nat.reduceAdd,Nat.reduceLT,Nat.reduceLeDiff,Nat.reduceEqDiff,op,ha,hf,fr]⟩
  |false=>exact⟨.f,.inl rfl,by simp only[pv,↓reduceIte,Nat.reduceAdd,Nat.reduceLT,Nat.reduceLeDiff,Nat.reduceEqDiff,op,ha,hf,fr,iS,Vs,AS,AU,jg]⟩
 obtain⟨o3,ho,e4⟩:=e4;rw[ax e4];rw[ax (env':=[some (.f,.lst NS),some (.f,.int (w:Int)),some (.f,.int c),some (o3,.lst (rows.map eR)),some (.f,d),some (.f,.str s),none,none,none,none,none,none]) (by
  generalize rows.map eR=RR at hk ⊢;rcases ho with rfl|rfl <;> simp only[pv,↓reduceIte,Nat.reduceAdd,Nat.reduceLT,Nat.reduceLeDiff,Nat.reduceEqDiff,op,hk])]
 rw[ax (env':=[some (.f,.lst NS),some (.f,.int (w:Int)),some (.f,.int c),some (o3,.lst (rows.map eR)),some (.f,d),some (.f,.str s),none,none,none,none,none,none]) (by
  generalize rows.map eR=RR;simp only[pv,↓reduceIte,Nat.reduceAdd,Nat.reduceLT,Nat.reduceLeDiff,Nat.reduceEqDiff,op,hs0,jg])]
 rw[ax (env':=[some (.f,.lst NS),some (.f,.int (w:Int)),some (.f,.int c),some (o3,.lst (rows.map eR)),some (.f,d),some (.f,.str s),some (.l .f,.lst []),none,none,none,none,none]) (by
  generalize rows.map eR=RR;simp only[pv,↓reduceIte,Nat.reduceAdd,Nat.reduceLT,Nat.reduceLeDiff,Nat.reduceEqDiff,op])]
 rw[ax (env':=[some (.f,.lst NS),some (.f,.int (w:Int)),some (.f,.int c),some (o3,.lst (rows.map eR)),some (.f,d),some (.f,.str s),some (.l .f,.lst []),some (.f,.int c),none,none,none,none]) (by
  generalize rows.map eR=RR;simp only[pv,↓reduceIte,Nat.reduceAdd,Nat.reduceLT,Nat.reduceLeDiff,Nat.reduceEqDiff,op])]
 obtain⟨A,t7,t8,HA,q1,q2,e5⟩:=AI (some (.f,.lst NS)) (some (.f,d)) (some (.f,.str s)) hc (by lia) (by lia) Py o3 ho;rw[ax e5];obtain⟨o,e6⟩:=Dx (.lst NS) c H HA v q1 q2 t7 t8;rw[e6,HY];exact⟨o,rfl⟩
end LW
namespace FIN
open PySem PySem.Spec PyProof.Rows L2 NX PV LW
theorem Dy{l:PySem.W.OpenLaw}{w:World}{K:W.Frag}{h:Heap}{mg:Str->Option Value}{fa f:Addr}{od an:Option Addr}{sl:Array (Option Value)}{oc kV dc pm cd ct:Value}(X:K.In h)(G:h.Ns mainGlobals mg)(hfa:mg "law" = some (.ref fa))
  (aL:PySem.W.nsIn K mainGlobals "law" = some (some (.ref f))) (lL:K.lookup f=some ⟨oc,od,.func (PySem.W.fnOf "law" "law" (eE mr) (cP mr) (defScope mr) .none kV dc pm an cd ct),sl⟩) (cL:PySem.W.codeIn K cd "law" = true) (kL:PySem.W.keepIn K (.ref f)=true)
  (Kh:Def K mg "product" j4) (KP:Def K mg "summed" l9) (HW:Def K mg "common_divisor" c7) (KQ:Def K mg "lowest" ma) (Ki:Def K mg "cleared" j5) (IG:Def K mg "with_leader" eS) (Jf:Def K mg "leaders_of" fV) (Jg:Def K mg "kernel_row" fW) (KR:Def K mg "kernel" mh) (IH:Def K mg "closing_row" eT) (Kj:Def K mg "spanned" j6) (II:Def K mg "independent" eU) (Jv:Def K mg "level_row" gX) (IJ:Def K mg "first_below" eV) (Ls:Def K mg "above" pe) (Iq:Def K mg "_law_product" dU) (JU:Def K mg "_law_sum" iQ) (Jh:Def K mg "_law_whole" fX) (IK:Def K mg "_law_is_row" eW) (HP:Def K mg "_law_are_numbers" cG) (IL:Def K mg "_law_walked" eX) (Ir:Def K mg "_law_cell_at" dW) (Ji:Def K mg "_law_mixed" fY)
  (Kf:PySem.W.nsIn K mainGlobals "abs" = some none) (Kp:PySem.W.nsIn K mainGlobals "bool" = some none) (Ho:PySem.W.nsIn K mainGlobals "enumerate" = some none) (Ln:PySem.W.nsIn K mainGlobals "int" = some none) (Hb:PySem.W.nsIn K mainGlobals "isinstance" = some none) (Hn:PySem.W.nsIn K mainGlobals "len" = some none) (Ik:PySem.W.nsIn K mainGlobals "list" = some none) (Ht:PySem.W.nsIn K mainGlobals "range" = some none) (Jd:PySem.W.nsIn K mainGlobals "sorted" = some none) (Ke:PySem.W.nsIn K mainGlobals "sum" = some none) (Hi:PySem.W.nsIn K mainGlobals "tuple" = some none) (ID:PySem.W.nsIn K mainGlobals "zip" = some none):
  ∃fd:FuncData,(∀(s:Shared) (v:Value),BindsTo s fd ⟨[v],[]⟩ [("_law_script",v)])/\∀base:Heap,K.In base->base.Ns mainGlobals mg->FnOk l.prog w K mg base LQ 9 fa fd ["_law_script"] (w5 K):=by
 have e:=hfa.symm.trans (PySem.W.mg_of X G aL);cases e;have F:=xQ (st:=mr) lL cL kL;have NQ:=Uw X G Kf;have y_bool:=Uw X G Kp;have Iu:=Uw X G Ho;have QF:=Uw X G Ln;have HL:=Uw X G Hb;have IM:=Uw X G Hn;have Lf:=Uw X G Ik;have Iw:=Uw X G Ht;have Mn:=Uw X G Jd;have NR:=Uw X G Ke;have HQ:=Uw X G Hi;have Lu:=Uw X G ID;refine⟨PySem.W.fnOf "law" "law" (eE mr) (cP mr) (defScope mr) .none kV dc pm an cd ct,fun s v=>.of_eq rfl,fun base KB GB=>?_⟩;have Kk:Ct l.prog w K mg base "product" 1 (spF K bY):=rS Kh NR Lu;have Mo:Ct l.prog w K mg base "summed" 1 (spF K eN):=uV KP Iw NR HQ Lu;have HX:Ct l.prog w K mg base "common_divisor" 1 (spF K aT):=iP HW NQ;have JV:Ct l.prog w K mg base "lowest" 2 (spF K cm):=uW KQ HX HQ;have Kl:Ct l.prog w K mg base "cleared" 2 (spF K cD):=rV Ki Mo IM;have J8:Ct l.prog w K mg base "with_leader" 3 (spM K (.d) bE):=kz IG Kl JV;have Jj:Ct l.prog w K mg base "leaders_of" 4 (spF K aK):=me Jf Kl JV J8 Iu IM;have cZ:Ct l.prog w K mg base "kernel_row" 3 (spM K (.d) aI):=mf Jg HX JV NQ HQ;have Mp:Ct l.prog w K mg base "kernel" 5 (spF K gs):=uX KR cZ Jj Iw;have IP:Ct l.prog w K mg base "closing_row" 5 (spF K bo):=kA IH cZ Jj;have Km:Ct l.prog w K mg base "spanned" 6 (spF K bO):=rW Kj IP Mp Kk IM Lf Iw HQ;have J9:Ct l.prog w K mg base "independent" 7 (spF K b7):=kB II Km Iu;have KS:Ct l.prog w K mg base "level_row" 6 (spF K b5):=og Jv IP;have Ka:Ct l.prog w K mg base "first_below" 2 (spF K br):=kC IJ Kk Iu;have Nt:Ct l.prog w K mg base "above" 8 (spF K c5):=xh Ls Ka J9 KS Km IM Mn Lu;have JW:Ct l.prog w K mg base "_law_product" 1 (spF K aW):=j7 Iq IM Iw;have JX:Ct l.prog w K mg base "_law_sum" 1 (spF K b8):=ph JU Iw HQ Lu;have Jk:Ct l.prog w K mg base "_law_whole" 1 (spF K m__law_whole):=mm Jh y_bool QF HL;have Kb:Ct l.prog w K mg base "_law_is_row" 2 (spF K b9):=kG IK Jk HL IM HQ;have IV:Ct l.prog w K mg base "_law_are_numbers" 2 (spF K aS):=gZ HP Jk HL IM Lf;have Kc:Ct l.prog w K mg base "_law_walked" 3 (spF K aJ):=kI IL IV Kb JW JX HL IM HQ;have JY:Ct l.prog w K mg base "_law_cell_at" 1 (spF K aX):=j9 Ir IM;have Kt:Ct l.prog w K mg base "_law_mixed" 1 (spF K bP):=mn Ji Iw HQ;exact(Cr F JY Kt JX Kc Nt IM Lf).imp (Cg law_plain)
end FIN
def PySem.W.Fast.tw9664494686427551952:=0
def PySem.W.Fast.tw12670524604116327035:=0
def PySem.W.Fast.tw14321370546221311157:=0
def PySem.W.Fast.tw12458107263467246773:=0
def PySem.W.Fast.tw8971655285802769817:=0
def PySem.W.Fast.tw2321929200347140025:=0
def PySem.W.Fast.tw584318287985794466:=0
def PySem.W.Fast.tw2953046318969653360:=0
def PySem.W.Fast.tw18211750158817780494:=0
def PySem.W.Fast.tw3289307717342282496:=0
def PySem.W.Fast.tw8738271308269670530:=0
def PySem.W.Fast.tw9380570830285529998:=0
def PySem.W.Fast.tw5582201457981333253:=0
def PySem.W.Fast.tw947007845182115059:=0
def PySem.W.Fast.tw4605381200391658400:=0
def PySem.W.Fast.tw11124910750128858404:=0
def PySem.W.Fast.tw7191336594302315323:=0
def PySem.W.Fast.tw8637798417394366604:=0
def PySem.W.Fast.tw8572786283437505555:=0
def PySem.W.Fast.tw10093481221103308804:=0
open PySem PySem.W PyProof.Rows
set_option maxRecDepth 100000 in
set_option maxHeartbeats 0 in
theorem PySem.Challenge.cw_netfinder_k44_whole_above_in_any_order_holds : PySem.Challenge.rw_netfinder_k44_whole_above_in_any_order.Holds := by
  w_on; o_law; k_head; (case hw => w_witness2)
  k_fill
  refine PV.Gu (l := PySem.Challenge.rw_netfinder_k44_whole_above_in_any_order) (k := 9) (x := "_law_script") rfl rfl ⟨rfl, by decide, by decide⟩ (fun w h Y => PySem.W.kIn_of Y) ?F
  case F =>
    intro w mg fa h KX G PM
    refine' FIN.Dy KX G PM ?aL ?lL ?cL ?kL ?Kh ?KP ?HW ?KQ ?Ki ?IG ?Jf ?Jg ?KR ?IH ?Kj ?II ?Jv ?IJ ?Ls ?Iq ?JU ?Jh ?IK ?HP ?IL ?Ir ?Ji ?Kf ?Kp ?Ho ?Ln ?Hb ?Hn ?Ik ?Ht ?Jd ?Ke ?Hi ?ID
    (case aL => k_is); (case lL => k_is); (case cL => k_is); (case kL => k_is)
    iterate 23 (refine' PV.Ci KX G ?a ?l ?c ?k; (case a => k_is); (case l => k_is); (case c => k_is); (case k => k_is))
    iterate 12 k_is
