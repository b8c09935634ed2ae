import PyProof.Rows.All
import Wide.All
import OpenK.AllK
import Wide.FinOn
import Lean
import PyProof.EqAt
import PyProof.EqKinds
import PyProof.TupleCall
import PySem.Challenge.RW_netfinder_k45_rows_of_no_width
set_option Elab.async false
set_option linter.all false
set_option maxRecDepth 100000
set_option compiler.extract_closed false
set_option bootstrap.genMatcherCode false
noncomputable section
theorem Zz{a b:Prop}(x:a)(y:b):a∧b:=⟨x,y⟩
def Tf:=@PySem.wpAny_bind
def Tg:=@List.mem_cons_self
def Th:=@PySem.Heap.get?_push_of_some
def Ti:=@List.getD_eq_getElem?_getD
def Tj:=@List.getElem?_eq_getElem
def Tn:=@List.mem_cons_of_mem
def To:=@List.size_toArray
def Tp:=@List.mem_append_right
def Tq:=@if_pos
def Tr:=@List.length_map
def Ts:=@Nat.lt_of_lt_of_le
def Tt:=@PySem.Heap.lt_size
def Tu:=@PySem.wpAny_pure
def Tv:=@if_neg
def Tw:=@List.mem_cons
def Tx:=@List.getElem?_eq_some_iff
def Tz:=@Nat.le_refl
def TB:=@List.mem_append_left
def TC:=@Bool.false_ne_true
def TF:=@PySem.Heap.get?_push_size
def TH:=@Nat.ne_of_lt
def TJ:=@Bool.and_eq_true
def TK:=@List.length_cons
def TL:=@List.map_map
def TM:=@List.mem_range
def TN:=@List.map_congr_left
def TQ:=@List.length_replicate
def TR:=@List.length_range
def TU:=@List.map_cons
def TV:=@List.getElem?_map
def TY:=@List.length_singleton
def T4:=@beq_eq_false_iff_ne
def T5:=@decide_eq_false
def T6:=@decide_eq_true
def T7:=@decide_eq_true_eq
def T8:=@beq_self_eq_true
def T9:=@List.mem_singleton
def Ua:=@Nat.le_trans
def Ub:=@List.mem_append
def Uc:=@List.lookup_cons
def Ud:=@Option.some.inj
def Ue:=@List.eq_nil_of_length_eq_zero
def Ug:=@Bool.and_self
def Uh:=@List.map_append
def Ui:=@List.nodup_append
def Uj:=@PySem.PassesOwn.never
def Uk:=@Int.toNat_natCast
def Ul:=@beq_iff_eq
def Um:=@PySem.W.mg_none_of
def Uo:=@List.append_nil
def Up:=@List.length_set
def Uq:=@List.length_nil
def Ur:=@List.drop_eq_getElem_cons
def Us:=@List.all_eq_true
def Ut:=@Nat.zero_le
def Uu:=@List.nodup_cons
def Uv:=@PySem.wpAny_callSpecial?_slot
def Uw:=@List.map_nil
def Ux:=@List.take_of_length_le
def Uy:=@Bool.not_true
def Uz:=@List.length_append
def UA:=@PySem.Heap.size_push
def UB:=@PySem.sizeLine_eq
def UC:=@List.length_take
def UE:=@Nat.lt_succ_self
def UG:=@Bool.eq_iff_iff
def UH:=@PySem.wpAny_newObj_type
def UI:=@Classical.byContradiction
def UJ:=@List.mem_map
def UK:=@List.filter_eq_nil_iff
def UL:=@Nat.lt_irrefl
def UM:=@PyProof.Rows.callWith_type1
def UN:=@List.replicate_succ
def UO:=@PySem.wpAny_call_entry
def UP:=@List.not_mem_nil
def UQ:=@congrArg
def UR:=@List.append_assoc
def US:=@decide_eq_false_iff_not
def UT:=@List.zip_cons_cons
def UW:=@Option.map_eq_some_iff
def UX:=@List.nil_append
def UY:=@List.length_drop
def UZ:=@Array.length_toList
def U0:=@PySem.mem_of_lookup
def U1:=@PySem.AutoSeq1.wpAny_loadPart'
def U2:=@Int.zero_mul
def U3:=@PySem.wpAny_pyIter_tuple
def U4:=@PySem.wpAny_field
def U5:=@Nat.lt_of_le_of_lt
def U6:=@List.length_zip
def U7:=@List.mem_of_getElem?
def U8:=@List.getElem_map
def U9:=@List.getElem_mem
def Va:=@if_true
def Vb:=@List.getElem?_set_self
def Vc:=@PySem.Heap.get?_update_other
def Vd:=@Ne.symm
def Ve:=@PySem.wpAny_pyIter_list
def Vf:=@PyProof.Rows.slot_tuple_getitem
def Vg:=@List.flatten_cons
def Vh:=@Nat.le_succ
def Vi:=@Int.mul_zero
def Vj:=@List.length_filter_le
def Vk:=@PySem.wpAny_Call_Name_kw
def Vl:=@Option.isSome_iff_exists
def Vm:=@Bool.false_eq_true
def Vn:=@PySem.wpAny_typeNameOfWhole_keyiter
def Vo:=@PySem.F.slot_dict_keyiterator_next
def Vp:=@Bool.and_true
def Vq:=@Bool.true_and
def Vr:=@PySem.wpAny_seqItems
def Vs:=@List.set_set
def Vt:=@Int.add_zero
def Vu:=@PyProof.Rows.KeyOrd.kle_refl
def Vv:=@PySem.W.kia_one
def Vx:=@Int.emod_nonneg
def Vy:=@Nat.two_pow_pos
def Vz:=@List.find?_cons_of_pos
def VA:=@List.getElem?_append_right
def VB:=@PySem.F.slot_tuple_iterator_next
def VC:=@PySem.wpAny_setField_rec
def VD:=@List.getElem_range
def VE:=@List.getElem?_eq_none
def VF:=@List.getElem?_append_left
def VG:=@List.getElem?_zip_eq_some
def VH:=@Bool.and_false
def VI:=@List.mem_or_eq_of_mem_set
def VJ:=@List.take_succ_eq_append_getElem
def VL:=@List.mem_filter
def VM:=@PySem.wpAny_passesOwn
def VN:=@List.of_mem_zip
def VO:=@PySem.wpAny_comprehension_free
def VP:=@PySem.wpAny_holding
def VQ:=@List.all_cons
def VR:=@Option.bind_eq_some_iff
def VS:=@List.filter_cons_of_pos
def VT:=@List.filter_cons_of_neg
def VU:=@Int.eq_ofNat_of_zero_le
def VV:=@List.zipIdx_cons
def VW:=@List.cons_append
def VX:=@List.ext_getElem
def VY:=@PySem.call_meets
def VZ:=@List.nodup_nil
def V0:=@Bool.not_false
def V1:=@List.find?_cons_of_neg
def V2:=@List.pairwise_cons
def V3:=@Int.emod_lt_of_pos
def V4:=@Nat.ne_of_gt
def V5:=@PySem.wpAny_typeOf
def V6:=@PySem.Heap.get?_update_self
def V7:=@Array.getElem?_toList
def V8:=@List.range_succ
def V9:=@List.mem_iff_getElem?
def Wa:=@List.find?_cons
def Wb:=@PySem.F.slot_int_rmul
def Wc:=@Int.one_mul
def Wd:=@PySem.wpAny_mono
def We:=@PySem.wpAny_truthy_bool
def Wf:=@Nat.le_of_succ_le
def Wg:=@Int.mul_assoc
def Wh:=@Int.mul_left_comm
def Wi:=@List.drop_zero
def Wj:=@PySem.Calls.call_function_entry
def Wl:=@PySem.wpAny_binaryOp_repeat_ref
def Wm:=@if_false
def Wn:=@List.drop_length
def Wo:=@PySem.Heap.SameBut.update
def Wq:=@List.length_reverse
def Wr:=@PySem.F.args_tuple_add_2
def Ws:=@PySem.typeIs_int
def Wt:=@List.all_map
def Wu:=@Int.mul_fdiv_cancel_left
def Wv:=@List.getElem_append_left
def Wx:=@PySem.F.entry_tuple_add
def Wy:=@List.foldl_cons
def Wz:=@PySem.Obj.data_mapFields
def WA:=@PySem.tupleKind_room_in1
def WB:=@PySem.F.plainAttrs_list
def WC:=@PySem.F.args_tuple_mul_2
def WD:=@PySem.F.slot_tuple_add
def WE:=@List.getElem_replicate
def WG:=@Nat.lt_succ_of_lt
def WH:=@of_decide_eq_true
def WI:=@PyProof.Rows.KeyOrd.kle_of_klt
def WJ:=@List.ext_getElem?
def WK:=@PySem.wpAny_dictEntries
def WL:=@PySem.F.entry_tuple_mul
def WM:=@Bool.false_and
def WN:=@Int.natAbs_neg
def WO:=@PySem.F.args_dict_keyiterator_next_1
def WQ:=@Nat.le_add_right
def WR:=@PyProof.Rows.KeyOrd.kle_trans
def WS:=@PySem.F.entry_dict_keyiterator_next
def WT:=@List.any_eq_true
def WU:=@PySem.F.slot_tuple_mul
def WV:=@List.getElem?_set_ne
def WW:=@PySem.wpAny_updateSeq_pair
def WX:=@List.mem_of_mem_take
def WY:=@PySem.Paired.length
def WZ:=@PySem.F.args_tuple_iterator_next_1
def W0:=@or_false
def W2:=@List.cons.inj
def W3:=@List.dropLast_cons_of_ne_nil
def W4:=@List.sum_cons
def W5:=@List.filterMap_cons
def W6:=@PySem.wpAny_execs_nil
def W7:=@List.toList_toArray
def W8:=@Bool.or_eq_true
def W9:=@PySem.F.entry_tuple_iterator_next
def Xa:=@PySem.F.slot_zip_next
def Xb:=@Array.getD_eq_getD_getElem?
def Xc:=@PySem.wpAny_ite_split
def Xd:=@List.sum_append_int
def Xe:=@Int.mul_eq_zero
def Xf:=@List.filter_eq_self
def Xg:=@PySem.Calls.Name_function_global
def Xh:=@Int.natAbs_sign_of_ne_zero
def Xi:=@Nat.le_of_lt
def Xj:=@Nat.le_of_eq
def Xk:=@List.any_map
def Xl:=@List.map_replicate
def Xm:=@Int.le_of_lt
def Xn:=@Int.gcd_zero_right
def Xo:=@Int.natAbs_natCast
def Xp:=@List.getElem?_eq_none_iff
def Xq:=@PySem.wpAny_setField
def Xr:=@Array.getElem?_eq_getElem
def Xs:=@List.take_zero
def Xt:=@List.getElem_append_right
def Xu:=@PySem.wpAny_assign_Name
def Xv:=@List.take_add_one
def Xw:=@bne_self_eq_false
def Xx:=@Option.isSome_map
def Xy:=@PySem.F.args_int_rmul_2
def Xz:=@List.filterMap_cons_none
def XA:=@List.filterMap_cons_some
def XC:=@Int.mul_sign_self
def XD:=@List.getElem?_set
def XE:=@PySem.wpAny_onRaise
def XF:=@PySem.wpAny_letGo
def XG:=@PySem.wpAny_attempt
def XH:=@List.not_lt
def XI:=@List.take_nil
def XJ:=@Int.neg_neg
def XM:=@List.length_eq_zero_iff
def XN:=@PySem.noFill_tuple_add
def XO:=@List.take_length
def XQ:=@PySem.wpAny_isInstance
def XS:=@PySem.F.entry_int_rmul
def XT:=@List.getElem_zip
def XU:=@Int.neg_fmod_neg
def XW:=@PySem.W.cellsFrom_some
def X1:=@List.Perm.append_right
def X3:=@List.drop_eq_nil_of_le
def X5:=@PySem.concat_meets
def X6:=@List.forIn_cons
def X9:=@PySem.wpAny_specialOf
def Ya:=@PySem.wpAny_dictEpoch
def Yc:=@PySem.pushCells_keeps
def Yd:=@List.Perm.append_left
def Ye:=@List.perm_append_comm
def Yf:=@PySem.F.fills_int_mul
def Yg:=@Classical.choose_spec
def Yi:=@Int.mul_comm
def Yj:=@List.all_nil
def Yk:=@Nat.min_eq_left
def Yl:=@Nat.zero_add
def Ym:=@List.sum_nil
def Yn:=@Int.zero_add
def Yo:=@PySem.typeIs_str
def Yq:=@List.getLast?_concat
def Yr:=@List.dropLast_concat
def Ys:=@List.replicate_succ'
def Yt:=@List.forIn_nil
def Yu:=@Int.natAbs_mul
def Yx:=@Nat.add_left_cancel
def Yz:=@List.take_succ_cons
def YA:=@List.drop_succ_cons
def YB:=@List.flatten_append
def YC:=@List.getElem_of_mem
def YG:=@List.mem_filterMap
def YI:=@PySem.seq_tuple_add
def YK:=@PySem.wpAny_standAt
def YM:=@PySem.wpAny_newList
def YN:=@of_decide_eq_false
def YO:=@List.any_cons
def YQ:=@Option.isSome_some
def YR:=@PySem.call_int_int
def YS:=@Int.natAbs_eq_zero
def YT:=@List.drop_nil
def YU:=@List.length_zipIdx
def YV:=@Nat.eq_zero_or_pos
def YW:=@List.map_drop
def YX:=@List.map_take
def YY:=@Int.lt_or_gt_of_ne
def YZ:=@List.filter_append
def Y4:=@PySem.wpAny_rule
def Zf:=@Nat.mul_comm
def Zg:=@Nat.sub_zero
def Zh:=@Nat.sub_self
def ZJ:=@Nat.one_mul
def ZK:=@Int.mul_neg
namespace L2
open PySem PySem.Spec PyProof.Rows
def IsTupN(h:Heap)(a:Addr)(items:Array Value):Prop:=∃o,h.get? a=some o/\o.cls=.type "tuple"/\(∃n,o.data=.seq items n)/\o.dict=none
theorem IsTupN.tup{h:Heap}{a:Addr}{items:Array Value}(p:IsTupN h a items):IsTup h a items:=by
 obtain⟨o,e,c,n,_⟩:=p;exact⟨o,e,c,n⟩
theorem IsTupN.new(h:Heap)(items:Array Value):IsTupN (h.push {cls:=.type "tuple",data:=.seq items}) h.objs.size items:=⟨_,TF _ rfl,rfl,⟨_,rfl⟩,rfl⟩
abbrev Key:=Sum Int Str
def pD:Key->Value->Bool
 | .inl k,v=>Value.isInt k v
 | .inr x,v=>Value.isStrOf x v
def Fz(w:World):Key->Int
 | .inl k=>hashInt k
 | .inr x=>hashStr w x
theorem bS:∀{k:Key}{v:Value},pD k v=true->(∃i t,k=Sum.inl i/\v=Value.int i t)\/(∃x t,k=Sum.inr x/\v=Value.str x t)
 | .inl i,v,h=>by
  obtain⟨t,e⟩:=Value.isInt_shape (k:=i) (v:=v) h;exact .inl ⟨i,t,rfl,e⟩
 | .inr x,v,h=>by
  obtain⟨t,e⟩:=Value.isStrOf_shape (x:=x) (v:=v) h;exact .inr ⟨x,t,rfl,e⟩
theorem sZ(i:Int)(t:Tok):pD (.inl i) (.int i t)=true:=by simp[pD,Value.isInt]
theorem tf(x:Str)(t:Tok):pD (.inr x) (.str x t)=true:=by simp[pD,Value.isStrOf]
theorem Bd(a b:Int):decide ((Sum.inl a:Key)=Sum.inl b)=(a==b):=by
 by_cases e:a=b
 ·subst e;simp
 ·have h:¬ (Sum.inl a:Key)=Sum.inl b:=fun q=>e (Sum.inl.inj q)
  rw[T5 h];exact(T4.mpr e).symm
theorem Be(a b:Str):decide ((Sum.inr a:Key)=Sum.inr b)=decide (a=b):=by
 by_cases e:a=b
 ·subst e;simp
 ·have h:¬ (Sum.inr a:Key)=Sum.inr b:=fun q=>e (Sum.inr.inj q)
  rw[T5 h,T5 e]
theorem Bf(a:Int)(b:Str):decide ((Sum.inl a:Key)=Sum.inr b)=false:=T5 (fun q=>nomatch q)
theorem Bg(a:Str)(b:Int):decide ((Sum.inr a:Key)=Sum.inl b)=false:=T5 (fun q=>nomatch q)
noncomputable def mixKind(prog:Program)(w:World):PySem.KeyKind prog w Key where
 is:=pD
 hash:=Fz w
 inj:=fun v a b ha hb=>by
  rcases bS ha with⟨i,t,rfl,rfl⟩|⟨x,t,rfl,rfl⟩
  ·rcases bS hb with⟨j,u,rfl,e⟩|⟨y,u,rfl,e⟩
   ·injection e with e1 _;rw[e1]
   ·exact nomatch e
  ·rcases bS hb with⟨j,u,rfl,e⟩|⟨y,u,rfl,e⟩
   ·exact nomatch e
   ·injection e with e1 _;rw[e1]
 byValue:=fun k v h=>by
  rcases bS h with⟨i,t,rfl,rfl⟩|⟨x,t,rfl,rfl⟩ <;> rfl
 pyHash:=fun hv h=>by
  rcases bS hv with⟨i,t,rfl,rfl⟩|⟨x,t,rfl,rfl⟩
  ·exact wpAny_pyHash_int h
  ·exact wpAny_pyHash_str h
 eqBool:=fun hu hv h=>by
  rcases bS hu with⟨i,t,rfl,rfl⟩|⟨x,t,rfl,rfl⟩
  ·rcases bS hv with⟨j,u,rfl,rfl⟩|⟨y,u,rfl,rfl⟩
   ·rw[Bd]at h;exact wpAny_eqBool_int h
   ·rw[Bf]at h;exact SeqAt.EqAt.int_str i t y u _ _ _ _ h
  ·rcases bS hv with⟨j,u,rfl,rfl⟩|⟨y,u,rfl,rfl⟩
   ·rw[Bg]at h;exact SeqAt.EqAt.str_int x t j u _ _ _ _ h
   ·rw[Be]at h;exact wpAny_eqBool_str h
 «strs»:=fun k x t v h=>by
  rcases bS h with⟨i,u,rfl,e⟩|⟨y,u,rfl,e⟩
  ·exact nomatch e
  ·injection e with e1 _;subst e1;cases v <;> rfl
theorem rQ(prog:Program)(w:World)(k:Key)(v:Value):(mixKind prog w).is k v=pD k v:=rfl
theorem pE(prog:Program)(w:World)(i:Int)(t:Tok):(mixKind prog w).is (.inl i) (.int i t)=true:=sZ i t
theorem pF(prog:Program)(w:World)(x:Str)(t:Tok):(mixKind prog w).is (.inr x) (.str x t)=true:=tf x t
inductive V where
 |non|bl (b:Bool)|int (i:Int)|str (x:Str)|byt (b:Array UInt8)|flt (b:UInt64)|ref (a:Addr)|ty (n:String)
 deriving DecidableEq
noncomputable def RelV:V->Value->Prop
 | .non,u=>u=Value.none
 | .bl b,u=>u=Value.bool b
 | .int i,u=>∃t,u=Value.int i t
 | .str x,u=>∃t,u=Value.str x t
 | .byt b,u=>∃t,u=Value.bytes b t
 | .flt b,u=>∃t,u=Value.float b t
 | .ref a,u=>u=Value.ref a
 | .ty n,u=>u=Value.type n
abbrev Vals:List V->List Value->Prop:=Paired RelV
theorem Vals.length{xs:List V}{us:List Value}(r:Vals xs us):xs.length=us.length:=WY r
theorem Vals.get:∀{xs:List V}{us:List Value}{i:Nat}{x:V},Vals xs us->xs[i]?=some x->∃u,us[i]?=some u/\RelV x u
 |_,_,_,_,.nil,e=>by simp at e
 |_,_,0,_,.cons r _,e=>by simp at e;subst e;exact⟨_,rfl,r⟩
 |_,_,i+1,x,.cons _ t,e=>by
  obtain⟨u,h1,h2⟩:=Vals.get (i:=i) (x:=x) t (by simpa using e);exact⟨u,by simpa using h1,h2⟩
theorem Vals.set{x:V}{u:Value}(r:RelV x u):∀{xs:List V}{us:List Value}(i:Nat),Vals xs us->Vals (xs.set i x) (us.set i u)
 |_,_,_,.nil=>.nil
 |_,_,0,.cons _ t=>.cons r t
 |_,_,i+1,.cons q t=>.cons q (Vals.set r i t)
theorem Vals.append:∀{xs ys:List V}{us ws:List Value},Vals xs us->Vals ys ws->Vals (xs++ys) (us++ws)
 |_,_,_,_,.nil,s=>s
 |_,_,_,_,.cons r t,s=>.cons r (Vals.append t s)
theorem Vals.take:∀{xs:List V}{us:List Value}(n:Nat),Vals xs us->Vals (xs.take n) (us.take n)
 |_,_,0,_=>.nil
 |_,_,_+1,.nil=>.nil
 |_,_,n+1,.cons r t=>.cons r (Vals.take n t)
theorem Vals.drop:∀{xs:List V}{us:List Value}(n:Nat),Vals xs us->Vals (xs.drop n) (us.drop n)
 |_,_,0,r=>r
 |_,_,_+1,.nil=>.nil
 |_,_,n+1,.cons _ t=>Vals.drop n t
theorem Vals.none_of:∀{xs:List V}{us:List Value}{i:Nat},Vals xs us->xs[i]?=none->us[i]?=none:=fun{xs us i} r e=>by
 have h1:=r.length;have h2:xs.length<=i:=Xp.mp e;exact Xp.mpr (by lia)
def RelO:Option V->Option Value->Prop
 |some v,some u=>RelV v u
 |none,none=>True
 |_,_=>False
def KV{κ:Type}:List (κ×V)->List (κ×Value)->Prop:=Paired fun(p:κ×V) (q:κ×Value)=>p.1=q.1/\RelV p.2 q.2
def kV:Key->V
 | .inl i=>.int i
 | .inr x=>.str x
inductive HO where
 |lst (xs:List V)
 |tup (xs:List V)
 |dK (GJ:List (Key×V))|dT (GJ:List (List Key×V))
 |set (S:Int->Bool) (n:Nat)
 |ins (C dx:Addr) (fs:List (Str×V))
 |own (x:Addr)
 |xd (fs:List (Str×V))
 |met (f x:Addr)
 |rng (lo hi:Int)
 |frz (o:Obj) (u:HO)
 |tbl (ps:Array Value)
 |ext (φ:Heap->Prop)
abbrev Hp:=Addr->Option HO
def upd(H:Hp)(a:Addr)(o:HO):Hp:=fun b=>if b=a then some o else H b
theorem az{H:Hp}{a:Addr}{o:HO}:upd H a o a=some o:=by unfold upd;rw[Tq rfl]
theorem ak{H:Hp}{a b:Addr}{o:HO}(h:b≠a):upd H a o b=H b:=by unfold upd;rw[Tv h]
theorem DK{H:Hp}{a b:Addr}{o u:HO}(h:H a=some o)(h':H b=some u)(d:o≠u):a≠b:=by
 intro e;subst e;rw[h]at h';exact d (Ud h')
theorem aJ{H:Hp}{a b:Addr}{o:HO}(h:H a=some o)(h':H b=none):a≠b:=by
 intro e;subst e;rw[h]at h';cases h'
section
variable(P:Program)(w:World)
noncomputable def ObjOk(H:Hp)(h:Heap)(a:Addr):HO->Prop
 | .lst xs=>xs.length<=sizeLine/\∃(GO:List Value) (n:Nat),Vals xs GO/\h.get? a=some {cls:=.type "list",data:=.seq GO.toArray n}
 | .tup xs=>xs.length<=sizeLine/\∃GO:List Value,Vals xs GO/\IsTupN h a GO.toArray
 | .dK GJ=>GJ.length<=sizeLine/\(a==sysModules)=false/\∃vs,KV GJ vs/\h.DictOf (mixKind P w) a vs
 | .dT GJ=>GJ.length<=sizeLine/\(a==sysModules)=false/\∃xs:List (List Key×Addr×Value),
   Paired (fun(p:List Key×V) (q:List Key×Addr×Value)=>p.1=q.1/\H q.2.1=some (.tup (p.1.map kV))/\RelV p.2 q.2.2) GJ xs/\
   ∃o es ep,h.get? a=some o/\o.ExactDict/\o.data=.dict es ep/\es.toList=xs.map (entryOfKey (tupleKind (mixKind P w)))/\(xs.map (·.1)).Nodup
 | .set S n=>h.SetOf (intKind P w) a S n
 | .ins C dx fs=>H dx=some (.own a)/\fs.length<=1000/\dx≠a/\h.get? a=some (PySem.W.instObj C dx)/\
   ∃mA,h.Ns1 dx mA/\(∀f,RelO (fs.lookup f) (mA f))/\PySem.Within mA (fs.map (·.1))
 | .own _=>∃o,h.get? a=some o
 | .xd fs=>∃mA,h.Ns1 a mA/\∀f,RelO (fs.lookup f) (mA f)
 | .rng lo hi=>∃t u v,h.get? a=some {cls:=.type "range",data:=.fields #[.int lo t,.int hi u,.int 1 v]}
 | .frz o u=>h.get? a=some o/\ObjOk H h a u
 | .tbl ps=>h.get? a=some {cls:=.none,data:=.fields ps}
 | .met f x=>h.get? a=some (PySem.W.methodObj (.ref f) (.ref x))
 | .ext φ=>φ h/\(∃o,h.get? a=some o)/\∀h1 h2:Heap,φ h1->(∀o,h1.get? a=some o->h2.get? a=some o)->φ h2
def HOk(H:Hp)(h:Heap):Prop:=∀a o,H a=some o->ObjOk P w H h a o
end
section
variable{P:Program}{w:World}{H H':Hp}{h h':Heap}{a:Addr}{o:HO}
theorem ObjOk.lt(x:ObjOk P w H h a o):a<h.objs.size:=by
 cases o with
 |lst xs=>obtain⟨_,_,_,_,e⟩:=x;exact Tt e
 |tup xs=>obtain⟨_,_,_,p⟩:=x;exact p.tup.lt
 |dK GJ=>obtain⟨_,_,_,_,o,_,_,e,_⟩:=x;exact Tt e
 |dT GJ=>obtain⟨_,_,_,_,o,_,_,e,_⟩:=x;exact Tt e
 |set S n=>obtain⟨o,_,_,_,e,_⟩:=x;exact Tt e
 |ins C dx fs=>obtain⟨_,_,_,e,_⟩:=x;exact Tt e
 |own y=>obtain⟨_,e⟩:=x;exact Tt e
 |xd fs=>obtain⟨_,⟨_,_,_,e,_⟩,_⟩:=x;exact Tt e
 |rng lo hi=>obtain⟨_,_,_,e⟩:=x;exact Tt e
 |frz ob u=>obtain⟨e,_⟩:=x;exact Tt e
 |tbl ps=>exact Tt (show h.get? a=some _ from x)
 |met f y=>exact Tt (show h.get? a=some _ from x)
 |ext φ=>obtain⟨_,⟨_,e⟩,_⟩:=x;exact Tt e
theorem Paired.mapP{α β:Type}{F G:α->β->Prop}:∀{l₁:List α}{l₂:List β},Paired F l₁ l₂->(∀a b,F a b->G a b)->Paired G l₁ l₂
 |_,_,.nil,_=>.nil
 |_,_,.cons r t,f=>.cons (f _ _ r) (Paired.mapP t f)
theorem ObjOk.stay(x:ObjOk P w H h a o)(k:∀b u,(b=a\/H b=some (.own a))->h.get? b=some u->h'.get? b=some u)
  (ho:∀b,H b=some (.own a)->H' b=some (.own a)) (ht:∀b xs,H b=some (.tup xs)->H' b=some (.tup xs)):ObjOk P w H' h' a o:=by
 induction o with
 |lst xs=>obtain⟨z,GO,n,r,e⟩:=x;exact⟨z,GO,n,r,k _ _ (.inl rfl) e⟩
 |tup xs=>obtain⟨z,GO,r,ob,e,c⟩:=x;exact⟨z,GO,r,ob,k _ _ (.inl rfl) e,c⟩
 |dK GJ=>obtain⟨z,y,vs,r,ob,es,ep,e,c⟩:=x;exact⟨z,y,vs,r,ob,es,ep,k _ _ (.inl rfl) e,c⟩
 |dT GJ=>
  obtain⟨z,y,xs,r,ob,es,ep,e,c⟩:=x;exact⟨z,y,xs,Paired.mapP r fun p q z=>⟨z.1,ht _ _ z.2.1,z.2.2⟩,ob,es,ep,k _ _ (.inl rfl) e,c⟩
 |set S n=>obtain⟨ob,es,ep,t,e,c⟩:=x;exact⟨ob,es,ep,t,k _ _ (.inl rfl) e,c⟩
 |ins C dx fs=>
  obtain⟨d,z,ne,e,mA,⟨od,es,ep,e2,c⟩,r⟩:=x;exact⟨ho _ d,z,ne,k _ _ (.inl rfl) e,mA,⟨od,es,ep,k _ _ (.inr d) e2,c⟩,r⟩
 |own y=>obtain⟨ob,e⟩:=x;exact⟨ob,k _ _ (.inl rfl) e⟩
 |xd fs=>obtain⟨mA,⟨od,es,ep,e,c⟩,r⟩:=x;exact⟨mA,⟨od,es,ep,k _ _ (.inl rfl) e,c⟩,r⟩
 |rng lo hi=>obtain⟨t,u,v,e⟩:=x;exact⟨t,u,v,k _ _ (.inl rfl) e⟩
 |frz ob u ih=>obtain⟨e,q⟩:=x;exact⟨k _ _ (.inl rfl) e,ih q⟩
 |tbl ps=>
  have e:h.get? a=some {cls:=.none,data:=.fields ps}:=x;show h'.get? a=some {cls:=.none,data:=.fields ps};exact k a _ (.inl rfl) e
 |met f y=>
  have e:h.get? a=some (PySem.W.methodObj (.ref f) (.ref y)):=x;show h'.get? a=some (PySem.W.methodObj (.ref f) (.ref y));exact k a _ (.inl rfl) e
 |ext φ=>obtain⟨p,⟨o,e⟩,st⟩:=x;exact⟨st _ _ p fun o q=>k _ _ (.inl rfl) q,⟨o,k _ _ (.inl rfl) e⟩,st⟩
theorem HOk.lt(x:HOk P w H h)(e:H a=some o):a<h.objs.size:=(x a o e).lt
theorem HOk.fresh(x:HOk P w H h)(e:h.objs.size<=a):H a=none:=by
 cases q:H a with
 |none=>rfl
 |some u=>exact absurd (Ts (x.lt q) e) (UL _)
theorem HOk.kept(x:HOk P w H h)(k:∀b u,h.get? b=some u->h'.get? b=some u):HOk P w H h':=fun a o e=>
 (x a o e).stay (fun b u _ q=>k b u q) (fun _ q=>q) fun _ _ q=>q
theorem HOk.laid(x:HOk P w H h)(k:∀b u,h.get? b=some u->h'.get? b=some u)(hp:h.objs.size<=a)(new:ObjOk P w (upd H a o) h' a o):HOk P w (upd H a o) h':=fun b u e=>by
 have hn:=x.fresh hp;by_cases hb:b=a
 ·subst hb;rw[az]at e;cases e;exact new
 ·rw[ak hb]at e;exact(x b u e).stay (fun c v _ q=>k c v q) (fun c q=>by rw[ak (aJ q hn)];exact q) fun c xs q=>by rw[ak (aJ q hn)];exact q
end
def Rd(H:Hp)(a:Addr)(u:HO):Prop:=H a=some u\/∃o,H a=some (.frz o u)
theorem Rd.ok{P:Program}{w:World}{H:Hp}{h:Heap}{a:Addr}{u:HO}(r:Rd H a u)(x:HOk P w H h):ObjOk P w H h a u:=by
 rcases r with r|⟨o,r⟩
 ·exact x a u r
 ·obtain⟨_,q⟩:=x a _ r;exact q
def Pq:Option HO->Prop
 |some (.lst _)=>True
 |some (.dK _)=>True
 |some (.dT _)=>True
 |some (.set _ _)=>True
 |some (.ins _ _ _)=>True
 |some (.ext _)=>True
 |_=>False
section
variable{P:Program}{w:World}{H:Hp}{h h':Heap}{x e:Addr}{o':HO}
theorem HOk.write(ok:HOk P w H h)(mu:Pq (H x))(he:e=x\/H e=some (.own x))(k:∀b u,b≠e->h.get? b=some u->h'.get? b=some u)(O1:∃u,h'.get? e=some u)
  (new:ObjOk P w (upd H x o') h' x o'):HOk P w (upd H x o') h':=fun b u q=>by
 have Lr:∀c y,H c=some (.own y)->c≠x:=fun c y r z=>by subst z;rw[r]at mu;exact mu
 have ntup:∀c xs,H c=some (.tup xs)->c≠x:=fun c xs r z=>by subst z;rw[r]at mu;exact mu
 by_cases hb:b=x
 ·subst hb;rw[az]at q;cases q;exact new
 ·rw[ak hb]at q;by_cases LQ:b=e
  ·have q':H b=some (.own x):=by
    rcases he with z|z
    ·exact absurd (LQ.trans z) hb
    ·rw[LQ];exact z
   rw[q]at q';cases q';obtain⟨v,hv⟩:=O1;exact⟨v,by rw[LQ];exact hv⟩
  ·refine(ok b u q).stay (fun c v hc r=>k c v ?_ r) (fun c r=>by rw[ak (Lr c b r)];exact r) fun c xs r=>by rw[ak (ntup c xs r)];exact r
   rcases hc with rfl|hc
   ·exact LQ
   ·rintro rfl;rcases he with z|z
    ·exact Lr c b hc z
    ·rw[hc]at z;cases z;exact hb rfl
end
structure Un(fs ex:List Addr)(H H':Hp)(h h':Heap):Prop where
 keep:∀b o,h.get? b=some o->H b=none->b∉fs->b∉ex->h'.get? b=some o
 slot:∀b o,h.get? b=some o->H b=none->b∈fs->b∉ex->∃sl,h'.get? b=some {o with slots:=sl}
 free:∀b o,h.get? b=some o->H b=none->b∉ex->H' b=none
 there:∀b o,h.get? b=some o->b∉ex->∃o',h'.get? b=some o'
 tups:∀b xs,H b=some (.tup xs)->H' b=some (.tup xs)
 frzs:∀b o u,H b=some (.frz o u)->H' b=some (.frz o u)
 tbls:∀b ps,H b=some (.tbl ps)->∃more,H' b=some (.tbl (ps++more))
section
variable{fs fs' ex ex':List Addr}{H H1 H2:Hp}{h h1 h2 h':Heap}{a x e:Addr}{o:HO}
theorem Un.any(u:Un fs ex H H1 h h1){b:Addr}{ob:Obj}(q:h.get? b=some ob)(n:H b=none)(hx:b∉ex):∃sl,h1.get? b=some {ob with slots:=sl}:=by
 by_cases hb:b∈fs
 ·exact u.slot b ob q n hb hx
 ·exact⟨ob.slots,u.keep b ob q n hb hx⟩
theorem Un.kept(k:∀b u,h.get? b=some u->h'.get? b=some u):Un fs ex H H h h':=
 ⟨fun b ob q _ _ _=>k b ob q,fun b ob q _ _ _=>⟨ob.slots,k b ob q⟩,fun _ _ _ n _=>n,fun b ob q _=>⟨ob,k b ob q⟩,fun _ _ q=>q,fun _ _ _ q=>q,fun _ ps q=>⟨#[],by rw[q];simp⟩⟩
theorem Un.refl:Un fs ex H H h h:=Un.kept fun _ _ q=>q
theorem Un.laid(k:∀b u,h.get? b=some u->h'.get? b=some u)(hp:h.objs.size<=a)(hn:H a=none):Un fs ex H (upd H a o) h h' where
 keep:=fun b u q _ _ _=>k b u q
 slot:=fun b u q _ _ _=>⟨u.slots,k b u q⟩
 free:=fun b u q n _=>by rw[ak (TH (Ts (Tt q) hp))];exact n
 there:=fun b u q _=>⟨u,k b u q⟩
 tups:=fun b xs q=>by rw[ak (aJ q hn)];exact q
 frzs:=fun b u xs q=>by rw[ak (aJ q hn)];exact q
 tbls:=fun b ps q=>⟨#[],by rw[ak (aJ q hn),q];simp⟩
theorem Un.write(mu:Pq (H x))(he:e=x\/H e=some (.own x))(k:∀b u,b≠e->h.get? b=some u->h'.get? b=some u)(O1:∃u,h'.get? e=some u):Un fs ex H (upd H x o) h h':=by
 have hx:∀b,H b=none->b≠x:=fun b n z=>by subst z;rw[n]at mu;exact mu
 have hb:∀b,H b=none->b≠e:=fun b n z=>by
  subst z;rcases he with r|r
  ·exact hx b n r
  ·rw[n]at r;cases r
 have hm:∀b u,H b=some u->¬ Pq (some u)->b≠x:=fun b u q nm z=>by subst z;rw[q]at mu;exact nm mu
 refine⟨fun b u q n _ _=>k b u (hb b n) q,fun b u q n _ _=>⟨u.slots,k b u (hb b n) q⟩,fun b u q n _=>by rw[ak (hx b n)];exact n,fun b u q _=>?_,
  fun b xs q=>by rw[ak (hm b _ q fun z=>z)];exact q,fun b u xs q=>by rw[ak (hm b _ q fun z=>z)];exact q,fun b ps q=>⟨#[],by rw[ak (hm b _ q fun z=>z),q];simp⟩⟩
 by_cases LQ:b=e
 ·subst LQ;exact O1
 ·exact⟨u,k b u LQ q⟩
end
def trk(h:Heap)(H:Hp):List Addr:=(List.range h.objs.size).filter fun a=>(H a).isSome
def wL(h:Heap)(H:Hp):Heap:=PySem.W.hideAll h (trk h H)
theorem tj(h:Heap)(H:Hp):(wL h H).objs.size=h.objs.size:=PySem.W.hideAll_size _ _
theorem wM{h:Heap}{H:Hp}{b:Addr}{o:Obj}(e:h.get? b=some o)(n:H b=none):(wL h H).get? b=some o:=
 PySem.W.hideAll_get _ e fun hm=>by
  have q:(H b).isSome=true:=(VL.mp hm).2;rw[n]at q;simp at q
theorem za{h:Heap}{H:Hp}{b:Addr}{o:Obj}(e:(wL h H).get? b=some o):h.get? b=some o/\H b=none:=by
 have e':h.get? b=some o:=PySem.W.of_hideAll (trk h H) e;refine⟨e',?_⟩;cases q:H b with
 |none=>rfl
 |some x=>
  have hm:b∈trk h H:=VL.mpr ⟨TM.mpr (Tt e'),by simp[q]⟩;have z:(wL h H).get? b=none:=PySem.W.hideAll_none (trk h H) hm;rw[z]at e;cases e
def zb(g h:Heap)(L:Addr):List (Addr×Obj):=(List.range h.objs.size).filterMap fun a=>if a=L\/(g.get? a).isSome=true then none else(h.get? a).map fun o=>(a,o)
def b7(g h:Heap)(L d:Addr):List (Addr×Obj):=(zb g h L).filter fun p=>decide (p.1≠d)
structure Mod(K:W.Frag)(mg:Str->Option Value)(base:Heap):Prop where
 kin:K.In base
 glob:base.Ns mainGlobals mg
 blt:∃mb,base.Ns builtinsNs mb/\∀x:Str,x≠"__name__"->mb x=bootBuiltins x
 nolimit:base.NoLimit
structure Cx where
 prog:Program
 w:World
 K:W.Frag
 mg:Str->Option Value
 base:Heap
 A:Around
 N:List Str
 s₀:Shared
 H₀:Hp
 env:Env
 outer:List Env
 stack:List Env
 ex:List Addr
 fn:Str->Bool
 calm:Bool
 pn:List (Addr×Obj)
 xe:Value->Shared->Prop
def K0(l:List Env):List Addr:=l.filterMap (·.frame)
abbrev Cx.fs(X:Cx):List Addr:=K0 X.outer
def Rg(sc:Scope)(x:Str):Prop:=sc.names.lookup x=some .local\/sc.names.lookup x=some .cell\/sc.names.lookup x=some .free
def Loc(sc:Scope)(x:Str):Prop:=sc.names.lookup x=some .local\/sc.names.lookup x=some .cell
def Fj(sc:Scope)(x:Str):Bool:=match sc.names.lookup x with
 |some .local=>true
 |some .cell=>true
 |_=>false
theorem lo{sc:Scope}{x:Str}(h:Fj sc x=true):Loc sc x:=by
 unfold Fj at h;split at h
 ·exact .inl (by assumption)
 ·exact .inr (by assumption)
 ·cases h

def FA(env:Env)(h:Heap)(m:Str->Option Value)(x:Str)(u:Value):Prop:=
 (env.kindOf x=some .local/\m x=some u)\/((env.kindOf x=some .cell\/env.kindOf x=some .free)/\∃c,env.cells.lookup x=some c/\h.IsCell c (some u))
structure Cx.Ok(X:Cx):Prop where
 mod:Mod X.K X.mg X.base
 kind:X.env.scope.kind=.function
 glob:X.env.globals=mainGlobals
 blt:X.env.builtins=builtinsNs
 above:X.s₀.heap.objs.size<=X.env.locals
 inj:∀x y c,X.env.cells.lookup x=some c->X.env.cells.lookup y=some c->x=y
 has:∀x,(X.env.kindOf x=some .cell\/X.env.kindOf x=some .free)->∃c,X.env.cells.lookup x=some c
 cab:∀x c,X.fn x=true->X.env.cells.lookup x=some c->X.s₀.heap.objs.size<=c
 hd:X.calm=true->X.A.handled=none
 frames:X.A.frames=some X.stack
 stk:X.stack=X.outer\/(X.stack=X.env::X.outer/\X.env.frame=some X.env.locals)
 exf:∀b∈X.ex,b≠X.env.locals/\∀x c,X.env.cells.lookup x=some c->c≠b
 bs:∀b o,X.base.get? b=some o->X.s₀.heap.get? b=some o/\X.H₀ b=none
 bsz:X.base.objs.size<=X.s₀.heap.objs.size
 noex:∀b o,X.base.get? b=some o->b∉X.ex
 exfs:∀b∈X.ex,b∉X.fs
 funs:X.s₀.heap.FunFrames X.base X.outer
 frf:∀b∈X.fs,X.H₀ b=none
structure Inv(X:Cx)(pr:List (Addr×Obj))(σ:List (Option V))(H:Hp)(s:Shared):Prop where
 ok:X.Ok
 os:s.os=X.s₀.os
 bare:AllBare s.gens
 base:Un X.fs X.ex X.H₀ H X.s₀.heap s.heap
 loc:∃m,s.heap.Ns X.env.locals m/\∀(i:Nat) (x:Str) (v:V),X.N[i]?=some x->σ[i]?=some (some v)->Rg X.env.scope x->∃u,RelV v u/\FA X.env s.heap m x u
 cell:∀x c,X.env.cells.lookup x=some c->∃v,s.heap.IsCell c v
 free:H X.env.locals=none
 freeC:∀x c,X.env.cells.lookup x=some c->H c=none
 pin:∀p∈X.pn++pr,s.heap.get? p.1=some p.2/\H p.1=none/\p.1≠X.env.locals/\p.1∉X.fs/\∀v,p.2.data≠.cell v
 hok:HOk X.prog X.w H s.heap
 len:σ.length=X.N.length
section
variable{X:Cx}{pr:List (Addr×Obj)}{σ:List (Option V)}{H H':Hp}{s:Shared}{h':Heap}
theorem Cx.Ok.nofr(ok:X.Ok){b:Addr}{o:Obj}(e:X.base.get? b=some o):b∉X.fs:=fun hb=>by
 have:=(ok.funs.mem hb).1;rw[e]at this;cases this
theorem Inv.bs(I:Inv X pr σ H s):∀b o,X.base.get? b=some o->s.heap.get? b=some o/\H b=none:=fun b o e=>
 ⟨I.base.keep b o (I.ok.bs b o e).1 (I.ok.bs b o e).2 (I.ok.nofr e) (I.ok.noex b o e),I.base.free b o (I.ok.bs b o e).1 (I.ok.bs b o e).2 (I.ok.noex b o e)⟩
theorem Inv.bk(I:Inv X pr σ H s):∀b o,X.base.get? b=some o->s.heap.get? b=some o:=fun b o e=>(I.bs b o e).1
theorem Inv.mod(I:Inv X pr σ H s):Mod X.K X.mg X.base:=I.ok.mod
theorem Inv.kIn(I:Inv X pr σ H s):X.K.In s.heap:=I.ok.mod.kin.keeps I.bk
theorem Inv.lt(I:Inv X pr σ H s):X.env.locals<s.heap.objs.size:=let⟨_,hn,_⟩:=I.loc;hn.lt
theorem Inv.sz(I:Inv X pr σ H s):X.s₀.heap.objs.size<=s.heap.objs.size:=Ua I.ok.above (Xi I.lt)
theorem Inv.nofs(I:Inv X pr σ H s){a:Addr}(h:s.heap.objs.size<=a):a∉X.fs:=fun hb=>by
 obtain⟨_,o,ho,_⟩:=I.ok.funs.mem hb;exact absurd (Ts (Tt ho) (Ua I.sz h)) (UL _)
theorem Inv.cne(I:Inv X pr σ H s):∀x c,X.env.cells.lookup x=some c->c≠X.env.locals:=fun x c e z=>by
 obtain⟨v,o,ho,hd⟩:=I.cell x c e;obtain⟨m,⟨o',es,ep,LR,ME,_⟩,_⟩:=I.loc;rw[z,LR]at ho;cases ho;rw[ME]at hd;cases hd
theorem Inv.funs(I:Inv X pr σ H s):s.heap.FunFrames X.base X.outer:=by
 have all:∀(l:List Env),(∀b∈K0 l,b∈X.fs)->X.s₀.heap.FunFrames X.base l->s.heap.FunFrames X.base l:=by
  intro l;induction l with
  |nil=>intro _ _;trivial
  |cons env r ih=>
   intro hs hl;obtain⟨hk,⟨L,o,hf,hn,ho,hd⟩,hr⟩:=hl;have hL:L∈X.fs:=hs L (by unfold K0;rw[W5,hf];exact Tg);obtain⟨sl,e⟩:=I.base.slot L o ho (I.ok.frf L hL) hL fun z=>I.ok.exfs L z hL
   exact⟨hk,⟨L,_,hf,hn,e,hd⟩,ih (fun b hb=>hs b (by unfold K0;rw[W5,hf];exact Tn _ hb)) hr⟩
 exact all X.outer (fun _ hb=>hb) I.ok.funs
theorem Inv.stack(I:Inv X pr σ H s):s.heap.FunFrames X.base X.stack:=by
 rcases I.ok.stk with e|⟨e,hf⟩
 ·rw[e];exact I.funs
 ·rw[e];obtain⟨m,hn,_⟩:=I.loc;refine .cons (by rw[I.ok.kind];decide) hf hn ?_ I.funs;exact Heap.get?_none_of_le (Ua I.ok.bsz I.ok.above)
theorem Inv.stkSub(I:Inv X pr σ H s):∀b∈K0 X.stack,b∈X.env.locals::X.fs:=fun b hb=>by
 rcases I.ok.stk with e|⟨e,hf⟩
 ·rw[e]at hb;exact Tn _ hb
 ·rw[e]at hb;unfold K0 at hb;rw[W5,hf]at hb;exact hb
theorem Inv.stkFree(I:Inv X pr σ H s):∀b∈K0 X.stack,H b=none:=fun b hb=>by
 rcases Tw.mp (I.stkSub b hb) with e|hb
 ·rw[e];exact I.free
 ·obtain⟨_,o,ho,_⟩:=I.ok.funs.mem hb;exact I.base.free b o ho (I.ok.frf b hb) fun z=>I.ok.exfs b z hb
theorem Inv.step{g':Array GenState}{t':Nat}{d':Drawn}{ch:List Addr}(I:Inv X pr σ H s)
  (Ls:∀b∈ch,(b∈X.ex\/X.s₀.heap.objs.size<=b)/\b≠X.env.locals/\(∀x c,X.env.cells.lookup x=some c->c≠b)/\∀p∈X.pn++pr,p.1≠b)
  (keep:∀b o,b≠X.env.locals->b∉X.fs->b∉ch->s.heap.get? b=some o->H b=none->h'.get? b=some o)
  (slot:∀b o,b≠X.env.locals->b∈X.fs->b∉ch->s.heap.get? b=some o->H b=none->∃sl,h'.get? b=some {o with slots:=sl}) (free:∀b o,b∉ch->s.heap.get? b=some o->H b=none->H' b=none)
  (there:∀b o,b∉ch->s.heap.get? b=some o->∃o',h'.get? b=some o')
  (tups:∀b xs,H b=some (.tup xs)->H' b=some (.tup xs)) (frzs:∀b o u,H b=some (.frz o u)->H' b=some (.frz o u)) (tbls:∀b ps,H b=some (.tbl ps)->∃more,H' b=some (.tbl (ps++more)))
  (ns:∀m,s.heap.Ns X.env.locals m->h'.Ns X.env.locals m) (hok:HOk X.prog X.w H' h') (hg:AllBare g'):
  Inv X pr σ H' {s with heap:=h',gens:=g',drawn:=d',toks:=t'}:=by
 have Sa:∀b o,X.s₀.heap.get? b=some o->b≠X.env.locals:=fun b o e=>TH (Ts (Tt e) I.ok.above)
 have QK:∀b o,X.s₀.heap.get? b=some o->b∉X.ex->b∉ch:=fun b o e hx hb=>by
  rcases(Ls b hb).1 with z|z
  ·exact hx z
  ·exact absurd (Ts (Tt e) z) (UL _)
 have cellK:∀x c,X.env.cells.lookup x=some c->∀v,s.heap.IsCell c v->h'.IsCell c v:=fun x c e v G0=>by
  obtain⟨o,ho,hd⟩:=G0;have Pr:c∉ch:=fun z=>(Ls c z).2.2.1 x c e rfl
  by_cases hc:c∈X.fs
  ·obtain⟨sl,q⟩:=slot c o (I.cne x c e) hc Pr ho (I.freeC x c e);exact⟨_,q,hd⟩
  ·exact⟨o,keep c o (I.cne x c e) hc Pr ho (I.freeC x c e),hd⟩
 refine⟨I.ok,I.os,hg,⟨fun b o e n hb hx=>?_,fun b o e n hb hx=>?_,fun b o e n hx=>?_,fun b o e hx=>?_,fun b xs e=>tups b xs (I.base.tups b xs e),fun b o xs e=>frzs b o xs (I.base.frzs b o xs e),fun b ps e=>?_⟩,?_,fun x c e=>?_,?_,fun x c e=>?_,fun p hp=>?_,hok,I.len⟩
 ·exact keep b o (Sa b o e) hb (QK b o e hx) (I.base.keep b o e n hb hx) (I.base.free b o e n hx)
 ·obtain⟨sl,e1⟩:=I.base.slot b o e n hb hx;obtain⟨sl',e2⟩:=slot b _ (Sa b o e) hb (QK b o e hx) e1 (I.base.free b o e n hx);exact⟨sl',e2⟩
 ·obtain⟨o',e1⟩:=I.base.there b o e hx;exact free b o' (QK b o e hx) e1 (I.base.free b o e n hx)
 ·obtain⟨o',e1⟩:=I.base.there b o e hx;exact there b o' (QK b o e hx) e1
 ·obtain⟨m1,e1⟩:=I.base.tbls b ps e;obtain⟨m2,e2⟩:=tbls b _ e1;exact⟨m1++m2,by rw[e2,Array.append_assoc]⟩
 ·obtain⟨m,hn,hl⟩:=I.loc;refine⟨m,ns m hn,fun i x v e1 e2 e3=>?_⟩;obtain⟨u,r,l⟩:=hl i x v e1 e2 e3;refine⟨u,r,?_⟩;rcases l with l|⟨k,c,e,z⟩
  ·exact .inl l
  ·exact .inr ⟨k,c,e,cellK x c e _ z⟩
 ·obtain⟨v,z⟩:=I.cell x c e;exact⟨v,cellK x c e v z⟩
 ·obtain⟨m,⟨o,_,_,ho,_⟩,_⟩:=I.loc;exact free _ o (fun z=>(Ls _ z).2.1 rfl) ho I.free
 ·obtain⟨v,o,ho,hd⟩:=I.cell x c e;exact free c o (fun z=>(Ls c z).2.2.1 x c e rfl) ho (I.freeC x c e)
 ·obtain⟨e,n,ne,nf,d⟩:=I.pin p hp;have Pr:p.1∉ch:=fun z=>(Ls p.1 z).2.2.2 p hp rfl
  exact⟨keep p.1 p.2 ne nf Pr e n,free p.1 p.2 Pr e n,ne,nf,d⟩
theorem Inv.un{t':Nat}(I:Inv X pr σ H s)(u:Un X.fs [] H H' s.heap h')(hok:HOk X.prog X.w H' h'):Inv X pr σ H' {s with heap:=h',toks:=t'}:=by
 obtain⟨m,⟨o,es,ep,ho,r⟩,_⟩:=id I.loc;obtain⟨sl,hL⟩:=u.any ho I.free (by simp);exact I.step (g':=s.gens) (d':=s.drawn) (ch:=[]) (fun _ z=>nomatch z) (fun b o _ hb _ e n=>u.keep b o e n hb (by simp)) (fun b o _ hb _ e n=>u.slot b o e n hb (by simp)) (fun b o _ e n=>u.free b o e n (by simp)) (fun b o _ e=>u.there b o e (by simp)) u.tups u.frzs u.tbls (fun m' hm=>by
  obtain⟨o',Ky,NR,LR,r'⟩:=hm;rw[ho]at LR;cases LR;exact⟨_,Ky,NR,hL,r'⟩) hok I.bare
theorem Inv.call{g':Array GenState}{t':Nat}{d':Drawn}{ch:List Addr}(I:Inv X pr σ H s)(u:Un (K0 X.stack) ch H H' s.heap h')(hok:HOk X.prog X.w H' h')(hg:AllBare g')
  (Ls:∀b∈ch,(b∈X.ex\/X.s₀.heap.objs.size<=b)/\b≠X.env.locals/\(∀x c,X.env.cells.lookup x=some c->c≠b)/\∀p∈X.pn++pr,p.1≠b):
  Inv X pr σ H' {s with heap:=h',gens:=g',drawn:=d',toks:=t'}:=by
 obtain⟨m,⟨o,es,ep,ho,r⟩,_⟩:=id I.loc;obtain⟨sl,hL⟩:=u.any ho I.free fun z=>(Ls _ z).2.1 rfl
 exact I.step (ch:=ch) Ls (fun b o hL hb hc e n=>u.keep b o e n (fun z=>(Tw.mp (I.stkSub b z)).elim hL hb) hc) (fun b o _ _ hc e n=>u.any e n hc) (fun b o hc e n=>u.free b o e n hc) (fun b o hc e=>u.there b o e hc) u.tups u.frzs u.tbls (fun m' hm=>by
  obtain⟨o',Ky,NR,LR,r'⟩:=hm;rw[ho]at LR;cases LR;exact⟨_,Ky,NR,hL,r'⟩) hok hg
theorem Inv.turned{t':Nat}{it:Addr}(I:Inv X pr σ H s)(k:∀b o,b≠it->s.heap.get? b=some o->h'.get? b=some o)(hn:H it=none)(hL:it≠X.env.locals)
  (h1:it∈X.ex\/X.s₀.heap.objs.size<=it) (h2:∀x c,X.env.cells.lookup x=some c->c≠it) (h3:∀p∈X.pn++pr,p.1≠it):Inv X pr σ H {s with heap:=h',toks:=t'}:=by
 have Sb:∀b u,H b=some u->b≠it:=fun b u e z=>by rw[z,hn]at e;cases e
 refine I.step (g':=s.gens) (d':=s.drawn) (ch:=[it]) (fun b hb=>?_) (fun b o _ _ hc e _=>k b o (fun z=>hc (by simp[z])) e) (fun b o _ _ hc e _=>⟨o.slots,k b o (fun z=>hc (by simp[z])) e⟩) (fun _ _ _ _ n=>n)
  (fun b o hc e=>⟨o,k b o (fun z=>hc (by simp[z])) e⟩) (fun _ _ e=>e) (fun _ _ _ e=>e) (fun b ps e=>⟨#[],by rw[e];simp⟩) (fun m hm=>?_) (fun b u e=>?_) I.bare
 ·have e:b=it:=by simpa using hb
  subst e;exact⟨h1,hL,h2,h3⟩
 ·obtain⟨o,es,ep,ho,r⟩:=hm;exact⟨o,es,ep,k _ o (Vd hL) ho,r⟩
 ·refine(I.hok b u e).stay (fun c v hc q=>k c v ?_ q) (fun _ q=>q) fun _ _ q=>q
  rcases hc with z|z
  ·rw[z];exact Sb b u e
  ·exact Sb c _ z
theorem Inv.tok(I:Inv X pr σ H s)(t:Nat):Inv X pr σ H {s with toks:=t}:=I.un (h':=s.heap) (t':=t) Un.refl I.hok
theorem Inv.kept{t':Nat}(I:Inv X pr σ H s)(k:∀b u,s.heap.get? b=some u->h'.get? b=some u):Inv X pr σ H {s with heap:=h',toks:=t'}:=I.un (Un.kept k) (I.hok.kept k)
theorem Inv.laid{a:Addr}{o:HO}{t':Nat}(I:Inv X pr σ H s)(k:∀b u,s.heap.get? b=some u->h'.get? b=some u)(hp:s.heap.objs.size<=a)(new:ObjOk X.prog X.w (upd H a o) h' a o):
  Inv X pr σ (upd H a o) {s with heap:=h',toks:=t'}:=I.un (Un.laid k hp (I.hok.fresh hp)) (I.hok.laid k hp new)
theorem Inv.write{x e:Addr}{o:HO}{t':Nat}(I:Inv X pr σ H s)(mu:Pq (H x))(he:e=x\/H e=some (.own x))(k:∀b u,b≠e->s.heap.get? b=some u->h'.get? b=some u)(O1:∃u,h'.get? e=some u)
  (new:ObjOk X.prog X.w (upd H x o) h' x o):Inv X pr σ (upd H x o) {s with heap:=h',toks:=t'}:=I.un (Un.write mu he k O1) (I.hok.write mu he k O1 new)
theorem Inv.pins_of{Nx:List (Addr×Obj)}(I:Inv X pr σ H s)(h:∀p∈Nx,s.heap.get? p.1=some p.2/\H p.1=none/\p.1≠X.env.locals/\p.1∉X.fs/\∀v,p.2.data≠.cell v):Inv X Nx σ H s:=
 ⟨I.ok,I.os,I.bare,I.base,I.loc,I.cell,I.free,I.freeC,fun p hp=>(Ub.mp hp).elim (fun z=>I.pin p (TB _ z)) (h p),I.hok,I.len⟩
theorem qm{N:List Str}(hN:N.Nodup){i j:Nat}{x:Str}(a:N[i]?=some x)(b:N[j]?=some x):i=j:=by
 obtain⟨h1,e1⟩:=Tx.mp a;obtain⟨h2,e2⟩:=Tx.mp b;exact(List.getElem_inj hN).mp (e1.trans e2.symm)
theorem j7{M:Model}{A:Around}{E:Value->Shared->Prop}{i:Nat}{x:Str}{v:V}{u:Value}{Q:Unit->Shared->Prop}(I:Inv X pr σ H s)(hN:X.N.Nodup)(hi:X.N[i]?=some x)(hx:Loc X.env.scope x)(r:RelV v u)
  (h:∀s',Inv X pr (σ.set i (some v)) H s'->(∃a,Heap.SameBut a s.heap s'.heap/\(a=X.env.locals\/X.env.cells.lookup x=some a))->Q () s') (hf:X.fn x=true\/X.env.scope.names.lookup x=some .local:=by first|exact .inl rfl|exact .inr rfl|assumption):wpAny M A (storeName X.env x u) Q E s:=by
 obtain⟨m,hn,hl⟩:=id I.loc;have hcls:(X.env.scope.kind==.class||(X.env.scope.kind==.module&&X.env.locals != X.env.globals))=false:=by rw[I.ok.kind];rfl
 have hiσ:i<σ.length:=by rw[I.len];exact(Tx.mp hi).1
 have cne:=I.cne;have tracked:∀{a:Addr}{h':Heap},(∃o,s.heap.get? a=some o/\H a=none)->Heap.SameBut a s.heap h'->HOk X.prog X.w H h':=fun{a h'} ha hs b ob e=>by
  obtain⟨_,_,Ny⟩:=ha;refine(I.hok b ob e).stay (fun c w' hc q=>(hs.2 c ?_).trans q) (fun _ q=>q) fun _ _ q=>q
  rintro rfl;rcases hc with rfl|hc
  ·rw[Ny]at e;cases e
  ·rw[Ny]at hc;cases hc
 rcases hx with hk|hk
 ·refine wpAny_storeName_local hk hn (fun h' hn' hs=>?_) hcls;obtain⟨oL,_,_,hoL,_⟩:=id hn;refine h _ ⟨I.ok,I.os,I.bare,⟨fun b o e n hb hx=>?_,fun b o e n hb hx=>?_,I.base.free,fun b o e hx=>?_,I.base.tups,I.base.frzs,I.base.tbls⟩,⟨_,hn',fun j y v' e1 e2 e3=>?_⟩,fun y c e=>?_,I.free,I.freeC,fun p hp=>?_,tracked ⟨oL,hoL,I.free⟩ hs,by simpa using I.len⟩ ⟨_,hs,.inl rfl⟩
  ·exact(hs.2 b (TH (Ts (Tt e) I.ok.above))).trans (I.base.keep b o e n hb hx)
  ·obtain⟨sl,e1⟩:=I.base.slot b o e n hb hx;exact⟨sl,(hs.2 b (TH (Ts (Tt e) I.ok.above))).trans e1⟩
  ·obtain⟨o',e1⟩:=I.base.there b o e hx;exact⟨o',(hs.2 b (TH (Ts (Tt e) I.ok.above))).trans e1⟩
  ·by_cases hj:j=i
   ·subst hj;rw[hi]at e1;cases e1;rw[Vb hiσ]at e2;cases e2;exact⟨u,r,.inl ⟨hk,by simp⟩⟩
   ·rw[WV (Vd hj)]at e2;obtain⟨u',r',q⟩:=hl j y v' e1 e2 e3;refine⟨u',r',?_⟩;rcases q with⟨k,e⟩|⟨k,c,e,z⟩
    ·refine .inl ⟨k,?_⟩;have:y≠x:=fun e=>hj (qm hN e1 (e▸hi))
     simp[this,e]
    ·exact .inr ⟨k,c,e,z.sameBut hs (cne y c e)⟩
  ·obtain⟨w',z⟩:=I.cell y c e;exact⟨w',z.sameBut hs (cne y c e)⟩
  ·obtain⟨e,n,ne,nf,d⟩:=I.pin p hp;exact⟨(hs.2 p.1 ne).trans e,n,ne,nf,d⟩
 ·have LS:X.fn x=true:=by
   rcases hf with z|z
   ·exact z
   ·rw[z]at hk;cases hk
  obtain⟨c,hc⟩:=I.ok.has x (.inl hk);obtain⟨w',z⟩:=I.cell x c hc;refine wpAny_storeName_cell I.ok.kind hk hc z (fun h' QL hs=>?_);obtain⟨oc,Sd,hocd⟩:=id z;refine h {s with heap:=h'} ⟨I.ok,I.os,I.bare,⟨fun b o e n hb hx=>?_,fun b o e n hb hx=>?_,I.base.free,fun b o e hx=>?_,I.base.tups,I.base.frzs,I.base.tbls⟩,⟨m,hn.sameBut hs (Vd (cne x c hc)),fun j y v' e1 e2 e3=>?_⟩,fun y c' e=>?_,I.free,I.freeC,fun p hp=>?_,tracked ⟨oc,Sd,I.freeC x c hc⟩ hs,by simpa using I.len⟩ ⟨c,hs,.inr hc⟩
  ·exact(hs.2 b (TH (Ts (Tt e) (I.ok.cab x c LS hc)))).trans (I.base.keep b o e n hb hx)
  ·obtain⟨sl,e1⟩:=I.base.slot b o e n hb hx;exact⟨sl,(hs.2 b (TH (Ts (Tt e) (I.ok.cab x c LS hc)))).trans e1⟩
  ·obtain⟨o',e1⟩:=I.base.there b o e hx;exact⟨o',(hs.2 b (TH (Ts (Tt e) (I.ok.cab x c LS hc)))).trans e1⟩
  ·by_cases hj:j=i
   ·subst hj;rw[hi]at e1;cases e1;rw[Vb hiσ]at e2;cases e2;exact⟨u,r,.inr ⟨.inl hk,c,hc,QL⟩⟩
   ·rw[WV (Vd hj)]at e2;obtain⟨u',r',q⟩:=hl j y v' e1 e2 e3;refine⟨u',r',?_⟩;rcases q with q|⟨k,c',e,z'⟩
    ·exact .inl q
    ·refine .inr ⟨k,c',e,z'.sameBut hs ?_⟩;rintro rfl;exact hj (qm hN e1 (I.ok.inj _ _ _ e hc▸hi))
  ·by_cases LU:c'=c
   ·subst LU;exact⟨_,QL⟩
   ·obtain⟨w2,z2⟩:=I.cell y c' e;exact⟨w2,z2.sameBut hs LU⟩
  ·obtain⟨e,n,ne,nf,d⟩:=I.pin p hp;refine⟨(hs.2 p.1 ?_).trans e,n,ne,nf,d⟩;intro q;rw[q,Sd]at e;have q':oc=p.2:=Ud e;exact d w' (by rw[<-q'];exact hocd)
theorem qo{M:Model}{A:Around}{E:Value->Shared->Prop}{i:Nat}{x:Str}{v:V}{u:Value}{Q:Unit->Shared->Prop}(I:Inv X pr σ H s)(hN:X.N.Nodup)(hi:X.N[i]?=some x)(hx:Loc X.env.scope x)(r:RelV v u)
  (h:∀s',Inv X pr (σ.set i (some v)) H s'->Q () s') (hf:X.fn x=true\/X.env.scope.names.lookup x=some .local:=by first|exact .inl rfl|exact .inr rfl|assumption):wpAny M A (storeName X.env x u) Q E s:=
 j7 I hN hi hx r (fun s' I' _=>h s' I') hf
theorem Inv.call'{s':Shared}{ch:List Addr}(I:Inv X pr σ H s)(ho:s'.os=s.os)(u:Un (K0 X.stack) ch H H' s.heap s'.heap)(hok:HOk X.prog X.w H' s'.heap)(hg:AllBare s'.gens)
  (Ls:∀b∈ch,(b∈X.ex\/X.s₀.heap.objs.size<=b)/\b≠X.env.locals/\(∀x c,X.env.cells.lookup x=some c->c≠b)/\∀p∈X.pn++pr,p.1≠b):Inv X pr σ H' s':=by
 obtain⟨h',g',d',t',o'⟩:=s';have e:o'=s.os:=ho;subst e;exact I.call (g':=g') (t':=t') (d':=d') u hok hg Ls
end
abbrev XK:=Value->Option Addr->Hp->Prop
abbrev St:=List (Option V)
abbrev VK:=V->Hp->Prop
abbrev TE:=St->Hp->VK->Prop
abbrev TT:=St->Hp->(Bool->Hp->Prop)->Prop
abbrev TA:=St->Hp->(List V->Hp->Prop)->Prop
structure Ends where
 nx:St->Hp->Prop
 rt:VK
 bk:St->Hp->Prop:=fun _ _=>False
 ct:St->Hp->Prop:=fun _ _=>False
abbrev TS:=Ends->St->Hp->Prop
def EP(X:Cx)(pr:List (Addr×Obj))(σ:St)(Q:VK)(u:Value)(s':Shared):Prop:=∃v H',Inv X pr σ H' s'/\RelV v u/\Q v H'
def TP(X:Cx)(pr:List (Addr×Obj))(σ:St)(Q:Bool->Hp->Prop)(b:Bool)(s':Shared):Prop:=∃H',Inv X pr σ H' s'/\Q b H'
def AP(X:Cx)(pr:List (Addr×Obj))(σ:St)(Q:List V->Hp->Prop)(us:List Value)(s':Shared):Prop:=∃vs H',Inv X pr σ H' s'/\Vals vs us/\Q vs H'
def SP(X:Cx)(pr:List (Addr×Obj))(D:Ends)(f:Flow)(s':Shared):Prop:=
 match f with
 | .next=>∃σ' H',Inv X pr σ' H' s'/\D.nx σ' H'
 | .brk=>∃σ' H',Inv X pr σ' H' s'/\D.bk σ' H'
 | .cont=>∃σ' H',Inv X pr σ' H' s'/\D.ct σ' H'
 | .ret u=>∃v σ' H',Inv X pr σ' H' s'/\RelV v u/\D.rt v H'
def PE(X:Cx)(e:Expr)(t:TE):Prop:=
 ∀(pr:List (Addr×Obj)) (s:Shared) (σ:St) (H:Hp) (Q:VK),Inv X pr σ H s->t σ H Q->wpAny (model X.prog X.w) X.A (eval e X.env) (EP X pr σ Q) X.xe s
def PT(X:Cx)(e:Expr)(t:TT):Prop:=
 ∀(pr:List (Addr×Obj)) (s:Shared) (σ:St) (H:Hp) (Q:Bool->Hp->Prop),Inv X pr σ H s->t σ H Q->wpAny (model X.prog X.w) X.A (isTrue e X.env (eval e X.env)) (TP X pr σ Q) X.xe s
def PW(X:Cx)(e:Expr)(t:TT):Prop:=
 ∀(whole:Sem Value) (pr:List (Addr×Obj)) (s:Shared) (σ:St) (H:Hp) (Q:Bool->Hp->Prop),Inv X pr σ H s->t σ H Q->wpAny (model X.prog X.w) X.A (isTrue e X.env whole) (TP X pr σ Q) X.xe s
theorem PW.pt{X:Cx}{e:Expr}{t:TT}(h:PW X e t):PT X e t:=h _
def PA(X:Cx)(es:List Expr)(t:TA):Prop:=
 ∀(pos:Pos) (pr:List (Addr×Obj)) (s:Shared) (σ:St) (H:Hp) (Q:List V->Hp->Prop),Inv X pr σ H s->t σ H Q->wpAny (model X.prog X.w) X.A (spliced (backTo pos (starEach es X.env))) (AP X pr σ Q) X.xe s
def PS(X:Cx)(st:Stmt)(t:TS):Prop:=
 ∀(pr:List (Addr×Obj)) (s:Shared) (σ:St) (H:Hp) (D:Ends),Inv X pr σ H s->t D σ H->wpAny (model X.prog X.w) X.A (exec st X.env) (SP X pr D) X.xe s
def PSs(X:Cx)(st:List Stmt)(t:TS):Prop:=
 ∀(pr:List (Addr×Obj)) (s:Shared) (σ:St) (H:Hp) (D:Ends),Inv X pr σ H s->t D σ H->wpAny (model X.prog X.w) X.A (execs st X.env) (SP X pr D) X.xe s
theorem Hf{α:Type}{t:Sem α}{Q Q':α->Shared->Prop}{M:Model}{A:Around}{E:Value->Shared->Prop}{s:Shared}(h:wpAny M A t Q E s)(hQ:∀a s,Q a s->Q' a s):wpAny M A t Q' E s:=Wd h hQ fun _ _ x=>x
section
variable{X:Cx}
theorem bin{a b:Expr}{ta tb:TE}(ha:PE X a ta)(hb:PE X b tb){pr:List (Addr×Obj)}{s:Shared}{σ:St}{H:Hp}{R:V->V->Hp->Prop}(I:Inv X pr σ H s)(h:ta σ H fun x H1=>tb σ H1 fun y H2=>R x y H2)
  {α:Type}{Q:α->Shared->Prop}{f:Value->Value->Sem α}
  (hf:∀v u s2 x y H2,Inv X pr σ H2 s2->RelV x v->RelV y u->R x y H2->wpAny (model X.prog X.w) X.A (f v u) Q X.xe s2):
  wpAny (model X.prog X.w) X.A (eval a X.env) (fun v s₁=>wpAny (model X.prog X.w) X.A (eval b X.env) (fun u s₂=>wpAny (model X.prog X.w) X.A (f v u) Q X.xe s₂) X.xe s₁) X.xe s:=by
 refine Hf (ha pr s σ H _ I h) fun v s1 Hc=>?_
 obtain⟨x,H1,I1,r1,q1⟩:=Hc;refine Hf (hb pr s1 σ H1 _ I1 q1) fun u s2 Hc=>?_
 obtain⟨y,H2,I2,r2,q2⟩:=Hc;exact hf v u s2 x y H2 I2 r1 r2 q2
def rR(i:Nat):TE:=fun σ H Q=>∃v,σ[i]?=some (some v)/\Q v H
def tC(v:V):TE:=fun _ H Q=>Q v H
theorem Bh{i:Nat}{x:Str}{pos:Pos}(hN:X.N[i]?=some x)(hv:Rg X.env.scope x)(hd:(x==("__debug__" : Str))=false:=by decide)(Jp:(x==("__classdict__" : Str))=false:=by decide):PE X (.Name x pos) (rR i):=by
 intro pr s σ H Q I h;obtain⟨v,e,h⟩:=h;obtain⟨m,hn,hl⟩:=I.loc;obtain⟨u,r,l⟩:=hl i x v hN e hv;have fin:EP X pr σ Q u s:=⟨v,H,I,r,h⟩
 rcases l with⟨hk,hm⟩|⟨hk,c,hc,Hd⟩
 ·exact wpAny_Name (wpAny_loadName_local I.ok.kind hk hn hm fin) hd
 ·rcases hk with hk|hk
  ·exact wpAny_Name (wpAny_loadName_cell I.ok.kind hk hc Hd fin) hd
  ·exact wpAny_Name (wpAny_loadName_free I.ok.kind hk hc Hd fin Jp) hd
theorem Bi{i j pos}:PE X (.Constant (.int i) j pos) (tC (.int i)):=fun _ _ _ H _ I h=>wpAny_Constant_int ⟨.int i,H,I.tok _,⟨_,rfl⟩,h⟩
theorem DM{b j pos}:PE X (.Constant (.bool b) j pos) (tC (.bl b)):=fun _ _ _ H _ I h=>Constant_bool ⟨.bl b,H,I,rfl,h⟩
theorem Bj{j pos}:PE X (.Constant .none j pos) (tC .non):=fun _ _ _ H _ I h=>Constant_none ⟨.non,H,I,rfl,h⟩
theorem Bk{x j pos}:PE X (.Constant (.str x) j pos) (tC (.str x)):=fun _ _ _ H _ I h=>Calls.Constant_str ⟨.str x,H,I.tok _,⟨_,rfl⟩,h⟩
def Gl(X:Cx)(x:Str):Prop:=X.env.kindOf x=some .globalImplicit
theorem zc{E:Value->Shared->Prop}{pr:List (Addr×Obj)}{s:Shared}{σ:St}{H:Hp}{x:Str}{u:Value}{pos:Pos}{Q:Value->Shared->Prop}(I:Inv X pr σ H s)(hg:Gl X x)(hm:X.mg x=some u)(h:Q u s)
  (hd:(x==("__debug__" : Str))=false:=by decide):wpAny (model X.prog X.w) X.A (eval (.Name x pos) X.env) Q E s:=
 Xg I.ok.kind hg (Calls.loadGlobal_global (by rw[I.ok.glob];exact I.mod.glob.keeps I.bk) hm h) hd
theorem jt{E:Value->Shared->Prop}{pr:List (Addr×Obj)}{s:Shared}{σ:St}{H:Hp}{x:Str}{u:Value}{pos:Pos}{Q:Value->Shared->Prop}(I:Inv X pr σ H s)(hg:Gl X x)(hm:X.mg x=none)(hv:bootBuiltins x=some u)(h:Q u s)
  (hn:x≠"__name__":=by decide) (hd:(x==("__debug__" : Str))=false:=by decide):wpAny (model X.prog X.w) X.A (eval (.Name x pos) X.env) Q E s:=by
 obtain⟨mb,h1,h2⟩:=I.mod.blt;exact Xg I.ok.kind hg (Calls.loadGlobal_builtin (by rw[I.ok.glob];exact I.mod.glob.keeps I.bk) hm (by rw[I.ok.blt];exact h1.keeps I.bk) ((h2 x hn).trans hv) h) hd
theorem zd{x:Str}{v:V}{u:Value}{pos:Pos}(hg:Gl X x)(hm:X.mg x=none)(hv:bootBuiltins x=some u)(r:RelV v u)(hn:x≠"__name__":=by decide)(hd:(x==("__debug__" : Str))=false:=by decide):PE X (.Name x pos) (tC v):=
 fun _ _ _ H _ I h=>jt I hg hm hv ⟨v,H,I,r,h⟩ hn hd
variable{a b:Expr}{ta tb:TE}{pos:Pos}
def PC(X:Cx)(op:CmpOp)(a b:Expr)(t:TE):Prop:=
 ∀(pr:List (Addr×Obj)) (s:Shared) (σ:St) (H:Hp) (Q:VK),Inv X pr σ H s->t σ H Q->
  wpAny (model X.prog X.w) X.A (eval a X.env) (fun v s₁=>wpAny (model X.prog X.w) X.A (eval b X.env) (fun u s₂=>wpAny (model X.prog X.w) X.A (compareOp op v u) (EP X pr σ Q) X.xe s₂) X.xe s₁) X.xe s
theorem wN(b:Expr){op:CmpOp}(h:op≠.In)(h2:op≠.NotIn):behindInMarks op b=false:=by
 have e1:(op==CmpOp.In)=false:=by cases op <;> first|rfl|exact absurd rfl h
 have e2:(op==CmpOp.NotIn)=false:=by cases op <;> first|rfl|exact absurd rfl h2
 cases b <;> simp[behindInMarks,e1,e2]
def tB(t:TE):TT:=fun σ H Q=>t σ H fun x H1=>∃c,x=.bl c/\Q c H1
theorem Fl{op:CmpOp}{t:TE}(h:PC X op a b t)(h1:behindInMarks op b=false:=by first|exact wN _ (by decide) (by decide)|rfl):PT X (.Compare a [op] [b] pos) (tB t):=by
 intro pr s σ H Q I hw;refine wpAny_isTrue_Compare1 (Hf (h pr s σ H _ I hw) fun v s1 h1=>Hf h1 fun u s2 h2=>Hf h2 fun c s3 ⟨x,H1,I1,r1,q1⟩=>?_) h1;obtain⟨d,rfl,q⟩:=q1;cases r1;exact We ⟨H1,I1,q⟩
theorem Bl{e:Expr}{t:TE}(h:PE X e t)(he:∀whole,isTrue e X.env whole=(do let v <-whole;standAt e.pos;holding [v] (truthy v)):=by intro _;rfl):PT X e (tB t):=by
 intro pr s σ H Q I hw;refine isTrue_plain (Hf (h pr s σ H _ I hw) fun v s1 ⟨x,H1,I1,r1,q1⟩=>?_) (he _);obtain⟨d,rfl,q⟩:=q1;cases r1;exact We ⟨H1,I1,q⟩
variable{tA QM:TT}{b7:List Expr}
def FC(t u:TT):TT:=fun σ H Q=>t σ H fun c H1=>if c=true then u σ H1 Q else Q false H1
def tOr(t u:TT):TT:=fun σ H Q=>t σ H fun c H1=>if c=true then Q true H1 else u σ H1 Q
def FD(t:TT):TT:=fun σ H Q=>t σ H fun c H1=>Q (!c) H1
theorem ze(ha:PT X a tA):PW X (.BoolOp .And [a] pos) tA:=by
 intro wh pr s σ H Q I h;refine isTrue_and (Hf (ha pr s σ H Q I h) fun c s1 e=>?_);cases c with
 |true=>exact isTrue_and_nil e
 |false=>exact e
theorem Bm(ha:PT X a tA):PW X (.BoolOp .Or [a] pos) tA:=by
 intro wh pr s σ H Q I h;refine isTrue_or (Hf (ha pr s σ H Q I h) fun c s1 e=>?_);cases c with
 |false=>exact isTrue_or_nil e
 |true=>exact e
theorem Bn(ha:PT X a tA)(hb:PW X (.BoolOp .And (b::b7) pos) QM):PW X (.BoolOp .And (a::b::b7) pos) (FC tA QM):=by
 intro wh pr s σ H Q I h;refine isTrue_and (Hf (ha pr s σ H _ I h) fun c s1 Hc=>?_);obtain⟨H1,I1,q1⟩:=Hc;cases c with
 |true=>exact hb wh pr s1 σ H1 Q I1 q1
 |false=>exact⟨H1,I1,q1⟩
theorem DN(ha:PT X a tA)(hb:PW X (.BoolOp .Or (b::b7) pos) QM):PW X (.BoolOp .Or (a::b::b7) pos) (tOr tA QM):=by
 intro wh pr s σ H Q I h;refine isTrue_or (Hf (ha pr s σ H _ I h) fun c s1 Hc=>?_);obtain⟨H1,I1,q1⟩:=Hc;cases c with
 |true=>exact⟨H1,I1,q1⟩
 |false=>exact hb wh pr s1 σ H1 Q I1 q1
theorem Bo(ha:PT X a tA):PT X (.UnaryOp .Not a pos) (FD tA):=by
 intro pr s σ H Q I h;exact isTrue_not (ha pr s σ H (fun c H1=>Q (!c) H1) I h)
def DO(ta tb:TE):TE:=fun σ H Q=>ta σ H fun x H1=>∃c,x=.bl c/\if c=true then tb σ H1 Q else Q (.bl false) H1
def DP(ta:TE):TE:=fun σ H Q=>ta σ H fun x H1=>∃c,x=.bl c/\Q (.bl (!c)) H1
theorem Bp{op}{t:TE}(h:PE X a t):PE X (.BoolOp op [a] pos) t:=fun pr s σ H Q I hw=>BoolOp_one (h pr s σ H Q I hw)
theorem Bq(ha:PE X a ta)(hb:PE X (.BoolOp .And (b::b7) pos) tb):PE X (.BoolOp .And (a::b::b7) pos) (DO ta tb):=by
 intro pr s σ H Q I h;refine BoolOp_and (Hf (ha pr s σ H _ I h) fun v s1 Hc=>?_);obtain⟨x,H1,I1,r1,q1⟩:=Hc;obtain⟨c,rfl,q1⟩:=q1;cases r1;refine We ?_;cases c with
 |true=>exact hb pr s1 σ H1 Q I1 q1
 |false=>exact⟨.bl false,H1,I1,rfl,q1⟩
theorem Br(ha:PE X a ta):PE X (.UnaryOp .Not a pos) (DP ta):=by
 intro pr s σ H Q I h;refine UnaryOp_ (Hf (ha pr s σ H _ I h) fun v s1 Hc=>?_);obtain⟨x,H1,I1,r1,q1⟩:=Hc;obtain⟨c,rfl,q1⟩:=q1;cases r1;exact not_of (We ⟨.bl (!c),H1,I1,rfl,q1⟩)
end
def SqL(K:W.Frag)(H:Hp)(a:Addr)(xs:List V):Prop:=
 Rd H a (.lst xs)\/
  ∃(o:Obj) (GO:Array Value) (n:Nat),K.lookup a=some o/\o.cls=.type "list"/\o.dict=none/\o.data=.seq GO n/\GO.size<=sizeLine/\Vals xs GO.toList
def SqT(K:W.Frag)(H:Hp)(a:Addr)(xs:List V):Prop:=
 Rd H a (.tup xs)\/
  ∃(o:Obj) (GO:Array Value) (n:Nat),K.lookup a=some o/\o.cls=.type "tuple"/\o.dict=none/\o.data=.seq GO n/\GO.size<=sizeLine/\Vals xs GO.toList
def FE:Value->Option V
 | .none=>some .non
 | .bool b=>some (.bl b)
 | .int i _=>some (.int i)
 | .str x _=>some (.str x)
 | .bytes b _=>some (.byt b)
 | .float b _=>some (.flt b)
 | .ref a=>some (.ref a)
 | .type n=>some (.ty n)
 |_=>none
theorem RelV.abs{x:V}{u:Value}(r:RelV x u):FE u=some x:=by
 cases x with
 |non=>cases r;rfl
 |bl _=>cases r;rfl
 |int _=>obtain⟨t,rfl⟩:=r;rfl
 |str _=>obtain⟨t,rfl⟩:=r;rfl
 |byt _=>obtain⟨t,rfl⟩:=r;rfl
 |flt _=>obtain⟨t,rfl⟩:=r;rfl
 |ref _=>cases r;rfl
 |ty _=>cases r;rfl
theorem RelV.inj{x y:V}{u:Value}(r:RelV x u)(q:RelV y u):x=y:=Ud (r.abs.symm.trans q.abs)
theorem Vals.inj:∀{xs ys:List V}{us:List Value},Vals xs us->Vals ys us->xs=ys
 |_,_,_,.nil,.nil=>rfl
 |_,_,_,.cons r t,.cons r' t'=>by rw[r.inj r',Vals.inj t t']
section
variable{X:Cx}{pr:List (Addr×Obj)}{σ:St}{H:Hp}{s:Shared}{a:Addr}{xs ys:List V}
theorem SqL.of{K:W.Frag}(h:H a=some (.lst xs)):SqL K H a xs:=.inl (.inl h)
theorem SqT.of{K:W.Frag}(h:H a=some (.tup xs)):SqT K H a xs:=.inl (.inl h)
theorem Inv.list(I:Inv X pr σ H s)(h:SqL X.K H a xs):∃GO:List Value,Vals xs GO/\PlainL s.heap a GO.toArray/\xs.length<=sizeLine:=by
 rcases h with h|⟨o,GO,n,hk,hc,hd,hs,hz,r⟩
 ·obtain⟨z,GO,n,r,e⟩:=h.ok I.hok;exact⟨GO,r,⟨_,n,e,rfl,rfl,rfl⟩,z⟩
 ·refine⟨GO.toList,r,⟨o,n,I.kIn a o hk,hc,hd,by simpa using hs⟩,?_⟩;have e:=r.length;simp only[UZ]at e;lia
theorem Inv.tupleN(I:Inv X pr σ H s)(h:SqT X.K H a xs):∃GO:List Value,Vals xs GO/\IsTupN s.heap a GO.toArray/\xs.length<=sizeLine:=by
 rcases h with h|⟨o,GO,n,hk,hc,hdn,hs,hz,r⟩
 ·obtain⟨z,GO,r,p⟩:=h.ok I.hok;exact⟨GO,r,p,z⟩
 ·refine⟨GO.toList,r,⟨o,I.kIn a o hk,hc,⟨n,by simpa using hs⟩,hdn⟩,?_⟩;have e:=r.length;simp only[UZ]at e;lia
theorem Inv.tuple(I:Inv X pr σ H s)(h:SqT X.K H a xs):∃GO:List Value,Vals xs GO/\IsTup s.heap a GO.toArray/\xs.length<=sizeLine:=by
 obtain⟨GO,r,p,z⟩:=I.tupleN h;exact⟨GO,r,p.tup,z⟩
theorem Inv.list_inj(I:Inv X pr σ H s)(h:SqL X.K H a xs)(h':SqL X.K H a ys):xs=ys:=by
 obtain⟨GO,r,⟨o,n,e,_,_,d⟩,_⟩:=I.list h;obtain⟨its',r',⟨o',n',e',_,_,d'⟩,_⟩:=I.list h';rw[e]at e';cases e';rw[d]at d';injection d' with d1 _;have:GO=its':=by simpa using UQ Array.toList d1
 subst this;exact r.inj r'
theorem Inv.tuple_inj(I:Inv X pr σ H s)(h:SqT X.K H a xs)(h':SqT X.K H a ys):xs=ys:=by
 obtain⟨GO,r,⟨o,e,_,n,d⟩,_⟩:=I.tuple h;obtain⟨its',r',⟨o',e',_,n',d'⟩,_⟩:=I.tuple h';rw[e]at e';cases e';rw[d]at d';injection d' with d1 _;have:GO=its':=by simpa using UQ Array.toList d1
 subst this;exact r.inj r'
end
abbrev Cx.wish(X:Cx)(E:Value->Shared->Prop):Cx:={X with xe:=E}
abbrev Cx.nox(X:Cx):Cx:=X.wish fun _ _=>False
theorem Cx.Ok.wish{X:Cx}(ok:X.Ok)(E:Value->Shared->Prop):(X.wish E).Ok:=
 ⟨ok.mod,ok.kind,ok.glob,ok.blt,ok.above,ok.inj,ok.has,ok.cab,ok.hd,ok.frames,ok.stk,ok.exf,ok.bs,ok.bsz,ok.noex,ok.exfs,ok.funs,ok.frf⟩
theorem Cx.Ok.unwish{X:Cx}{E:Value->Shared->Prop}(ok:(X.wish E).Ok):X.Ok:=
 ⟨ok.mod,ok.kind,ok.glob,ok.blt,ok.above,ok.inj,ok.has,ok.cab,ok.hd,ok.frames,ok.stk,ok.exf,ok.bs,ok.bsz,ok.noex,ok.exfs,ok.funs,ok.frf⟩
section
variable{X:Cx}{pr:List (Addr×Obj)}{σ:St}{H:Hp}{s:Shared}{E:Value->Shared->Prop}
theorem Inv.wish(I:Inv X pr σ H s)(E:Value->Shared->Prop):Inv (X.wish E) pr σ H s:=⟨I.ok.wish E,I.os,I.bare,I.base,I.loc,I.cell,I.free,I.freeC,I.pin,I.hok,I.len⟩
theorem Inv.unwish(I:Inv (X.wish E) pr σ H s):Inv X pr σ H s:=⟨I.ok.unwish,I.os,I.bare,I.base,I.loc,I.cell,I.free,I.freeC,I.pin,I.hok,I.len⟩
theorem SP.unwish{D:Ends}{f:Flow}{s':Shared}(h:SP (X.wish E) pr D f s'):SP X pr D f s':=by
 cases f with
 |next=>obtain⟨σ',H',I,q⟩:=h;exact⟨σ',H',I.unwish,q⟩
 |brk=>obtain⟨σ',H',I,q⟩:=h;exact⟨σ',H',I.unwish,q⟩
 |cont=>obtain⟨σ',H',I,q⟩:=h;exact⟨σ',H',I.unwish,q⟩
 |ret u=>obtain⟨v,σ',H',I,r,q⟩:=h;exact⟨v,σ',H',I.unwish,r,q⟩
theorem PSs.nox{st:List Stmt}{t:TS}(h:PSs X.nox st t):PSs X st t:=fun pr s σ H D I hw=>
 Wd (h pr s σ H D (I.wish _) hw) (fun _ _ q=>q.unwish) fun _ _ z=>False.elim z
end
section
variable{X:Cx}{st:Stmt}{b7:List Stmt}{t u:TS}{e:Expr}{te:TE}{pos:Pos}
def DQ:TS:=fun D σ H=>D.nx σ H
def FH(t u:TS):TS:=fun D σ H=>t {D with nx:=u D} σ H
theorem zf:PSs X [] DQ:=fun _ _ σ H _ I h=>W6 ⟨σ,H,I,h⟩
theorem wO(h1:PS X st t)(h2:PSs X b7 u):PSs X (st::b7) (FH t u):=by
 intro pr s σ H D I h;refine wpAny_execs_cons (Hf (h1 pr s σ H {D with nx:=u D} I h) fun f s1 q=>?_);cases f with
 |next=>
  obtain⟨σ',H',I',q⟩:=q;exact h2 pr s1 σ' H' D I' q
 |ret v=>exact q
 |brk=>exact q
 |cont=>exact q
theorem zg(h1:PS X st t):PSs X [st] t:=by
 intro pr s σ H D I h;refine wpAny_execs_cons (Hf (h1 pr s σ H D I h) fun f s1 q=>?_);cases f with
 |next=>exact W6 q
 |ret v=>exact q
 |brk=>exact q
 |cont=>exact q
theorem Inv.quiet{pr:List (Addr×Obj)}{σ:St}{H:Hp}{s:Shared}(I:Inv X pr σ H s):interactive X.env=false:=by simp[interactive,I.ok.kind]
def DR(te:TE):TS:=fun D σ H=>te σ H fun _ H1=>D.nx σ H1
theorem zh(he:PE X e te)(hs:swapsWith e none pos.line X.env=pure false:=by rfl):PS X (.Expr e pos) (DR te):=by
 intro pr s σ H D I h;exact wpAny_Expr_any (Hf (he pr s σ H _ I h) fun v s1 ⟨x,H1,I1,r1,q1⟩=>⟨σ,H1,I1,q1⟩) I.quiet hs
def FJ(te:TE):TS:=fun D σ H=>te σ H D.rt
theorem yo(he:PE X e te):PS X (.Return (some e) pos) (FJ te):=by
 intro pr s σ H D I h;exact wpAny_Return_some (Hf (he pr s σ H _ I h) fun v s1 ⟨x,H1,I1,r1,q1⟩=>⟨x,σ,H1,I1,r1,q1⟩)
def FK(c:TT)(t u:TS):TS:=fun D σ H=>c σ H fun b H1=>if b=true then t D σ H1 else u D σ H1
theorem DS{c:Expr}{a b:List Stmt}{tc:TT}(hc:PT X c tc)(ha:PSs X a t)(hb:PSs X b u):PS X (.If c a b pos) (FK tc t u):=by
 intro pr s σ H D I h;refine wpAny_If (Hf (hc pr s σ H _ I h) fun d s1 Hc=>?_);obtain⟨H1,I1,q1⟩:=Hc;cases d with
 |true=>exact ha pr s1 σ H1 D I1 q1
 |false=>exact hb pr s1 σ H1 D I1 q1
end
abbrev TG:=V->St->Hp->(St->Hp->Prop)->Prop
abbrev Nz:=List V->St->Hp->(St->Hp->Prop)->Prop
def PG(X:Cx)(target:Expr)(t:TG):Prop:=
 ∀(pr:List (Addr×Obj)) (s:Shared) (σ:St) (H:Hp) (v:V) (u:Value) (Q:St->Hp->Prop),Inv X pr σ H s->RelV v u->t v σ H Q->
  wpAny (model X.prog X.w) X.A (assign target X.env u) (fun _ s'=>∃σ' H',Inv X pr σ' H' s'/\Q σ' H') X.xe s
def NT(X:Cx)(ts:List Expr)(t:Nz):Prop:=
 ∀(pr:List (Addr×Obj)) (s:Shared) (σ:St) (H:Hp) (vs:List V) (us:List Value) (Q:St->Hp->Prop),Inv X pr σ H s->Vals vs us->t vs σ H Q->
  wpAny (model X.prog X.w) X.A (assignInOrder ((assignEach ts X.env).map (·.2)) us) (fun _ s'=>∃σ' H',Inv X pr σ' H' s'/\Q σ' H') X.xe s
abbrev FL:=V->V->V->Hp->(Hp->Prop)->Prop
def FN(X:Cx)(t:FL):Prop:=
 ∀(pr:List (Addr×Obj)) (s:Shared) (σ:St) (H:Hp) (o i v:V) (ov iv u:Value) (Q:Hp->Prop),Inv X pr σ H s->RelV o ov->RelV i iv->RelV v u->t o i v H Q->
  wpAny (model X.prog X.w) X.A (setItem ov iv u) (fun _ s'=>∃H',Inv X pr σ H' s'/\Q H') X.xe s
section
variable{X:Cx}{pos:Pos}
def Bs(i:Nat):TG:=fun v σ H Q=>Q (σ.set i (some v)) H
theorem zi{i:Nat}{x:Str}(hN:X.N.Nodup)(hi:X.N[i]?=some x)(hx:Loc X.env.scope x)(hf:X.fn x=true\/X.env.scope.names.lookup x=some .local:=by first|exact .inl rfl|exact .inr rfl|assumption):PG X (.Name x pos) (Bs i):=by
 intro pr s σ H v u Q I r h;exact Xu (qo I hN hi hx r (fun s' I'=>⟨_,H,I',h⟩) hf)
def FQ:Nz:=fun vs σ H Q=>vs=[]/\Q σ H
def DT(t:TG)(u:Nz):Nz:=fun vs σ H Q=>∃v r,vs=v::r/\t v σ H fun σ' H'=>u r σ' H' Q
theorem zj:NT X [] FQ:=by
 intro pr s σ H vs us Q I r h;obtain⟨e,h⟩:=h;subst e;cases r;exact assignInOrder_nil ⟨σ,H,I,h⟩
theorem wQ{e:Expr}{es:List Expr}{t:TG}{u:Nz}(h1:PG X e t)(h2:NT X es u)
  (hs:(assignEach (e::es) X.env).map (·.2)=assign e X.env::(assignEach es X.env).map (·.2):=by rfl):NT X (e::es) (DT t u):=by
 intro pr s σ H vs us Q I r h;obtain⟨v,vr,e1,h⟩:=h;subst e1;cases r with
 |cons r rr=>
  rw[hs];refine assignInOrder_cons (Hf (h1 pr s σ H _ _ _ I r h) fun _ s1 Hc=>?_);obtain⟨σ1,H1,I1,q1⟩:=Hc;exact h2 pr s1 σ1 H1 _ _ Q I1 rr q1
def FR(K:W.Frag)(n:Nat)(t:Nz):TG:=fun v σ H Q=>∃a xs,v=.ref a/\SqT K H a xs/\xs.length=n/\t xs σ H Q
theorem Bt{es:List Expr}{k:Nat}{t:Nz}{n:Nat}(hc:X.calm=true)(h:NT X es t)
  (hn:(assignEach es X.env).length=n:=by rfl) (NU:(assignEach es X.env).findIdx? (·.1)=none:=by rfl):PG X (.Tuple es k pos) (FR X.K n t):=by
 intro pr s σ H v u Q I r hw;obtain⟨a,xs,e1,hq,hl,hw⟩:=hw;subst e1;cases r;obtain⟨GO,rv,ht,hz⟩:=I.tuple hq;refine assign_Tuple_tuple (I.ok.hd hc) ht (by simp[hn,<-hl,rv.length]) NU fun h' hx=>?_
 have I1:Inv X pr σ H {s with heap:=h'}:=I.kept (t':=s.toks) fun b o e=>hx b o (TH (Tt e)) e
 exact h pr _ σ H xs _ Q I1 (by simpa using rv) hw
def FU(te:TE)(g:TG):TS:=fun D σ H=>te σ H fun x H1=>g x σ H1 D.nx
theorem Bu{i:Nat}{x:Str}{e:Expr}{te:TE}{pos':Pos}(hN:X.N.Nodup)(hi:X.N[i]?=some x)(hx:Loc X.env.scope x)(he:PE X e te)(hs:swapsWith e (some (.Name x pos')) pos.line X.env=pure false:=by rfl)(hf:X.fn x=true\/X.env.scope.names.lookup x=some .local:=by first|exact .inl rfl|exact .inr rfl|assumption):
  PS X (.Assign [.Name x pos'] e pos) (FU te (Bs i)):=by
 intro pr s σ H D I h;refine wpAny_Assign_Name (Hf (he pr s σ H _ I h) fun v s1 ⟨y,H1,I1,r1,q1⟩=>?_) hs;exact qo I1 hN hi hx r1 (fun s2 I2=>⟨_,H1,I2,q1⟩) hf
end
section
variable{X:Cx}{pos:Pos}
def Bv(c:TT)(tb:TS):TS:=fun D σ H=>∃W:Nat->St->Hp->Prop,(∃m,W m σ H)/\∀m σ H,W m σ H->
 c σ H fun b H1=>if b=true then ∃N:St->Hp->Prop,(∀σ' H',N σ' H'->∃m',m'<m/\W m' σ' H')/\tb {D with nx:=N,ct:=N,bk:=D.nx} σ H1 else D.nx σ H1
theorem wR{c:Expr}{body:List Stmt}{tc:TT}{tb:TS}(hp:PassesOwn (model X.prog X.w) X.A X.env X.xe)(hc:PT X c tc)(hb:PSs X body tb):PS X (.While c body [] pos) (Bv tc tb):=by
 intro pr s σ H D I h;obtain⟨W,⟨m0,w0⟩,turn⟩:=h;refine wpAny_While (codeAny_whileLoop (fun n s'=>∃σ' H',Inv X pr σ' H' s'/\W n σ' H') ?_ m0 ⟨σ,H,I,w0⟩);rintro n s1 ⟨σ1,H1,I1,w1⟩;refine VM hp (Hf (hc pr s1 σ1 H1 _ I1 (turn n σ1 H1 w1)) fun b s2 Hc=>?_);obtain⟨H2,I2,q2⟩:=Hc;cases b with
 |true=>
  obtain⟨N,hN,q2⟩:=q2;rw[Tq rfl];refine VM hp (Hf (hb pr s2 σ1 H2 _ I2 q2) fun f s3 q3=>?_);cases f with
  |next=>
   obtain⟨σ3,H3,I3,n3⟩:=q3;obtain⟨m',hm,w3⟩:=hN σ3 H3 n3;exact⟨m',hm,σ3,H3,I3,w3⟩
  |cont=>
   obtain⟨σ3,H3,I3,n3⟩:=q3;obtain⟨m',hm,w3⟩:=hN σ3 H3 n3;exact⟨m',hm,σ3,H3,I3,w3⟩
  |brk=>exact q3
  |ret v=>exact q3
 |false=>
  rw[Tv TC];exact W6 ⟨σ1,H2,I2,q2⟩
end
structure It where
 go:Nat->Hp->Prop
 yld:Nat->Hp->V->Hp->Prop
 stop:Nat->Hp->Prop
def nF(X:Cx)(pr:List (Addr×Obj))(H:Hp)(b:Addr):Prop:=
 H b=none/\b≠X.env.locals/\b∉X.fs/\(b∈X.ex\/X.s₀.heap.objs.size<=b)/\(∀x c,X.env.cells.lookup x=some c->c≠b)/\∀p∈X.pn++pr,p.1≠b
theorem Inv.fpOk{X:Cx}{pr:List (Addr×Obj)}{σ:St}{H H':Hp}{s:Shared}{b:Addr}(I:Inv X pr σ H s)(hb:s.heap.objs.size<=b)(hn:H' b=none):nF X pr H' b:=by
 refine⟨hn,V4 (Ts I.lt hb),I.nofs hb,.inr (Ua I.sz hb),fun x c e z=>?_,fun p hp z=>?_⟩
 ·obtain⟨v,q⟩:=I.cell x c e;exact absurd (Ts q.lt (by rw[z];exact hb)) (UL _)
 ·exact absurd (Ts (Tt (I.pin p hp).1) (by rw[z];exact hb)) (UL _)
structure Turn(P:Program)(w:World)(K:W.Frag)(tg:Expr)(J:It)(fp:List Addr)(it:Addr)(tn:Nat->Heap->Prop):Prop where
 mem:it∈fp
 obj:∀i h,tn i h->∀b∈fp,∃o,h.get? b=some o/\∀v,o.data≠.cell v
 keep:∀i h h',tn i h->(∀b∈fp,∀o,h.get? b=some o->h'.get? b=some o)->tn i h'
 item:∀(X:Cx),X.prog=P->X.w=w->X.K=K->X.calm=true->∀(i:Nat) (pr:List (Addr×Obj)) (s:Shared) (σ:St) (H:Hp) (E:Value->Shared->Prop),Inv X pr σ H s->(∀b∈fp,nF X pr H b)->tn i s.heap->J.go i H->
  wpAny (model P w) X.A (pyNext (.ref it)) (fun r s1=>∃u,r=some u/\
   wpAny (model P w) X.A (letOwnedTupleGo tg (.ref it) u) (fun _ s2=>∃x H',Inv X pr σ H' s2/\RelV x u/\J.yld i H x H'/\tn (i+1) s2.heap/\∀b∈fp,H' b=none) E s1) E s
 done:∀(X:Cx),X.prog=P->X.w=w->X.K=K->X.calm=true->∀(i:Nat) (pr:List (Addr×Obj)) (s:Shared) (σ:St) (H:Hp) (E:Value->Shared->Prop),Inv X pr σ H s->(∀b∈fp,nF X pr H b)->tn i s.heap->J.stop i H->
  wpAny (model P w) X.A (pyNext (.ref it)) (fun r s1=>r=none/\Inv X pr σ H s1) E s
 self:∀(A:Around) (i:Nat) (s:Shared) (Q:Value->Shared->Prop) (E:Value->Shared->Prop),tn i s.heap->Q (.ref it) s->wpAny (model P w) A (pyIter (.ref it)) Q E s
abbrev TI:=St->Hp->(It->Hp->Prop)->Prop
def Se(X:Cx)(pr:List (Addr×Obj))(σ:St)(tg:Expr)(R:It->Hp->Prop)(O2:Value)(s2:Shared):Prop:=
 ∃(it:Addr) (fp:List Addr) (tn:Nat->Heap->Prop) (J:It) (H':Hp),O2=.ref it/\Inv X pr σ H' s2/\Turn X.prog X.w X.K tg J fp it tn/\tn 0 s2.heap/\(∀b∈fp,nF X pr H' b)/\R J H'
def PI(X:Cx)(tg iter:Expr)(wi:TI):Prop:=
 ∀(pr:List (Addr×Obj)) (s:Shared) (σ:St) (H:Hp) (R:It->Hp->Prop),Inv X pr σ H s->wi σ H R->
  wpAny (model X.prog X.w) X.A (eval iter X.env) (fun v s1=>wpAny (model X.prog X.w) X.A (pyIter v) (Se X pr σ tg R) X.xe s1) X.xe s
theorem tm {M : Model} {A : Around} {E : Value -> Shared -> Prop} {s : Shared} {tg : Expr} {it : Addr} {u : Value} {o : Obj} {n : String} {vs : Array Value} {Q : Unit -> Shared -> Prop} (ho : s.heap.get? it = some o) (hc : o.cls = .type n) (hd : o.data = .fields vs)
    (hn : ["enumerate", "zip", "dict_itemiterator", "dict_reverseitemiterator", "odict_iterator", "itertools.zip_longest", "itertools.pairwise"].contains n = false) (hQ : Q () s) : wpAny M A (letOwnedTupleGo tg (.ref it) u) Q E s := by
  unfold letOwnedTupleGo
  cases tg <;> first
    | exact Tu hQ
    | (cases u <;> first
        | exact Tu hQ
        | (refine Tf (wpAny_load ho ?_)
           rw [hc, hd]
           show wpAny M A (if (["enumerate", "zip", "dict_itemiterator", "dict_reverseitemiterator", "odict_iterator", "itertools.zip_longest", "itertools.pairwise"].contains n && vs[0]? == some (rawInt _)) = true then _ else _) Q E s
           rw [Tv (by intro h; rw [hn, WM] at h; cases h)]
           exact Tu hQ))
def O3(K:W.Frag)(a:Addr):It:=
 ⟨fun i H=>∃xs x,SqL K H a xs/\xs[i]?=some x,fun i H x H'=>H'=H/\∀xs,SqL K H a xs->xs[i]?=some x,fun i H=>∃xs,SqL K H a xs/\xs.length<=i⟩
def Rh(K:W.Frag)(a:Addr):It:=
 ⟨fun i H=>∃xs x,SqT K H a xs/\xs[i]?=some x,fun i H x H'=>H'=H/\∀xs,SqT K H a xs->xs[i]?=some x,fun i H=>∃xs,SqT K H a xs/\xs.length<=i⟩
def QN(lo:Int)(n:Nat):It:=⟨fun i _=>i<n,fun i H x H'=>H'=H/\x=.int (lo+i),fun i _=>n<=i⟩
theorem tq{P:Program}{w:World}{K:W.Frag}{tg:Expr}(a it:Addr):Turn P w K tg (O3 K a) [it] it (fun i h=>h.IsListIter it a i) where
 mem:=by simp
 obj:=fun i h st b hb=>by
  have e:b=it:=by simpa using hb
  subst e;obtain⟨o,e,c,d⟩:=st;exact⟨o,e,fun v z=>by rw[d]at z;cases z⟩
 keep:=fun i h h' st k=>st.at fun o e=>k it (by simp) o e
 item:=by
  intro X hP hw hK hc i pr s σ H E I hf st hg;subst hP hw hK;obtain⟨xs,x,hq,hx⟩:=hg;obtain⟨GO,rv,p,hz⟩:=I.list hq;obtain⟨u,hu,ru⟩:=rv.get hx;obtain⟨f0,f1,f2,f3,f4,f5⟩:=hf it (by simp);refine wpAny_pyNext_list_item st p.isList (x:=u) (by simpa using hu) fun h' J2 sb=>?_
  have I1:Inv X pr σ H {s with heap:=h'}:=I.turned (t':=s.toks) (fun b o hb e=>(sb.2 b hb).trans e) f0 f1 f3 f4 f5;obtain⟨o,e,c,d⟩:=id J2;exact⟨u,rfl,tm (s:={s with heap:=h'}) e c d (by decide) ⟨x,H,I1,ru,⟨rfl,fun ys hy=>by rw[I.list_inj hy hq];exact hx⟩,J2,fun b hb=>(hf b hb).1⟩⟩
 done:=by
  intro X hP hw hK hc i pr s σ H E I hf st hg;subst hP hw hK;obtain⟨xs,hq,hx⟩:=hg;obtain⟨GO,rv,p,hz⟩:=I.list hq;obtain⟨f0,f1,f2,f3,f4,f5⟩:=hf it (by simp);have hl:=rv.length;exact wpAny_pyNext_list_end (I.ok.hd hc) st p.isList (by simp;lia) fun h' eb=>⟨rfl,I.turned (t':=s.toks) (fun b o hb e=>eb b o hb e) f0 f1 f3 f4 f5⟩
 self:=fun _ _ _ _ _ st h=>wpAny_pyIter_listiter st h
theorem rS{P:Program}{w:World}{K:W.Frag}{tg:Expr}(a it:Addr):Turn P w K tg (Rh K a) [it] it (fun i h=>h.IsTupleIter it a i) where
 mem:=by simp
 obj:=fun i h st b hb=>by
  have e:b=it:=by simpa using hb
  subst e;obtain⟨o,e,c,d⟩:=st;exact⟨o,e,fun v z=>by rw[d]at z;cases z⟩
 keep:=fun i h h' st k=>st.at fun o e=>k it (by simp) o e
 item:=by
  intro X hP hw hK hc i pr s σ H E I hf st hg;subst hP hw hK;obtain⟨xs,x,hq,hx⟩:=hg;obtain⟨GO,rv,p,hz⟩:=I.tuple hq;obtain⟨u,hu,ru⟩:=rv.get hx;obtain⟨f0,f1,f2,f3,f4,f5⟩:=hf it (by simp);refine wpAny_pyNext_tuple_item st (show s.heap.IsTuple a GO.toArray from p) (x:=u) (by simpa using hu) fun h' J2 sb=>?_
  have I1:Inv X pr σ H {s with heap:=h'}:=I.turned (t':=s.toks) (fun b o hb e=>(sb.2 b hb).trans e) f0 f1 f3 f4 f5;obtain⟨o,e,c,d⟩:=id J2;exact⟨u,rfl,tm (s:={s with heap:=h'}) e c d (by decide) ⟨x,H,I1,ru,⟨rfl,fun ys hy=>by rw[I.tuple_inj hy hq];exact hx⟩,J2,fun b hb=>(hf b hb).1⟩⟩
 done:=by
  intro X hP hw hK hc i pr s σ H E I hf st hg;subst hP hw hK;obtain⟨xs,hq,hx⟩:=hg;obtain⟨GO,rv,p,hz⟩:=I.tuple hq;obtain⟨f0,f1,f2,f3,f4,f5⟩:=hf it (by simp);have hl:=rv.length;exact wpAny_pyNext_tuple_end (I.ok.hd hc) st (show s.heap.IsTuple a GO.toArray from p) (by simp;lia) fun h' eb=>⟨rfl,I.turned (t':=s.toks) (fun b o hb e=>eb b o hb e) f0 f1 f3 f4 f5⟩
 self:=fun _ _ _ _ _ st h=>wpAny_pyIter_tupleiter st h
theorem rT{P:Program}{w:World}{K:W.Frag}{tg:Expr}(it:Addr)(lo:Int)(n:Nat):Turn P w K tg (QN lo n) [it] it (fun i h=>IsRangeIter h it (lo+(i:Nat)*1) ((n:Int)-(i:Nat)) 1) where
 mem:=by simp
 obj:=fun i h st b hb=>by
  have e:b=it:=by simpa using hb
  subst e;exact⟨_,st,fun v z=>by
   have z':Data.fields _=Data.cell v:=z;cases z'⟩
 keep:=fun i h h' st k=>k it (by simp) _ st
 item:=by
  intro X hP hw hK hc i pr s σ H E I hf st hg;subst hP hw hK;obtain⟨f0,f1,f2,f3,f4,f5⟩:=hf it (by simp);have W:=Walks.range (prog:=X.prog) (w:=X.w) (I.ok.hd hc) it lo 1 n;refine W.item i s _ _ hg st fun v h' tk hv J2 kk=>?_
  obtain⟨t,rfl⟩:=hv;have I1:Inv X pr σ H {s with heap:=h',toks:=tk}:=I.turned (fun b o hb e=>kk b o (by simpa using hb) e) f0 f1 f3 f4 f5;refine⟨_,rfl,tm (s:={s with heap:=h',toks:=tk}) (n:="range_iterator") J2 rfl rfl (by decide) ⟨.int (lo+i),H,I1,⟨t,?_⟩,⟨rfl,rfl⟩,J2,fun b hb=>(hf b hb).1⟩⟩;rw[Int.mul_one]
 done:=by
  intro X hP hw hK hc i pr s σ H E I hf st hg;subst hP hw hK;obtain⟨f0,f1,f2,f3,f4,f5⟩:=hf it (by simp);exact wpAny_pyNext_range_end (I.ok.hd hc) st (by have:n<=i:=hg;lia) fun h' eb=>⟨rfl,I.turned (t':=s.toks) (fun b o hb e=>eb b o hb e) f0 f1 f3 f4 f5⟩
 self:=fun _ _ _ _ _ st h=>wpAny_pyIter_rangeiter st h
section
variable{X:Cx}{tg:Expr}
def DU(K:W.Frag)(tl:TE):TI:=fun σ H R=>tl σ H fun x H1=>∃a,x=.ref a/\(∃xs,SqL K H1 a xs)/\R (O3 K a) H1
def FV(K:W.Frag)(tl:TE):TI:=fun σ H R=>tl σ H fun x H1=>∃a,x=.ref a/\(∃xs,SqT K H1 a xs)/\R (Rh K a) H1
theorem tu{l:Expr}{tl:TE}(hl:PE X l tl):PI X tg l (DU X.K tl):=by
 intro pr s σ H R I h;refine Hf (hl pr s σ H _ I h) fun v s1 Hc=>?_
 obtain⟨x,H1,I1,r1,q1⟩:=Hc;obtain⟨a,e,⟨xs,hq⟩,q⟩:=q1;subst e;cases r1;obtain⟨GO,rv,p,hz⟩:=I1.list hq;refine Ve p.isList ?_;refine⟨s1.heap.objs.size,[s1.heap.objs.size],_,_,H1,rfl,I1.kept (t':=s1.toks) fun b o e=>Th _ e,tq a _,⟨_,TF _ rfl,rfl,rfl⟩,fun b hb=>?_,q⟩;have e:b=s1.heap.objs.size:=by simpa using hb
 subst e;exact I1.fpOk (Tz _) (I1.hok.fresh (Tz _))
theorem Bw{l:Expr}{tl:TE}(hl:PE X l tl):PI X tg l (FV X.K tl):=by
 intro pr s σ H R I h;refine Hf (hl pr s σ H _ I h) fun v s1 Hc=>?_
 obtain⟨x,H1,I1,r1,q1⟩:=Hc;obtain⟨a,e,⟨xs,hq⟩,q⟩:=q1;subst e;cases r1;obtain⟨GO,rv,p,hz⟩:=I1.tuple hq;refine U3 (show s1.heap.IsTuple a GO.toArray from p) ?_;refine⟨s1.heap.objs.size,[s1.heap.objs.size],_,_,H1,rfl,I1.kept (t':=s1.toks) fun b o e=>Th _ e,rS a _,⟨_,TF _ rfl,rfl,rfl⟩,fun b hb=>?_,q⟩;have e:b=s1.heap.objs.size:=by simpa using hb
 subst e;exact I1.fpOk (Tz _) (I1.hok.fresh (Tz _))
theorem wU{pr:List (Addr×Obj)}{σ:St}{H:Hp}{s:Shared}{R:It->Hp->Prop}{E:Value->Shared->Prop}{lo hi:Int}{t u v:Tok}{tk:Nat}(I:Inv X pr σ H s)(h1:-(2 ^ 62)<=lo)(h2:lo<2 ^ 62)(h3:-(2 ^ 62)<=hi)(h4:hi<2 ^ 62)
  (q:R (QN lo (hi-lo).toNat) H):wpAny (model X.prog X.w) X.A (pyIter (.ref s.heap.objs.size)) (Se X pr σ tg R) E {s with heap:=s.heap.push {cls:=.type "range",data:=.fields #[.int lo t,.int hi u,.int 1 v]},toks:=tk}:=by
 refine wpAny_pyIter_range (IsRange.new ..) (small_one h1 h2 h3 h4) ?_;have I1:Inv X pr σ H {s with heap:=s.heap.push {cls:=.type "range",data:=.fields #[.int lo t,.int hi u,.int 1 v]},toks:=tk}:=I.kept fun b o e=>Th _ e
 refine⟨(s.heap.push {cls:=.type "range",data:=.fields #[.int lo t,.int hi u,.int 1 v]}).objs.size,[(s.heap.push {cls:=.type "range",data:=.fields #[.int lo t,.int hi u,.int 1 v]}).objs.size],_,_,H,rfl,
  I1.kept (t':=tk) fun b o e=>Th _ e,rT _ lo (hi-lo).toNat,?_,fun b hb=>?_,q⟩
 ·have e1:lo+((0:Nat):Int)*1=lo:=by simp
  have e2:(((hi-lo).toNat:Nat):Int)-((0:Nat):Int)=Builtin.Range.rangeSize lo hi 1:=by rw[rangeSize_one];split <;> lia
  show IsRangeIter _ _ (lo+((0:Nat):Int)*1) ((((hi-lo).toNat:Nat):Int)-((0:Nat):Int)) 1;rw[e1,e2];exact TF _ rfl
 ·have e:b=(s.heap.push {cls:=.type "range",data:=.fields #[.int lo t,.int hi u,.int 1 v]}).objs.size:=by simpa using hb
  subst e;exact I1.fpOk (Tz _) (I1.hok.fresh (Tz _))
def DV(ta:TA):TI:=fun σ H R=>ta σ H fun vs H1=>∃j:Int,vs=[.int j]/\-(2 ^ 62)<=j/\j<2 ^ 62/\R (QN 0 j.toNat) H1
theorem tw{a:Expr}{ta:TA}{p pos:Pos}(hg:Gl X "range")(hm:X.mg "range" = none)(ha:PA X [a] ta)(hs:starEach [a] X.env=[(false,eval a X.env)]:=by rfl):PI X tg (.Call (.Name "range" p) [a] [] pos) (DV ta):=by
 intro pr s σ H R I h;refine Call_ (jt I hg hm boot_range (UM (Hf (ha pos pr s σ H _ I h) fun us s1 ⟨vs,H1,I1,r1,q1⟩=>?_) hs rfl));obtain⟨j,e,q1,q2,q⟩:=q1;subst e;cases r1 with
 |cons r rr=>
  cases rr;obtain⟨t,rfl⟩:=r;exact call_range_1 (wU I1 (by lia) (by lia) q1 q2 (by simpa using q))
noncomputable def FY(wi:TI)(g:TG)(tb:TS):TS:=fun D σ H=>wi σ H fun J H1=>∃W:Nat->Nat->St->Hp->Prop,(∃m,W 0 m σ H1)/\∀i m σ H,W i m σ H->
 (J.stop i H/\D.nx σ H)\/(J.go i H/\∃N:St->Hp->Prop,(∀σ' H',N σ' H'->∃m',m'<m/\W (i+1) m' σ' H')/\∀x H',J.yld i H x H'->g x σ H' fun σ2 H2=>tb {D with nx:=N,ct:=N,bk:=D.nx} σ2 H2)
def lJ(fp:List Addr)(h:Heap):List (Addr×Obj):=fp.filterMap fun b=>(h.get? b).map fun o=>(b,o)
theorem dN{fp:List Addr}{h:Heap}{b:Addr}{o:Obj}(hb:b∈fp)(e:h.get? b=some o):(b,o)∈lJ fp h:=YG.mpr ⟨b,hb,by rw[e];rfl⟩
theorem tF{fp:List Addr}{h:Heap}{p:Addr×Obj}(hp:p∈lJ fp h):p.1∈fp/\h.get? p.1=some p.2:=by
 obtain⟨b,hb,e⟩:=YG.mp hp;cases q:h.get? b with
 |none=>rw[q]at e;cases e
 |some o=>
  rw[q]at e;have e':(b,o)=p:=Ud e;subst e';exact⟨hb,q⟩
theorem Inv.pinned{pr:List (Addr×Obj)}{σ:St}{H:Hp}{s:Shared}{fp:List Addr}(I:Inv X pr σ H s)(hf:∀b∈fp,nF X pr H b)(ho:∀b∈fp,∃o,s.heap.get? b=some o/\∀v,o.data≠.cell v):Inv X (pr++lJ fp s.heap) σ H s:=
 I.pins_of fun p hp=>(Ub.mp hp).elim (fun z=>I.pin p (Tp _ z)) fun z=>by
  obtain⟨hb,e⟩:=tF z;obtain⟨f0,f1,f2,_⟩:=hf p.1 hb;obtain⟨o,e',d⟩:=ho p.1 hb;rw[e]at e';cases e';exact⟨e,f0,f1,f2,d⟩
theorem Inv.unpinned{pr pl:List (Addr×Obj)}{σ:St}{H:Hp}{s:Shared}(I:Inv X (pr++pl) σ H s):Inv X pr σ H s:=I.pins_of fun p hp=>I.pin p (Tp _ (TB _ hp))
theorem tG{iter:Expr}{body:List Stmt}{wi:TI}{g:TG}{tb:TS}{pos:Pos}(hp:PassesOwn (model X.prog X.w) X.A X.env X.xe)(hc:X.calm=true)(hi:PI X tg iter wi)(hg:PG X tg g)(hb:PSs X body tb)
  (hs:∀x,foldedSetIterable iter X.env x=pure x:=by intro _;rfl):PS X (.For tg iter body [] pos) (FY wi g tb):=by
 intro pr s σ H D I h;refine wpAny_For (Hf (hi pr s σ H _ I h) fun v s1 h1=>Hf h1 fun O2 s2 h2=>?_) hs;obtain⟨it,fp,tn,J,H2,e,I2,T,GV,f2,W,⟨m0,w0⟩,turn⟩:=h2;subst e;have JF:∀{H':Hp},(∀b∈fp,H' b=none)->∀b∈fp,nF X pr H' b:=fun hn b hb=>⟨hn b hb,(f2 b hb).2⟩
 refine codeAny_forLoop_any (fun n s'=>∃i σ' H',Inv X pr σ' H' s'/\tn i s'.heap/\(∀b∈fp,H' b=none)/\W i n σ' H') ?_ m0 ⟨0,σ,H2,I2,GV,fun b hb=>(f2 b hb).1,w0⟩;rintro n s3 ⟨i,σ3,H3,I3,Ho,NA,w3⟩;rcases turn i n σ3 H3 w3 with⟨stop,qn⟩|⟨go,N,hN,step⟩
 ·refine VM hp (Hf (T.done X rfl rfl rfl hc i pr s3 σ3 H3 X.xe I3 (JF NA) Ho stop) fun r s4 Hc=>?_);obtain⟨hr,I4⟩:=Hc;subst hr;exact W6 ⟨σ3,H3,I4,qn⟩
 ·refine VM hp (Hf (T.item X rfl rfl rfl hc i pr s3 σ3 H3 X.xe I3 (JF NA) Ho go) fun r s4 Hc=>?_);obtain⟨u,hr,h4⟩:=Hc;subst hr;refine VM hp (Hf h4 fun _ s5 Hc=>?_);obtain⟨x,H5,I5,r5,y5,IV,Pt⟩:=Hc;have Pu:=I5.pinned (JF Pt) (T.obj _ _ IV);refine VM hp (Hf (hg _ s5 σ3 H5 x u _ Pu r5 (step x H5 y5)) fun _ s6 Hc=>?_);obtain⟨σ6,H6,I6,q6⟩:=Hc;refine VM hp (Hf (hb _ s6 σ6 H6 _ I6 q6) fun f s7 q7=>?_);have again:∀{σ7:St}{H7:Hp},Inv X (pr++lJ fp s5.heap) σ7 H7 s7->N σ7 H7->∃m,m<n/\∃i σ' H',Inv X pr σ' H' s7/\tn i s7.heap/\(∀b∈fp,H' b=none)/\W i m σ' H':=fun{σ7 H7} I7 n7=>by
   obtain⟨m',hm,w7⟩:=hN σ7 H7 n7;refine⟨m',hm,i+1,σ7,H7,I7.unpinned,T.keep _ _ _ IV fun b hb o e=>(I7.pin (b,o) (Tp _ (Tp _ (dN hb e)))).1,fun b hb=>?_,w7⟩;obtain⟨o,e,d⟩:=T.obj _ _ IV b hb;exact(I7.pin (b,o) (Tp _ (Tp _ (dN hb e)))).2.1
  cases f with
  |next=>obtain⟨σ7,H7,I7,n7⟩:=q7;exact again I7 n7
  |cont=>obtain⟨σ7,H7,I7,n7⟩:=q7;exact again I7 n7
  |brk=>obtain⟨σ7,H7,I7,q7⟩:=q7;exact⟨σ7,H7,I7.unpinned,q7⟩
  |ret v=>obtain⟨x7,σ7,H7,I7,r7,q7⟩:=q7;exact⟨x7,σ7,H7,I7.unpinned,r7,q7⟩
end
theorem for_list{K:W.Frag}{a:Addr}{xs:List V}{g:TG}{tb:TS}{D:Ends}{σ:St}{H:Hp}(Pv:Nat->St->Hp->Prop)(h0:Pv 0 σ H)(hl:∀i σ H,i<=xs.length->Pv i σ H->SqL K H a xs)
  (hs:∀i x σ H,xs[i]?=some x->Pv i σ H->g x σ H fun σ2 H2=>tb {D with nx:=Pv (i+1),ct:=Pv (i+1),bk:=D.nx} σ2 H2) (hd:∀σ H,Pv xs.length σ H->D.nx σ H):
  ∃W:Nat->Nat->St->Hp->Prop,(∃m,W 0 m σ H)/\∀i m σ H,W i m σ H->
   ((O3 K a).stop i H/\D.nx σ H)\/((O3 K a).go i H/\∃N:St->Hp->Prop,(∀σ' H',N σ' H'->∃m',m'<m/\W (i+1) m' σ' H')/\∀x H',(O3 K a).yld i H x H'->g x σ H' fun σ2 H2=>tb {D with nx:=N,ct:=N,bk:=D.nx} σ2 H2):=by
 refine⟨fun i m σ H=>m=xs.length-i/\i<=xs.length/\Pv i σ H,⟨xs.length,by simp,Ut _,h0⟩,?_⟩;rintro i m σ H ⟨rfl,hi,p⟩;have q:=hl i σ H hi p;by_cases Hx:i<xs.length
 ·refine .inr ⟨⟨xs,xs[i],q,by simp[Hx]⟩,Pv (i+1),fun σ' H' p'=>⟨xs.length-(i+1),by lia,rfl,Hx,p'⟩,fun x H' y=>?_⟩;obtain⟨e,y⟩:=y;subst e;exact hs i x σ _ (y xs q) p
 ·have e:i=xs.length:=by lia
  subst e;exact .inl ⟨⟨xs,q,Tz _⟩,hd σ H p⟩
abbrev R2:=V->V->Hp->VK->Prop
def HG(X:Cx)(f:Value->Value->Sem Value)(r:R2):Prop:=
 ∀(pr:List (Addr×Obj)) (s:Shared) (σ:St) (H:Hp) (x y:V) (v u:Value) (Q:VK),Inv X pr σ H s->RelV x v->RelV y u->r x y H Q->
  wpAny (model X.prog X.w) X.A (f v u) (EP X pr σ Q) X.xe s
def Ri(X:Cx)(f:Value->Sem Value)(r:V->Hp->VK->Prop):Prop:=
 ∀(pr:List (Addr×Obj)) (s:Shared) (σ:St) (H:Hp) (x:V) (v:Value) (Q:VK),Inv X pr σ H s->RelV x v->r x H Q->
  wpAny (model X.prog X.w) X.A (f v) (EP X pr σ Q) X.xe s
def dB(X:Cx)(f:Value)(r:List V->Hp->VK->Prop):Prop:=
 ∀(pr:List (Addr×Obj)) (s:Shared) (σ:St) (H:Hp) (xs:List V) (us:List Value) (Q:VK),Inv X pr σ H s->Vals xs us->r xs H Q->
  wpAny (model X.prog X.w) X.A (call f us) (EP X pr σ Q) X.xe s
def O4(r:R2)(ta tb:TE):TE:=fun σ H Q=>ta σ H fun x H1=>tb σ H1 fun y H2=>r x y H2 Q
def tUn(r:V->Hp->VK->Prop)(ta:TE):TE:=fun σ H Q=>ta σ H fun x H1=>r x H1 Q
def rI(C:Int->Int->Prop)(g:Int->Int->V):R2:=fun x y H Q=>∃i j,x=.int i/\y=.int j/\C i j/\Q (g i j) H
def O5(g:Int->Int->V):R2:=fun x y H Q=>∃i j,x=.int i/\y=.int j/\Q (g i j) H
def rU(g:Int->V):V->Hp->VK->Prop:=fun x H Q=>∃i,x=.int i/\Q (g i) H
section
variable{X:Cx}{a b c:Expr}{ta tb tc:TE}{pos:Pos}
theorem DW(ha:PE X a ta)(hb:PE X b tb){pr:List (Addr×Obj)}{s:Shared}{σ:St}{H:Hp}{R:V->V->Hp->Prop}(I:Inv X pr σ H s)
  (h:ta σ H fun x H1=>tb σ H1 fun y H2=>R x y H2) {Q:Value->Shared->Prop}{f:Value->Value->Sem Value}
  (hf:∀v u s2 x y H2,Inv X pr σ H2 s2->RelV x v->RelV y u->R x y H2->wpAny (model X.prog X.w) X.A (f v u) Q X.xe s2):
  wpAny (model X.prog X.w) X.A (eval a X.env) (fun v s₁=>wpAny (model X.prog X.w) X.A (eval b X.env) (fun u s₂=>wpAny (model X.prog X.w) X.A (f v u) Q X.xe s₂) X.xe s₁) X.xe s:=by
 refine Hf (ha pr s σ H _ I h) fun v s1 Hc=>?_
 obtain⟨x,H1,I1,r1,q1⟩:=Hc;refine Hf (hb pr s1 σ H1 _ I1 q1) fun u s2 Hc=>?_
 obtain⟨y,H2,I2,r2,q2⟩:=Hc;exact hf v u s2 x y H2 I2 r1 r2 q2
theorem DX{op:Operator}{r:R2}(ho:HG X (binaryOp op) r)(ha:PE X a ta)(hb:PE X b tb):PE X (.BinOp a op b pos) (O4 r ta tb):=by
 intro pr s σ H Q I h;exact wpAny_BinOp (DW ha hb I h fun v u s2 x y H2 I2 rx ry q=>ho pr s2 σ H2 x y v u Q I2 rx ry q)
theorem DY{op:UnaryOp}{r:V->Hp->VK->Prop}(ho:Ri X (unaryOp op) r)(ha:PE X a ta):PE X (.UnaryOp op a pos) (tUn r ta):=by
 intro pr s σ H Q I h;exact UnaryOp_ (Hf (ha pr s σ H _ I h) fun v s1 ⟨x,H1,I1,r1,q1⟩=>ho pr s1 σ H1 x v Q I1 r1 q1)
theorem O6{f:Value->Value->Sem Value}{C:Int->Int->Prop}{g:Int->Int->Int}
  (rule:∀(i j:Int) (t u:Tok) (s:Shared) (Q:Value->Shared->Prop) (E:Value->Shared->Prop),C i j->Q (.int (g i j) s.toks) {s with toks:=s.toks+1}->wpAny (model X.prog X.w) X.A (f (.int i t) (.int j u)) Q E s):
  HG X f (rI C fun i j=>.int (g i j)):=by
 intro pr s σ H x y v u Q I rx ry h;obtain⟨i,j,rfl,rfl,hc,q⟩:=h;obtain⟨t,rfl⟩:=rx;obtain⟨t',rfl⟩:=ry;exact rule i j t t' s _ _ hc ⟨.int (g i j),H,I.tok _,⟨_,rfl⟩,q⟩
theorem Fm{f:Value->Value->Sem Value}{g:Int->Int->Int}
  (rule:∀(i j:Int) (t u:Tok) (s:Shared) (Q:Value->Shared->Prop) (E:Value->Shared->Prop),Q (.int (g i j) s.toks) {s with toks:=s.toks+1}->wpAny (model X.prog X.w) X.A (f (.int i t) (.int j u)) Q E s):
  HG X f (O5 fun i j=>.int (g i j)):=by
 intro pr s σ H x y v u Q I rx ry h;obtain⟨i,j,rfl,rfl,q⟩:=h;obtain⟨t,rfl⟩:=rx;obtain⟨t',rfl⟩:=ry;exact rule i j t t' s _ _ ⟨.int (g i j),H,I.tok _,⟨_,rfl⟩,q⟩
theorem Fn{f:Value->Value->Sem Value}{g:Int->Int->Bool}
  (rule:∀(i j:Int) (t u:Tok) (s:Shared) (Q:Value->Shared->Prop) (E:Value->Shared->Prop),Q (.bool (g i j)) s->wpAny (model X.prog X.w) X.A (f (.int i t) (.int j u)) Q E s):
  HG X f (O5 fun i j=>.bl (g i j)):=by
 intro pr s σ H x y v u Q I rx ry h;obtain⟨i,j,rfl,rfl,q⟩:=h;obtain⟨t,rfl⟩:=rx;obtain⟨t',rfl⟩:=ry;exact rule i j t t' s _ _ ⟨.bl (g i j),H,I,rfl,q⟩
def FZ(i j:Int):Prop:=0<=j/\j<=1000000/\i.natAbs<2 ^ 64
def CMul(i j:Int):Prop:=(-(2 ^ 64)<i/\i<2 ^ 64)\/(-(2 ^ 64)<j/\j<2 ^ 64)
theorem CMul.ok{i j:Int}(h:CMul i j):IntMulOk i j:=by
 rcases h with⟨h1,h2⟩|⟨h1,h2⟩
 ·exact .of_left (intBits_le_64 h1 h2)
 ·exact .of_right (intBits_le_64 h1 h2)
theorem Bx:HG X (binaryOp .Add) (O5 fun i j=>.int (i+j)):=Fm fun _ _ _ _ _ _ _ q=>add_int q
theorem By:HG X (binaryOp .Sub) (O5 fun i j=>.int (i-j)):=Fm fun _ _ _ _ _ _ _ q=>sub_int q
theorem Bz:HG X (binaryOp .Mult) (rI CMul fun i j=>.int (i*j)):=O6 fun _ _ _ _ _ _ _ hc q=>mul_int q hc.ok
theorem BA:HG X (binaryOp .Mod) (rI (fun _ j=>0<j) fun i j=>.int (i%j)):=O6 fun i j _ _ _ _ _ hc q=>by
 have h1:(0:Int)<j:=hc;exact mod_int' (by lia) (by rw[Int.fmod_eq_emod_of_nonneg i (by lia)];exact q)
theorem zk:HG X (binaryOp .Mod) (rI (fun _ j=>j≠0) fun i j=>.int (i.fmod j)):=O6 fun _ _ _ _ _ _ _ hc q=>mod_int' hc q
theorem BC:HG X (binaryOp .Pow) (rI FZ fun i j=>.int (i ^ j.toNat)):=O6 fun _ _ _ _ _ _ _ hc q=>pow_int_small hc.1 hc.2.1 hc.2.2 q
theorem unI{f:Value->Sem Value}{g:Int->Int}
  (rule:∀(i:Int) (t:Tok) (s:Shared) (Q:Value->Shared->Prop) (E:Value->Shared->Prop),Q (.int (g i) s.toks) {s with toks:=s.toks+1}->wpAny (model X.prog X.w) X.A (f (.int i t)) Q E s):
  Ri X f (rU fun i=>.int (g i)):=by
 intro pr s σ H x v Q I rx h;obtain⟨i,rfl,q⟩:=h;obtain⟨t,rfl⟩:=rx;exact rule i t s _ _ ⟨.int (g i),H,I.tok _,⟨_,rfl⟩,q⟩
theorem BD:Ri X (unaryOp .USub) (rU fun i=>.int (-i)):=unI fun _ _ _ _ _ q=>neg_int q
end
section
variable{X:Cx}{a b c:Expr}{ta tb tc:TE}{pos:Pos}
theorem tH{pr:List (Addr×Obj)}{σ:St}{H:Hp}{s:Shared}{Q:VK}{k k':Bool}(I:Inv X pr σ H s)(q:Q (.bl k) H)(e:k=k'):EP X pr σ Q (.bool k') s:=by
 subst e;exact⟨.bl k,H,I,rfl,q⟩
theorem DZ:HG X (compareOp .Lt) (O5 fun i j=>.bl (decide (i<j))):=Fn fun _ _ _ _ _ _ _ q=>lt_int q
theorem D2:HG X (compareOp .Gt) (O5 fun i j=>.bl (decide (j<i))):=Fn fun _ _ _ _ _ _ _ q=>gt_int q
theorem tJ:HG X (compareOp .Lt) (fun x y H Q=>∃i j,x=.str i/\y=.str j/\Q (.bl (decide (i.cps.toList<j.cps.toList))) H):=by
 intro pr s σ H x y v u Q I rx ry h;obtain⟨i,j,rfl,rfl,q⟩:=h;obtain⟨t,rfl⟩:=rx;obtain⟨t',rfl⟩:=ry;exact lt_str (tH I q rfl)
theorem tL:HG X (compareOp .In) (fun x y H Q=>∃i j,x=.str i/\y=.str j/\Q (.bl (!(Builtin.Str.occurrences j i 0 j.length 1).isEmpty)) H):=by
 intro pr s σ H x y v u Q I rx ry h;obtain⟨i,j,rfl,rfl,q⟩:=h;obtain⟨t,rfl⟩:=rx;obtain⟨t',rfl⟩:=ry;exact in_str (tH I q rfl)
theorem nG:HG X (compareOp .NotIn) (fun x y H Q=>∃i j,x=.str i/\y=.str j/\Q (.bl (!(!(Builtin.Str.occurrences j i 0 j.length 1).isEmpty))) H):=by
 intro pr s σ H x y v u Q I rx ry h;obtain⟨i,j,rfl,rfl,q⟩:=h;obtain⟨t,rfl⟩:=rx;obtain⟨t',rfl⟩:=ry;exact notIn_str (tH I q rfl)
theorem aA(b:Expr){op:CmpOp}(h:op≠.In:=by decide)(h2:op≠.NotIn:=by decide):behindInMarks op b=false:=by
 have e1:(op==CmpOp.In)=false:=by cases op <;> first|rfl|exact absurd rfl h
 have e2:(op==CmpOp.NotIn)=false:=by cases op <;> first|rfl|exact absurd rfl h2
 cases b <;> simp[behindInMarks,e1,e2]
theorem tM{op:CmpOp}{r:R2}(ho:HG X (compareOp op) r)(ha:PE X a ta)(hb:PE X b tb)(hm:behindInMarks op b=false):PE X (.Compare a [op] [b] pos) (O4 r ta tb):=by
 intro pr s σ H Q I h;exact wpAny_Compare1 (DW ha hb I h fun v u s2 x y H2 I2 rx ry q=>ho pr s2 σ H2 x y v u Q I2 rx ry q) hm
def D3(t:TE):TT:=fun σ H Q=>t σ H fun x H'=>∃k,x=.bl k/\Q k H'
theorem tN{op:CmpOp}{r:R2}(ho:HG X (compareOp op) r)(ha:PE X a ta)(hb:PE X b tb)(hm:behindInMarks op b=false):PT X (.Compare a [op] [b] pos) (D3 (O4 r ta tb)):=by
 intro pr s σ H Q I h;refine wpAny_isTrue_Compare1 (Hf (ha pr s σ H _ I h) fun v s1 ⟨x,H1,I1,r1,q1⟩=>Hf (hb pr s1 σ H1 _ I1 q1) fun u s2 ⟨y,H2,I2,r2,q2⟩=>
  Hf (ho pr s2 σ H2 x y v u _ I2 r1 r2 q2) fun c s3 ⟨z,H3,I3,r3,k,e,q3⟩=>?_) hm
 subst e;cases r3;exact We ⟨H3,I3,q3⟩
theorem lK:(sizeLine:Nat)<2 ^ 63:=by rw[UB];decide
theorem rV:HG X (binaryOp .Add) (fun x y H Q=>∃i j,x=.str i/\y=.str j/\i.length+j.length<=sizeLine/\Q (.str (i++j)) H):=by
 intro pr s σ H x y v u Q I rx ry h;obtain⟨i,j,rfl,rfl,hz,q⟩:=h;obtain⟨t,rfl⟩:=rx;obtain⟨t',rfl⟩:=ry;exact add_str (fun t' tk=>⟨.str (i++j),H,I.tok _,⟨_,rfl⟩,q⟩) hz
theorem hJ{x:V}{us:List Value}(r:Vals [x] us):∃u,us=[u]/\RelV x u:=by
 cases r with
 |cons r1 r2=>cases r2;exact⟨_,rfl,r1⟩
theorem zm{x y:V}{us:List Value}(r:Vals [x,y] us):∃u w',us=[u,w']/\RelV x u/\RelV y w':=by
 cases r with
 |cons r1 r2=>
  cases r2 with
  |cons r3 r4=>cases r4;exact⟨_,_,rfl,r1,r3⟩
theorem wV:dB X (.builtin "abs") (fun xs H Q=>∃i,xs=[.int i]/\Q (.int (if i<0 then -i else i)) H):=by
 intro pr s σ H xs us Q I r h;obtain⟨i,rfl,q⟩:=h;obtain⟨u,rfl,t,rfl⟩:=hJ r;exact call_abs_int fun u tk=>⟨.int (if i<0 then -i else i),H,I.tok _,⟨_,rfl⟩,q⟩
end
section
variable{prog:Program}{w:World}{A:Around}{E:Value->Shared->Prop}{s:Shared}{K:W.Frag}{x dx C f:Addr}{mA:Str->Option Value}{name:Str}{v:Value}
end
theorem RelO.some_of{v:V}{o:Option Value}(r:RelO (some v) o):∃u,o=some u/\RelV v u:=by
 cases o with
 |none=>exact(show False from r).elim
 |some u=>exact⟨u,rfl,r⟩
theorem RelO.none_of{o:Option Value}(r:RelO none o):o=none:=by
 cases o with
 |none=>rfl
 |some u=>exact(show False from r).elim
section
variable{P:Program}{w:World}{H H':Hp}{h h':Heap}{a C dx:Addr}{fs fs':List (Str×V)}
end
structure Cls(K:W.Frag)(C:Addr):Prop where
 pg:PySem.W.plainGet K C Str.empty=true
 hd:PySem.W.hasDictIn K C=true
 po:PySem.W.plainOver K C=true
 sa:PySem.W.findIn K (.ref C) "__setattr__" = some (some (.builtin "object.__setattr__"))
theorem Cls.get{K:W.Frag}{C:Addr}(c:Cls K C)(f:Str):PySem.W.plainGet K C f=true:=c.pg
section
variable{X:Cx}{pr:List (Addr×Obj)}{σ:St}{H:Hp}{s:Shared}{a C dx:Addr}{fs:List (Str×V)}{f:Str}{v:V}{A:Around}{E:Value->Shared->Prop}
end
section
variable{X:Cx}{o e value:Expr}{f:Str}{pos pos' NV:Pos}{ta tv:TE}
end
section
variable{X:Cx}{pr:List (Addr×Obj)}{σ:St}{H:Hp}{s:Shared}{A:Around}{E:Value->Shared->Prop}{Q:Value->Shared->Prop}{c:Value}{b:Bool}
end
structure Room(k:Nat)(A:Around):Prop where
 hd:A.handled=none
 dp:A.depth+3*k+5<recursionLimit
 un:A.units+16*k+200<cLine
theorem Room.mono{j k:Nat}{A:Around}(r:Room k A)(h:j<=k):Room j A:=⟨r.hd,by have:=r.dp;lia,by have:=r.un;lia⟩
theorem Room.m{j k:Nat}{A:Around}(r:Room k A)(h:j<=k:=by decide):Room j A:=r.mono h
theorem Room.deeper{k:Nat}{A:Around}(r:Room (k+1) A)(env:Env):Room k (A.deeper env):=
 ⟨r.hd,by have:=r.dp;show A.depth+1+3*k+5<_;lia,by have:=r.un;show A.units+3+16*k+200<_;lia⟩
theorem Room.depth{k:Nat}{A:Around}(r:Room k A):A.depth<recursionLimit:=by have:=r.dp;lia
theorem Room.units{k:Nat}{A:Around}(r:Room k A):A.units+64<cLine:=by have:=r.un;lia
theorem Room.units0{k:Nat}{A:Around}(r:Room k A):A.units<cLine:=by have:=r.un;lia
def F0:TA:=fun _ H Q=>Q [] H
def D4(ta:TE)(tr:TA):TA:=fun σ H Q=>ta σ H fun x H1=>tr σ H1 fun xs H2=>Q (x::xs) H2
section
variable{X:Cx}{e:Expr}{es:List Expr}{te:TE}{t:TA}{pos:Pos}
theorem tP:PA X [] F0:=fun _ _ _ _ H Q I h=>Calls.spliced_nil ⟨[],H,I,.nil,h⟩
theorem l5(ha:PE X e te)(hr:PA X es t)(hs:starEach (e::es) X.env=(false,eval e X.env)::starEach es X.env:=by rfl):PA X (e::es) (D4 te t):=by
 intro pos pr s σ H Q I h;rw[hs];show wpAny _ _ (spliced ((false,eval e X.env)::backTo pos (starEach es X.env))) _ _ s;refine Calls.spliced_cons (Hf (ha pr s σ H _ I h) fun u s1 Hc=>?_);obtain⟨x,H1,I1,r1,q1⟩:=Hc;exact Hf (hr pos pr s1 σ H1 _ I1 q1) fun us s2 ⟨xs,H2,I2,r2,q2⟩=>⟨x::xs,H2,I2,.cons r1 r2,q2⟩
def F1(t:TA):TE:=fun σ H Q=>t σ H fun xs H1=>xs.length<=sizeLine/\∀p,H1 p=none->Q (.ref p) (upd H1 p (.tup xs))
def F2(t:TA):TE:=fun σ H Q=>t σ H fun xs H1=>xs.length<=sizeLine/\∀p,H1 p=none->Q (.ref p) (upd H1 p (.lst xs))
theorem BE{x1}(h:PA X es t):PE X (.Tuple es x1 pos) (F1 t):=by
 intro pr s σ H Q I hq;refine wpAny_Tuple_spliced (Hf (h pos pr s σ H _ I hq) fun us s1 ⟨xs,H1,I1,r,z,q⟩=>⟨by rw[<-r.length];exact z,?_⟩);have hf:H1 s1.heap.objs.size=none:=I1.hok.fresh (Tz _);refine⟨.ref s1.heap.objs.size,upd H1 s1.heap.objs.size (.tup xs),I1.laid (t':=s1.toks) (fun b u e=>Th _ e) (Tz _) ?_,rfl,q _ hf⟩;exact⟨z,us,r,⟨_,TF _ rfl,rfl,⟨_,rfl⟩,rfl⟩⟩
theorem BF(h:PA X es t):PE X (.List es pos) (F2 t):=by
 intro pr s σ H Q I hq;refine wpAny_List_spliced (Hf (h pos pr s σ H _ I hq) fun us s1 ⟨xs,H1,I1,r,z,q⟩=>⟨by rw[<-r.length];exact z,?_⟩);have hf:H1 s1.heap.objs.size=none:=I1.hok.fresh (Tz _);refine⟨.ref s1.heap.objs.size,upd H1 s1.heap.objs.size (.lst xs),I1.laid (t':=s1.toks) (fun b u e=>Th _ e) (Tz _) ?_,rfl,q _ hf⟩;exact⟨z,us,0,r,TF _ rfl⟩
end
abbrev Sp:=List V->Hp->VK->XK->Prop
abbrev CXT:=List Env->Hp->Shared->XK->Value->Shared->Prop
structure Env0(P:Program)(w:World)(K:W.Frag)(mg:Str->Option Value)(base:Heap)(A:Around)(outer:List Env)(s:Shared)(H:Hp):Prop where
 frames:A.frames=some outer
 mod:Mod K mg base
 bs:∀b o,base.get? b=some o->s.heap.get? b=some o/\H b=none
 bsz:base.objs.size<=s.heap.objs.size
 funs:s.heap.FunFrames base outer
 frf:∀b∈K0 outer,H b=none
 hok:HOk P w H s.heap
 bare:AllBare s.gens
def CE(outer:List Env)(P:Program)(w:World)(H:Hp)(s:Shared)(Q:VK)(u:Value)(s':Shared):Prop:=
 ∃v H',s'.os=s.os/\AllBare s'.gens/\Un (K0 outer) [] H H' s.heap s'.heap/\HOk P w H' s'.heap/\RelV v u/\Q v H'
def CR(CX:CXT)(outer:List Env)(P:Program)(w:World)(H:Hp)(s:Shared)(Q:VK)(E:XK)(r:Result)(s':Shared):Prop:=
 match r with
 | .ok (.ret u)=>CE outer P w H s Q u s'
 | .ok _=>False
 | .error e=>CX outer H s E e s'
structure FnOk(P:Program)(w:World)(K:W.Frag)(mg:Str->Option Value)(base:Heap)(CX:CXT)(k:Nat)(f:Addr)(fd:FuncData)(ps:List Str)(sp:Sp):Prop where
 len:∀vs H Q E,sp vs H Q E->vs.length=ps.length
 run:∀(A:Around) (outer:List Env) (s:Shared) (H:Hp) (args:Args) (us:List Value) (vs:List V) (Q:VK) (E:XK),Room k A->Env0 P w K mg base A outer s H->BindsTo s fd args (ps.zip us)->Vals vs us->sp vs H Q E->
  codeAny (model P w) A (.call (.ref f) args) (CR CX outer P w H s Q E) s
theorem FnOk.imp{P:Program}{w:World}{K:W.Frag}{mg:Str->Option Value}{base:Heap}{CX:CXT}{k:Nat}{f:Addr}{fd:FuncData}{ps:List Str}{sp Sf:Sp}(F:FnOk P w K mg base CX k f fd ps sp)
  (h:∀vs H Q E,Sf vs H Q E->sp vs H Q E):FnOk P w K mg base CX k f fd ps Sf:=
 ⟨fun vs H Q E q=>F.len vs H Q E (h _ _ _ _ q),fun A outer s H args us vs Q E hr he hb hv hs=>F.run A outer s H args us vs Q E hr he hb hv (h _ _ _ _ hs)⟩
section
variable{X:Cx}{pr:List (Addr×Obj)}{σ:St}{H:Hp}{s s':Shared}
theorem Inv.env0(I:Inv X pr σ H s):Env0 X.prog X.w X.K X.mg X.base X.A X.stack s H:=
 ⟨I.ok.frames,I.ok.mod,I.bs,Ua I.ok.bsz I.sz,I.stack,I.stkFree,I.hok,I.bare⟩
theorem Inv.after{Q:VK}{u:Value}(I:Inv X pr σ H s)(h:CE X.stack X.prog X.w H s Q u s'):EP X pr σ Q u s':=by
 obtain⟨v,H',os,bare,un,hok,r,q⟩:=h;obtain⟨hh,g,d,t,Sg⟩:=s';obtain rfl:Sg=s.os:=os;exact⟨v,H',I.call (h':=hh) (g':=g) (d':=d) (t':=t) (ch:=[]) un hok bare (fun b z=>absurd z (by simp)),r,q⟩
end
def tCall(sp:Sp)(NB:List V)(E:XK)(t:TA):TE:=fun σ H Q=>t σ H fun vs H1=>sp (vs++NB) H1 Q E
def Binds(K:W.Frag)(fd:FuncData)(ps:List Str)(ds:List Value):Prop:=
 ∀(s:Shared) (us:List Value),K.In s.heap->(us++ds).length=ps.length->BindsTo s fd ⟨us,[]⟩ (ps.zip (us++ds))
theorem Binds.all{K:W.Frag}{fd:FuncData}{ps:List Str}(h:∀us:List Value,us.length=ps.length->bindArgs fd ⟨us,[]⟩=pure (ps.zip us)):Binds K fd ps []:=fun s us _ hl=>by
 rw[Uo]at hl ⊢;exact .of_eq (h us hl)
def tR(CX:CXT)(X:Cx)(E:XK):Prop:=∀(pr:List (Addr×Obj)) (σ:St) (H:Hp) (s:Shared) (e:Value) (s':Shared),Inv X pr σ H s->CX X.stack H s E e s'->X.xe e s'
section
variable{X:Cx}{CX:CXT}{k:Nat}{f C:Addr}{fd:FuncData}{ps:List Str}{sp:Sp}{NB:List V}{ds:List Value}{E:XK}{x m:Str}{p pos apos:Pos}{e o:Expr}{es:List Expr}{ta:TE}{t:TA}
theorem BG{pr:List (Addr×Obj)}{σ:St}{H:Hp}{s:Shared}{Q:VK}{us:List Value}{vs:List V}(F:FnOk X.prog X.w X.K X.mg X.base CX k f fd ps sp)(hr:Room k X.A)(hb:Binds X.K fd ps ds)(hd:Vals NB ds)(hx:tR CX X E)
  (I:Inv X pr σ H s) (r:Vals vs us) (h:sp (vs++NB) H Q E):wpAny (model X.prog X.w) X.A (call (.ref f) us) (EP X pr σ Q) X.xe s:=by
 have r2:Vals (vs++NB) (us++ds):=r.append hd;have hl:(us++ds).length=ps.length:=by rw[<-r2.length];exact F.len _ _ _ _ h
 refine wpAny_call (codeAny_mono (F.run X.A X.stack s H ⟨us,[]⟩ (us++ds) (vs++NB) Q E hr I.env0 (hb s us I.kIn hl) r2 h) fun r s' hq=>?_);cases r with
 |error e=>exact hx pr σ H s e s' I hq
 |ok fl=>
  cases fl with
  |ret u=>exact I.after hq
  |next=>exact False.elim hq
  |brk=>exact False.elim hq
  |cont=>exact False.elim hq
theorem zo(F:FnOk X.prog X.w X.K X.mg X.base CX k f fd ps sp)(hr:Room k X.A)(hg:Gl X x)(hm:X.mg x=some (.ref f))(hk:PySem.W.keepIn X.K (.ref f)=true)(hb:Binds X.K fd ps ds)(hd:Vals NB ds)(hx:tR CX X E)
  (ha:PA X (e::es) t) (JG:(x==("__debug__" : Str))=false:=by decide) (he:starEach (e::es) X.env=(false,eval e X.env)::starEach es X.env:=by rfl) (IM:(backTo pos (starEach es X.env)).any (·.1)=false:=by rfl):
  PE X (.Call (.Name x p) (e::es) [] pos) (tCall sp NB E t):=by
 intro pr s σ H Q I h;refine Vk (zc I hg hm ?_ JG);refine PySem.W.callWith_K (h₀:=X.base) I.ok.mod.kin hk (Hf (ha pos pr s σ H _ I h) fun us s1 ⟨vs,H1,I1,r,q⟩=>⟨I1.kIn,?_⟩) he IM;exact BG F hr hb hd hx I1 r q
end
section
variable{X:Cx}{CX:CXT}{k:Nat}{f C:Addr}{fd:FuncData}{ps ks:List Str}{sp:Sp}{E:XK}{x m:Str}{p pos apos Pw:Pos}{e o:Expr}{es:List Expr}{kws:List Keyword}{te ta:TE}{t tk:TA}{nm:Option Str}
variable{g:List Value->List Value->List Value}{gV:List V->List V->List V}
end
structure FnScope(N P:List Str)(sc:Scope):Prop where
 kind:sc.kind=.function
 co:sc.isCoroutine=false
 gen:sc.isGenerator=false
 nd:N.Nodup
 pre:N.take P.length=P
 par:∀x∈P,sc.names.lookup x=some .local\/sc.names.lookup x=some .cell
 nofree:∀y∈sc.names,y.2≠.free
theorem fs{N P:List Str}{sc:Scope}(a:sc.kind=.function:=by rfl)(b:sc.isCoroutine=false:=by rfl)(c:sc.isGenerator=false:=by rfl)(d:N.Nodup:=by decide +kernel)(e:N.take P.length=P:=by rfl)(f:∀x∈P,sc.names.lookup x=some .local\/sc.names.lookup x=some .cell:=by decide +kernel)(g:∀y∈sc.names,y.2≠.free:=by decide +kernel):FnScope N P sc:=⟨a,b,c,d,e,f,g⟩
theorem nH{kindOf:Str->Option NameKind}{x:Str}:∀{binds:List (Str×Value)}{m:Str->Option Value},(∀v,(x,v)∉binds)->bindL kindOf binds m x=m x
 |[],_,_=>rfl
 |(n,v)::r,m,h=>by
  unfold bindL;rw[nH fun w hw=>h w (Tn _ hw)];split
  ·have:x≠n:=by rintro rfl;exact h v Tg
   simp[this]
  ·rfl
theorem nJ{kindOf:Str->Option NameKind}{x:Str}:∀{binds:List (Str×Value)}{m:Str->Option Value},(∀v,(x,v)∉binds)->bindC kindOf binds m x=m x
 |[],_,_=>rfl
 |(n,v)::r,m,h=>by
  unfold bindC;rw[nJ fun w hw=>h w (Tn _ hw)];split
  ·rfl
  ·have:x≠n:=by rintro rfl;exact h v Tg
   simp[this]
theorem nK{kindOf:Str->Option NameKind}{x:Str}{v:Value}:∀{P:List Str}{vs:List Value}{i:Nat}{m:Str->Option Value},P.Nodup->P[i]?=some x->vs[i]?=some v->kindOf x=some .local->
  bindL kindOf (P.zip vs) m x=some v
 |[],_,_,_,_,h,_,_=>by simp at h
 |_::_,[],_,_,_,_,h,_=>by simp at h
 |p::P,w::vs,0,m,nd,h1,h2,hk=>by
  simp at h1 h2;subst h1;subst h2;show bindL kindOf ((p,w)::P.zip vs) m p=_;unfold bindL;rw[nH fun v hv=>(Uu.mp nd).1 (VN hv).1,Tq hk];simp
 |p::P,w::vs,i+1,m,nd,h1,h2,hk=>by
  show bindL kindOf ((p,w)::P.zip vs) m x=_;unfold bindL;exact nK (i:=i) (Uu.mp nd).2 (by simpa using h1) (by simpa using h2) hk
theorem nL{kindOf:Str->Option NameKind}{x:Str}{v:Value}:∀{P:List Str}{vs:List Value}{i:Nat}{m:Str->Option Value},P.Nodup->P[i]?=some x->vs[i]?=some v->kindOf x≠some .local->
  bindC kindOf (P.zip vs) m x=some v
 |[],_,_,_,_,h,_,_=>by simp at h
 |_::_,[],_,_,_,_,h,_=>by simp at h
 |p::P,w::vs,0,m,nd,h1,h2,hk=>by
  simp at h1 h2;subst h1;subst h2;show bindC kindOf ((p,w)::P.zip vs) m p=_;unfold bindC;rw[nJ fun v hv=>(Uu.mp nd).1 (VN hv).1,Tv hk];simp
 |p::P,w::vs,i+1,m,nd,h1,h2,hk=>by
  show bindC kindOf ((p,w)::P.zip vs) m x=_;unfold bindC;exact nL (i:=i) (Uu.mp nd).2 (by simpa using h1) (by simpa using h2) hk
def j8(N:List Str)(vs:List V):St:=vs.map some++List.replicate (N.length-vs.length) none
noncomputable def wW(CX:CXT)(P:Program)(w:World)(K:W.Frag)(mg:Str->Option Value)(base:Heap)(N:List Str)(qual:Str)(scope:Scope)(f:Addr)(cd:Value)(A:Around)(outer:List Env)(s:Shared)(H:Hp)(E:XK):Cx where
 prog:=P
 w:=w
 K:=K
 mg:=mg
 base:=base
 A:=A.deeper (envOfC qual scope s.heap.objs.size f cd)
 N:=N
 s₀:=s
 H₀:=H
 env:=envOfC qual scope s.heap.objs.size f cd
 outer:=outer
 stack:=envOfC qual scope s.heap.objs.size f cd::outer
 ex:=[]
 calm:=true
 fn:=fun _=>true
 pn:=[]
 xe:=fun e s'=>wpAny (model P w) (A.deeper (envOfC qual scope s.heap.objs.size f cd)) (leaving (envOfC qual scope s.heap.objs.size f cd) e) (fun _ Rj=>CX outer H s E e Rj) (fun e' Rj=>CX outer H s E e' Rj) s'
theorem qp{sc:Scope}{n:Nat}{x:Str}(h:sc.names.lookup x=some .cell):∃c,(cellsFrom n sc.names []).lookup x=some c:=by
 have q:=XW sc.names n [] (.inl h);exact Vl.mp q
theorem tS{CX:CXT}{P:Program}{w:World}{K:W.Frag}{mg:Str->Option Value}{base:Heap}{N ps:List Str}{qual:Str}{scope:Scope}{f:Addr}{cd:Value}{A:Around}{outer:List Env}{s s1:Shared}{H:Hp}{E:XK}{us:List Value}{vs:List V}
  (S:FnScope N ps scope) (hd:A.handled=none) (e0:Env0 P w K mg base A outer s H) (hl:vs.length=ps.length) (r:Vals vs us)
  (x:InCallC s s.heap.objs.size (bindL (envOfC qual scope s.heap.objs.size f cd).kindOf (ps.zip us) fun _=>none) (cellsFrom (s.heap.objs.size+1) scope.names []) (bindC (envOfC qual scope s.heap.objs.size f cd).kindOf (ps.zip us) fun _=>none) s1):
  Inv (wW CX P w K mg base N qual scope f cd A outer s H E) [] (j8 N vs) H s1:=by
 have IM:ps.length<=N.length:=by have:=UQ List.length S.pre;rw[UC]at this;lia
 obtain⟨h1,tk,rfl,hk⟩:=x.done;have Px:∀b:Addr,b∉(wW CX P w K mg base N qual scope f cd A outer s H E).ex:=fun b z=>absurd (show b∈([]:List Addr) from z) (by simp)
 refine⟨⟨e0.mod,S.kind,rfl,rfl,Tz _,fun y z c h1 h2=>?_,fun y hy=>?_,fun y c _ h=>?_,fun _=>hd,Around.frames_deeper e0.frames,.inr ⟨rfl,rfl⟩,fun b z=>absurd z (Px b),e0.bs,e0.bsz,fun b _ _=>Px b,fun b z=>absurd z (Px b),e0.funs,e0.frf⟩,
  rfl,e0.bare,Un.kept hk,⟨_,x.toInCall.ns,fun i y v h1 h2 h3=>?_⟩,fun y c h=>⟨_,x.cell y c h⟩,e0.hok.fresh (Tz _),fun y c h=>?_,fun p hp=>absurd (show p∈([]:List (Addr×Obj)) from hp) (by simp),e0.hok.kept hk,?_⟩
 ·exact name_of_addr x.apart (U0 h1) (U0 h2)
 ·have hy:scope.names.lookup y=some .cell\/scope.names.lookup y=some .free:=hy;rcases hy with hy|hy
  ·exact qp hy
  ·exact absurd rfl (S.nofree _ (U0 hy))
 ·exact Xi (x.above y c (U0 h))
 ·have hi:i<vs.length:=by
   unfold j8 at h2;by_cases hi:i<vs.length
   ·exact hi
   ·rw[VA (by simpa using hi)]at h2;rw[List.getElem?_replicate]at h2;split at h2 <;> cases h2
  have ha:vs[i]?=some v:=by
   unfold j8 at h2;rw[VF (by simpa using hi),TV]at h2;cases e:vs[i]? with
   |none=>rw[e]at h2;cases h2
   |some a=>rw[e]at h2;cases h2;rfl
  obtain⟨u,hu,rv⟩:=r.get ha;have hp:ps[i]?=some y:=by
   rw[<-S.pre,List.getElem?_take_of_lt (by lia)];exact h1
  have Sh:ps.Nodup:=by rw[<-S.pre];exact S.nd.sublist (List.take_sublist _ _)
  refine⟨u,rv,?_⟩;rcases S.par y (U7 hp) with k|k
  ·exact .inl ⟨k,nK Sh hp hu k⟩
  ·obtain⟨c,e⟩:=qp (n:=s.heap.objs.size+1) k;refine .inr ⟨.inl k,c,e,?_⟩;have q:=x.cell y c e;rw[nL Sh hp hu (by show scope.names.lookup y≠_;rw[k];decide)]at q;exact q
 ·exact e0.hok.fresh (Xi (x.above y c (U0 h)))
 ·unfold j8;show _=N.length;rw[Uz,Tr,TQ];lia
theorem D5{CX:CXT}{P:Program}{w:World}{K:W.Frag}{mg:Str->Option Value}{base:Heap}{k:Nat}{f:Addr}{name qual:Str}{params:Arguments}{body:List Stmt}{scope:Scope}{dV kV doc pm Hk ct oc:Value}{an od:Option Addr}
  {Mu:Array (Option Value)}{N ps:List Str}{sp:Sp}(lk:K.lookup f=some ⟨oc,od,.func (PySem.W.fnOf name qual params body scope dV kV doc pm an Hk ct),Mu⟩) (Jp:PySem.W.codeIn K Hk qual=true) (S:FnScope N ps scope)
  (len:∀vs H Q E,sp vs H Q E->vs.length=ps.length)
  (LX:∀(A:Around) (outer:List Env) (s:Shared) (H:Hp) (vs:List V) (Q:VK) (E:XK),Room k (A.deeper (envOfC qual scope s.heap.objs.size f Hk))->sp vs H Q E->
   ∃t,PSs (wW CX P w K mg base N qual scope f Hk A outer s H E) body t/\t {nx:=fun _ H'=>Q .non H',rt:=Q} (j8 N vs) H):
  FnOk P w K mg base CX (k+1) f (PySem.W.fnOf name qual params body scope dV kV doc pm an Hk ct) ps sp:=by
 refine⟨len,fun A outer s H args us vs Q E hr e0 hb r KU=>?_⟩;have hl:=len _ _ _ _ KU;have KX:K.In s.heap:=e0.mod.kin.keeps fun b o e=>(e0.bs b o e).1
 have lim:s.heap.NoLimit:=e0.mod.nolimit.keeps fun b o e=>(e0.bs b o e).1
 have JH:∀y∈ps.zip us,scope.names.lookup y.1=some .local\/(scope.names.lookup y.1=some .cell/\((cellsFrom (s.heap.objs.size+1) scope.names []).lookup y.1).isSome=true):=fun G0 hy=>by
  obtain⟨n,v⟩:=G0;rcases S.par n (VN hy).1 with q|q
  ·exact .inl q
  ·exact .inr ⟨q,XW _ _ _ (.inl q)⟩
 refine codeAny_call_function hr.depth (KX _ _ lk) rfl S.co S.gen rfl (PySem.W.codeRec_of KX Jp) (hb _ _ _ _ ?_);refine wpAny_newFunctionEnv_cells S.kind JH fun env he s1 x=>?_
 subst he;refine⟨lim.keeps x.toInCall.keep,codeAny_func ?_⟩;obtain⟨t,ht,hq⟩:=LX A outer s H vs Q E (hr.deeper _) KU;have I:Inv (wW CX P w K mg base N qual scope f Hk A outer s H E) [] (j8 N vs) H s1:=tS S hr.hd e0 hl r x;refine Wd (ht [] s1 (j8 N vs) H _ I hq) (fun fl s' hs=>?_) fun e s' hs=>hs
 have fin:∀{σ':St}{H':Hp}{v:V}{u:Value},Inv (wW CX P w K mg base N qual scope f Hk A outer s H E) [] σ' H' s'->RelV v u->Q v H'->CE outer P w H s Q u s':=
  fun{σ' H' v u} J rv q=>⟨v,H',J.os,J.bare,J.base,J.hok,rv,q⟩
 cases fl with
 |ret u=>
  obtain⟨v,σ',H',J,rv,q⟩:=hs;exact fin J rv q
 |next=>
  obtain⟨σ',H',J,q⟩:=hs;exact fin (v:=V.non) (u:=Value.none) J rfl q
 |brk=>
  obtain⟨_,_,_,q⟩:=hs;exact False.elim q
 |cont=>
  obtain⟨_,_,_,q⟩:=hs;exact False.elim q
section
variable{X:Cx}{x:Str}{p pos:Pos}{e:Expr}{es:List Expr}{t:TA}{id T:String}{r:List V->Hp->VK->Prop}
def Rk(r:List V->Hp->VK->Prop)(t:TA):TE:=fun σ H Q=>t σ H fun vs H1=>r vs H1 Q
theorem qq(hc:dB X (.builtin id) r)(hg:Gl X x)(hm:X.mg x=none)(hv:bootBuiltins x=some (.builtin id))(ha:PA X (e::es) t)(hn:x≠"__name__":=by decide)(JG:(x==("__debug__" : Str))=false:=by decide)
  (he:starEach (e::es) X.env=(false,eval e X.env)::starEach es X.env:=by rfl) (IM:(backTo pos (starEach es X.env)).any (·.1)=false:=by rfl):PE X (.Call (.Name x p) (e::es) [] pos) (Rk r t):=by
 intro pr s σ H Q I h;refine Vk (jt I hg hm hv ?_ hn JG);exact PyProof.Rows.callWith_builtin1 (Hf (ha pos pr s σ H _ I h) fun us s1 ⟨vs,H1,I1,r1,q1⟩=>hc pr s1 σ H1 vs us Q I1 r1 q1) he IM
theorem tU(hc:dB X (.type T) r)(hg:Gl X x)(hm:X.mg x=none)(hv:bootBuiltins x=some (.type T))(ha:PA X (e::es) t)(hn:x≠"__name__":=by decide)(JG:(x==("__debug__" : Str))=false:=by decide)
  (he:starEach (e::es) X.env=(false,eval e X.env)::starEach es X.env:=by rfl) (IM:(backTo pos (starEach es X.env)).any (·.1)=false:=by rfl):PE X (.Call (.Name x p) (e::es) [] pos) (Rk r t):=by
 intro pr s σ H Q I h;refine Vk (jt I hg hm hv ?_ hn JG);exact UM (Hf (ha pos pr s σ H _ I h) fun us s1 ⟨vs,H1,I1,r1,q1⟩=>hc pr s1 σ H1 vs us Q I1 r1 q1) he IM
end
end L2
namespace HT
open PySem PyProof.Rows
section
open PySem.SeqAt
open PySem.AutoSeq1 (wpAny_loadPart')
open PySem.MeetsSeq PySem.MeetsSeq2 PySem.MeetsSeq3
end
section
variable{prog:Program}{w:World}{A:Around}{E:Value->Shared->Prop}{s:Shared}
theorem zp{t b:Addr}{vs ws:List Value}{Q:Value->Shared->Prop}(ht:IsTup s.heap t vs.toArray)(hb:IsTup s.heap b ws.toArray)(hv:vs≠[])
  (h1:ws=[]->Q (.ref t) s) (h2:ws≠[]->Q (.ref s.heap.objs.size) {s with heap:=s.heap.push {cls:=.type "tuple",data:=.seq (vs++ws).toArray}})
  (hsz:vs.length+ws.length<=sizeLine):wpAny (model prog w) A (binaryOp .Add (.ref t) (.ref b)) Q E s:=by
 obtain⟨⟨cls,dd,data,sl⟩,ho,hc,n,hd⟩:=id ht;obtain⟨⟨NW,Mv,data2,Mw⟩,IW,LY,n2,hd2⟩:=id hb;simp only at hc hd LY hd2;subst hc hd LY hd2;have e:vs.toArray++ws.toArray=(vs++ws).toArray:=by simp
 by_cases hw:ws=[]
 ·exact X5 ⟨_,ho,rfl⟩ ⟨_,IW,rfl⟩ XN YI WD Wx (Wr _ _)
   (tuple_addW1 t b vs.toArray ws.toArray n n2 dd Mv sl Mw (by simpa using hv) (by simp[hw])) ⟨ho,IW,h1 hw⟩
 ·refine X5 ⟨_,ho,rfl⟩ ⟨_,IW,rfl⟩ XN YI WD Wx (Wr _ _)
   (tuple_addW2 t b vs.toArray ws.toArray n n2 dd Mv sl Mw (by simpa using hv) (by simpa using hw) (by rw[To,To];exact hsz)) ⟨ho,IW,?_⟩
  rw[e];exact h2 hw
def sIx(n d:Nat):Option Int->Nat
 |none=>d
 |some v=>if v<0 then(v+(n:Int)).toNat else min v.toNat n
theorem l6(n d:Nat):sIx n d none=d:=rfl
theorem tV(n d k:Nat):sIx n d (some (k:Int))=min k n:=by
 show(if(k:Int)<0 then((k:Int)+(n:Int)).toNat else min (k:Int).toNat n)=min k n;rw[Tv (by lia),Uk]
theorem tW(n d:Nat)(hd:d<=n)(o:Option Int):sIx n d o<=n:=by
 cases o with
 |none=>exact hd
 |some v=>
  show(if v<0 then(v+(n:Int)).toNat else min v.toNat n)<=n;by_cases hv:v<0
  ·rw[Tq hv];lia
  ·rw[Tv hv];exact Nat.min_le_right _ _
theorem tX(v:Int)(n d:Nat):(if v<0 then max (v+(n:Int)) 0 else min v (n:Int))=((sIx n d (some v):Nat):Int):=by
 show(if v<0 then max (v+(n:Int)) 0 else min v (n:Int))=(((if v<0 then(v+(n:Int)).toNat else min v.toNat n):Nat):Int)
 by_cases hv:v<0
 ·simp only[Tq hv];lia
 ·simp only[Tv hv];lia
theorem rW(lo hi:Option Int)(n:Nat):Builtin.Slice.sliceAdjust lo hi 1 (n:Int)=(((sIx n 0 lo:Nat):Int),((sIx n n hi:Nat):Int)):=by
 have h1:¬ ((1:Int)<0):=by lia
 unfold Builtin.Slice.sliceAdjust;simp only[h1,Wm];refine Prod.ext ?_ ?_
 ·cases lo with
  |none=>rfl
  |some v=>exact tX v n 0
 ·cases hi with
  |none=>rfl
  |some v=>exact tX v n n
theorem rX(i j:Nat):Builtin.Slice.slicePlaces (i:Int) (j:Int) 1=j-i:=by
 unfold Builtin.Slice.slicePlaces;have h1:(1:Int)>0:=by lia
 simp only[h1,Va,Int.ediv_one];split <;> lia
theorem lM{v:Value}{o:Option Int}{Q:Option Int->Shared->Prop}(p:IsPart v o)(h:Q o s):wpAny (model prog w) A (Builtin.Slice.slicePartIndex v) Q E s:=by
 cases p with
 |none=>exact slicePart_none h
 |int i t=>exact slicePart_int h
theorem fV{sl:Addr}{vl vu:Value}{lo hi:Option Int}{n:Nat}{Q:Int×Int×Nat->Shared->Prop}(hs:s.heap.IsSliceOf sl vl vu .none)(pl:IsPart vl lo)(pu:IsPart vu hi)
  (h:Q (((sIx n 0 lo:Nat):Int),1,sIx n n hi-sIx n 0 lo) s):wpAny (model prog w) A (Builtin.Slice.sliceApplied (.ref sl) (pure (n:Int))) Q E s:=by
 obtain⟨os,NY,NZ,LZ⟩:=id hs;unfold Builtin.Slice.sliceApplied Builtin.Slice.sliceFields;refine Tf (Tf (U4 NY LZ (x:=vl) rfl (Tf (U4 NY LZ (x:=vu) rfl (Tf (U4 NY LZ (x:=.none) rfl (Tu ?_)))))));refine Tf (slicePart_none ?_);show wpAny _ _ (if((1:Int)==0)=true then _ else _) _ _ s;rw[Tv (by decide)];refine Tf (lM pl (Tf (lM pu (Tf (Tu ?_)))));show wpAny _ _ (match Builtin.Slice.sliceAdjust lo hi 1 (n:Int) with|(lo,hi)=>pure (lo,(1:Int),Builtin.Slice.slicePlaces lo hi 1)) _ _ s;rw[rW lo hi n];show wpAny _ _ (pure (((sIx n 0 lo:Nat):Int),(1:Int),Builtin.Slice.slicePlaces ((sIx n 0 lo:Nat):Int) ((sIx n n hi:Nat):Int) 1)) _ _ s;rw[rX];exact Tu h
theorem wX(xs:Array Value)(i k:Nat):((List.range k).filterMap fun(m:Nat)=>xs[((i:Int)+(m:Int)*1).toNat]?).toArray=((xs.toList.drop i).take k).toArray:=by
 have e:(fun(m:Nat)=>xs[((i:Int)+(m:Int)*1).toNat]?)=fun m=>xs[i+m]?:=by
  funext m
  have:((i:Int)+(m:Int)*1).toNat=i+m:=by lia
  rw[this]
 rw[e];have:=pick_run xs i k;rw[List.filterMap_map]at this;have e2:((fun x=>xs[x]?)∘fun x=>i+x)=fun m=>xs[i+m]?:=rfl
 rw[e2]at this;rw[this]
theorem jh{t sl:Addr}{items:Array Value}{vl vu:Value}{lo hi:Option Int}{Q:Value->Shared->Prop}(ht:IsTup s.heap t items)(hs:s.heap.IsSliceOf sl vl vu .none)(pl:IsPart vl lo)(pu:IsPart vu hi)
  (hw:¬ (sIx items.size 0 lo=0/\sIx items.size items.size hi=items.size))
  (h:Q (.ref s.heap.objs.size) {s with heap:=s.heap.push {cls:=.type "tuple",data:=.seq ((items.toList.drop (sIx items.size 0 lo)).take (sIx items.size items.size hi-sIx items.size 0 lo)).toArray}})
  (hsz:items.size<=sizeLine):wpAny (model prog w) A (getItem (.ref t) (.ref sl)) Q E s:=by
 have Lf:sizeOk (.seq ((items.toList.drop (sIx items.size 0 lo)).take (sIx items.size items.size hi-sIx items.size 0 lo)).toArray):=by
  show((items.toList.drop (sIx items.size 0 lo)).take (sIx items.size items.size hi-sIx items.size 0 lo)).toArray.size<=sizeLine;rw[To,UC,UY,UZ];lia
 have hj:sIx items.size items.size hi<=items.size:=tW _ _ (Tz _) hi;obtain⟨os,NY,NZ,LZ⟩:=id hs;have Rl:s.TypeIs (.ref sl) "slice":=⟨os,NY,NZ⟩
 unfold getItem;try with_reducible refine VP ?_
 first|refine Tf (Tu ?_)|skip
 refine Tf (wpAny_sequenceKey ht.typeIs (by decide) ?_);refine Tf (Uv (name:=Str.ofString "__getitem__") ht.typeIs Vf
  (UO Vf ht.typeIs entry_tuple_getitem ?_ (args_tuple_getitem _ _)))
 show wpAny _ _ (Builtin.Tuple.tupleItemsOf (.ref t) >>= _) _ _ s;refine Tf (tupleItemsOf_ ht ?_);refine Tf (V5 Rl ?_);rw[Tq (by decide)];refine Tf (fV hs pl pu ?_);have N1:¬ ((((sIx items.size 0 lo:Nat):Int)==0&&(1:Int)==1&&(sIx items.size items.size hi-sIx items.size 0 lo)==items.size)=true):=by
  intro q;rw[TJ,TJ]at q;have q1:((sIx items.size 0 lo:Nat):Int)=0:=eq_of_beq q.1.1;have q2:sIx items.size items.size hi-sIx items.size 0 lo=items.size:=eq_of_beq q.2;exact hw ⟨by lia,by lia⟩
 show wpAny _ _ (if(((sIx items.size 0 lo:Nat):Int)==0&&(1:Int)==1&&(sIx items.size items.size hi-sIx items.size 0 lo)==items.size)=true then _ else _) _ _ s;rw[Tv N1,wX];first
  |exact Tf (m:=Builtin.Tuple.tupleExact _) (UH (Tu ⟨_,rfl,Tu h⟩) Lf)
  |exact Tf (m:=Builtin.Tuple.tupleExact _) (UH (Tf (Tu (Tu ⟨_,rfl,Tu h⟩))) Lf)
  |exact Tf (Tf (m:=Builtin.Tuple.tupleExact _) (UH (Tu (Tu ⟨_,rfl,Tu h⟩)) Lf))
  |exact Tf (Tf (m:=Builtin.Tuple.tupleExact _) (UH (Tu ⟨_,rfl,Tu h⟩) Lf))
end
end HT
namespace L2
open PySem PySem.Spec PyProof.Rows
abbrev TO:=St->Hp->(Option Int->Hp->Prop)->Prop
def PO(X:Cx)(e:Option Expr)(t:TO):Prop:=
 ∀(pr:List (Addr×Obj)) (s:Shared) (σ:St) (H:Hp) (Q:Option Int->Hp->Prop),Inv X pr σ H s->t σ H Q->
  wpAny (model X.prog X.w) X.A (evalPart e X.env) (fun u s'=>∃o H',Inv X pr σ H' s'/\IsPart u o/\Q o H') X.xe s
def zq:TO:=fun _ H Q=>Q none H
def D6(t:TE):TO:=fun σ H Q=>t σ H fun x H1=>∃i,x=.int i/\Q (some i) H1
section
variable{X:Cx}{e:Expr}{te:TE}{lo hi:Option Expr}{tl th:TO}{pos p2:Pos}
theorem zr:PO X none zq:=by
 intro pr s σ H Q I h;rw[evalPart_none];exact Tu ⟨none,H,I,.none,h⟩
theorem zt(h:PE X e te):PO X (some e) (D6 te):=by
 intro pr s σ H Q I hw;rw[evalPart_some];refine Hf (h pr s σ H _ I hw) fun u s1 Hc=>?_
 obtain⟨x,H1,I1,r1,q1⟩:=Hc;obtain⟨i,rfl,q⟩:=q1;obtain⟨t,rfl⟩:=r1;exact⟨some i,H1,I1,.int i t,q⟩
def N2(X:Cx)(r:V->Option Int->Option Int->Hp->VK->Prop):Prop:=
 ∀(pr:List (Addr×Obj)) (s:Shared) (σ:St) (H:Hp) (x:V) (v vl vu:Value) (lo hi:Option Int) (sl:Addr) (Q:VK),Inv X pr σ H s->RelV x v->s.heap.IsSliceOf sl vl vu .none->IsPart vl lo->IsPart vu hi->r x lo hi H Q->
  ∃T id,typeLookup (.type T) "__getitem__" = pure (some (.builtin id))/\s.TypeIs v T/\wpAny (model X.prog X.w) X.A (getItem v (.ref sl)) (EP X pr σ Q) X.xe s
def tSl(r:V->Option Int->Option Int->Hp->VK->Prop)(te:TE)(tl th:TO):TE:=fun σ H Q=>te σ H fun x H1=>tl σ H1 fun l H2=>th σ H2 fun u H3=>r x l u H3 Q
theorem wY{r:V->Option Int->Option Int->Hp->VK->Prop}(hr:N2 X r)(he:PE X e te)(hl:PO X lo tl)(hu:PO X hi th):PE X (.Subscript e (.Slice lo hi none p2) pos) (tSl r te tl th):=by
 intro pr s σ H Q I h;refine Subscript_ (Hf (he pr s σ H _ I h) fun v s1 Hc=>?_);obtain⟨x,H1,I1,r1,q1⟩:=Hc;refine wpAny_Slice (Hf (hl pr s1 σ H1 _ I1 q1) fun vl s2 ⟨l,H2,I2,pl,q2⟩=>Hf (hu pr s2 σ H2 _ I2 q2) fun vu s3 Hc=>?_);obtain⟨u,H3,I3,pu,q3⟩:=Hc;rw[evalPart_none];refine Tu ?_;have I4:Inv X pr σ H3 {s3 with heap:=s3.heap.push {cls:=.type "slice",data:=.fields #[vl,vu,.none]}}:=I3.kept (t':=s3.toks) fun b ob q=>Th _ q
 obtain⟨T,id,hT,ht,hg⟩:=hr pr {s3 with heap:=s3.heap.push {cls:=.type "slice",data:=.fields #[vl,vu,.none]}} σ H3 x v vl vu l u s3.heap.objs.size Q I4 r1 (Heap.IsSliceOf.new ..) pl pu q3;show wpAny (model X.prog X.w) X.A (subscriptTail e (.Slice lo hi none p2) v (.ref s3.heap.objs.size)) (EP X pr σ Q) X.xe {s3 with heap:=s3.heap.push {cls:=.type "slice",data:=.fields #[vl,vu,.none]}};exact tail_any (ops:=[.ref s3.heap.objs.size,v]) ht hT hg (by with_unfolding_all rfl)
def yp(xs:List V)(lo hi:Option Int):List V:=(xs.drop (HT.sIx xs.length 0 lo)).take (HT.sIx xs.length xs.length hi-HT.sIx xs.length 0 lo)
theorem j9(xs:List V)(lo hi:Option Int):(yp xs lo hi).length<=xs.length:=by
 unfold yp;rw[UC,UY];lia
def F3(K:W.Frag):V->Option Int->Option Int->Hp->VK->Prop:=fun x lo hi H Q=>∃a xs,x=.ref a/\SqT K H a xs/\
 ¬ (HT.sIx xs.length 0 lo=0/\HT.sIx xs.length xs.length hi=xs.length)/\∀p,H p=none->Q (.ref p) (upd H p (.tup (yp xs lo hi)))
theorem BH:N2 X (F3 X.K):=by
 intro pr s σ H x v vl vu lo hi sl Q I rx hs pl pu h;obtain⟨a,xs,rfl,hx,hw,q⟩:=h;cases rx;obtain⟨GO,r,ht,hz⟩:=I.tuple hx;have hlen:GO.toArray.size=xs.length:=by rw[To];exact r.length.symm
 refine⟨"tuple",_,PyProof.Rows.slot_tuple_getitem.lookup,ht.typeIs,?_⟩;refine HT.jh ht hs pl pu (by rw[hlen];exact hw) ?_ (by rw[hlen];exact hz);rw[hlen];refine⟨.ref s.heap.objs.size,_,I.laid (t':=s.toks) (o:=.tup (yp xs lo hi)) (fun b ob q=>Th _ q) (Tz _) ?_,rfl,q _ (I.hok.fresh (Tz _))⟩;exact⟨Ua (j9 xs lo hi) hz,_,(r.drop (HT.sIx xs.length 0 lo)).take (HT.sIx xs.length xs.length hi-HT.sIx xs.length 0 lo),IsTupN.new _ _⟩
def D7(K:W.Frag):R2:=fun x y H Q=>∃a b xs ys,x=.ref a/\y=.ref b/\SqT K H a xs/\SqT K H b ys/\xs≠[]/\xs.length+ys.length<=sizeLine/\
 (ys=[]->Q (.ref a) H)/\(ys≠[]->∀p,H p=none->Q (.ref p) (upd H p (.tup (xs++ys))))
theorem Vals.nil_iff{xs:List V}{us:List Value}(r:Vals xs us):us=[]<->xs=[]:=by
 cases r with
 |nil=>simp
 |cons _ _=>simp
theorem zu:HG X (binaryOp .Add) (D7 X.K):=by
 intro pr s σ H x y v u Q I rx ry h;obtain⟨a,b,xs,ys,rfl,rfl,ha,hb,hx,hz,q1,q2⟩:=h;cases rx;cases ry;obtain⟨GO,r1,p1,_⟩:=I.tuple ha;obtain⟨Lu,r2,p2,_⟩:=I.tuple hb;refine HT.zp p1 p2 (fun z=>hx (r1.nil_iff.mp z)) (fun z=>⟨.ref a,H,I,rfl,q1 (r2.nil_iff.mp z)⟩) (fun z=>?_) (by rw[<-r1.length,<-r2.length];exact hz);refine⟨.ref s.heap.objs.size,_,I.laid (t':=s.toks) (o:=.tup (xs++ys)) (fun b ob q=>Th _ q) (Tz _) ?_,rfl,q2 (fun w=>z (r2.nil_iff.mpr w)) _ (I.hok.fresh (Tz _))⟩;exact⟨by rw[Uz];exact hz,_,r1.append r2,IsTupN.new _ _⟩
end
def ixN(n:Nat)(i:Int):Option Nat:=if 0<=i then(if i<n then some i.toNat else none) else if -(n:Int)<=i then some (i+n).toNat else none
def Jv{α:Type}(xs:List α)(i:Int):Option α:=(ixN xs.length i).bind fun j=>xs[j]?
theorem tY{n:Nat}{i:Int}{j:Nat}(h:ixN n i=some j):seqIndex? i n=some j/\j<n/\-(n:Int)<=i/\i<n:=by
 unfold ixN at h;by_cases h0:0<=i
 ·rw[Tq h0]at h;by_cases h1:i<n
  ·rw[Tq h1]at h;have e:i.toNat=j:=Ud h;exact⟨by rw[seqIndex_of h0 h1,e],by lia,by lia,h1⟩
  ·rw[Tv h1]at h;cases h
 ·rw[Tv h0]at h;by_cases h1:-(n:Int)<=i
  ·rw[Tq h1]at h;have e:(i+n).toNat=j:=Ud h;exact⟨by rw[seqIndex_neg (by lia) h1,e],by lia,h1,by lia⟩
  ·rw[Tv h1]at h;cases h
theorem pG{α:Type}{xs:List α}{i:Int}{v:α}(h:Jv xs i=some v):∃j,seqIndex? i xs.length=some j/\xs[j]?=some v/\j<xs.length/\-(xs.length:Int)<=i/\i<xs.length:=by
 unfold Jv at h;cases e:ixN xs.length i with
 |none=>rw[e]at h;cases h
 |some j=>
  rw[e]at h;obtain⟨h1,h2,h3,h4⟩:=tY e;exact⟨j,h1,h,h2,h3,h4⟩
theorem gv{α:Type}{xs:List α}{j:Nat}{v:α}(h:xs[j]?=some v):Jv xs (j:Int)=some v:=by
 have hj:j<xs.length:=(Tx.mp h).1;have e:ixN xs.length (j:Int)=some j:=by
  unfold ixN;rw[Tq (by lia),Tq (by lia)];simp
 unfold Jv;rw[e];exact h
def tZ(b:Expr):Prop:=∀o i,subscripted b false o i=operate [o,i] (getItem o i)
def Py(X:Cx)(r:R2):Prop:=
 ∀(value slice:Expr) (pr:List (Addr×Obj)) (s:Shared) (σ:St) (H:Hp) (x y:V) (v u:Value) (Q:VK),Inv X pr σ H s->RelV x v->RelV y u->r x y H Q->
  subscripted slice false v u=operate [v,u] (getItem v u)->wpAny (model X.prog X.w) X.A (subscriptTail value slice v u) (EP X pr σ Q) X.xe s
def Si(X:Cx)(id:String)(r:V->List V->Hp->VK->Prop):Prop:=
 ∀(pr:List (Addr×Obj)) (s:Shared) (σ:St) (H:Hp) (x:V) (xs:List V) (v:Value) (us:List Value) (Q:VK),Inv X pr σ H s->RelV x v->Vals xs us->r x xs H Q->
  wpAny (model X.prog X.w) X.A (call (.builtin id) (v::us)) (EP X pr σ Q) X.xe s
section
variable{X:Cx}{a b:Expr}{ta tb:TE}{pos:Pos}
theorem D8{r:R2}(hr:Py X r)(ha:PE X a ta)(hb:PE X b tb)(hs:tZ b):PE X (.Subscript a b pos) (O4 r ta tb):=by
 intro pr s σ H Q I h;exact Subscript_ (DW ha hb I h fun v u s2 x y H2 I2 rx ry q=>hr a b pr s2 σ H2 x y v u Q I2 rx ry q (hs _ _))
def F4(K:W.Frag):R2:=fun x y H Q=>∃p xs i v,x=.ref p/\y=.int i/\SqL K H p xs/\Jv xs i=some v/\Q v H
def F5(K:W.Frag):R2:=fun x y H Q=>∃p xs i v,x=.ref p/\y=.int i/\SqT K H p xs/\Jv xs i=some v/\Q v H
def F6:R2:=fun x y H Q=>∃z i c,x=.str z/\y=.int i/\z.length<=sizeLine/\Jv z.cps.toList i=some c/\Q (.str ⟨#[c]⟩) H
theorem zv:Py X (F4 X.K):=by
 intro value slice pr s σ H x y v u Q I rx ry h hs;obtain⟨p,xs,i,z,rfl,rfl,hq,he,q⟩:=h;cases rx;obtain⟨t,rfl⟩:=ry;obtain⟨GO,r,pl,hz⟩:=I.list hq;obtain⟨j,h1,h2,h3,h4,h5⟩:=pG he;obtain⟨w,ew,Lv⟩:=r.get h2;have hl:=r.length;have hn:=lK;have fin:EP X pr σ Q w s:=⟨z,H,I,Lv,q⟩
 by_cases h0:0<=i
 ·have hj:i.toNat=j:=by
   rw[seqIndex_of h0 h5]at h1;exact Ud h1
  exact item_listR pl.isList h0 (by lia) (by rw[hj];simpa using ew) fin hs
 ·have hj:(i+(GO.toArray.size:Int)).toNat=j:=by
   rw[seqIndex_neg (by lia) h4]at h1;rw[To,<-hl];exact Ud h1
  exact subscriptTail_builtinR (x:=w) pl.isList.typeIs slot_list_getitem.lookup
   (wpAny_getItem_list_neg (Q:=fun r s'=>r=w/\EP X pr σ Q r s') pl.isList (by lia) (by rw[To] <;> lia) (by lia) (by rw[hj];simpa using ew) ⟨rfl,fin⟩) hs
theorem BI:Py X (F5 X.K):=by
 intro value slice pr s σ H x y v u Q I rx ry h hs;obtain⟨p,xs,i,z,rfl,rfl,hq,he,q⟩:=h;cases rx;obtain⟨t,rfl⟩:=ry;obtain⟨GO,r,pl,hz⟩:=I.tuple hq;obtain⟨j,h1,h2,h3,h4,h5⟩:=pG he;obtain⟨w,ew,Lv⟩:=r.get h2;have hl:=r.length;have hn:=lK;have fin:EP X pr σ Q w s:=⟨z,H,I,Lv,q⟩
 exact subscriptTail_builtinR (x:=w) pl.typeIs slot_tuple_getitem.lookup
  (getItem_tuple (j:=j) (Q:=fun r s'=>r=w/\EP X pr σ Q r s') pl (by lia) (by lia) (by rw[To,<-hl];exact h1) (by simpa using ew) ⟨rfl,fin⟩) hs
theorem BJ:Py X F6:=by
 intro value slice pr s σ H x y v u Q I rx ry h hs;obtain⟨z,i,c,rfl,rfl,hz,he,q⟩:=h;obtain⟨t,rfl⟩:=rx;obtain⟨t',rfl⟩:=ry;obtain⟨j,h1,h2,h3,h4,h5⟩:=pG he;have hl:z.cps.toList.length=z.length:=by simp[Str.length]
 rw[hl]at h1 h4 h5;have hn:=lK;exact tail_any (Yo s z t) slot_str_getitem.lookup (getItem_str (c:=c) (by
  have e1:decide (i < -(2 ^ 63:Int))=false:=T5 (by lia);have e2:decide (i>=2 ^ 63)=false:=T5 (by lia);rw[e1,e2,Bool.or_false]) (by rw[h1];simpa using h2) ⟨.str ⟨#[c]⟩,H,I.tok _,⟨_,rfl⟩,q⟩) hs
theorem rY(GO:List Value)(n j:Nat)(u:Value):Obj.mapSeq (·.setIfInBounds j u) {cls:=.type "list",data:=.seq GO.toArray n}={cls:=.type "list",data:=.seq (GO.set j u).toArray n}:=by
 simp[Obj.mapSeq]
theorem Inv.lst{pr:List (Addr×Obj)}{σ:St}{H:Hp}{s:Shared}{p:Addr}{xs:List V}(I:Inv X pr σ H s)(h:H p=some (.lst xs)):
  ∃(GO:List Value) (n:Nat),Vals xs GO/\s.heap.get? p=some {cls:=.type "list",data:=.seq GO.toArray n}/\xs.length<=sizeLine:=by
 obtain⟨z,GO,n,r,e⟩:=I.hok p _ h;exact⟨GO,n,r,e,z⟩
theorem Inv.lstUpd{pr:List (Addr×Obj)}{σ:St}{H:Hp}{s:Shared}{p:Addr}{xs ys:List V}{GO its':List Value}{n n':Nat}{f:Obj->Obj}(I:Inv X pr σ H s)(h:H p=some (.lst xs))
  (ho:s.heap.get? p=some {cls:=.type "list",data:=.seq GO.toArray n}) (hf:f {cls:=.type "list",data:=.seq GO.toArray n}={cls:=.type "list",data:=.seq its'.toArray n'}) (r:Vals ys its') (hz:ys.length<=sizeLine) (t:Nat):
  Inv X pr σ (upd H p (.lst ys)) {s with heap:=s.heap.update p f,toks:=t}:=by
 have e:(s.heap.update p f).get? p=some {cls:=.type "list",data:=.seq its'.toArray n'}:=by
  rw[V6 f ho (by rw[hf] <;> rfl),hf]
 refine I.write (x:=p) (e:=p) (by rw[h];trivial) (.inl rfl) (fun b u hb q=>(Vc _ _ (Vd hb)).trans q) ⟨_,e⟩ ?_;exact⟨hz,its',n',r,e⟩
def BK:V->V->V->Hp->(Hp->Prop)->Prop:=fun o i v H Q=>∃p xs k j,o=.ref p/\i=.int k/\H p=some (.lst xs)/\ixN xs.length k=some j/\Q (upd H p (.lst (xs.set j v)))
theorem wZ:FN X BK:=by
 intro pr s σ H o i v ov iv u Q I ro ri rv h;obtain⟨p,xs,k,j,rfl,rfl,hp,hj,q⟩:=h;cases ro;obtain⟨t,rfl⟩:=ri;obtain⟨GO,n,r,ho,hz⟩:=I.lst hp;obtain⟨h1,h2,h3,h4⟩:=tY hj;have hl:=r.length;have hn:=lK;have I':Inv X pr σ (upd H p (.lst (xs.set j v))) {s with heap:=s.heap.update p (Obj.mapSeq (·.setIfInBounds j u))}:=
  I.lstUpd hp ho (rY GO n j u) (r.set rv j) (by rw[Up];exact hz) s.toks
 by_cases h0:0<=k
 ·have hk:k.toNat=j:=by
   rw[seqIndex_of h0 h4]at h1;exact Ud h1
  exact PySem.W.ki_setAt ho h0 (by lia) (by rw[To,<-hl];exact h4) (by rw[hk];exact⟨_,I',q⟩)
 ·have hk:(k+(GO.toArray.size:Int)).toNat=j:=by
   rw[seqIndex_neg (by lia) h3]at h1;rw[To,<-hl];exact Ud h1
  exact PySem.W.ki_setBack ho (by lia) (by rw[To,<-hl];exact h3) (by lia) (by rw[hk];exact⟨_,I',q⟩)
theorem nM(lo hi:Option Int)(n:Nat):(sliceBounds lo hi none n).1=((HT.sIx n 0 lo:Nat):Int)/\(sliceBounds lo hi none n).2.1=((HT.sIx n n hi:Nat):Int)/\(sliceBounds lo hi none n).2.2=1:=by
 refine⟨?_,?_,rfl⟩
 ·cases lo with
  |none=>simp[sliceBounds,HT.sIx]
  |some i=>
   simp only[sliceBounds,HT.sIx,Option.getD_none,show(1:Int)>0 by decide,Va];by_cases h:i<0
   ·simp only[h,Va] <;> lia
   ·simp only[h,Wm] <;> lia
 ·cases hi with
  |none=>simp[sliceBounds,HT.sIx]
  |some i=>
   simp only[sliceBounds,HT.sIx,Option.getD_none,show(1:Int)>0 by decide,Va];by_cases h:i<0
   ·simp only[h,Va] <;> lia
   ·simp only[h,Wm] <;> lia
theorem l7(GO:List Value)(lo hi:Option Int):slicePick GO.toArray lo hi none=((GO.drop (HT.sIx GO.length 0 lo)).take (HT.sIx GO.length GO.length hi-HT.sIx GO.length 0 lo)).toArray:=by
 obtain⟨h1,h2,h3⟩:=nM lo hi GO.toArray.size;unfold slicePick;rw[h1,h2,h3];simp only[sliceRange_one,pick_run,To] <;> rfl
def F7(K:W.Frag):V->Option Int->Option Int->Hp->VK->Prop:=fun x lo hi H Q=>∃a xs,x=.ref a/\SqL K H a xs/\∀p,H p=none->Q (.ref p) (upd H p (.lst (yp xs lo hi)))
theorem zw:N2 X (F7 X.K):=by
 intro pr s σ H x v vl vu lo hi sl Q I rx hs pl pu h;obtain⟨a,xs,rfl,hx,q⟩:=h;cases rx;obtain⟨GO,r,ht,hz⟩:=I.list hx;have hlen:=r.length;refine⟨"list",_,slot_list_getitem.lookup,ht.isList.typeIs,?_⟩;refine wpAny_getItem_list_slice ht.isList hs pl pu .none (by simp) ?_ (by rw[To] <;> lia);rw[l7,<-hlen];refine⟨.ref s.heap.objs.size,_,I.laid (t':=s.toks) (o:=.lst (yp xs lo hi)) (fun b ob q=>Th _ q) (Tz _) ?_,rfl,q _ (I.hok.fresh (Tz _))⟩;exact⟨Ua (j9 xs lo hi) hz,_,0,(r.drop (HT.sIx xs.length 0 lo)).take (HT.sIx xs.length xs.length hi-HT.sIx xs.length 0 lo),TF _ rfl⟩
def w4:V->Bool
 | .non=>true
 | .bl _=>true
 | .int _=>true
 | .str _=>true
 |_=>false
def Rm:V->V->Bool
 | .non,.non=>true
 | .bl a,.bl b=>a==b
 | .bl a,.int b=>(if a then 1 else 0)==b
 | .int a,.bl b=>a==(if b then 1 else 0)
 | .int a,.int b=>a==b
 | .str a,.str b=>a==b
 |_,_=>false
theorem yq{A:Around}{s:Shared}{y x:V}{u v:Value}(ry:RelV y u)(rx:RelV x v)(fy:w4 y=true)(fx:w4 x=true):SeqAt.EqAt A s u v (Rm y x):=by
 cases y with
 |non=>
  cases ry;cases x with
  |non=>cases rx;exact SeqAt.EqAt.same _
  |bl b=>cases rx;exact SeqAt.EqAt.none_bool b
  |int b=>obtain⟨t,rfl⟩:=rx;exact SeqAt.EqAt.none_int b t
  |str b=>obtain⟨t,rfl⟩:=rx;exact SeqAt.EqAt.none_str b t
  |_=>exact absurd (show false=true from fx) TC
 |bl a=>
  cases ry;cases x with
  |non=>cases rx;exact SeqAt.EqAt.bool_none a
  |bl b=>cases rx;exact SeqAt.EqAt.bool_bool a b
  |int b=>obtain⟨t,rfl⟩:=rx;exact SeqAt.EqAt.bool_int a b t
  |str b=>obtain⟨t,rfl⟩:=rx;exact SeqAt.EqAt.bool_str a b t
  |_=>exact absurd (show false=true from fx) TC
 |int a=>
  obtain⟨t',rfl⟩:=ry;cases x with
  |non=>cases rx;exact SeqAt.EqAt.int_none a t'
  |bl b=>cases rx;exact SeqAt.EqAt.int_bool a t' b
  |int b=>obtain⟨t,rfl⟩:=rx;exact SeqAt.EqAt.int_int a t' b t
  |str b=>obtain⟨t,rfl⟩:=rx;exact SeqAt.EqAt.int_str a t' b t
  |_=>exact absurd (show false=true from fx) TC
 |str a=>
  obtain⟨t',rfl⟩:=ry;cases x with
  |non=>cases rx;exact SeqAt.EqAt.str_none a t'
  |bl b=>cases rx;exact SeqAt.EqAt.str_bool a t' b
  |int b=>obtain⟨t,rfl⟩:=rx;exact SeqAt.EqAt.str_int a t' b t
  |str b=>obtain⟨t,rfl⟩:=rx;exact SeqAt.EqAt.str_str a t' b t
  |_=>exact absurd (show false=true from fx) TC
 |_=>exact absurd (show false=true from fy) TC
theorem ju:dB X (.builtin "len") (fun xs H Q=>∃p ys,xs=[.ref p]/\(SqL X.K H p ys\/SqT X.K H p ys)/\Q (.int ys.length) H):=by
 intro pr s σ H xs us Q I r h;obtain⟨p,ys,rfl,hq,q⟩:=h;obtain⟨u,rfl,rx⟩:=hJ r;cases rx;have hn:=lK;rcases hq with hq|hq
 ·obtain⟨GO,r',pl,hz⟩:=I.list hq;have hlen:=r'.length;exact Calls.call_len_list pl.isList (by simp only[To] <;> lia) ⟨.int ys.length,H,I.tok _,⟨s.toks+1,by rw[To,hlen]⟩,q⟩
 ·obtain⟨GO,r',pl,hz⟩:=I.tuple hq;have hlen:=r'.length;exact len_tuple pl (by simp only[To] <;> lia) ⟨.int ys.length,H,I.tok _,⟨s.toks+1,by rw[To,hlen]⟩,q⟩
theorem nN:dB X (.builtin "len") (fun xs H Q=>∃z,xs=[.str z]/\z.length<=sizeLine/\Q (.int z.length) H):=by
 intro pr s σ H xs us Q I r h;obtain⟨z,rfl,hz,q⟩:=h;obtain⟨u,rfl,t,rfl⟩:=hJ r;have hn:=lK;exact len_str (by lia) ⟨.int z.length,H,I.tok _,⟨_,rfl⟩,q⟩
theorem jv:dB X (.type "list") (fun xs H Q=>∃p ys,xs=[.ref p]/\(SqL X.K H p ys\/SqT X.K H p ys)/\∀l,H l=none->Q (.ref l) (upd H l (.lst ys))):=by
 intro pr s σ H xs us Q I r h;obtain⟨p,ys,rfl,hq,q⟩:=h;obtain⟨u,rfl,rx⟩:=hJ r;cases rx;have fin:∀(GO:List Value),Vals ys GO->ys.length<=sizeLine->∀(h':Heap) (c':Nat),(∀b o',s.heap.get? b=some o'->h'.get? b=some o')->
   h'.get? s.heap.objs.size=some {cls:=.type "list",dict:=none,data:=.seq GO.toArray c',slots:=#[]}->EP X pr σ Q (.ref s.heap.objs.size) {s with heap:=h'}:=fun GO r' hz h' c' kp e=>
  ⟨.ref s.heap.objs.size,_,I.laid (t':=s.toks) kp (Tz _) (show ObjOk X.prog X.w _ h' _ (.lst ys) from⟨hz,GO,c',r',e⟩),rfl,q _ (I.hok.fresh (Tz _))⟩
 rcases hq with hq|hq
 ·obtain⟨GO,r',pl,hz⟩:=I.list hq;have hlen:=r'.length;obtain⟨o,ho,hc,n,hd⟩:=pl.isList;exact call_list_seq p (.inl rfl) ho hc hd (fun h' c' kp e=>fin GO r' hz h' c' kp e) (by simp only[To] <;> lia)
 ·obtain⟨GO,r',pl,hz⟩:=I.tuple hq;have hlen:=r'.length;obtain⟨o,ho,hc,n,hd⟩:=pl;exact call_list_seq p (.inr rfl) ho hc hd (fun h' c' kp e=>fin GO r' hz h' c' kp e) (by simp only[To] <;> lia)
theorem ir:dB X (.type "tuple") (fun xs H Q=>∃p ys,xs=[.ref p]/\((SqL X.K H p ys/\∀l,H l=none->Q (.ref l) (upd H l (.tup ys)))\/(SqT X.K H p ys/\Q (.ref p) H))):=by
 intro pr s σ H xs us Q I r h;obtain⟨p,ys,rfl,h⟩:=h;obtain⟨u,rfl,rx⟩:=hJ r;cases rx;rcases h with⟨hq,q⟩|⟨hq,q⟩
 ·obtain⟨GO,r',pl,hz⟩:=I.list hq;have hlen:=r'.length;refine call_tuple_list pl.isList (fun h' kp=>?_) (by simp only[To] <;> lia);have I1:Inv X pr σ H {s with heap:=h'}:=I.kept (t':=s.toks) kp;have I2:Inv X pr σ (upd H h'.objs.size (.tup ys)) {s with heap:=h'.push {cls:=.type "tuple",data:=.seq GO.toArray}}:=
   I1.laid (t':=s.toks) (fun b o e=>Th _ e) (Tz _) (show ObjOk X.prog X.w _ _ _ (.tup ys) from⟨hz,GO,r',IsTupN.new _ _⟩)
  exact⟨.ref h'.objs.size,_,I2,rfl,q _ (I1.hok.fresh (Tz _))⟩
 ·obtain⟨GO,r',pl,hz⟩:=I.tuple hq;exact call_tuple_same pl ⟨.ref p,H,I,rfl,q⟩
def QQ(K:W.Frag)(T:String)(x:V)(H:Hp):Prop:=match x with
 | .str _=>T = "str"
 | .int _=>T = "int"
 | .ref p=>(T = "list"/\∃xs,SqL K H p xs)\/(T = "tuple"/\∃o,K.lookup p=some o/\o.cls=.type "tuple"/\o.dict=none)\/
   (T = "dict"/\((∃GJ,H p=some (.dK GJ))\/∃GJ,H p=some (.dT GJ)))\/(T = "set"/\∃S n,H p=some (.set S n))
 |_=>False
theorem yr{pr:List (Addr×Obj)}{σ:St}{H:Hp}{s:Shared}{T:String}{x:V}{v:Value}(I:Inv X pr σ H s)(r:RelV x v)(ty:QQ X.K T x H):
  s.TypeIs v T/\∀a,v=.ref a->∃ob,s.heap.get? a=some ob/\ob.dict=none:=by
 cases x with
 |str z=>
  obtain⟨t,rfl⟩:=r;cases(show T = "str" from ty);exact⟨Yo s z t,fun _ e=>nomatch e⟩
 |int i=>
  obtain⟨t,rfl⟩:=r;cases(show T = "int" from ty);exact⟨Ws s i t,fun _ e=>nomatch e⟩
 |ref p=>
  cases r;rcases ty with⟨rfl,xs,hq⟩|⟨rfl,o,hk,hc,hd⟩|⟨rfl,hk⟩|⟨rfl,S,n,hk⟩
  ·obtain⟨GO,_,pl,_⟩:=I.list hq;refine⟨pl.isList.typeIs,fun a e=>?_⟩;cases e;obtain⟨o,n,e,c,hd,_⟩:=pl;exact⟨o,e,hd⟩
  ·refine⟨⟨o,I.kIn p o hk,hc⟩,fun a e=>?_⟩;cases e;exact⟨o,I.kIn _ o hk,hd⟩
  ·have z:∃o,s.heap.get? p=some o/\o.ExactDict:=by
    rcases hk with⟨GJ,hk⟩|⟨GJ,hk⟩
    ·obtain⟨_,_,_,_,o,_,_,e,ex,_⟩:=I.hok p _ hk;exact⟨o,e,ex⟩
    ·obtain⟨_,_,_,_,o,_,_,e,ex,_⟩:=I.hok p _ hk;exact⟨o,e,ex⟩
   obtain⟨o,e,ex⟩:=z;refine⟨⟨o,e,ex.1⟩,fun a e2=>?_⟩;cases e2;exact⟨o,e,ex.2.1⟩
  ·obtain⟨o,_,_,_,e,ex,_⟩:=I.hok p _ hk;refine⟨⟨o,e,ex.1⟩,fun a e2=>?_⟩;cases e2;exact⟨o,e,ex.2.1⟩
 |_=>exact False.elim ty
def F8(K:W.Frag)(T:String)(r:V->List V->Hp->VK->Prop)(to:TE):TE:=fun σ H Q=>to σ H fun x H1=>QQ K T x H1/\r x [] H1 Q
def tBM(K:W.Frag)(T:String)(r:V->List V->Hp->VK->Prop)(to:TE)(t:TA):TE:=fun σ H Q=>to σ H fun x H1=>QQ K T x H1/\t σ H1 fun xs H2=>r x xs H2 Q
variable{o e:Expr}{es:List Expr}{to:TE}{t:TA}{name:Str}{apos Hs:Pos}{T id:String}{r:V->List V->Hp->VK->Prop}
theorem BM(pa:PlainAttrs T)(slot:Slot T name id)(Pz:typeOf (.builtin id)=pure (.type "method_descriptor"))(hm:Si X id r)(ho:PE X o to)
  (IY:attributeBase o name X.env (eval o X.env)=eval o X.env:=by rfl) (IZ:(apos.endLine==Hs.line)=true:=by rfl):PE X (.Call (.Attribute o name apos) [] [] Hs) (F8 X.K T r to):=by
 intro pr s σ H Q I h;refine wpAny_Call_method0_late IY IZ (Hf (ho pr s σ H _ I h) fun v s1 Hc=>?_);obtain⟨x,H1,I1,r1,ty,q1⟩:=Hc;obtain⟨h1,h2⟩:=yr I1 r1 ty;exact⟨T,id,pa,slot,Pz,h1,h2,Calls.callWith_builtin rfl (PySem.evalArgs_none (hm pr s1 σ H1 x [] v [] Q I1 r1 .nil q1))⟩
theorem BN(pa:PlainAttrs T)(slot:Slot T name id)(Pz:typeOf (.builtin id)=pure (.type "method_descriptor"))(hm:Si X id r)(ho:PE X o to)(ha:PA X (e::es) t)
  (IY:attributeBase o name X.env (eval o X.env)=eval o X.env:=by rfl)
  (L0:((backTo Hs (starEach (e::es) X.env)).all (fun x=>!x.1)&&(backToKw Hs (keywordEach [] X.env)).all (fun x=>x.1.isSome)
   && decide ((e::es).length+([]:List Keyword).length+(if([]:List Keyword).isEmpty then 0 else 1)<30))=true:=by rfl)
  (IZ:(apos.endLine==Hs.line)=true:=by rfl) (hs:starEach (e::es) X.env=(false,eval e X.env)::starEach es X.env:=by rfl) (JI:(backTo Hs (starEach es X.env)).any (·.1)=false:=by rfl):
  PE X (.Call (.Attribute o name apos) (e::es) [] Hs) (tBM X.K T r to t):=by
 intro pr s σ H Q I h;refine wpAny_Call_method_late IY L0 IZ rfl (Hf (ho pr s σ H _ I h) fun v s1 Hc=>?_);obtain⟨x,H1,I1,r1,ty,q1⟩:=Hc;obtain⟨h1,h2⟩:=yr I1 r1 ty;refine⟨T,id,pa,slot,Pz,h1,h2,?_⟩;have hA:=ha Hs pr s1 σ H1 _ I1 q1;rw[hs]at hA ⊢;refine Calls.callWith_builtin (by show(false||(backTo Hs (starEach es X.env)).any (·.1))=false;rw[JI] <;> rfl) (Calls.evalArgs_plain ?_);exact Hf hA fun us s2 ⟨vs,H2,I2,r2,q2⟩=>hm pr s2 σ H2 x vs v us Q I2 r1 r2 q2
end
def MtM(X:Cx)(id:String)(r:V->List V->Hp->VK->Prop):Prop:=
 ∀(pr:List (Addr×Obj)) (s:Shared) (σ:St) (H:Hp) (x:V) (xs:List V) (v:Value) (us:List Value) (Q:VK),Inv X pr σ H s->RelV x v->Vals xs us->r x xs H Q->
  wpAny (model X.prog X.w) X.A (call (.builtin id) (v::us)) (EP X pr σ Q) X.xe s
theorem Vals.one:∀{x:V}{us:List Value},Vals [x] us->∃u,us=[u]/\RelV x u
 |_,_,.cons r .nil=>⟨_,rfl,r⟩
theorem Vals.two:∀{x y:V}{us:List Value},Vals [x,y] us->∃u v,us=[u,v]/\RelV x u/\RelV y v
 |_,_,_,.cons r (.cons q .nil)=>⟨_,_,rfl,r,q⟩
theorem Vals.zero:∀{us:List Value},Vals [] us->us=[]
 |_,.nil=>rfl
theorem Vals.dropLast{xs:List V}{us:List Value}(h:Vals xs us):Vals xs.dropLast us.dropLast:=by
 induction h with
 |nil=>exact .nil
 |cons r t ih=>
  cases t with
  |nil=>exact .nil
  |cons q t'=>exact .cons r ih
theorem Vals.rep{xs:List V}{us:List Value}(h:Vals xs us):∀k:Nat,Vals (List.replicate k xs).flatten (List.replicate k us).flatten
 | 0=>.nil
 |k+1=>by
  rw[UN,UN,Vg,Vg];exact Vals.append h (Vals.rep h k)
theorem rZ{α:Type}(l:List α):l.eraseIdx (l.length-1)=l.dropLast:=by
 induction l with
 |nil=>rfl
 |cons a r ih=>
  cases r with
  |nil=>rfl
  |cons b r=>
   have e:(a::b::r).length-1=((b::r).length-1)+1:=by
    have h1:(a::b::r).length=r.length+2:=rfl;have h2:(b::r).length=r.length+1:=rfl;lia
   rw[e,List.eraseIdx_cons_succ,ih];all_goals rfl
theorem ka(GO:List Value):∀(k:Nat) (acc:List Value),
  List.foldl (fun x1 x2=>x1++x2) acc.toArray (List.replicate k GO.toArray)=(acc++(List.replicate k GO).flatten).toArray
 | 0,acc=>by simp
 |k+1,acc=>by
  have e:acc.toArray++GO.toArray=(acc++GO).toArray:=by simp
  have e2:(acc++GO)++(List.replicate k GO).flatten=acc++(List.replicate (k+1) GO).flatten:=by
   rw[UN,Vg,UR]
  rw[<-e2,<-ka GO k (acc++GO),<-e,UN,Wy]
section
variable{X:Cx}{pr:List (Addr×Obj)}{σ:St}{H:Hp}{s:Shared}{l b:Addr}{xs ys zs:List V}
theorem Inv.lset{GO its':List Value}{n:Nat}{f:Array Value->Array Value}{t':Nat}(I:Inv X pr σ H s)(hH:H l=some (.lst xs))
  (e:s.heap.get? l=some {cls:=.type "list",data:=.seq GO.toArray n}) (hf:f GO.toArray=its'.toArray) (hv:Vals ys its') (hz:ys.length<=sizeLine):
  Inv X pr σ (upd H l (.lst ys)) {s with heap:=s.heap.update l (Obj.mapSeq f),toks:=t'}:=by
 have q:=PySem.IsL.update e f;rw[hf]at q;refine I.write (x:=l) (e:=l) (by rw[hH];exact trivial) (.inl rfl) (fun b' u hb hu=>(Vc s.heap (Obj.mapSeq f) (Vd hb)).trans hu) ⟨_,q⟩ ?_;exact⟨hz,its',_,hv,q⟩
theorem Inv.lnew{GO:List Value}{t':Nat}(I:Inv X pr σ H s)(hv:Vals ys GO)(hz:ys.length<=sizeLine):
  Inv X pr σ (upd H s.heap.objs.size (.lst ys)) {s with heap:=s.heap.push {cls:=.type "list",data:=.seq GO.toArray},toks:=t'}:=
 I.laid (fun _ _ q=>Th _ q) (Tz _) ⟨hz,GO,0,hv,TF _ rfl⟩
theorem Inv.fresh(I:Inv X pr σ H s):H s.heap.objs.size=none:=I.hok.fresh (Tz _)
theorem Inv.lstM(I:Inv X pr σ H s)(hH:H l=some (.lst xs)):xs.length<=sizeLine/\∃(GO:List Value) (n:Nat),Vals xs GO/\xs.length=GO.length/\s.heap.get? l=some {cls:=.type "list",data:=.seq GO.toArray n}:=by
 obtain⟨z,GO,n,r,e⟩:=I.hok l _ hH;exact⟨z,GO,n,r,r.length,e⟩
theorem w5{n:Nat}(h:n<=sizeLine):Builtin.List.listTooLong n=false:=by
 unfold Builtin.List.listTooLong;exact T5 (by lia)
end
section
variable{X:Cx}
def zx:V->List V->Hp->VK->Prop:=fun x vs H Q=>∃l xs y,x=.ref l/\vs=[y]/\H l=some (.lst xs)/\xs.length<sizeLine/\Q .non (upd H l (.lst (xs++[y])))
theorem kc:MtM X "list.append" zx:=by
 intro pr s σ H x vs v us Q I rx rv h;obtain⟨l,xs,y,rfl,rfl,hH,hz,q⟩:=h;cases rx;obtain⟨u,rfl,ru⟩:=rv.one;obtain⟨z,GO,n,r,hl,e⟩:=I.lstM hH;refine VY F.slot_list_append ⟨_,e,rfl⟩ F.entry_list_append (F.args_list_append_2 _ _) (PySem.list_append l GO.toArray n u (by rw[To];lia)) ⟨e,?_⟩;refine⟨.non,_,I.lset (its':=GO++[u]) hH e (by simp) (r.append (.cons ru .nil)) ?_,rfl,q⟩;rw[Uz,TY];lia
def F9:V->List V->Hp->VK->Prop:=fun x vs H Q=>∃l xs y,x=.ref l/\vs=[]/\H l=some (.lst xs)/\xs[xs.length-1]?=some y/\Q y (upd H l (.lst xs.dropLast))
theorem BO:MtM X "list.pop" F9:=by
 intro pr s σ H x vs v us Q I rx rv h;obtain⟨l,xs,y,rfl,rfl,hH,hy,q⟩:=h;cases rx;have hus:=rv.zero;subst hus;obtain⟨z,GO,n,r,hl,e⟩:=I.lstM hH;obtain⟨u,hu,ru⟩:=r.get hy;have hy':GO.toArray[GO.toArray.size-1]?=some u:=by
  show GO.toArray[GO.length-1]?=some u;rw[<-V7,<-hl];exact hu
 refine VY F.slot_list_pop ⟨_,e,rfl⟩ F.entry_list_pop (F.args_list_pop_1 _) (MeetsSeq.list_pop_last l GO.toArray n u hy' (by rw[To];lia)) ⟨e,?_⟩;refine⟨y,_,I.lset (its':=GO.dropLast) hH e ?_ r.dropLast ?_,ru,q⟩
 ·show GO.toArray.eraseIdxIfInBounds (GO.toArray.size-1)=GO.dropLast.toArray;rw[To,List.eraseIdxIfInBounds_toArray,rZ]
 ·rw[List.length_dropLast];lia
theorem hU{α:Type}(xs:List α)(k:Nat):(List.replicate k xs).flatten.length=k*xs.length:=by
 induction k with
 |zero=>simp
 |succ k ih=>rw[UN,Vg,Uz,ih,Nat.succ_mul,Nat.add_comm]
end
section
variable{prog:Program}{w:World}{A:Around}{E:Value->Shared->Prop}{s:Shared}
end
section
variable{X:Cx}
end
end L2
namespace Att
open PySem PySem.W PySem.Calls PyProof.Rows
theorem ke{P:Params}{h:Heap}:∀(ns:List Int) (vs:List Value),WellAll P h vs (ns.map WData.int)->IntsAre vs ns:=by
 intro ns;induction ns with
 |nil=>
  intro vs w;rw[Uw]at w;cases w;exact .nil
 |cons n ns ih=>
  intro vs w;rw[TU]at w;cases w with
  |cons a b=>
   cases a;exact .cons _ _ (ih _ b)
theorem t9{l:OpenLaw}{n:Nat}(hn:l.most=some n){P:Params}{h:Heap}{args:List WData}{vals:List Value}
  (MF:l.row.toRowW.claim.pre args=true) (Rn:WellAll P h vals args):
  ∃a vs ns,vals=[Value.ref a]/\args=[WData.list (ns.map WData.int)]/\h.get? a=some {cls:=.type "list",data:=.seq vs.toArray}/\IntsAre vs ns/\ns.length<=n:=by
 have hsh:WShape.hasAll [] args [.list .int]=true:=(pre_splitW MF).1;have hc:l.pre.holds [] {args:=args}=true:=(pre_splitW MF).2;obtain⟨d,r,rfl,h1,h2⟩:=hasAllW_cons hsh;obtain rfl:=hasAllW_nil h2;obtain⟨xs,rfl,h3⟩:=hasW_list h1;obtain⟨ns,rfl⟩:=items_int h3;have hlen:ns.length<=n:=by
  unfold OpenLaw.pre at hc;have h4:(WTm.not (.lt (.lit (.int (n:Int))) (.len (.arg 0)))).holds [] {args:=[.list (ns.map .int)]}=true:=by
   have h4:=(holds_andW hc).1;rw[hn]at h4;exact h4
  have h5:=condW_of h4 (w_not (w_lt w_lit (w_len_list (w_arg rfl))));rw[Tr]at h5;refine Nat.le_of_not_lt fun q=>?_
  have q':(n:Int)<((ns.length:Nat):Int):=by lia
  first
   |(rw[T6 q']at h5;exact absurd h5 (by decide))
   |(simp at h5;lia)
 cases Rn with
 |cons w1 w2=>
  cases w2;cases w1 with
  |list ho JK=>exact⟨_,_,ns,rfl,rfl,ho,ke ns _ JK,hlen⟩
theorem ua(l:OpenLaw)(args:List WData):l.row.toRowW.claim.post args (.bool true) args=true:=
 postW_of (r:=l.row.toRowW) (X:=(true==true))
  (show WShape.has [] (.bool true) .bool=true by first|rfl|decide|simp[WShape.has,WShape.arms,WShape.armsAll])
  (show(WTm.eq .res (.lit (.bool true))).value [] {args:=args,res:=some (.bool true),after:=args}=some (.bool (true==true)) from w_eq_bool (w_res rfl) w_lit) rfl
theorem attach_call{l:OpenLaw}{n:Nat}{q:Program}{loose:List Str}{XP:(Str->Option Value)->Heap->Prop}{YP:World->Heap->Prop}{d:DefRec}
  (hn:l.most=some n) (PB:d.params.defaults=[])
  (call:∀(w:World) (s₀ s₁:Shared) (mg mb:Str->Option Value) (fa:Addr) (o:Obj) (pm cd doc:Value) (a:Addr) (vs:List Value) (ns:List Int),
   Ground q loose [] XP w s₀ mg mb s₁.heap->YP w s₁.heap->
   s₁.heap.get? fa=some o->o.data=.func (docDef d.name d.params d.body d.scope pm cd doc)->s₁.heap.CodeRec cd d.name->mg d.name=some (.ref fa)->
   s₁.heap.get? a=some {cls:=.type "list",data:=.seq vs.toArray}->IntsAre vs ns->ns.length<=n->s₁.gens = #[]->
   codeAny (model l.prog w) callerA (.call (.ref fa) ⟨[.ref a],[]⟩) (fun r s'=>r=.ok (.ret (.bool true))/\OldK s₁.heap s'.heap/\s'.os=s₁.os/\AllBare s'.gens) s₁):
  WalkO q loose XP YP l.row.toRowW d [] (fun f vs=>PySem.call f vs):=by
 intro w s₀ s₁ mg mb G Y fa o pm cd doc dV kV ho hd Jp hD PD hg args vals as MF hlay hrd Rn Lw;obtain rfl:dV=.none:=Dflts.none hD PB;obtain rfl:kV=.none:=Dflts.noKw hD;obtain⟨a,vs,ns,rfl,rfl,N3,hints,hlen⟩:=t9 hn MF Rn;refine enter_call (codeAny_mono (call w s₀ s₁ mg mb fa o pm cd doc a vs ns G Y ho (fd_plain hd) Jp PD N3 hints hlen hg) fun r s' hq=>?_);obtain⟨rfl,h2,h3,h4⟩:=hq;exact⟨.inl ⟨.bool true,.bool true,[],rfl,fun _=>rfl,.bool true,ua l _,fun _=>⟨List.Pairwise.nil,fun _ hm=>(nomatch hm)⟩⟩,h2,h3,h4⟩
section
variable{prog:Program}{w:World}{A:Around}{E:Value->Shared->Prop}{s:Shared}{K:Frag}
end
end Att
namespace L2
open PySem PySem.Spec PyProof.Rows
theorem nO:∀{vs:List Value}{ns:List Int},IntsAre vs ns->Vals (ns.map V.int) vs
 |_,_,.nil=>.nil
 |_,_,.cons n t h=>.cons ⟨t,rfl⟩ (nO h)
def D9(H:Hp):Prop:=∀b,H b=none\/∃o xs,H b=some (.frz o (.lst xs))
theorem w6{P:Program}{w:World}{K:W.Frag}{mg mb:Str->Option Value}{CX:CXT}{k:Nat}{fa a:Addr}{fd:FuncData}{x:Str}{sp:Sp}{s₁:Shared}{vs:List Value}{ns:List Int}
  (KX:K.In s₁.heap) (L1:s₁.heap.Ns mainGlobals mg) (hb:s₁.heap.Ns builtinsNs mb) (O7:∀x:Str,x≠"__name__"->mb x=bootBuiltins x) (hlim:s₁.heap.NoLimit) (hg:s₁.gens = #[])
  (ha:s₁.heap.get? a=some {cls:=.type "list",data:=.seq vs.toArray}) (hi:IntsAre vs ns) (hl:ns.length<=sizeLine) (hr:Room k callerA)
  (F:∀base:Heap,K.In base->base.Ns mainGlobals mg->FnOk P w K mg base CX k fa fd [x] sp) (PF:∀(s:Shared) (u:Value),BindsTo s fd ⟨[u],[]⟩ [(x,u)])
  (KU:∀H:Hp,D9 H->SqL K H a (ns.map V.int)->sp [.ref a] H (fun v _=>v=.bl true) fun _ _ _=>False)
  (Ro:∀H e s',CX [] H s₁ (fun _ _ _=>False) e s'->False):
  codeAny (model P w) callerA (.call (.ref fa) ⟨[.ref a],[]⟩) (fun r s'=>r=.ok (.ret (.bool true))/\OldK s₁.heap s'.heap/\s'.os=s₁.os/\AllBare s'.gens) s₁:=by
 have rv:=nO hi;have lenV:=hi.length;have core:∀H:Hp,D9 H->SqL K H a (ns.map V.int)->HOk P w H s₁.heap->(∀b,H b≠none->b=a)->(H a≠none->K.lookup a=none)->
   codeAny (model P w) callerA (.call (.ref fa) ⟨[.ref a],[]⟩) (fun r s'=>r=.ok (.ret (.bool true))/\OldK s₁.heap s'.heap/\s'.os=s₁.os/\AllBare s'.gens) s₁:=by
  intro H hO hS hok hA hK;have Lg:∀{b:Addr}{o:Obj},s₁.heap.get? b=some o->H b=none->(wL s₁.heap H).get? b=some o:=fun e n=>wM e n
  have Px:∀{b:Addr}{o:Obj}{es:Array DictEntry}{ep:Nat},s₁.heap.get? b=some o->o.data=.dict es ep->H b=none:=fun{b o es ep} e d=>by
   cases q:H b with
   |none=>rfl
   |some u=>
    have e':b=a:=hA b (by rw[q];simp);subst e';rw[ha]at e;cases e;have d':Data.seq vs.toArray _=Data.dict es ep:=d;cases d'
  have QR:∀{b:Addr}{m:Str->Option Value},s₁.heap.Ns b m->(wL s₁.heap H).Ns b m:=fun{b m} ⟨o,es,ep,e,d,r⟩=>⟨o,es,ep,Lg e (Px e d),d,r⟩
  have Sj:K.In (wL s₁.heap H):=fun b o e=>Lg (KX b o e) (by
   cases q:H b with
   |none=>rfl
   |some u=>
    have e':b=a:=hA b (by rw[q];simp);subst e';rw[hK (by rw[q];simp)]at e;cases e)
  have hM:Mod K mg (wL s₁.heap H):=⟨Sj,QR L1,⟨mb,QR hb,O7⟩,let⟨mc,h1,h2⟩:=hlim;⟨mc,QR h1,h2⟩⟩
  have e0:Env0 P w K mg (wL s₁.heap H) callerA [] s₁ H:=⟨rfl,hM,fun b o e=>za e,Xj (tj _ _),trivial,fun b hb=>absurd (show b∈([]:List Addr) from hb) (by simp),hok,.of_eq hg⟩
  refine codeAny_mono ((F _ Sj (QR L1)).run callerA [] s₁ H ⟨[.ref a],[]⟩ [.ref a] [.ref a] _ _ hr e0 (PF s₁ (.ref a)) (.cons rfl .nil) (KU H hO hS)) fun r s' h=>?_
  cases r with
  |error e=>exact(Ro H e s' h).elim
  |ok fl=>
   cases fl with
   |next=>exact False.elim h
   |brk=>exact False.elim h
   |cont=>exact False.elim h
   |ret u=>
    obtain⟨v,H',os,bare,un,hok',r',q⟩:=h;have q':v=.bl true:=q;subst q';obtain rfl:u=Value.bool true:=r';refine⟨rfl,OldK.of_keep fun b o e=>?_,os,bare⟩;cases q:H b with
    |none=>exact un.keep b o e q (by intro z;exact absurd (show b∈([]:List Addr) from z) (by simp)) (by simp)
    |some u=>
     rcases hO b with z|⟨ob,xs,z⟩
     ·rw[q]at z;cases z
     ·have z2:=un.frzs b ob _ z;obtain⟨e1,_⟩:=hok b _ z;obtain⟨e2,_⟩:=hok' b _ z2;rw[e]at e1;cases e1;exact e2
 cases hk:K.lookup a with
 |some o=>
  have e:=KX a o hk;rw[ha]at e;cases e;refine core (fun _=>none) (fun _=>.inl rfl) (.inr ⟨_,vs.toArray,_,hk,rfl,rfl,rfl,by rw[To,lenV];exact hl,by simpa using rv⟩) (fun b u z=>by have z':(none:Option HO)=some u:=z;cases z') (fun b z=>absurd rfl z) fun z=>absurd rfl z
 |none=>
  refine core (fun b=>if b=a then some (.frz {cls:=.type "list",data:=.seq vs.toArray} (.lst (ns.map V.int))) else none) (fun b=>?_) (.inl (.inr ⟨{cls:=.type "list",data:=.seq vs.toArray},Tq rfl⟩)) (fun b u z=>?_) (fun b z=>?_) fun _=>hk
  ·by_cases hb:b=a
   ·exact .inr ⟨_,_,Tq hb⟩
   ·exact .inl (Tv hb)
  ·by_cases hb:b=a
   ·have z':=(Tq hb).symm.trans z;cases z';subst hb;exact⟨ha,by rw[Tr];exact hl,vs,_,rv,ha⟩
   ·have z':=(Tv hb).symm.trans z;cases z'
  ·by_cases hb:b=a
   ·exact hb
   ·exact absurd (Tv hb) z
theorem zy{l:PySem.W.OpenLaw}{n k:Nat}{q:Program}{loose:List Str}{XP:(Str->Option Value)->Heap->Prop}{YP:World->Heap->Prop}{d:DefRec}{K:Params->W.Frag}{CX:World->CXT}{sp:World->Sp}{x:Str}
  (hn:l.most=some n) (hn2:n<=sizeLine) (PB:d.params.defaults=[]) (hr:Room k callerA)
  (hY:∀(w:World) (h:Heap),YP w h->(K w.params).In h)
  (F:∀(w:World) (mg:Str->Option Value) (fa:Addr) (h:Heap),(K w.params).In h->h.Ns mainGlobals mg->mg d.name=some (.ref fa)->
   ∃fd:FuncData,(∀(s:Shared) (u:Value),BindsTo s fd ⟨[u],[]⟩ [(x,u)])/\
    ∀base:Heap,(K w.params).In base->base.Ns mainGlobals mg->FnOk l.prog w (K w.params) mg base (CX w) k fa fd [x] (sp w))
  (KU:∀(w:World) (H:Hp) (a:Addr) (ns:List Int),ns.length<=n->D9 H->SqL (K w.params) H a (ns.map V.int)->sp w [.ref a] H (fun v _=>v=.bl true) fun _ _ _=>False)
  (Ro:∀(w:World) (H:Hp) (s:Shared) (e:Value) (s':Shared),CX w [] H s (fun _ _ _=>False) e s'->False):
  PySem.W.WalkO q loose XP YP l.row.toRowW d [] (fun f vs=>PySem.call f vs):=by
 refine Att.attach_call hn PB fun w s₀ s₁ mg mb fa o pm cd doc a vs ns G Y ho hd Jp PD N3 hints hlen hg=>?_
 have KX:=hY w _ Y;obtain⟨fd,hb,hF⟩:=F w mg fa _ KX G.T.g PD;exact w6 KX G.T.g G.T.b G.T.builtins G.T.nolimit hg N3 hints (Ua hlen hn2) hr hF hb (fun H hO hS=>KU w H a ns hlen hO hS) fun H e s'=>Ro w H s₁ e s'
def fB(s:Stmt):Arguments:=match s with
 | .FunctionDef _ a _ _ _ _ _ _ _ _=>a
 |_=>{posonlyargs:=[],args:=[],vararg:=none,kwonlyargs:=[],kw_defaults:=[],kwarg:=none,defaults:=[]}
def cX(s:Stmt):List Stmt:=match s with
 | .FunctionDef _ _ b _ _ _ _ _ _ _=>b
 |_=>[]
def defScope(s:Stmt):Scope:=match s with
 | .FunctionDef _ _ _ _ _ _ sc _ _ _=>sc
 |_=>{kind:=.function,names:=[],isGenerator:=false,isCoroutine:=false}
abbrev LM:CXT:=fun _ _ _ _ _ _=>False
abbrev E0:XK:=fun _ _ _=>False
theorem Ea{X:Cx}:tR LM X E0:=fun _ _ _ _ _ _ _ h=>h.elim
structure Fun(K:W.Frag)(x qual:Str)(st:Stmt)(f:Addr)(fd:FuncData):Prop where
 ex:∃(oc:Value) (od:Option Addr) (kV doc pm:Value) (an:Option Addr) (Hk ct:Value) (Mu:Array (Option Value)),
  fd=PySem.W.fnOf x qual (fB st) (cX st) (defScope st) .none kV doc pm an Hk ct/\K.lookup f=some ⟨oc,od,.func fd,Mu⟩/\PySem.W.codeIn K Hk qual=true
 kp:PySem.W.keepIn K (.ref f)=true
section
variable{P:Program}{w:World}{K:W.Frag}{mg:Str->Option Value}{base:Heap}
theorem Fun.ok{x qual:Str}{st:Stmt}{f:Addr}{fd:FuncData}{N ps:List Str}{k:Nat}{sp:Sp}(F:Fun K x qual st f fd)(S:FnScope N ps (defScope st))(len:∀vs H Q E,sp vs H Q E->vs.length=ps.length)
  (LX:∀(Hk:Value) (A:Around) (outer:List Env) (s:Shared) (H:Hp) (vs:List V) (Q:VK) (E:XK),Room k (A.deeper (envOfC qual (defScope st) s.heap.objs.size f Hk))->sp vs H Q E->
   ∃t,PSs (wW LM P w K mg base N qual (defScope st) f Hk A outer s H E).nox (cX st) t/\t {nx:=fun _ H'=>Q .non H',rt:=Q} (j8 N vs) H):FnOk P w K mg base LM (k+1) f fd ps sp:=by
 obtain⟨oc,od,kV,doc,pm,an,Hk,ct,Mu,rfl,lk,Jp⟩:=F.ex;refine D5 lk Jp S len fun A outer s H vs Q E hr KU=>?_
 obtain⟨t,h,q⟩:=LX Hk A outer s H vs Q E hr KU;exact⟨t,h.nox,q⟩
theorem Fun.binds{x qual:Str}{st:Stmt}{f:Addr}{fd:FuncData}{ps:List Str}(F:Fun K x qual st f fd)
  (h:∀(kV doc pm:Value) (an:Option Addr) (Hk ct:Value) (us:List Value),us.length=ps.length->bindArgs (PySem.W.fnOf x qual (fB st) (cX st) (defScope st) .none kV doc pm an Hk ct) ⟨us,[]⟩=pure (ps.zip us)):Binds K fd ps []:=by
 obtain⟨oc,od,kV,doc,pm,an,Hk,ct,Mu,rfl,lk,Jp⟩:=F.ex;exact .all (h kV doc pm an Hk ct)
theorem yt{x qual:Str}{st:Stmt}{f:Addr}{oc:Value}{od an:Option Addr}{Mu:Array (Option Value)}{kV doc pm Hk ct:Value}(l:K.lookup f=some ⟨oc,od,.func (PySem.W.fnOf x qual (fB st) (cX st) (defScope st) .none kV doc pm an Hk ct),Mu⟩)
  (c:PySem.W.codeIn K Hk qual=true) (k:PySem.W.keepIn K (.ref f)=true):Fun K x qual st f (PySem.W.fnOf x qual (fB st) (cX st) (defScope st) .none kV doc pm an Hk ct):=⟨⟨oc,od,kV,doc,pm,an,Hk,ct,Mu,rfl,l,c⟩,k⟩
end
theorem hu_of{A:Around}{k:Nat}(hr:Room k A):A.units+1<cLine:=U5 (Nat.add_le_add_left (by decide:1<=64) _) hr.units
section
variable{X:Cx}
theorem pv(i:Nat){x:Str}{pos:Pos}(hN:X.N[i]?=some x:=by rfl)(hv:Rg X.env.scope x:=by first|exact Or.inl rfl|exact Or.inr (Or.inl rfl)|exact Or.inr (Or.inr rfl))(hd:(x==("__debug__" : Str))=false:=by decide)
  (Jp:(x==("__classdict__" : Str))=false:=by decide):PE X (.Name x pos) (rR i):=Bh hN hv hd Jp
end
theorem iteF{A B:Prop}(h:B):if false=true then A else B:=by
 rw[Tv TC];exact h
theorem BP{A B:Prop}(h:A):if true=true then A else B:=by
 rw[Tq rfl];exact h
def Same(H H':Hp):Prop:=∀b o,H b=some o->H' b=some o
theorem Same.refl(H:Hp):Same H H:=fun _ _ h=>h
theorem Same.trans{H H1 H2:Hp}(a:Same H H1)(b:Same H1 H2):Same H H2:=fun c o h=>b c o (a c o h)
end L2
set_option maxHeartbeats 4000000
namespace NX
open PySem PySem.Spec PyProof.Rows L2
section
variable{X:Cx}
theorem w9(v:Int)(n:Nat):max (0:Int) (min (if v<0 then v+(n:Int) else v) (n:Int))=((HT.sIx n 0 (some v):Nat):Int):=by
 show _=(((if v<0 then(v+(n:Int)).toNat else min v.toNat n):Nat):Int)
 split <;> lia
theorem BQ(a b:Nat):sliceRange (a:Int) (b:Int) 1=(List.range (b-a)).map (fun k=>a+k):=by
 unfold sliceRange;rw[Tq (by decide:(1:Int)>0)];by_cases Hx:(a:Int)<b
 ·have e3:(((b:Int)-a+1-1) / 1).toNat=b-a:=by first|lia|(simp;done)|(simp;lia)
  simp only[Hx,Va,e3];refine TN fun k _=>?_
  lia
 ·have:b-a=0:=by lia
  simp[Hx,this]
theorem Ga(lo hi:Option Int)(n:Nat):Builtin.Str.strSliceIndices lo hi 1 n=(List.range (HT.sIx n n hi-HT.sIx n 0 lo)).map (fun k=>HT.sIx n 0 lo+k):=by
 rw[<-BQ];unfold Builtin.Str.strSliceIndices;simp only[show(1:Int)>0 from by decide,Va];cases lo with
 |none=>
  cases hi with
  |none=>rfl
  |some v=>exact UQ (fun z=>sliceRange 0 z 1) (w9 v n)
 |some u=>
  cases hi with
  |none=>exact UQ (fun z=>sliceRange z (n:Int) 1) (w9 u n)
  |some v=>exact(UQ (fun z=>sliceRange z _ 1) (w9 u n)).trans (UQ (fun z=>sliceRange _ z 1) (w9 v n))
def BR(xs:List Nat)(lo hi:Option Int):List Nat:=(xs.drop (HT.sIx xs.length 0 lo)).take (HT.sIx xs.length xs.length hi-HT.sIx xs.length 0 lo)
theorem yu{α:Type}(l:List α):∀(n a:Nat),a+n<=l.length->((List.range n).map (fun k=>a+k)).filterMap (l[·]?)=(l.drop a).take n
 | 0,_,_=>by simp
 |n+1,a,h=>by
  have Hx:a+n<l.length:=by lia
  rw[V8,Uh,List.filterMap_append,yu l n a (by lia),Xv,List.getElem?_drop];simp[Tj Hx]
theorem ub(x:Str)(lo hi:Option Int):(Txt.slice x lo hi).cps.toList=BR x.cps.toList lo hi:=by
 have hl:x.cps.toList.length=x.length:=UZ;have ha:=HT.tW x.length 0 (Ut _) lo;have hb:=HT.tW x.length x.length (Tz _) hi;unfold Txt.slice BR;rw[Ga,hl];split
 ·rename_i h;have h2:HT.sIx x.length x.length hi-HT.sIx x.length 0 lo=x.length:=by simpa using h
  have ez:HT.sIx x.length 0 lo=0\/x.length=0:=by lia
  rcases ez with e|e
  ·rw[h2,e,Wi,Ux (by lia)]
  ·have:x.cps.toList=[]:=Ue (by lia);rw[this];simp
 ·have hk:∀(f:List Nat),f.filterMap (x.cps[·]?)=f.filterMap (x.cps.toList[·]?):=fun f=>by
   congr 1
   funext i
   simp
  show(List.filterMap _ _).toArray.toList=_;rw[W7,hk];by_cases hle:HT.sIx x.length 0 lo<=HT.sIx x.length x.length hi
  ·rw[yu _ _ _ (by lia)]
  ·have e0:HT.sIx x.length x.length hi-HT.sIx x.length 0 lo=0:=by lia
   rw[e0];rfl
abbrev S(l:List Nat):Str:=⟨l.toArray⟩
theorem nP(x:Str):S x.cps.toList=x:=by cases x;simp[S]
theorem zH{a b:List Nat}(h:S a=S b):a=b:=by
 have:=UQ (fun z:Str=>z.cps.toList) h;simpa[S] using this
theorem nQ(l:List Nat):(S l).length=l.length:=by simp[S,Str.length]
theorem fW(l:List Nat):(S l).cps.toList=l:=by simp[S]
theorem Eb(a b:List Nat):S a++S b=S (a++b):=by
 rw[<-nP (S a++S b),PySem.W.KT.app_list,fW,fW]
def Gb:V->Option Int->Option Int->Hp->VK->Prop:=fun x lo hi H Q=>∃l,x=.str (S l)/\l.length<=sizeLine/\Q (.str (S (BR l lo hi))) H
theorem BS:N2 X Gb:=by
 intro pr s σ H x v vl vu lo hi sl Q I rx hs pl pu h;obtain⟨l,rfl,hz,q⟩:=h;obtain⟨t,rfl⟩:=rx;have hz':(S l).length<=sizeLine:=by rw[nQ];exact hz
 have e:∀t' k,EP X pr σ Q (.str (Txt.slice (S l) lo hi) t') {s with toks:=k}:=fun t' k=>by
  refine⟨.str (S (BR l lo hi)),H,I.tok _,⟨t',?_⟩,q⟩;have e1:=ub (S l) lo hi;rw[fW]at e1;rw[<-e1,nP]
 refine⟨"str",_,PySem.F.slot_str_getitem.lookup,Yo _ _ _,?_⟩;have key:∀(N4 QU:Option (Int×Tok)),partValue N4=vl->partValue QU=vu->N4.map (·.1)=lo->QU.map (·.1)=hi->
   wpAny (model X.prog X.w) X.A (getItem (.str (S l) t) (.ref sl)) (EP X pr σ Q) X.xe s:=by
  rintro N4 QU rfl rfl rfl rfl;exact wpAny_getItem_str_slice (l:=N4) (u:=QU) (st:=none) hs rfl (post_val_or_str ⟨Ua (Txt.slice_le (S l) _ _) hz',fun t' k=>e t' k⟩)
 cases pl with
 |none=>
  cases pu with
  |none=>exact key none none rfl rfl rfl rfl
  |int j uj=>exact key none (some (j,uj)) rfl rfl rfl rfl
 |int i ui=>
  cases pu with
  |none=>exact key (some (i,ui)) none rfl rfl rfl rfl
  |int j uj=>exact key (some (i,ui)) (some (j,uj)) rfl rfl rfl rfl
end
def Def(K:W.Frag)(mg:Str->Option Value)(x:Str)(st:Stmt):Prop:=∃f fd,Fun K x x st f fd/\mg x=some (.ref f)
def Ct(P:Program)(w:World)(K:W.Frag)(mg:Str->Option Value)(base:Heap)(x:Str)(k:Nat)(sp:Sp):Prop:=
 ∃f fd ps,FnOk P w K mg base LM k f fd ps sp/\mg x=some (.ref f)/\PySem.W.keepIn K (.ref f)=true/\Binds K fd ps []
section
variable{X:Cx}{e:Expr}{es:List Expr}{t:TA}{x:Str}{p pos:Pos}{k:Nat}{sp:Sp}
theorem BU(C:Ct X.prog X.w X.K X.mg X.base x k sp)(hr:Room k X.A)(hg:Gl X x)(ha:PA X (e::es) t)(JG:(x==("__debug__" : Str))=false:=by decide)
  (he:starEach (e::es) X.env=(false,eval e X.env)::starEach es X.env:=by rfl) (IM:(backTo pos (starEach es X.env)).any (·.1)=false:=by rfl):
  PE X (.Call (.Name x p) (e::es) [] pos) (tCall sp [] E0 t):=by
 obtain⟨f,fd,ps,G,m,kp,b⟩:=C;exact zo G hr hg m kp b .nil Ea ha JG he IM
end
theorem bt_len:bootBuiltins "len" = some (.builtin "len"):=by decide +kernel
theorem l8:bootBuiltins "isinstance" = some (.builtin "isinstance"):=by decide +kernel
theorem l9:bootBuiltins "list" = some (.type "list"):=by decide +kernel
theorem yv:bootBuiltins "int" = some (.type "int"):=by decide +kernel
theorem dF:bootBuiltins "tuple" = some (.type "tuple"):=by decide +kernel
theorem zI:bootBuiltins "bool" = some (.type "bool"):=by decide +kernel
theorem line_eq:sizeLine=16777216:=UB
theorem flat_strs(a:List (List Nat)):(a.map fun l=>V.str (S l)).all w4=true:=by
 rw[Us];intro v hv;obtain⟨l,_,rfl⟩:=UJ.mp hv;rfl
section
variable{X:Cx}{e:Expr}{st:Stmt}
end
def clOf(scope:Scope)(env:Env):List (Str×Addr):=scope.names.foldl (fun cs y=>if y.2==NameKind.free then(y.1,(env.cells.lookup y.1).getD 0)::cs else cs) []
def dE(scope:Scope)(env:Env):Bool:=scope.names.all fun y=>y.2 != NameKind.free||env.kindOf y.1==some .cell||env.kindOf y.1==some .free
theorem dO(env:Env):∀(l:List (Str×NameKind)) (cs:List (Str×Addr)),(∀y∈l,y.2=.free->∃c,env.cells.lookup y.1=some c)->
  (forIn l cs fun(y:Str×NameKind) (r:List (Str×Addr))=>(do
   if y.2==NameKind.free then
    let a <-cellOf env y.1
    pure (ForInStep.yield ((y.1,a)::r))
   else pure (ForInStep.yield r):Sem (ForInStep (List (Str×Addr)))))=pure (l.foldl (fun cs y=>if y.2==NameKind.free then(y.1,(env.cells.lookup y.1).getD 0)::cs else cs) cs)
 |[],cs,_=>by simp
 |y::l,cs,h=>by
  rw[X6,Wy];by_cases k:y.2=.free
  ·obtain⟨c,e⟩:=h y Tg k;have e2:cellOf env y.1=pure c:=by unfold cellOf;rw[e]
   simp only[k,T8,Va,e2,e,Option.getD_some,pure_bind];exact dO env l _ fun z hz=>h z (Tn _ hz)
  ·have kb:(y.2==NameKind.free)=false:=by simpa using k
   simp only[kb,Vm,Wm,pure_bind];exact dO env l _ fun z hz=>h z (Tn _ hz)
theorem gU(env:Env)(x:Str)(c:Addr):∀(l:List (Str×NameKind)) (cs:List (Str×Addr)),(∀y∈l,y.2=.free->∃c,env.cells.lookup y.1=some c)->(cs.lookup x=some c->env.cells.lookup x=some c)->
  (l.foldl (fun cs y=>if y.2==NameKind.free then(y.1,(env.cells.lookup y.1).getD 0)::cs else cs) cs).lookup x=some c->env.cells.lookup x=some c
 |[],_,_,h,e=>h e
 |y::l,cs,hf,h,e=>by
  rw[Wy]at e;refine gU env x c l _ (fun z hz=>hf z (Tn _ hz)) (fun q=>?_) e;split at q
  ·rename_i k;have k:y.2=.free:=by simpa using k
   obtain⟨d,ed⟩:=hf y Tg k;rw[Uc]at q;cases hx:x==y.1 with
   |true=>
    rw[hx]at q;have exy:x=y.1:=by simpa using hx
    rw[ed,Option.getD_some]at q;rw[exy,ed];exact q
   |false=>
    rw[hx]at q;exact h q
  ·exact h q
theorem kg(env:Env)(x:Str):∀(l:List (Str×NameKind)) (cs:List (Str×Addr)),((∃d,cs.lookup x=some d)\/(x,NameKind.free)∈l)->
  ∃d,(l.foldl (fun cs y=>if y.2==NameKind.free then(y.1,(env.cells.lookup y.1).getD 0)::cs else cs) cs).lookup x=some d
 |[],_,h=>by
  rcases h with h|h
  ·exact h
  ·cases h
 |y::l,cs,h=>by
  rw[Wy];refine kg env x l _ ?_;rcases h with⟨d,h⟩|h
  ·refine .inl ?_;split
   ·rw[Uc];cases hx:x==y.1 with
    |true=>exact⟨_,rfl⟩
    |false=>exact⟨d,h⟩
   ·exact⟨d,h⟩
  ·rcases Tw.mp h with h|h
   ·refine .inl ?_;rw[<-h];refine⟨(env.cells.lookup x).getD 0,?_⟩;show List.lookup x ((x,_)::cs)=_;rw[Uc,T8]
   ·exact .inr h
noncomputable def bO(X:Cx)(scope:Scope)(N:List Str)(C:Addr)(s:Shared)(H:Hp)(fp:List Addr)(pn:List (Addr×Obj)):Cx:=
 {X with N:=N,s₀:=s,H₀:=H,env:=compEnvC scope (clOf scope X.env) C X.env,outer:=X.stack,ex:=fp,fn:=fun _=>false,pn:=pn,xe:=fun _ _=>False}
def gw(ix:List (Option Nat))(σ:L2.St):L2.St:=ix.map fun i=>i.bind fun i=>(σ[i]?).bind id
noncomputable def r6(wi:TI)(ix:List (Option Nat))(g:TG)(tc:TT)(te:TE):TE:=fun σ H Q=>wi σ H fun J H1=>∀D,H1 D=none->∃W:Nat->Nat->L2.St->Hp->Prop,(∃m,W 0 m (gw ix σ) (upd H1 D (.lst [])))/\
 ∀i m σ1 H2,W i m σ1 H2->(J.stop i H2/\Q (.ref D) H2)\/(J.go i H2/\∀x H3,J.yld i H2 x H3->g x σ1 H3 fun σ2 H4=>tc σ2 H4 fun b H5=>if b=true then te σ2 H5 fun v H6=>
  ∃ys,H6 D=some (.lst ys)/\ys.length<sizeLine/\∃m',m'<m/\W (i+1) m' σ2 (upd H6 D (.lst (ys++[v]))) else ∃m',m'<m/\W (i+1) m' σ2 H5)
abbrev L3:Value->Shared->Prop:=fun _ _=>False
theorem O8{α:Type}{M:Model}{A:Around}{t:Sem α}{Q Q':α->Shared->Prop}{E:Value->Shared->Prop}{s:Shared}(h:wpAny M A t Q L3 s)(k:∀a s,Q a s->Q' a s):wpAny M A t Q' E s:=Wd h k fun _ _ z=>z.elim
theorem nR{prog:Program}{w:World}{A:Around}{R:Result->Shared->Prop}{s:Shared}{elt target iter:Expr}{ifs:List Expr}{scope:Scope}{pos:Pos}{it acc:Value}{env:Env}(I:Nat->Shared->Prop)
  (turn:∀n s,I n s->wpAny (model prog w) A (pyNext it) (fun r s₁=>match r with
   |none=>R (.ok .next) s₁
   |some v=>wpAny (model prog w) A (letOwnedTupleGo target it v) (fun _ s₂=>wpAny (model prog w) A (assign target env v) (fun _ s₃=>
     wpAny (model prog w) A (forIn ifs true fun c r=>if r=true then do let ok <-isTrue c env (eval c env);pure (ForInStep.yield ok) else pure (ForInStep.yield r)) (fun ok s₄=>
      if ok=true then wpAny (model prog w) A (eval elt env) (fun x s₅=>
       wpAny (model prog w) A (call (.builtin "list.append") [acc,x]) (fun _ s₆=>∃m,m<n/\I m s₆) L3 s₅) L3 s₄
      else ∃m,m<n/\I m s₄) L3 s₃) L3 s₂) L3 s₁) L3 s)
  (n:Nat) (h:I n s):codeAny (model prog w) A (.compLoop (.ListComp elt [⟨target,iter,ifs,0⟩] scope pos) 0 it acc env) R s:=by
 refine codeAny_loop rfl I (fun n s hI=>?_) n h;show wpAny _ A ((compTurn (.ListComp elt [⟨target,iter,ifs,0⟩] scope pos) 0 it acc env).onRaise (fun x=>do noteFrame x env;theTreesLotGoes x)) _ _ s;refine wpAny_noted ?_;rw[compTurn_list];refine Tf (YK (Tf (O8 (turn n s hI) fun r s₁ h₁=>?_)));cases r with
 |none=>exact Tu h₁
 |some v=>
  refine Tf (O8 h₁ fun _ s₂ h₂=>Tf (O8 h₂ fun _ s₃ h₃=>Tf (O8 h₃ fun ok s₄ h₄=>?_)));cases ok with
  |false=>exact Tu ⟨rfl,h₄⟩
  |true=>exact Tf (Tf (O8 h₄ fun x s₅ h₅=>Tf (O8 h₅ fun _ s₆ h₆=>Tu (Tu ⟨rfl,h₆⟩))))
def MG(X:Cx)(ifs:List Expr)(t:TT):Prop:=
 ∀(pr:List (Addr×Obj)) (s:Shared) (σ:L2.St) (H:Hp) (Q:Bool->Hp->Prop),Inv X pr σ H s->t σ H Q->
  wpAny (model X.prog X.w) X.A (forIn ifs true fun c r=>if r=true then do let ok <-isTrue c X.env (eval c X.env);pure (ForInStep.yield ok) else pure (ForInStep.yield r)) (TP X pr σ Q) X.xe s
def Gd:TT:=fun _ H Q=>Q true H
theorem zJ{X:Cx}:MG X [] Gd:=fun _ _ _ H _ I h=>wpAny_tests_nil ⟨H,I,h⟩
theorem zL{X:Cx}{c:Expr}{t:TT}(h:PT X c t):MG X [c] t:=fun pr s σ H Q I k=>wpAny_tests_one (h pr s σ H Q I k)
def nS(X:Cx)(scope:Scope)(N:List Str)(ix:List (Option Nat)):Bool:=
 N.length==ix.length&&(N.zip ix).all fun y=>match y.2 with
  |none=>true
  |some j=>X.N[j]?==some y.1&&scope.names.lookup y.1==some .free
theorem jw{scope:Scope}{env:Env}{x:Str}(h:scope.names.lookup x=some .free):(relabel scope env).names.lookup x=some .cell\/(relabel scope env).names.lookup x=some .free:=by
 unfold relabel;dsimp only;generalize scope.names=l at h;induction l with
 |nil=>cases h
 |cons y l ih=>
  obtain⟨n,k⟩:=y;rw[Uc]at h;rw[TU];cases hx:x==n with
  |true=>
   rw[hx]at h;have hk:k=.free:=Ud h;subst hk;dsimp only;split
   ·exact .inl (by rw[Uc,hx])
   ·exact .inr (by rw[Uc,hx])
  |false=>
   rw[hx]at h;dsimp only;split
   ·rw[Uc,hx];exact ih h
   ·rw[Uc,hx];exact ih h
theorem nU{scope:Scope}{env:Env}{x:Str}(hc:∀y∈scope.names,y.2≠.cell)(h:(relabel scope env).names.lookup x=some .cell\/(relabel scope env).names.lookup x=some .free):(x,NameKind.free)∈scope.names:=by
 unfold relabel at h;dsimp only at h;generalize scope.names=l at h hc;induction l with
 |nil=>rcases h with h|h <;> cases h
 |cons y l ih=>
  obtain⟨n,k⟩:=y;rw[TU]at h;dsimp only at h;have nk:k≠.cell:=hc (n,k) Tg;have Sk:=ih (hc:=fun z hz=>hc z (Tn _ hz));by_cases cnd:(k==NameKind.free&&env.scope.kind==.function&&env.kindOf n==some .cell)=true
  ·rw[Tq cnd,Uc]at h;have kf:k=.free:=by
    have:(k==NameKind.free)=true:=by
     simp only[TJ]at cnd;exact cnd.1.1
    simpa using this
   cases hx:x==n with
   |true=>
    have:x=n:=by simpa using hx
    rw[this,kf];exact Tg
   |false=>
    rw[hx]at h;exact Tn _ (Sk h)
  ·rw[Tv cnd,Uc]at h;cases hx:x==n with
   |true=>
    rw[hx]at h;have:x=n:=by simpa using hx
    rcases h with h|h
    ·exact absurd (Ud h) nk
    ·rw[this,<-Ud h];exact Tg
   |false=>
    rw[hx]at h;exact Tn _ (Sk h)
section
variable{X:Cx}{pr:List (Addr×Obj)}{σ:L2.St}{H:Hp}{s:Shared}{scope:Scope}{N:List Str}{ix:List (Option Nat)}{fp:List Addr}
theorem iu(ok:X.Ok)(hf:dE scope X.env=true):∀y∈scope.names,y.2=.free->∃c,X.env.cells.lookup y.1=some c:=fun y hy k=>by
 have:=Us.mp hf y hy;rw[k]at this;simp only[Xw,Bool.false_or,W8,Ul]at this;exact ok.has y.1 this
theorem fX(ok:X.Ok)(hf:dE scope X.env=true){x:Str}{c:Addr}(h:(clOf scope X.env).lookup x=some c):X.env.cells.lookup x=some c:=
 gU X.env x c scope.names [] (iu ok hf) (fun z=>nomatch z) h
theorem ma(ok:X.Ok)(hf:dE scope X.env=true){x:Str}(h:(x,NameKind.free)∈scope.names):∃c,(clOf scope X.env).lookup x=some c/\X.env.cells.lookup x=some c:=by
 obtain⟨c,e⟩:=kg X.env x scope.names [] (.inr h);exact⟨c,e,fX ok hf e⟩
theorem _root_.L2.Inv.block(I:Inv X pr σ H s)(hf:dE scope X.env=true)(hk:scope.kind=.function)(Hd:∀y∈scope.names,y.2≠.cell)(HX:nS X scope N ix=true)(fo:∀b∈fp,nF X pr H b)(fin:∀b∈fp,∃o,s.heap.get? b=some o)
  {h1:Heap}{t1:Nat}{D C:Addr}(hD:D=s.heap.objs.size) (hC:C=s.heap.objs.size+1) (old:∀b o,s.heap.get? b=some o->h1.get? b=some o) {n:Nat}(acc:h1.get? D=some {cls:=.type "list",data:=.seq #[] n})
  {m:Str->Option Value}(ns:h1.Ns C m):Inv (bO X scope N C s H fp (X.pn++pr)) [] (gw ix σ) (upd H D (.lst [])) {s with heap:=h1,toks:=t1}:=by
 have HK:s.heap.objs.size<=C:=by rw[hC];exact Vh _
 have freshD:s.heap.objs.size<=D:=by rw[hD];exact Tz _
 have nD:H D=none:=I.hok.fresh freshD;have DC:D≠C:=by rw[hD,hC];exact TH (UE _)
 have Kz:∀b,H b=none->b≠D->upd H D (.lst []) b=none:=fun b n z=>by rw[ak z];exact n
 have MH:∀b o,s.heap.get? b=some o->b≠D:=fun b o e=>TH (Ts (Tt e) freshD)
 have Kv:∀b o,s.heap.get? b=some o->b≠C:=fun b o e=>TH (Ts (Tt e) HK)
 have cellAt:∀x c,(clOf scope X.env).lookup x=some c->∃v o,s.heap.get? c=some o/\o.data=.cell v:=fun x c e=>by
  obtain⟨v,o,ho,hd⟩:=I.cell x c (fX I.ok hf e);exact⟨v,o,ho,hd⟩
 have Rp:(bO X scope N C s H fp (X.pn++pr)).Ok:=by
  refine⟨I.ok.mod,hk,I.ok.glob,I.ok.blt,HK,fun x y c e1 e2=>?_,fun x hx=>?_,fun x c z _=>?_,I.ok.hd,I.ok.frames,.inl rfl,fun b hb=>?_,I.bs,?_,fun b o e hb=>?_,fun b hb hs=>?_,I.stack,I.stkFree⟩
  ·exact I.ok.inj x y c (fX I.ok hf e1) (fX I.ok hf e2)
  ·obtain⟨c,e,_⟩:=ma I.ok hf (nU Hd hx);exact⟨c,e⟩
  ·exact absurd (show false=true from z) TC
  ·obtain⟨f0,f1,f2,f3,f4,f5⟩:=fo b hb;refine⟨?_,fun x c e=>f4 x c (fX I.ok hf e)⟩;intro z;have z:b=C:=z;obtain⟨o,ho⟩:=fin b hb;exact Kv b o ho z
  ·exact Ua I.ok.bsz I.sz
  ·obtain⟨f0,f1,f2,f3,f4,f5⟩:=fo b hb;rcases f3 with q|q
   ·exact I.ok.noex b o e q
   ·exact absurd (Ts (Tt e) (Ua I.ok.bsz q)) (UL _)
  ·obtain⟨f0,f1,f2,_⟩:=fo b hb;exact(Tw.mp (I.stkSub b hs)).elim f1 f2
 refine⟨Rp,rfl,I.bare,Un.laid old freshD nD,⟨m,ns,fun i x v e1 e2 e3=>?_⟩,fun x c e=>?_,?_,fun x c e=>?_,fun p hp=>?_,I.hok.laid old freshD ⟨Ut _,[],n,.nil,acc⟩,?_⟩
 ·
  have e2:(ix.map fun i=>i.bind fun i=>(σ[i]?).bind id)[i]?=some (some v):=e2;have e1:N[i]?=some x:=e1;unfold nS at HX;rw[TJ]at HX;rw[TV]at e2;cases q:ix[i]? with
  |none=>rw[q]at e2;cases e2
  |some o=>
   rw[q]at e2;have e2:(o.bind fun i=>(σ[i]?).bind id)=some v:=Ud e2;cases o with
   |none=>cases e2
   |some j=>
    have e2:(σ[j]?).bind id=some v:=e2;have hσ:σ[j]?=some (some v):=by
     cases w':σ[j]? with
     |none=>rw[w']at e2;cases e2
     |some y=>rw[w']at e2;exact UQ some e2
    have hz:(N.zip ix)[i]?=some (x,some j):=by
     rw[VG];exact⟨e1,q⟩
    have hy:=Us.mp HX.2 _ (U7 hz);simp only[TJ,Ul]at hy;have PH:(x,NameKind.free)∈scope.names:=U0 hy.2;obtain⟨c,c1,c2⟩:=ma I.ok hf PH;have PJ:X.env.kindOf x=some .cell\/X.env.kindOf x=some .free:=by
     have:=Us.mp hf _ PH;simpa using this
    obtain⟨mo,N1,Lw⟩:=I.loc;obtain⟨u,r,l⟩:=Lw j x v hy.1 hσ (.inr PJ);refine⟨u,r,.inr ⟨jw hy.2,c,c1,?_⟩⟩;rcases l with⟨k1,_⟩|⟨_,c',e',LR⟩
    ·rcases PJ with k2|k2 <;> (rw[k1]at k2;cases k2)
    ·rw[c2]at e';cases e';obtain⟨o,ho,hd⟩:=LR;exact⟨o,old c o ho,hd⟩
 ·obtain⟨v,o,ho,hd⟩:=cellAt x c e;exact⟨v,o,old c o ho,hd⟩
 ·exact Kz C (I.hok.fresh HK) (Vd DC)
 ·obtain⟨v,o,ho,hd⟩:=cellAt x c e;exact Kz c (I.freeC x c (fX I.ok hf e)) (MH c o ho)
 ·have hp:p∈X.pn++pr:=by
   have:p∈(X.pn++pr)++[]:=hp
   rwa [Uo]at this
  obtain⟨e,nn,ne,nf,d⟩:=I.pin p hp;refine⟨old _ _ e,Kz _ nn (MH _ _ e),Kv _ _ e,fun z=>?_,d⟩;exact(Tw.mp (I.stkSub p.1 z)).elim ne nf
 ·unfold nS at HX;rw[TJ]at HX;have:N.length=ix.length:=by simpa using HX.1
  show(ix.map _).length=N.length;rw[Tr,this]
theorem _root_.L2.Inv.unblock{C:Addr}{σ1:L2.St}{H1:Hp}{s1:Shared}{h2:Heap}(I:Inv X pr σ H s)(fo:∀b∈fp,nF X pr H b)(hC:s.heap.objs.size<=C)(J:Inv (bO X scope N C s H fp (X.pn++pr)) [] σ1 H1 s1)(hs:Heap.SameBut C s1.heap h2):
  Inv X pr σ H1 {s1 with heap:=h2}:=by
 have Kv:∀b o,s.heap.get? b=some o->b≠C:=fun b o e=>TH (Ts (Tt e) hC)
 have bb:Un (K0 X.stack) fp H H1 s.heap s1.heap:=J.base;have jf:H1 C=none:=J.free;refine I.call' (s':={s1 with heap:=h2}) (ch:=fp) J.os ⟨fun b o e n hb hx=>?_,fun b o e n hb hx=>?_,bb.free,fun b o e hx=>?_,bb.tups,bb.frzs,bb.tbls⟩ (fun b ob e=>?_) J.bare fun b hb=>?_
 ·exact(hs.2 b (Kv b o e)).trans (bb.keep b o e n hb hx)
 ·obtain⟨sl,q⟩:=bb.slot b o e n hb hx;exact⟨sl,(hs.2 b (Kv b o e)).trans q⟩
 ·obtain⟨o',q⟩:=bb.there b o e hx;exact⟨o',(hs.2 b (Kv b o e)).trans q⟩
 ·refine(J.hok b ob e).stay (fun c w' hc q=>(hs.2 c ?_).trans q) (fun _ q=>q) fun _ _ q=>q
  rintro rfl;rcases hc with rfl|hc
  ·rw[jf]at e;cases e
  ·rw[jf]at hc;cases hc
 ·obtain⟨f0,f1,f2,f3,f4,f5⟩:=fo b hb;exact⟨f3,f1,f4,f5⟩
end
section
variable{X:Cx}{scope:Scope}{N:List Str}{ix:List (Option Nat)}{tg iter elt:Expr}{ifs:List Expr}{pos:Pos}{wi:TI}{g:TG}{tc:TT}{te:TE}
theorem lN{pr:List (Addr×Obj)}{σ:L2.St}{H2:Hp}{s2:Shared}{J:It}{fp:List Addr}{it:Addr}{tn:Nat->Heap->Prop}{Q:VK}{RR:Value->Addr->Result->Shared->Prop}{E:Value->Shared->Prop}
  (hc:X.calm=true) (I2:Inv X pr σ H2 s2) (T:Turn X.prog X.w X.K tg J fp it tn) (GV:tn 0 s2.heap) (f2:∀b∈fp,nF X pr H2 b)
  (hg:∀C s H fp pn,PG (bO X scope N C s H fp pn) tg g) (ht:∀C s H fp pn,MG (bO X scope N C s H fp pn) ifs tc) (he:∀C s H fp pn,PE (bO X scope N C s H fp pn) elt te)
  (hf:dE scope X.env=true) (hk:scope.kind=.function) (Hd:∀y∈scope.names,y.2≠.cell) (HX:nS X scope N ix=true)
  (q:∀D,H2 D=none->∃W:Nat->Nat->L2.St->Hp->Prop,(∃m,W 0 m (gw ix σ) (upd H2 D (.lst [])))/\
   ∀i m σ1 H3,W i m σ1 H3->(J.stop i H3/\Q (.ref D) H3)\/(J.go i H3/\∀x H4,J.yld i H3 x H4->g x σ1 H4 fun σ2 H5=>tc σ2 H5 fun b H6=>if b=true then te σ2 H6 fun v H7=>
    ∃ys,H7 D=some (.lst ys)/\ys.length<sizeLine/\∃m',m'<m/\W (i+1) m' σ2 (upd H7 D (.lst (ys++[v]))) else ∃m',m'<m/\W (i+1) m' σ2 H6))
  (Rq:∀(D C:Addr) (σ1:L2.St) (H1:Hp) (s1:Shared),s2.heap.objs.size<=C->Inv (bO X scope N C s2 H2 fp (X.pn++pr)) [] σ1 H1 s1->Q (.ref D) H1->RR (.ref D) C (.ok .next) s1):
  wpAny (model X.prog X.w) X.A (newList []) (fun acc s₃=>wpAny (model X.prog X.w) X.A (newFunctionEnv scope X.env.globals (clOf scope X.env) [] X.env.qual none .none (some X.env)) (fun L4 s₄=>
   codeAny (model X.prog X.w) X.A (.compStart (.ListComp elt [⟨tg,iter,ifs,0⟩] scope pos) 0 (.ref it) acc {L4 with scope:=relabel scope X.env}) (RR acc L4.locals) s₄) E s₃) E s2:=by
 refine UH (wpAny_newFunctionEnv Hd (by intro y hy;simp at hy) (fun h₁ hns₁ hsb₁=>?_) hk);dsimp only at hns₁ hsb₁ ⊢;generalize hH2:s2.heap.push {cls:=.type "list",dict:=none,data:=.seq ([]:List Value).toArray}=HH at hns₁ hsb₁ ⊢;have hC:HH.objs.size=s2.heap.objs.size+1:=by rw[<-hH2,UA]
 have Sl:s2.heap.objs.size≠HH.objs.size:=by rw[hC];exact TH (UE _)
 have Lx:s2.heap.objs.size<=HH.objs.size:=by rw[hC];exact Vh _
 have Kv:∀b o,s2.heap.get? b=some o->b≠HH.objs.size:=fun b o e=>TH (Ts (Tt e) Lx)
 have old:∀b o,s2.heap.get? b=some o->h₁.get? b=some o:=fun b o e=>hsb₁.extBut b o (Kv b o e) (Th _ (hH2▸Th _ e))
 have IP:h₁.get? s2.heap.objs.size=some {cls:=.type "list",data:=.seq #[] 0}:=hsb₁.extBut _ _ Sl (Th _ (hH2▸TF _ rfl));obtain⟨W,⟨m0,w0⟩,turn⟩:=q s2.heap.objs.size (I2.hok.fresh (Tz _));have fin:∀b∈fp,∃o,s2.heap.get? b=some o:=fun b hb=>let⟨o,e,_⟩:=T.obj 0 _ GV b hb;⟨o,e⟩
 have JF:∀{H':Hp},(∀b∈fp,H' b=none)->∀b∈fp,nF (bO X scope N HH.objs.size s2 H2 fp (X.pn++pr)) [] H' b:=fun{H'} hn b hb=>by
  obtain⟨f0,f1,ff,f3,f4,f5⟩:=f2 b hb;refine⟨hn b hb,?_,fun z=>?_,.inl hb,fun x c e=>f4 x c (fX I2.ok hf e),fun p hp=>?_⟩
  ·intro z;have z:b=HH.objs.size:=z;obtain⟨o,ho⟩:=fin b hb;exact Kv b o ho z
  ·exact(Tw.mp (I2.stkSub b z)).elim f1 ff
  ·have hp:p∈X.pn++pr:=by
    have:p∈(X.pn++pr)++[]:=hp
    rwa [Uo]at this
   exact f5 p hp
 have loop:∀s₃:Shared,s₃={s2 with heap:=h₁,toks:=s2.toks+([]:List (Str×Value)).length}->
   codeAny (model X.prog X.w) X.A (.compLoop (.ListComp elt [⟨tg,iter,ifs,0⟩] scope pos) 0 (.ref it) (.ref s2.heap.objs.size) (compEnvC scope (clOf scope X.env) HH.objs.size X.env)) (RR (.ref s2.heap.objs.size) HH.objs.size) s₃:=by
  rintro s₃ rfl;refine nR (fun n s'=>∃i σ' H',Inv (bO X scope N HH.objs.size s2 H2 fp (X.pn++pr)) [] σ' H' s'/\tn i s'.heap/\(∀b∈fp,H' b=none)/\W i n σ' H') ?_ m0
   ⟨0,_,_,I2.block hf hk Hd HX f2 fin rfl hC old IP hns₁,T.keep 0 _ _ GV fun b _ o e=>old b o e,fun b hb=>?_,w0⟩
  ·rintro n s3 ⟨i,σ3,H3,I3,Ho,NA,w3⟩;rcases turn i n σ3 H3 w3 with⟨stop,qn⟩|⟨go,step⟩
   ·refine Hf (T.done (bO X scope N HH.objs.size s2 H2 fp (X.pn++pr)) rfl rfl rfl hc i [] s3 σ3 H3 L3 I3 (JF NA) Ho stop) fun r s4 Hc=>?_
    obtain⟨hr,I4⟩:=Hc;subst hr;exact Rq _ _ σ3 H3 s4 Lx I4 qn
   ·refine Hf (T.item (bO X scope N HH.objs.size s2 H2 fp (X.pn++pr)) rfl rfl rfl hc i [] s3 σ3 H3 L3 I3 (JF NA) Ho go) fun r s4 Hc=>?_
    obtain⟨u,hr,h4⟩:=Hc;subst hr;refine Hf h4 fun _ s5 Hc=>?_
    obtain⟨x,H5,I5,r5,y5,IV,Pt⟩:=Hc;have Pu:=I5.pinned (JF Pt) (T.obj _ _ IV);refine Hf (hg _ _ _ _ _ _ s5 σ3 H5 x u _ Pu r5 (step x H5 y5)) fun _ s6 Hc=>?_
    obtain⟨σ6,H6,I6,q6⟩:=Hc;refine Hf (ht _ _ _ _ _ _ s6 σ6 H6 _ I6 q6) fun ok s7 Hc=>?_
    obtain⟨H7,I7,q7⟩:=Hc;have again:∀{H8:Hp}{s8:Shared},Inv (bO X scope N HH.objs.size s2 H2 fp (X.pn++pr)) ([]++lJ fp s5.heap) σ6 H8 s8->(∃m',m'<n/\W (i+1) m' σ6 H8)->
      ∃m,m<n/\∃i σ' H',Inv (bO X scope N HH.objs.size s2 H2 fp (X.pn++pr)) [] σ' H' s8/\tn i s8.heap/\(∀b∈fp,H' b=none)/\W i m σ' H':=fun{H8 s8} I8 ⟨m',hm,w8⟩=>by
     refine⟨m',hm,i+1,σ6,H8,I8.unpinned,T.keep _ _ _ IV fun b hb o e=>(I8.pin (b,o) (Tp _ (Tp _ (dN hb e)))).1,fun b hb=>?_,w8⟩;obtain⟨o,e,d⟩:=T.obj _ _ IV b hb;exact(I8.pin (b,o) (Tp _ (Tp _ (dN hb e)))).2.1
    cases ok with
    |false=>exact again I7 q7
    |true=>
     show wpAny _ _ _ _ _ _;refine Hf (he _ _ _ _ _ _ s7 σ6 H7 _ I7 q7) fun x8 s8 Hc=>?_
     obtain⟨v8,H8,I8,r8,ys,Rr,Hx,q8⟩:=Hc;refine Hf (kc _ s8 σ6 H8 (.ref s2.heap.objs.size) [v8] (.ref s2.heap.objs.size) [x8] (fun _ H9=>∃m',m'<n/\W (i+1) m' σ6 H9) I8 rfl (.cons r8 .nil) ⟨_,ys,v8,rfl,rfl,Rr,Hx,q8⟩) fun _ s9 Hc=>?_
     obtain⟨_,H9,I9,_,q9⟩:=Hc;exact again I9 q9
  ·rw[ak (fun z=>by
    obtain⟨o,ho⟩:=fin b hb;exact absurd z (TH (Tt ho)))]
   exact(f2 b hb).1
 exact codeAny_compStart_list (loop _ rfl) (T.self _ 0 _ _ _ (T.keep 0 _ _ GV fun b _ o e=>old b o e) (loop _ rfl))
theorem uc(ix:List (Option Nat))(N:List Str)(hc:X.calm=true)(hi:PI X tg iter wi)(hg:∀C s H fp pn,PG (bO X scope N C s H fp pn) tg g)(ht:∀C s H fp pn,MG (bO X scope N C s H fp pn) ifs tc)(he:∀C s H fp pn,PE (bO X scope N C s H fp pn) elt te)
  (hf:dE scope X.env=true:=by rfl) (hk:scope.kind=.function:=by rfl) (Hd:∀y∈scope.names,y.2≠.cell:=by decide +kernel) (Hn:∀y∈scope.names,y.2=.local->scope.names.lookup y.1=some .local:=by decide +kernel) (HX:nS X scope N ix=true:=by rfl)
  (hs:∀x,foldedSetIterable iter X.env x=pure x:=by intro _;rfl):PE X (.ListComp elt [⟨tg,iter,ifs,0⟩] scope pos) (r6 wi ix g tc te):=by
 intro pr s σ H Q I h;rw[eval_ListComp];have JL:closureFor scope X.env=pure (clOf scope X.env):=by
  unfold closureFor clOf;have:=dO X.env scope.names [] (iu I.ok hf);simpa using this
 refine VO (use:=none) rfl hs JL hk Hn (Hf (hi pr s σ H _ I h) fun v s1 h1=>Hf h1 fun O2 s2 h2=>?_);obtain⟨it,fp,tn,J,H2,e,I2,T,GV,f2,q⟩:=h2;subst e;refine lN (RR:=fun acc C=>compPost (model X.prog X.w) X.A X.xe none (EP X pr σ Q) acc C) (Q:=Q) (iter:=iter) hc I2 T GV f2 hg ht he hf hk Hd HX q fun D C σ1 H1 s1 hC J1 q1=>?_
 obtain⟨m,ns,_⟩:=J1.loc;exact⟨m,ns,fun h' N5=>⟨.ref D,H1,I2.unblock f2 hC J1 N5,rfl,q1⟩⟩
end
section
variable{X:Cx}{scope:Scope}{N:List Str}{ix:List (Option Nat)}{tg iter elt:Expr}{ifs:List Expr}{pos:Pos}{wi:TI}{g:TG}{tc:TT}{te:TE}
theorem zM{i:Nat}{y:Str}{py JM:Pos}(ix:List (Option Nat))(N:List Str)(hN:X.N.Nodup)(N6:X.N[i]?=some y)(hy:Loc X.env.scope y)(hc:X.calm=true)(hi:PI X tg iter wi)(hg:∀C s H fp pn,PG (bO X scope N C s H fp pn) tg g)(ht:∀C s H fp pn,MG (bO X scope N C s H fp pn) ifs tc)
  (he:∀C s H fp pn,PE (bO X scope N C s H fp pn) elt te) (N7:swapsWith (.ListComp elt [⟨tg,iter,ifs,0⟩] scope pos) (some (.Name y py)) JM.line X.env=pure true:=by rfl)
  (hf:dE scope X.env=true:=by rfl) (hk:scope.kind=.function:=by rfl) (Hd:∀y∈scope.names,y.2≠.cell:=by decide +kernel) (Hn:∀y∈scope.names,y.2=.local->scope.names.lookup y.1=some .local:=by decide +kernel) (HX:nS X scope N ix=true:=by rfl)
  (hs:∀x,foldedSetIterable iter X.env x=pure x:=by intro _;rfl) (LS:X.fn y=true\/X.env.scope.names.lookup y=some .local:=by first|exact .inl rfl|exact .inr rfl):
  PS X (.Assign [.Name y py] (.ListComp elt [⟨tg,iter,ifs,0⟩] scope pos) JM) (fun D σ H=>r6 wi ix g tc te σ H fun v H'=>D.nx (σ.set i (some v)) H'):=by
 intro pr s σ H Dd I h;rw[exec_Assign_Name_used _ _ _ _ N7];have JL:closureFor scope X.env=pure (clOf scope X.env):=by
  unfold closureFor clOf;have:=dO X.env scope.names [] (iu I.ok hf);simpa using this
 refine Tf (YK (Tf ?_));show wpAny _ X.A (do let _ <-comprehension (.ListComp elt [⟨tg,iter,ifs,0⟩] scope pos) scope X.env _ (newList []) false (eval iter X.env) (some (assign (.Name y py) X.env))) _ _ s;refine Tf (Wd (VO (use:=some (assign (.Name y py) X.env)) (Q:=fun _ s'=>SP X pr Dd .next s') rfl hs JL hk Hn
  (Hf (hi pr s σ H _ I h) fun v s1 h1=>Hf h1 fun O2 s2 h2=>?_)) (fun _ s' hq=>Tu (Tu hq)) fun _ _ e=>e)
 obtain⟨it,fp,tn,J,H2,e,I2,T,GV,f2,q⟩:=h2;subst e;refine lN (RR:=fun acc C=>compPost (model X.prog X.w) X.A X.xe (some (assign (.Name y py) X.env)) (fun _ s'=>SP X pr Dd .next s') acc C) (Q:=fun v H'=>Dd.nx (σ.set i (some v)) H') (iter:=iter) hc I2 T GV f2 hg ht he hf hk Hd HX q fun D C σ1 H1 s1 hC J1 q1=>?_
 obtain⟨m,ns,_⟩:=id J1.loc;have ns:s1.heap.Ns C m:=ns;have I3:Inv X pr σ H1 s1:=I2.unblock f2 hC J1 (.refl ..);show wpAny _ X.A (assign (.Name y py) X.env (.ref D)) _ _ s1;refine Xu (j7 I3 hN N6 hy (v:=.ref D) rfl (fun s4 I4 ⟨a,sb,ha⟩=>?_) LS);have aC:C≠a:=by
  intro z;rcases ha with ha|ha
  ·exact TH (Ts I2.lt hC) (ha▸z.symm)
  ·obtain⟨v,o,ho,_⟩:=I2.cell y a ha;exact TH (Ts (Tt ho) hC) z.symm
 refine⟨m,ns.sameBut sb aC,fun h' N5=>?_⟩;have jf:H1 C=none:=J1.free;have kk:∀b o,b≠C->s4.heap.get? b=some o->h'.get? b=some o:=fun b o hb e=>(N5.2 b hb).trans e
 refine⟨σ.set i (some (.ref D)),H1,?_,q1⟩;have z:=I4.turned (t':=s4.toks) kk jf (fun z=>TH (Ts I2.lt hC) z.symm) (.inr (Ua I2.sz hC)) (fun x c e z=>by
  obtain⟨v,o,ho,_⟩:=I2.cell x c e;exact TH (Ts (Tt ho) hC) z) (fun p hp z=>TH (Ts (Tt (I2.pin p hp).1) hC) z)
 exact z
end
def Itv(val:Nat->V)(n:Nat):It:=⟨fun i _=>i<n,fun i H x H'=>H'=H/\x=val i,fun i _=>i=n⟩
theorem qr{P:Program}{w:World}{K:W.Frag}{tg:Expr}(ty:String)(Pz:["enumerate","zip","dict_itemiterator","dict_reverseitemiterator","odict_iterator","itertools.zip_longest","itertools.pairwise"].contains ty=false)(l:List Nat)(t:Tok)(it:Addr)
  (Wk:∀A:Around,A.handled=none->Walks P w A it [it] [it] (S l).cps.size (SignAt (S l)) (fun i h=>h.IsStrIter it ty (S l) t i))
  (self:∀(A:Around) (i:Nat) (s:Shared) (Q:Value->Shared->Prop) (E:Value->Shared->Prop),s.heap.IsStrIter it ty (S l) t i->Q (.ref it) s->wpAny (model P w) A (pyIter (.ref it)) Q E s):
  Turn P w K tg (Itv (fun i=>.str (S [l.getD i 0])) l.length) [it] it (fun i h=>h.IsStrIter it ty (S l) t i) where
 mem:=by simp
 obj:=fun i h st b hb=>by
  have e:b=it:=by simpa using hb
  subst e;obtain⟨o,e,c,d⟩:=st;exact⟨o,e,fun v z=>by rw[d]at z;cases z⟩
 keep:=fun i h h' st k=>by
  obtain⟨o,e,r⟩:=st;exact⟨o,k it (by simp) o e,r⟩
 item:=by
  intro X hP hw hK hc i pr s σ H E I hf st hg;subst hP hw hK;obtain⟨f0,f1,f2,f3,f4,f5⟩:=hf it (by simp);have hg:i<l.length:=hg;refine(Wk X.A (I.ok.hd hc)).item i s _ _ (by simpa[S] using hg) st fun v h' tk hv J2 kk=>?_
  obtain⟨c,u,QL,rfl⟩:=hv;have I1:Inv X pr σ H {s with heap:=h',toks:=tk}:=I.turned (fun b o hb e=>kk b o (by simpa using hb) e) f0 f1 f3 f4 f5;obtain⟨o,e,cc,d⟩:=id J2;have Jj:l.getD i 0=c:=by
   have:l[i]?=some c:=by simpa[S] using QL
   rw[Ti,this];rfl
  refine⟨_,rfl,tm (s:={s with heap:=h',toks:=tk}) e cc d Pz ⟨.str (S [l.getD i 0]),H,I1,⟨u,?_⟩,⟨rfl,rfl⟩,J2,fun b hb=>(hf b hb).1⟩⟩;rw[Jj]
 done:=by
  intro X hP hw hK hc i pr s σ H E I hf st hg;subst hP hw hK;obtain⟨f0,f1,f2,f3,f4,f5⟩:=hf it (by simp);have hg:i=l.length:=hg;have hn:(S l).cps.size=i:=by rw[hg];simp[S]
  refine(Wk X.A (I.ok.hd hc)).done s _ _ (by rw[hn];exact st) fun h' tk kk=>⟨rfl,I.turned (fun b o hb e=>kk b o (by simpa using hb) e) f0 f1 f3 f4 f5⟩
 self:=self
def Ge(tl:TE):TI:=fun σ H R=>tl σ H fun x H1=>∃l,x=.str (S l)/\R (Itv (fun i=>.str (S [l.getD i 0])) l.length) H1
section
variable{X:Cx}{tg:Expr}
theorem BV{l:Expr}{tl:TE}(hl:PE X l tl):PI X tg l (Ge tl):=by
 intro pr s σ H R I h;refine Hf (hl pr s σ H _ I h) fun v s1 Hc=>?_
 obtain⟨x,H1,I1,r1,l,e,q⟩:=Hc;subst e;obtain⟨t,rfl⟩:=r1;cases ha:(S l).cps.all (·< 128)
 ·refine wpAny_pyIter_wide ha ?_;refine⟨s1.heap.objs.size,[s1.heap.objs.size],_,_,H1,rfl,I1.kept (t':=s1.toks) fun b o e=>Th _ e,
   qr "str_iterator" (by decide) l t _ (fun A hA=>Walks.strWide hA _ _ _) (fun _ _ _ _ _ st h=>wpAny_pyIter_striter_wide st h),⟨_,TF _ rfl,rfl,rfl⟩,fun b hb=>?_,q⟩
  have e:b=s1.heap.objs.size:=by simpa using hb
  subst e;exact I1.fpOk (Tz _) (I1.hok.fresh (Tz _))
 ·refine wpAny_pyIter_ascii ha ?_;refine⟨s1.heap.objs.size,[s1.heap.objs.size],_,_,H1,rfl,I1.kept (t':=s1.toks) fun b o e=>Th _ e,
   qr "str_ascii_iterator" (by decide) l t _ (fun A hA=>Walks.strAscii hA _ _ _) (fun _ _ _ _ _ st h=>wpAny_pyIter_striter_ascii st h),⟨_,TF _ rfl,rfl,rfl⟩,fun b hb=>?_,q⟩
  have e:b=s1.heap.objs.size:=by simpa using hb
  subst e;exact I1.fpOk (Tz _) (I1.hok.fresh (Tz _))
theorem qu{pr:List (Addr×Obj)}{s:Shared}{σ:L2.St}{H:Hp}{p:Addr}{xs:List V}{E:Value->Shared->Prop}{R:Value->Shared->Prop}(hc:X.calm=true)(I:Inv X pr σ H s)(h:SqL X.K H p xs\/SqT X.K H p xs)
  (k:∀(it:Addr) (fp:List Addr) (o:Obj) (us:List Value) (Sx:Nat->Heap->Prop),Vals xs us->Walks X.prog X.w X.A.in1 it fp [it] us.length (fun i v=>us[i]?=some v) Sx->Sx 0 (s.heap.push o)->(∀b∈fp,b<(s.heap.push o).objs.size)->it=s.heap.objs.size->R (.ref it) {s with heap:=s.heap.push o}):
  wpAny (model X.prog X.w) X.A.in1 (pyIter (.ref p)) R E s:=by
 have hh:X.A.in1.handled=none:=I.ok.hd hc;rcases h with h|h
 ·obtain⟨us,r,pl,hz⟩:=I.list h;have Hx:p<s.heap.objs.size:=by obtain⟨o,ho,_⟩:=pl.isList;exact Tt ho
  refine Ve pl.isList (k s.heap.objs.size [s.heap.objs.size,p] _ us (fun i h=>h.IsListIter s.heap.objs.size p i/\h.IsList p us.toArray) r (by
   have W:=Walks.list (prog:=X.prog) (w:=X.w) hh s.heap.objs.size p (TH Hx) us.toArray;simpa using W) ⟨⟨_,TF _ rfl,rfl,rfl⟩,pl.isList.at fun o e=>Th _ e⟩ (fun b hb=>?_) rfl)
  rw[UA];rcases Tw.mp hb with rfl|hb
  ·exact UE _
  ·rw[T9]at hb;rw[hb];exact WG Hx
 ·obtain⟨us,r,pl,hz⟩:=I.tuple h;have N4:s.heap.IsTuple p us.toArray:=pl;have Hx:p<s.heap.objs.size:=by obtain⟨o,ho,_⟩:=pl;exact Tt ho
  refine U3 N4 (k s.heap.objs.size [s.heap.objs.size,p] _ us (fun i h=>h.IsTupleIter s.heap.objs.size p i/\h.IsTuple p us.toArray) r (by
   have W:=Walks.tuple (prog:=X.prog) (w:=X.w) hh s.heap.objs.size p (TH Hx) us.toArray;simpa using W) ⟨⟨_,TF _ rfl,rfl,rfl⟩,N4.at fun o e=>Th _ e⟩ (fun b hb=>?_) rfl)
  rw[UA];rcases Tw.mp hb with rfl|hb
  ·exact UE _
  ·rw[T9]at hb;rw[hb];exact WG Hx
theorem lO{pr:List (Addr×Obj)}{s:Shared}{σ:L2.St}{H:Hp}{o:Obj}{h':Heap}{tk:Nat}(I:Inv X pr σ H s)(kk:∀b ob,b∉[s.heap.objs.size]->(s.heap.push o).get? b=some ob->h'.get? b=some ob):
  Inv X pr σ H {s with heap:=h',toks:=tk}:=I.kept fun b ob e=>kk b ob (fun z=>TH (Tt e) (by simpa using z)) (Th _ e)
theorem bK{α:Type}(l:List α)(i:Nat)(d:α)(h:i<l.length):l.getD i d=l[i]:=by
 rw[Ti,Tj h];rfl
theorem hV{ns:List Int}{us:List Value}(r:Vals (ns.map V.int) us){i:Nat}{v:Value}(h:us[i]?=some v):∃t,v=.int (ns.getD i 0) t:=by
 have hl:=r.length;rw[Tr]at hl;obtain⟨hi,_⟩:=Tx.mp h;have e1:(ns.map V.int)[i]?=some (.int (ns.getD i 0)):=by
  rw[TV,Tj (by lia),bK _ _ _ (by lia)];rfl
 obtain⟨u,hu,t,rfl⟩:=r.get e1;rw[h]at hu;exact⟨t,Ud hu⟩
theorem xa{ns:List Int}{us:List Value}(r:Vals (ns.map V.int) us)(A:Around):CmpOf X.prog X.w A .Gt (fun i v=>us[i]?=some v) (fun i j=>decide (ns.getD j 0<ns.getD i 0)):=by
 intro i j vi vj s Q E hi hj q;obtain⟨t,rfl⟩:=hV r hi;obtain⟨t',rfl⟩:=hV r hj;exact gt_int q
def xb(ns:List Int):Int:=ns.foldl max (ns.headD 0)
def Ec(ns:List Int):Int:=ns.foldl min (ns.headD 0)
theorem qw(ns:List Int):∀k,k<ns.length->argBest (fun i j=>decide (ns.getD j 0<ns.getD i 0)) k<ns.length/\ns.getD (argBest (fun i j=>decide (ns.getD j 0<ns.getD i 0)) k) 0=(ns.take (k+1)).foldl max (ns.headD 0)
 | 0,h=>by
  refine⟨h,?_⟩;cases ns with
  |nil=>cases h
  |cons a l=>show a=max a a;lia
 |k+1,h=>by
  obtain⟨ih1,ih2⟩:=qw ns k (by lia);have et:ns.take (k+1+1)=ns.take (k+1)++[ns.getD (k+1) 0]:=by
   rw[Xv,Tj h,bK _ _ _ h];rfl
  rw[et,List.foldl_append,<-ih2];show(if decide (ns.getD (argBest (fun i j=>decide (ns.getD j 0<ns.getD i 0)) k) 0<ns.getD (k+1) 0)=true then k+1 else argBest (fun i j=>decide (ns.getD j 0<ns.getD i 0)) k)<ns.length/\
   ns.getD (if decide (ns.getD (argBest (fun i j=>decide (ns.getD j 0<ns.getD i 0)) k) 0<ns.getD (k+1) 0)=true then k+1 else argBest (fun i j=>decide (ns.getD j 0<ns.getD i 0)) k) 0=max _ _
  split
  ·rename_i hd;have:=WH hd;exact⟨h,by lia⟩
  ·rename_i hd;rw[T7]at hd;exact⟨ih1,by lia⟩
theorem ud(hc:X.calm=true):dB X (.builtin "max") (fun vs H Q=>∃(p:Addr) (ns:List Int),vs=[.ref p]/\(SqL X.K H p (ns.map V.int)\/SqT X.K H p (ns.map V.int))/\ns≠[]/\Q (.int (xb ns)) H):=by
 intro pr s σ H vs us Q I r h;obtain⟨p,ns,rfl,hp,Kd,q⟩:=h;obtain⟨u,rfl,r1⟩:=hJ r;cases r1;have hn:0<ns.length:=by cases ns with|nil=>exact absurd rfl Kd|cons _ _=>simp
 refine call_max_walk (qu hc I hp fun it fp o ws Sx rv W st hf hit=>?_);have hl:=rv.length;rw[Tr]at hl;refine⟨it,fp,[it],_,_,Sx,_,rfl,W,st,hf,by lia,xa rv _,fun v h' tk hv kk=>?_⟩;subst hit;obtain⟨b1,b2⟩:=qw ns (ns.length-1) (by lia);rw[<-hl]at hv;obtain⟨t,rfl⟩:=hV rv hv;refine⟨.int (xb ns),H,lO (s:=s) I kk,⟨t,?_⟩,q⟩;rw[b2,show ns.length-1+1=ns.length by lia,XO];rfl
theorem nV(ns:List Int):∀k,k<=ns.length->preSum (fun i=>ns.getD i 0) k=(ns.take k).sum
 | 0,_=>by simp[preSum]
 |k+1,h=>by
  have et:ns.take (k+1)=ns.take k++[ns.getD k 0]:=by
   rw[Xv,Tj (by lia),bK _ _ _ (by lia)];rfl
  rw[et,List.sum_append,<-nV ns k (by lia)];simp[preSum]
theorem ue(hc:X.calm=true):dB X (.builtin "sum") (fun vs H Q=>∃(p:Addr) (ns:List Int),vs=[.ref p]/\(SqL X.K H p (ns.map V.int)\/SqT X.K H p (ns.map V.int))/\Q (.int ns.sum) H):=by
 intro pr s σ H vs us Q I r h;obtain⟨p,ns,rfl,hp,q⟩:=h;obtain⟨u,rfl,r1⟩:=hJ r;cases r1;refine call_sum_walkG (qu hc I hp fun it fp o ws Sx rv W st hf hit=>?_);have hl:=rv.length;rw[Tr]at hl;refine⟨it,fp,[it],_,_,Sx,fun i=>ns.getD i 0,rfl,W,st,hf,fun i v hv=>hV rv hv,fun h' tk t' kk=>?_⟩;subst hit;refine⟨.int ns.sum,H,lO (s:=s) I kk,⟨t',?_⟩,q⟩;rw[<-hl,nV ns _ (Tz _),XO]
end
section
variable{prog:Program}{w:World}{A:Around}{R:Result->Shared->Prop}{it:Addr}{fp wr:List Addr}{n:Nat}{Pv:Nat->Value->Prop}{Sx:Nat->Heap->Prop}{kw:List (Str×Value)}
end
section
variable{X:Cx}{e k:Expr}{te tk:TE}{p pos Pw:Pos}
def maxD(ns:List Int)(d:Int):Int:=if ns=[] then d else xb ns
end
section
variable{prog:Program}{w:World}{A:Around}{E:Value->Shared->Prop}{s:Shared}
theorem xc{it t:Addr}{i:Nat}{items:Array Value}{x:Value}{Q:Value->Shared->Prop}(hi:s.heap.IsTupleIter it t i)(ht:s.heap.IsTuple t items)(hx:items[i]?=some x)
  (k:∀h',h'.IsTupleIter it t (i+1)->Heap.SameBut it s.heap h'->Q x {s with heap:=h'}):wpAny (model prog w) A (Builtin.SmallTypes.nextOf (.ref it)) Q E s:=by
 obtain⟨o,ho,oc,od⟩:=id hi;obtain⟨q,hq,_,n,qd⟩:=ht;unfold Builtin.SmallTypes.nextOf;refine Tf (Uv (name:=Str.ofString "__next__") hi.typeIs VB (UO VB hi.typeIs W9 ?_ (WZ _)));show wpAny _ _ (field (.ref it) 0 >>= _) _ _ s;refine Tf (U4 ho od (x:=.ref t) rfl ?_);show wpAny _ _ (if(Value.ref t==Value.none)=true then _ else _) _ _ s;rw[Tv (fun z:(Value.ref t==Value.none)=true=>TC z)];show wpAny _ _ (field (.ref it) 1 >>= _) _ _ s;refine Tf (U4 ho od (x:=.int i 0) rfl (Tf (Vr hq qd ?_)));simp only[Uk,hx];refine Tf (Xq ho od (by simp) (Tu ⟨x,rfl,Tu (k _ ⟨_,V6 _ ho (Obj.isFreed_of_fields (Wz od _)),(Obj.cls_mapFields ..).trans oc,?_⟩ (Wo ..))⟩));rw[Wz od];simp[rawInt]
theorem zN{it t:Addr}{i:Nat}{items:Array Value}{Q:Value->Shared->Prop}(hh:A.handled=none)(hi:s.heap.IsTupleIter it t i)(ht:s.heap.IsTuple t items)(hx:items[i]?=none)
  (k:∀h' e,Heap.ExtBut it s.heap h'->(∃o,h'.get? e=some o/\o.cls=.type "StopIteration")->E (.ref e) {s with heap:=h'}):wpAny (model prog w) A (Builtin.SmallTypes.nextOf (.ref it)) Q E s:=by
 obtain⟨o,ho,oc,od⟩:=id hi;obtain⟨q,hq,_,n,qd⟩:=ht;unfold Builtin.SmallTypes.nextOf;refine Tf (Uv (name:=Str.ofString "__next__") hi.typeIs VB (UO VB hi.typeIs W9 ?_ (WZ _)));show wpAny _ _ (field (.ref it) 0 >>= _) _ _ s;refine Tf (U4 ho od (x:=.ref t) rfl ?_);show wpAny _ _ (if(Value.ref t==Value.none)=true then _ else _) _ _ s;rw[Tv (fun z:(Value.ref t==Value.none)=true=>TC z)];show wpAny _ _ (field (.ref it) 1 >>= _) _ _ s;refine Tf (U4 ho od (x:=.int i 0) rfl (Tf (Vr hq qd ?_)));simp only[Uk,hx];refine Tf (Y4 (Tf (Xq ho od (by simp) ?_)));show wpAny _ _ (newExc (.type "StopIteration") [] >>= _) _ _ _;refine Tf ?_;simp only[newExc,newTuple];refine Tf (UH (Tf (m:=firstArgMember _ _) (wpAny_of_eq (a:=Value.none) (by first|rfl|(simp only[firstArgMember];rfl)) (UH ?_ (by size_fits)))) (by size_fits));simp only[raiseNew];refine Tf (wpAny_handled ?_);first
  |rw[show A.in1.handled=none from hh]
  |rw[hh]
 exact Tf (Tu (wpAny_throw (k _ _ (((Wo ..).extBut.push _).push _) ⟨_,TF _ rfl,rfl⟩)))
def IsIt(k:Bool)(h:Heap)(it l:Addr)(i:Nat):Prop:=match k with
 |true=>h.IsListIter it l i
 |false=>h.IsTupleIter it l i
def IsSq(k:Bool)(h:Heap)(l:Addr)(xs:Array Value):Prop:=match k with
 |true=>h.IsList l xs
 |false=>h.IsTuple l xs
theorem IsIt.at{k:Bool}{h h':Heap}{it l:Addr}{i:Nat}(x:IsIt k h it l i)(e:∀o,h.get? it=some o->h'.get? it=some o):IsIt k h' it l i:=by
 cases k with
 |true=>obtain⟨o,ho,r⟩:=(show h.IsListIter it l i from x);exact(show h'.IsListIter it l i from⟨o,e o ho,r⟩)
 |false=>obtain⟨o,ho,r⟩:=(show h.IsTupleIter it l i from x);exact(show h'.IsTupleIter it l i from⟨o,e o ho,r⟩)
theorem IsSq.at{k:Bool}{h h':Heap}{l:Addr}{xs:Array Value}(x:IsSq k h l xs)(e:∀o,h.get? l=some o->h'.get? l=some o):IsSq k h' l xs:=by
 cases k with
 |true=>obtain⟨o,ho,r⟩:=(show h.IsList l xs from x);exact(show h'.IsList l xs from⟨o,e o ho,r⟩)
 |false=>obtain⟨o,ho,r⟩:=(show h.IsTuple l xs from x);exact(show h'.IsTuple l xs from⟨o,e o ho,r⟩)
theorem IsIt.obj{k:Bool}{h:Heap}{it l:Addr}{i:Nat}(x:IsIt k h it l i):∃o,h.get? it=some o/\∀v,o.data≠.cell v:=by
 cases k with
 |true=>obtain⟨o,ho,_,d⟩:=(show h.IsListIter it l i from x);exact⟨o,ho,fun v z=>by rw[d]at z;cases z⟩
 |false=>obtain⟨o,ho,_,d⟩:=(show h.IsTupleIter it l i from x);exact⟨o,ho,fun v z=>by rw[d]at z;cases z⟩
theorem IsSq.get{k:Bool}{h:Heap}{l:Addr}{xs:Array Value}(x:IsSq k h l xs):∃o,h.get? l=some o:=by
 cases k with
 |true=>obtain⟨o,ho,_⟩:=(show h.IsList l xs from x);exact⟨o,ho⟩
 |false=>obtain⟨o,ho,_⟩:=(show h.IsTuple l xs from x);exact⟨o,ho⟩
theorem me{k:Bool}{it l:Addr}{i:Nat}{xs:Array Value}{x:Value}{Q:Value->Shared->Prop}(hi:IsIt k s.heap it l i)(hl:IsSq k s.heap l xs)(hx:xs[i]?=some x)
  (q:∀h',IsIt k h' it l (i+1)->Heap.SameBut it s.heap h'->Q x {s with heap:=h'}):wpAny (model prog w) A (Builtin.SmallTypes.nextOf (.ref it)) Q E s:=by
 cases k with
 |true=>exact wpAny_nextOf_list_item hi hl hx q
 |false=>exact xc hi hl hx q
theorem uf{k:Bool}{it l:Addr}{i:Nat}{xs:Array Value}{Q:Value->Shared->Prop}(hh:A.handled=none)(hi:IsIt k s.heap it l i)(hl:IsSq k s.heap l xs)(hx:xs[i]?=none)
  (q:∀h' e,Heap.ExtBut it s.heap h'->(∃o,h'.get? e=some o/\o.cls=.type "StopIteration")->E (.ref e) {s with heap:=h'}):wpAny (model prog w) A (Builtin.SmallTypes.nextOf (.ref it)) Q E s:=by
 cases k with
 |true=>exact wpAny_nextOf_list_end hh hi hl hx q
 |false=>exact zN hh hi hl hx q
theorem zO{k1 k2:Bool}{z TI TO i1 i2 l1 l2:Addr}{i:Nat}{xs ys:Array Value}{x y a b:Value}{Q:Value->Shared->Prop}(D:ZipApart z TI TO i1 i2 l1 l2)(hz:IsZip s.heap z TI TO .none)(K1:IsPair s.heap TI (.ref i1) (.ref i2))(Ly:IsPair s.heap TO a b)
  (h1:IsIt k1 s.heap i1 l1 i) (h2:IsIt k2 s.heap i2 l2 i) (g1:IsSq k1 s.heap l1 xs) (g2:IsSq k2 s.heap l2 ys) (hx:xs[i]?=some x) (hy:ys[i]?=some y)
  (q:∀h',IsZip h' z TI TO (rawInt s.heap.objs.size)->IsPair h' TO x y->IsIt k1 h' i1 l1 (i+1)->IsIt k2 h' i2 l2 (i+1)->IsPair h' s.heap.objs.size x y->
   (∀c o,c≠z->c≠TO->c≠i1->c≠i2->s.heap.get? c=some o->h'.get? c=some o)->Q (.ref s.heap.objs.size) {s with heap:=h'}):
  wpAny (model prog w) A (Builtin.«zip.__next__» ⟨[.ref z],[]⟩) (fun fin s'=>∃v,fin=.done (.ret v)/\Q v s') E s:=by
 show wpAny _ _ (field (.ref z) 2 >>= _) _ _ _;refine Tf (U4 hz rfl (x:=.bool false) rfl ?_);show wpAny _ _ (field (.ref z) 3 >>= _) _ _ _;refine Tf (U4 hz rfl (x:=.ref TI) rfl (Tf (Vr K1 rfl ?_)));show wpAny _ _ (Builtin.SmallTypes.ownedTupleIsFree (.ref z) >>= _) _ _ _;refine Tf ?_;unfold Builtin.SmallTypes.ownedTupleIsFree;refine Tf (U4 hz rfl (x:=.none) rfl (Tu ?_));rw[Tq (by rfl)];refine Tf (Y4 (Tf (U4 hz rfl (x:=.ref TO) rfl (Tf (VC hz (by simp) fun hA zA sA=>?_)))));have zA:IsZip hA z TI TO .ellipsis:=zA;refine Tf ?_;simp only[VV,List.zipIdx_nil,X6,Yt];refine Tf (Tf (XE ?_));show wpAny _ _ (Builtin.SmallTypes.nextOf (.ref i1) >>= _) _ _ _;refine Tf (me (h1.at fun o e=>sA.extBut _ _ D.i1z e) (g1.at fun o e=>sA.extBut _ _ D.l1z e) hx fun hB iB sB=>Tu ?_);have tB:IsPair hB TO a b:=sB.extBut _ _ D.TOi1 (sA.extBut _ _ D.TOz Ly);refine Tf (Vr tB rfl (Tf (WW tB fun hC tC sC=>Tf (XF (Tu ?_)))));have tC:IsPair hC TO x b:=tC;refine Tf (Tf (XE ?_));show wpAny _ _ (Builtin.SmallTypes.nextOf (.ref i2) >>= _) _ _ _;refine Tf (me (h2.at fun o e=>sC.extBut _ _ D.TOi2.symm (sB.extBut _ _ D.i12.symm (sA.extBut _ _ D.i2z e))) (g2.at fun o e=>sC.extBut _ _ D.l2TO (sB.extBut _ _ D.l2i1 (sA.extBut _ _ D.l2z e))) hy fun hD iD sD=>Tu ?_);have tD:IsPair hD TO x b:=sD.extBut _ _ D.TOi2 tC;refine Tf (Vr tD rfl (Tf (WW tD fun hE tE sE=>Tf (XF (Tu (Tu ?_))))));have tE:IsPair hE TO x y:=tE;refine Tf (Vr tE rfl (Tf (wpAny_newTuple ?_)));have ez:hE.objs.size=s.heap.objs.size:=by rw[sE.1,sD.1,sC.1,sB.1,sA.1]
 have zE:IsZip hE z TI TO .ellipsis:=sE.extBut _ _ D.TOz.symm (sD.extBut _ _ D.i2z.symm (sC.extBut _ _ D.TOz.symm (sB.extBut _ _ D.i1z.symm zA)));have kE:∀c o,c≠z->c≠TO->c≠i1->c≠i2->s.heap.get? c=some o->hE.get? c=some o:=fun c o c1 c2 c3 c4 e=>sE.extBut _ _ c2 (sD.extBut _ _ c4 (sC.extBut _ _ c2 (sB.extBut _ _ c3 (sA.extBut _ _ c1 e))))
 have i1E:IsIt k1 hE i1 l1 (i+1):=iB.at fun o e=>sE.extBut _ _ D.TOi1.symm (sD.extBut _ _ D.i12 (sC.extBut _ _ D.TOi1.symm e))
 have i2E:IsIt k2 hE i2 l2 (i+1):=iD.at fun o e=>sE.extBut _ _ D.TOi2.symm e
 show wpAny _ _ (Builtin.SmallTypes.ownedTupleHandOut (.ref z) (.ref hE.objs.size) >>= _) _ _ _;refine Tf ?_;unfold Builtin.SmallTypes.ownedTupleHandOut;have zF:IsZip (hE.push {cls:=.type "tuple",data:=.seq #[x,y]}) z TI TO .ellipsis:=Th _ zE;refine Tf (VC zF (by simp) fun hG zG sG=>?_);have zG:IsZip hG z TI TO (rawInt hE.objs.size):=zG;refine VC zG (by simp) fun hK zK sK=>?_
 have zK:IsZip hK z TI TO (rawInt hE.objs.size):=zK;have up:∀c o,c≠z->hE.get? c=some o->hK.get? c=some o:=fun c o c1 e=>sK.extBut _ _ c1 (sG.extBut _ _ c1 (Th _ e))
 have nz:hE.objs.size≠z:=V4 (Tt zE);have tK:IsPair hK hE.objs.size x y:=sK.extBut _ _ nz (sG.extBut _ _ nz (TF _ rfl));rw[ez]at zK tK;refine Tu ⟨_,rfl,?_⟩;show Q (.ref hE.objs.size) _;rw[ez];exact q hK zK (up _ _ D.TOz tE) (i1E.at fun o e=>up _ o D.i1z e) (i2E.at fun o e=>up _ o D.i2z e) tK fun c o c1 c2 c3 c4 e=>up c o c1 (kE c o c1 c2 c3 c4 e)
theorem BW{k1 k2:Bool}{z TI TO i1 i2 l1 l2:Addr}{i:Nat}{xs ys:Array Value}{a b:Value}{Q:Fin->Shared->Prop}(hh:A.handled=none)(D:ZipApart z TI TO i1 i2 l1 l2)(hz:IsZip s.heap z TI TO .none)(K1:IsPair s.heap TI (.ref i1) (.ref i2))(Ly:IsPair s.heap TO a b)
  (h1:IsIt k1 s.heap i1 l1 i) (h2:IsIt k2 s.heap i2 l2 i) (g1:IsSq k1 s.heap l1 xs) (g2:IsSq k2 s.heap l2 ys) (he:xs[i]?=none\/ys[i]?=none)
  (q:∀h' e,(∀c o,c≠z->c≠TO->c≠i1->c≠i2->s.heap.get? c=some o->h'.get? c=some o)->(∃o,h'.get? e=some o/\o.cls=.type "StopIteration")->E (.ref e) {s with heap:=h'}):
  wpAny (model prog w) A (Builtin.«zip.__next__» ⟨[.ref z],[]⟩) Q E s:=by
 show wpAny _ _ (field (.ref z) 2 >>= _) _ _ _;refine Tf (U4 hz rfl (x:=.bool false) rfl ?_);show wpAny _ _ (field (.ref z) 3 >>= _) _ _ _;refine Tf (U4 hz rfl (x:=.ref TI) rfl (Tf (Vr K1 rfl ?_)));show wpAny _ _ (Builtin.SmallTypes.ownedTupleIsFree (.ref z) >>= _) _ _ _;refine Tf ?_;unfold Builtin.SmallTypes.ownedTupleIsFree;refine Tf (U4 hz rfl (x:=.none) rfl (Tu ?_));rw[Tq (by rfl)];refine Tf (Y4 (Tf (U4 hz rfl (x:=.ref TO) rfl (Tf (VC hz (by simp) fun hA zA sA=>?_)))));have zA:IsZip hA z TI TO .ellipsis:=zA;refine Tf ?_;simp only[VV,List.zipIdx_nil,X6,Yt];refine Tf (Tf (XE ?_));show wpAny _ _ (Builtin.SmallTypes.nextOf (.ref i1) >>= _) _ _ _;cases hx:xs[i]? with
 |none=>
  refine Tf (uf hh (h1.at fun o e=>sA.extBut _ _ D.i1z e) (g1.at fun o e=>sA.extBut _ _ D.l1z e) hx fun hB e sB Hc=>?_);obtain⟨oe,ge,ce⟩:=Hc;have zB:IsZip hB z TI TO .ellipsis:=sB _ _ D.i1z.symm zA;have ne:e≠z:=fun x=>by subst x;rw[zB]at ge;cases ge;simp at ce
  exact VC zB (by simp) fun hC _ sC=>q hC e (fun c o c1 _ c3 _ x=>sC.extBut _ _ c1 (sB _ _ c3 (sA.extBut _ _ c1 x))) ⟨oe,sC.extBut _ _ ne ge,ce⟩
 |some x=>
  have hy:ys[i]?=none:=by
   rcases he with z|z
   ·rw[hx]at z;cases z
   ·exact z
  refine Tf (me (h1.at fun o e=>sA.extBut _ _ D.i1z e) (g1.at fun o e=>sA.extBut _ _ D.l1z e) hx fun hB iB sB=>Tu ?_);have tB:IsPair hB TO a b:=sB.extBut _ _ D.TOi1 (sA.extBut _ _ D.TOz Ly);refine Tf (Vr tB rfl (Tf (WW tB fun hC tC sC=>Tf (XF (Tu ?_)))));refine Tf (Tf (XE ?_));show wpAny _ _ (Builtin.SmallTypes.nextOf (.ref i2) >>= _) _ _ _;refine Tf (uf hh (h2.at fun o e=>sC.extBut _ _ D.TOi2.symm (sB.extBut _ _ D.i12.symm (sA.extBut _ _ D.i2z e))) (g2.at fun o e=>sC.extBut _ _ D.l2TO (sB.extBut _ _ D.l2i1 (sA.extBut _ _ D.l2z e))) hy fun hD e sD Hc=>?_);obtain⟨oe,ge,ce⟩:=Hc;have zD:IsZip hD z TI TO .ellipsis:=sD _ _ D.i2z.symm (sC.extBut _ _ D.TOz.symm (sB.extBut _ _ D.i1z.symm zA));have ne:e≠z:=fun x=>by subst x;rw[zD]at ge;cases ge;simp at ce
  exact VC zD (by simp) fun hF _ sF=>q hF e (fun c o c1 c2 c3 c4 x=>sF.extBut _ _ c1 (sD _ _ c4 (sC.extBut _ _ c2 (sB.extBut _ _ c3 (sA.extBut _ _ c1 x))))) ⟨oe,sF.extBut _ _ ne ge,ce⟩
end
def itObj(k:Bool)(l:Addr):Obj:=match k with
 |true=>{cls:=.type "list_iterator",data:=.fields #[.ref l,.int 0 0]}
 |false=>{cls:=.type "tuple_iterator",data:=.fields #[.ref l,.int 0 0]}
theorem mf(k:Bool)(h:Heap)(l:Addr):IsIt k (h.push (itObj k l)) h.objs.size l 0:=by
 cases k with
 |true=>exact⟨_,TF _ rfl,rfl,rfl⟩
 |false=>exact⟨_,TF _ rfl,rfl,rfl⟩
abbrev zA(h:Heap)(k1:Bool)(l1:Addr):Heap:=h.push (itObj k1 l1)
abbrev zB(h:Heap)(k1 k2:Bool)(l1 l2:Addr):Heap:=(zA h k1 l1).push (itObj k2 l2)
abbrev zC(h:Heap)(k1 k2:Bool)(l1 l2:Addr):Heap:=(zB h k1 k2 l1 l2).push {cls:=.type "tuple",data:=.seq #[.ref h.objs.size,.ref (zA h k1 l1).objs.size]}
abbrev zD(h:Heap)(k1 k2:Bool)(l1 l2:Addr):Heap:=(zC h k1 k2 l1 l2).push {cls:=.type "tuple",data:=.seq #[.none,.none]}
abbrev zE(h:Heap)(k1 k2:Bool)(l1 l2:Addr):Heap:=(zD h k1 k2 l1 l2).push {cls:=.type "zip",data:=.fields #[.none,.bool false,.bool false,.ref (zB h k1 k2 l1 l2).objs.size,.ref (zC h k1 k2 l1 l2).objs.size]}
set_option maxHeartbeats 8000000 in
theorem BX(k1 k2:Bool)(l1 l2:Addr)(xs ys:Array Value):
  Meets (Builtin.«zip.__new__» ⟨[.type "zip",.ref l1,.ref l2],[]⟩) (fun _ R s=>IsSq k1 s.heap l1 xs/\IsSq k2 s.heap l2 ys/\R (.ok (.ret (.ref (zD s.heap k1 k2 l1 l2).objs.size))) {s with heap:=zE s.heap k1 k2 l1 l2}):=
 .of_wp fun prog w A R s h=>by
  obtain⟨hp,g,d,tk,os⟩:=s;obtain⟨g1,g2,q⟩:=h;have N8:=sub_zip;cases k1 with
  |true=>
   have e1:Heap.IsList (Shared.heap ⟨hp,g,d,tk,os⟩) l1 xs:=g1;cases k2 with
   |true=>
    have e2:Heap.IsList (Shared.heap ⟨hp.push {cls:=.type "list_iterator",data:=.fields #[.ref l1,.int 0 0]},g,d,tk,os⟩) l2 ys:=Heap.IsList.push g2 _
    wp_walk using Ve e1,Ve e2
    exact⟨_,rfl,q⟩
   |false=>
    have e2:Heap.IsTuple (Shared.heap ⟨hp.push {cls:=.type "list_iterator",data:=.fields #[.ref l1,.int 0 0]},g,d,tk,os⟩) l2 ys:=Heap.IsTuple.push g2 _
    wp_walk using Ve e1,U3 e2
    exact⟨_,rfl,q⟩
  |false=>
   have e1:Heap.IsTuple (Shared.heap ⟨hp,g,d,tk,os⟩) l1 xs:=g1;cases k2 with
   |true=>
    have e2:Heap.IsList (Shared.heap ⟨hp.push {cls:=.type "tuple_iterator",data:=.fields #[.ref l1,.int 0 0]},g,d,tk,os⟩) l2 ys:=Heap.IsList.push g2 _
    wp_walk using U3 e1,Ve e2
    exact⟨_,rfl,q⟩
   |false=>
    have e2:Heap.IsTuple (Shared.heap ⟨hp.push {cls:=.type "tuple_iterator",data:=.fields #[.ref l1,.int 0 0]},g,d,tk,os⟩) l2 ys:=Heap.IsTuple.push g2 _
    wp_walk using U3 e1,U3 e2
    exact⟨_,rfl,q⟩
def ZS(k1 k2:Bool)(z TI TO i1 i2 l1 l2:Addr)(i:Nat)(h:Heap):Prop:=IsZip h z TI TO .none/\IsPair h TI (.ref i1) (.ref i2)/\(∃a b,IsPair h TO a b)/\IsIt k1 h i1 l1 i/\IsIt k2 h i2 l2 i
theorem zP{prog:Program}{w:World}{A:Around}{E:Value->Shared->Prop}{s:Shared}{k1 k2:Bool}{l1 l2:Addr}{xs ys:Array Value}{Q:Value->Shared->Prop}(g1:IsSq k1 s.heap l1 xs)(g2:IsSq k2 s.heap l2 ys)
  (q:∀h',ZS k1 k2 (s.heap.objs.size+4) (s.heap.objs.size+2) (s.heap.objs.size+3) s.heap.objs.size (s.heap.objs.size+1) l1 l2 0 h'->(∀c o,s.heap.get? c=some o->h'.get? c=some o)->Q (.ref (s.heap.objs.size+4)) {s with heap:=h'}):
  wpAny (model prog w) A (call (.type "zip") [.ref l1,.ref l2]) Q E s:=by
 refine callType_new F.called_zip (by decide) (F.typeCall_zip_2 _ _) (F.newCall_zip_2 _ _) (fun obj=>F.args_object_init_3 obj _ _) F.entry_zip_new (BX k1 k2 l1 l2 xs ys) ⟨g1,g2,?_⟩;have nA:(zA s.heap k1 l1).objs.size=s.heap.objs.size+1:=UA ..;have nB:(zB s.heap k1 k2 l1 l2).objs.size=s.heap.objs.size+2:=by rw[UA,nA]
 have nC:(zC s.heap k1 k2 l1 l2).objs.size=s.heap.objs.size+3:=by rw[UA,nB]
 have nD:(zD s.heap k1 k2 l1 l2).objs.size=s.heap.objs.size+4:=by rw[UA,nC]
 have pu:∀{h:Heap}{o:Obj}{c:Addr}{v:Obj},h.get? c=some v->(h.push o).get? c=some v:=fun e=>Th _ e
 have gz:(zE s.heap k1 k2 l1 l2).get? (zD s.heap k1 k2 l1 l2).objs.size=some _:=TF _ rfl;have go:(zE s.heap k1 k2 l1 l2).get? (zC s.heap k1 k2 l1 l2).objs.size=some _:=pu (TF _ rfl);have gi:(zE s.heap k1 k2 l1 l2).get? (zB s.heap k1 k2 l1 l2).objs.size=some _:=pu (pu (TF _ rfl));have j2:IsIt k2 (zE s.heap k1 k2 l1 l2) (zA s.heap k1 l1).objs.size l2 0:=(mf k2 (zA s.heap k1 l1) l2).at fun o e=>pu (pu (pu e))
 have j1:IsIt k1 (zE s.heap k1 k2 l1 l2) s.heap.objs.size l1 0:=(mf k1 s.heap l1).at fun o e=>pu (pu (pu (pu e)))
 show _/\_;rw[nB,nC,nD]at gz;rw[nA,nB]at gi;rw[nC]at go;rw[nA]at j2;rw[nD];exact⟨⟨_,gz,rfl⟩,q _ ⟨gz,gi,⟨_,_,go⟩,j1,j2⟩ fun c o x=>pu (pu (pu (pu (pu x))))⟩
noncomputable def Rt(K:W.Frag)(k1 k2:Bool)(a b:Addr):It:=
 ⟨fun i H=>∃xs ys x y,(if k1 then SqL K H a xs else SqT K H a xs)/\(if k2 then SqL K H b ys else SqT K H b ys)/\xs[i]?=some x/\ys[i]?=some y,
  fun i H v H'=>∃T,H T=none/\v=.ref T/\∀xs ys x y,(if k1 then SqL K H a xs else SqT K H a xs)->(if k2 then SqL K H b ys else SqT K H b ys)->xs[i]?=some x->ys[i]?=some y->H'=upd H T (.tup [x,y]),
  fun i H=>∃xs ys,(if k1 then SqL K H a xs else SqT K H a xs)/\(if k2 then SqL K H b ys else SqT K H b ys)/\i=min xs.length ys.length⟩
section
variable{X:Cx}{pr:List (Addr×Obj)}{σ:L2.St}{H:Hp}{s:Shared}
theorem mh(I:Inv X pr σ H s){k:Bool}{a:Addr}{xs:List V}(h:if k then SqL X.K H a xs else SqT X.K H a xs):∃us:List Value,Vals xs us/\IsSq k s.heap a us.toArray:=by
 cases k with
 |true=>
  obtain⟨us,r,p,_⟩:=I.list (show SqL X.K H a xs from h);exact⟨us,r,p.isList⟩
 |false=>
  obtain⟨us,r,p,_⟩:=I.tuple (show SqT X.K H a xs from h);exact⟨us,r,(show s.heap.IsTuple a us.toArray from p)⟩
theorem ug(I:Inv X pr σ H s){k:Bool}{a:Addr}{xs ys:List V}(h:if k then SqL X.K H a xs else SqT X.K H a xs)(h':if k then SqL X.K H a ys else SqT X.K H a ys):xs=ys:=by
 cases k with
 |true=>exact I.list_inj (show SqL X.K H a xs from h) (show SqL X.K H a ys from h')
 |false=>exact I.tuple_inj (show SqT X.K H a xs from h) (show SqT X.K H a ys from h')
theorem fC(I:Inv X pr σ H s){k:Bool}{a b:Addr}{xs:List V}(h:if k then SqL X.K H a xs else SqT X.K H a xs)(f:nF X pr H b):a≠b:=by
 rintro rfl;obtain⟨f0,_,_,f3,_⟩:=f;have nb:∀o,X.K.lookup a=some o->False:=fun o hk=>by
  have e:=I.ok.mod.kin a o hk;rcases f3 with z|z
  ·exact I.ok.noex a o e z
  ·exact absurd (Ts (Tt e) (Ua I.ok.bsz z)) (UL _)
 cases k with
 |true=>
  rcases(show SqL X.K H a xs from h) with(h|⟨o,h⟩)|⟨o,GO,n,hk,_⟩
  ·rw[f0]at h;cases h
  ·rw[f0]at h;cases h
  ·exact nb o hk
 |false=>
  rcases(show SqT X.K H a xs from h) with(h|⟨o,h⟩)|⟨o,GO,n,hk,_⟩
  ·rw[f0]at h;cases h
  ·rw[f0]at h;cases h
  ·exact nb o hk
end
theorem nx_zip_item{prog:Program}{w:World}{A:Around}{E:Value->Shared->Prop}{s:Shared}{k1 k2:Bool}{z TI TO i1 i2 l1 l2:Addr}{i:Nat}{xs ys:Array Value}{x y:Value}{Q:Option Value->Shared->Prop}(D:ZipApart z TI TO i1 i2 l1 l2)(st:ZS k1 k2 z TI TO i1 i2 l1 l2 i s.heap)
  (g1:IsSq k1 s.heap l1 xs) (g2:IsSq k2 s.heap l2 ys) (hx:xs[i]?=some x) (hy:ys[i]?=some y)
  (q:∀h',IsZip h' z TI TO (rawInt s.heap.objs.size)->IsPair h' TO x y->IsIt k1 h' i1 l1 (i+1)->IsIt k2 h' i2 l2 (i+1)->IsPair h' s.heap.objs.size x y->
   (∀c o,c≠z->c≠TO->c≠i1->c≠i2->s.heap.get? c=some o->h'.get? c=some o)->Q (some (.ref s.heap.objs.size)) {s with heap:=h'}):wpAny (model prog w) A (pyNext (.ref z)) Q E s:=by
 obtain⟨hz,K1,⟨a,b,Ly⟩,h1,h2⟩:=st;have ty:s.TypeIs (.ref z) "zip":=⟨_,hz,rfl⟩
 unfold pyNext;exact Tf (XG (Uv (name:=Str.ofString "__next__") ty Xa (UO Xa ty F.entry_zip_next (zO D hz K1 Ly h1 h2 g1 g2 hx hy fun h' a1 a2 a3 a4 a5 a6=>Tu (q h' a1 a2 a3 a4 a5 a6)) (F.args_zip_next_1 _))))
theorem r9{prog:Program}{w:World}{A:Around}{E:Value->Shared->Prop}{s:Shared}{k1 k2:Bool}{z TI TO i1 i2 l1 l2:Addr}{i:Nat}{xs ys:Array Value}{Q:Option Value->Shared->Prop}(hh:A.handled=none)(D:ZipApart z TI TO i1 i2 l1 l2)(st:ZS k1 k2 z TI TO i1 i2 l1 l2 i s.heap)
  (g1:IsSq k1 s.heap l1 xs) (g2:IsSq k2 s.heap l2 ys) (he:xs[i]?=none\/ys[i]?=none) (q:∀h',(∀c o,c≠z->c≠TO->c≠i1->c≠i2->s.heap.get? c=some o->h'.get? c=some o)->Q none {s with heap:=h'}):wpAny (model prog w) A (pyNext (.ref z)) Q E s:=by
 obtain⟨hz,K1,⟨a,b,Ly⟩,h1,h2⟩:=st;have ty:s.TypeIs (.ref z) "zip":=⟨_,hz,rfl⟩
 unfold pyNext;refine Tf (XG (Uv (name:=Str.ofString "__next__") ty Xa (UO Xa ty F.entry_zip_next (BW hh D hz K1 Ly h1 h2 g1 g2 he fun h' e kk ⟨o,ho,oc⟩=>?_) (F.args_zip_next_1 _))));exact Tf (XQ (T:="StopIteration") (b:=true) ⟨o,ho,oc⟩ isSubtype_stop (Tu (q _ kk)))
theorem xf{P:Program}{w:World}{K:W.Frag}{es:List Expr}{kt:Nat}{pt:Pos}(k1 k2:Bool)(a b z TI TO i1 i2:Addr)(ne:z≠TI/\z≠TO/\z≠i1/\z≠i2/\TI≠TO/\TI≠i1/\TI≠i2/\TO≠i1/\TO≠i2/\i1≠i2):
  Turn P w K (.Tuple es kt pt) (Rt K k1 k2 a b) [z,TI,TO,i1,i2] z (ZS k1 k2 z TI TO i1 i2 a b) where
 mem:=by simp
 obj:=fun i h st c hc=>by
  obtain⟨hz,K1,⟨x,y,Ly⟩,h1,h2⟩:=st;simp only[Tw,UP,W0]at hc;rcases hc with rfl|rfl|rfl|rfl|rfl
  ·exact⟨_,hz,fun v q=>by cases q⟩
  ·exact⟨_,K1,fun v q=>by cases q⟩
  ·exact⟨_,Ly,fun v q=>by cases q⟩
  ·exact h1.obj
  ·exact h2.obj
 keep:=fun i h h' st k=>by
  obtain⟨hz,K1,⟨x,y,Ly⟩,h1,h2⟩:=st;exact⟨k z (by simp) _ hz,k TI (by simp) _ K1,⟨x,y,k TO (by simp) _ Ly⟩,h1.at fun o e=>k i1 (by simp) o e,h2.at fun o e=>k i2 (by simp) o e⟩
 item:=by
  intro X hP hw hK hc i pr s σ H E I hf st hg;subst hP hw hK;obtain⟨xs,ys,x,y,s1,s2,hx,hy⟩:=hg;obtain⟨us,r1,q1⟩:=mh I s1;obtain⟨ws,r2,q2⟩:=mh I s2;obtain⟨u,hu,ru⟩:=r1.get hx;obtain⟨v,hv,rv⟩:=r2.get hy;obtain⟨n1,n2,n3,n4,n5,n6,n7,n8,n9,Ru⟩:=ne;have f:=fun c hc=>hf c hc
  have D:ZipApart z TI TO i1 i2 a b:=⟨n1.symm,n2.symm,n3.symm,n4.symm,n5,n6,n7,n8,n9,Ru,fC I s1 (f z (by simp)),fC I s1 (f TO (by simp)),fC I s1 (f i1 (by simp)),fC I s1 (f i2 (by simp)),
   fC I s2 (f z (by simp)),fC I s2 (f TO (by simp)),fC I s2 (f i1 (by simp)),fC I s2 (f i2 (by simp))⟩
  have K1:=st.2.1;refine nx_zip_item D st q1 q2 (by simpa using hu) (by simpa using hv) fun h' z1 t1 j1 j2 tp kk=>⟨_,rfl,?_⟩
  refine wpAny_letOwnedTupleGo_zip z1 fun h2 z2 sb=>?_
  have nT:H s.heap.objs.size=none:=I.hok.fresh (Tz _);have tT:s.heap.objs.size≠z:=V4 (Tt st.1);have all:∀c o,c≠z->c≠TO->c≠i1->c≠i2->s.heap.get? c=some o->h2.get? c=some o:=fun c o c1 c2 c3 c4 e=>(sb.2 c c1).trans (kk c o c1 c2 c3 c4 e)
  have fz:=f z (by simp);have fo:=f TO (by simp);have f1:=f i1 (by simp);have f2:=f i2 (by simp);have K2:∀c ob,H c=some ob->c≠z/\c≠TO/\c≠i1/\c≠i2:=fun c ob e=>⟨(fun q=>by rw[q,fz.1]at e;cases e),(fun q=>by rw[q,fo.1]at e;cases e),(fun q=>by rw[q,f1.1]at e;cases e),(fun q=>by rw[q,f2.1]at e;cases e)⟩
  refine⟨.ref s.heap.objs.size,upd H s.heap.objs.size (.tup [x,y]),?_,rfl,⟨_,nT,rfl,fun HQ ys' x' y' a1 a2 a3 a4=>?_⟩,⟨z2,?_,⟨u,v,(sb.2 TO n2.symm).trans t1⟩,j1.at fun o e=>(sb.2 i1 n3.symm).trans e,j2.at fun o e=>(sb.2 i2 n4.symm).trans e⟩,fun c hc=>?_⟩
  ·have N9:h2.get? s.heap.objs.size=some {cls:=.type "tuple",data:=.seq #[u,v]}:=(sb.2 _ tT).trans tp;have S0:Inv X pr σ (upd H s.heap.objs.size (.tup [x,y])) {s with heap:=h2,gens:=s.gens,drawn:=s.drawn,toks:=s.toks}:=by
    refine I.step (ch:=[z,TO,i1,i2]) (fun c hc=>?_) (fun c o _ _ nc e _=>all c o (fun q=>nc (by simp[q])) (fun q=>nc (by simp[q])) (fun q=>nc (by simp[q])) (fun q=>nc (by simp[q])) e)
     (fun c o _ _ nc e _=>⟨o.slots,all c o (fun q=>nc (by simp[q])) (fun q=>nc (by simp[q])) (fun q=>nc (by simp[q])) (fun q=>nc (by simp[q])) e⟩) (fun c o _ e n=>by rw[ak (TH (Tt e))];exact n)
     (fun c o nc e=>⟨o,all c o (fun q=>nc (by simp[q])) (fun q=>nc (by simp[q])) (fun q=>nc (by simp[q])) (fun q=>nc (by simp[q])) e⟩) (fun c l e=>by rw[ak (aJ e nT)];exact e) (fun c o u' e=>by rw[ak (aJ e nT)];exact e)
     (fun c ps e=>⟨#[],by rw[ak (aJ e nT),e];simp⟩) (fun m hm=>?_) (fun c ob e=>?_) I.bare
    ·simp only[Tw,UP,W0]at hc;rcases hc with rfl|rfl|rfl|rfl
     ·exact⟨fz.2.2.2.1,fz.2.1,fz.2.2.2.2.1,fz.2.2.2.2.2⟩
     ·exact⟨fo.2.2.2.1,fo.2.1,fo.2.2.2.2.1,fo.2.2.2.2.2⟩
     ·exact⟨f1.2.2.2.1,f1.2.1,f1.2.2.2.2.1,f1.2.2.2.2.2⟩
     ·exact⟨f2.2.2.2.1,f2.2.1,f2.2.2.2.2.1,f2.2.2.2.2.2⟩
    ·obtain⟨o,es,ep,ho,r⟩:=hm;exact⟨o,es,ep,all _ o (Vd fz.2.1) (Vd fo.2.1) (Vd f1.2.1) (Vd f2.2.1) ho,r⟩
    ·by_cases ec:c=s.heap.objs.size
     ·subst ec;rw[az]at e;cases e;exact⟨by simp only[TK,Uq];rw[UB];decide,[u,v],.cons ru (.cons rv .nil),⟨_,N9,rfl,⟨0,rfl⟩,rfl⟩⟩
     ·rw[ak ec]at e;refine(I.hok c ob e).stay (fun d w' hd q=>?_) (fun d q=>by rw[ak (aJ q nT)];exact q) fun d l q=>by rw[ak (aJ q nT)];exact q
      have ME:∃oo,H d=some oo:=by
       rcases hd with rfl|hd
       ·exact⟨_,e⟩
       ·exact⟨_,hd⟩
      obtain⟨oo,Oa⟩:=ME;obtain⟨m1,m2,m3,m4⟩:=K2 d oo Oa;exact all d w' m1 m2 m3 m4 q
   exact S0
  ·have e1:=ug I a1 s1;have e2:=ug I a2 s2;subst e1 e2;rw[hx]at a3;rw[hy]at a4;cases a3;cases a4;rfl
  ·exact(sb.2 TI n1.symm).trans (kk TI _ n1.symm n5 n6 n7 K1)
  ·have K3:=(f c hc).1;have cs:c≠s.heap.objs.size:=by
    have:=(fun i h st=>by
     exact(by
      obtain⟨hz,K1,⟨x,y,Ly⟩,h1,h2⟩:=st;simp only[Tw,UP,W0]at hc;rcases hc with rfl|rfl|rfl|rfl|rfl
      ·exact⟨_,hz⟩
      ·exact⟨_,K1⟩
      ·exact⟨_,Ly⟩
      ·obtain⟨o,e,_⟩:=h1.obj;exact⟨o,e⟩
      ·obtain⟨o,e,_⟩:=h2.obj;exact⟨o,e⟩:∃o,h.get? c=some o):∀i h,ZS k1 k2 z TI TO i1 i2 a b i h->∃o,h.get? c=some o) i s.heap st
    obtain⟨o,e⟩:=this;exact TH (Tt e)
   rw[ak cs];exact K3
 done:=by
  intro X hP hw hK hc i pr s σ H E I hf st hg;subst hP hw hK;obtain⟨xs,ys,s1,s2,hi⟩:=hg;obtain⟨us,r1,q1⟩:=mh I s1;obtain⟨ws,r2,q2⟩:=mh I s2;have l1:=r1.length;have l2:=r2.length;obtain⟨n1,n2,n3,n4,n5,n6,n7,n8,n9,Ru⟩:=ne;have f:=fun c hc=>hf c hc
  have D:ZipApart z TI TO i1 i2 a b:=⟨n1.symm,n2.symm,n3.symm,n4.symm,n5,n6,n7,n8,n9,Ru,fC I s1 (f z (by simp)),fC I s1 (f TO (by simp)),fC I s1 (f i1 (by simp)),fC I s1 (f i2 (by simp)),
   fC I s2 (f z (by simp)),fC I s2 (f TO (by simp)),fC I s2 (f i1 (by simp)),fC I s2 (f i2 (by simp))⟩
  have fz:=f z (by simp);have fo:=f TO (by simp);have f1:=f i1 (by simp);have f2:=f i2 (by simp);refine r9 (I.ok.hd hc) D st q1 q2 (by
   rcases Nat.le_total us.length ws.length with q|q
   ·exact .inl (by simp;lia)
   ·exact .inr (by simp;lia)) fun h' kk=>⟨rfl,?_⟩
  have K2:∀c ob,H c=some ob->c≠z/\c≠TO/\c≠i1/\c≠i2:=fun c ob e=>⟨(fun q=>by rw[q,fz.1]at e;cases e),(fun q=>by rw[q,fo.1]at e;cases e),(fun q=>by rw[q,f1.1]at e;cases e),(fun q=>by rw[q,f2.1]at e;cases e)⟩
  have S0:Inv X pr σ H {s with heap:=h',gens:=s.gens,drawn:=s.drawn,toks:=s.toks}:=by
   refine I.step (ch:=[z,TO,i1,i2]) (fun c hc=>?_) (fun c o _ _ nc e _=>kk c o (fun q=>nc (by simp[q])) (fun q=>nc (by simp[q])) (fun q=>nc (by simp[q])) (fun q=>nc (by simp[q])) e)
    (fun c o _ _ nc e _=>⟨o.slots,kk c o (fun q=>nc (by simp[q])) (fun q=>nc (by simp[q])) (fun q=>nc (by simp[q])) (fun q=>nc (by simp[q])) e⟩) (fun c o _ e n=>n)
    (fun c o nc e=>⟨o,kk c o (fun q=>nc (by simp[q])) (fun q=>nc (by simp[q])) (fun q=>nc (by simp[q])) (fun q=>nc (by simp[q])) e⟩) (fun c l e=>e) (fun c o u' e=>e)
    (fun c ps e=>⟨#[],by rw[e];simp⟩) (fun m hm=>?_) (fun c ob e=>?_) I.bare
   ·simp only[Tw,UP,W0]at hc;rcases hc with rfl|rfl|rfl|rfl
    ·exact⟨fz.2.2.2.1,fz.2.1,fz.2.2.2.2.1,fz.2.2.2.2.2⟩
    ·exact⟨fo.2.2.2.1,fo.2.1,fo.2.2.2.2.1,fo.2.2.2.2.2⟩
    ·exact⟨f1.2.2.2.1,f1.2.1,f1.2.2.2.2.1,f1.2.2.2.2.2⟩
    ·exact⟨f2.2.2.2.1,f2.2.1,f2.2.2.2.2.1,f2.2.2.2.2.2⟩
   ·obtain⟨o,es,ep,ho,r⟩:=hm;exact⟨o,es,ep,kk _ o (Vd fz.2.1) (Vd fo.2.1) (Vd f1.2.1) (Vd f2.2.1) ho,r⟩
   ·refine(I.hok c ob e).stay (fun d w' hd q=>?_) (fun d q=>q) fun d l q=>q
    have ME:∃oo,H d=some oo:=by
     rcases hd with rfl|hd
     ·exact⟨_,e⟩
     ·exact⟨_,hd⟩
    obtain⟨oo,Oa⟩:=ME;obtain⟨m1,m2,m3,m4⟩:=K2 d oo Oa;exact kk d w' m1 m2 m3 m4 q
  exact S0
 self:=fun _ _ _ _ _ st h=>wpAny_pyIter_zip st.1 h
section
variable{X:Cx}{es:List Expr}{kt:Nat}{pt:Pos}
def Gf(K:W.Frag)(k1 k2:Bool)(ta:TA):TI:=fun σ H R=>ta σ H fun vs H1=>∃a b xs ys,vs=[.ref a,.ref b]/\(if k1 then SqL K H1 a xs else SqT K H1 a xs)/\(if k2 then SqL K H1 b ys else SqT K H1 b ys)/\R (Rt K k1 k2 a b) H1
theorem BY(k1 k2:Bool){e1 e2:Expr}{ta:TA}{p pos:Pos}(hg:Gl X "zip")(hm:X.mg "zip" = none)(ha:PA X [e1,e2] ta)(he:starEach [e1,e2] X.env=(false,eval e1 X.env)::starEach [e2] X.env:=by rfl)(IM:(backTo pos (starEach [e2] X.env)).any (·.1)=false:=by rfl):
  PI X (.Tuple es kt pt) (.Call (.Name "zip" p) [e1,e2] [] pos) (Gf X.K k1 k2 ta):=by
 intro pr s σ H R I h;refine Vk (jt I hg hm (by decide +kernel:bootBuiltins "zip" = some (.type "zip")) ?_ (by decide) (by decide));refine UM (Hf (ha pos pr s σ H _ I h) fun us s1 ⟨vs,H1,I1,r1,a,b,xs,ys,e,Rv,s2',q⟩=>?_) he IM;subst e;obtain⟨u,w',rfl,ra,rb⟩:=zm r1;cases ra;cases rb;obtain⟨us,v1,q1⟩:=mh I1 Rv;obtain⟨ws,v2,q2⟩:=mh I1 s2';refine zP q1 q2 fun h' st kk=>?_
 refine wpAny_pyIter_zip st.1 ?_;have fr:∀j,nF X pr H1 (s1.heap.objs.size+j):=fun j=>I1.fpOk (WQ _ _) (I1.hok.fresh (WQ _ _))
 have nn:∀i j:Nat,i≠j->s1.heap.objs.size+i≠s1.heap.objs.size+j:=fun i j h z=>h (Yx z)
 refine⟨_,_,_,_,H1,rfl,I1.kept (t':=s1.toks) kk,xf k1 k2 a b (s1.heap.objs.size+4) (s1.heap.objs.size+2) (s1.heap.objs.size+3) (s1.heap.objs.size+0) (s1.heap.objs.size+1)
  ⟨nn 4 2 (by decide),nn 4 3 (by decide),nn 4 0 (by decide),nn 4 1 (by decide),nn 2 3 (by decide),nn 2 0 (by decide),nn 2 1 (by decide),nn 3 0 (by decide),nn 3 1 (by decide),nn 0 1 (by decide)⟩,st,fun c hc=>?_,q⟩
 simp only[Tw,UP,W0]at hc;rcases hc with rfl|rfl|rfl|rfl|rfl
 ·exact fr 4
 ·exact fr 2
 ·exact fr 3
 ·exact fr 0
 ·exact fr 1
end
end NX
namespace NX
open PySem PySem.W PyProof.Rows
section
variable{n:Nat}{O:KeyOrd}{κ:Nat->O.α}{cmp:Nat->Nat->(Bool->Shared->Prop)->Shared->Prop}{Good:Shared->Prop}
def kk(κ:Nat->O.α)(p:Array Nat)(i:Nat):O.α:=κ (p.getD i 0)
structure POk(n:Nat)(p:Array Nat):Prop where
 perm:p.toList.Perm (List.range n)
theorem POk.size{p:Array Nat}(h:POk n p):p.size=n:=by
 have:=h.perm.length_eq;simpa using this
theorem POk.lt{p:Array Nat}(h:POk n p){i:Nat}(hi:i<n):p.getD i 0<n:=by
 have hs:=h.size;have Mx:i<p.size:=by lia
 have e:p.getD i 0=p[i]:=by simp[Array.getD,Mx]
 rw[e];exact TM.mp (h.perm.mem_iff.mp (Array.getElem_mem_toList Mx))
theorem POk.of{p q:Array Nat}(h:POk n p)(hq:q.Perm p):POk n q:=⟨(Array.perm_iff_toList_perm.mp hq).trans h.perm⟩
def bj(κ:Nat->O.α)(p:Array Nat)(m:Nat):Prop:=∀i j,i<=j->j<m->O.kle (kk κ p i) (kk κ p j)
def fD(κ:Nat->O.α)(p:Array Nat)(m:Nat):Prop:=∀i j,i<=j->j<m->O.kle (kk κ p j) (kk κ p i)
theorem eS{p q:Array Nat}{i j:Nat}(h:p[i]?=q[j]?):p.getD i 0=q.getD j 0:=by
 rw[Xb,Xb,h]
theorem qx{p:Array Nat}{i j:Nat}(hj:j<=p.size)(k:Nat):kk κ (kas_rev p i j) k=if i<=k/\k<j then kk κ p (i+j-1-k) else kk κ p k:=by
 have e:=getElem?_mirror_all (i:=i) hj k;unfold kk kas_rev;split
 ·rename_i h;rw[Tq h]at e;rw[eS e]
 ·rename_i h;rw[Tv h]at e;rw[eS e]
theorem yw{p:Array Nat}{src d:Nat}(hs:src<p.size)(hd:d<=src)(k:Nat):kk κ (bubble p src d) k=if k=src-d then kk κ p src else if src-d<k/\k<=src then kk κ p (k-1) else kk κ p k:=by
 have e:=getElem?_bubble hs d hd k;by_cases h:k=src-d
 ·rw[Tq h]at e ⊢;exact UQ κ (eS e)
 ·rw[Tv h]at e ⊢;by_cases h2:src-d<k/\k<=src
  ·rw[Tq h2]at e ⊢;exact UQ κ (eS e)
  ·rw[Tv h2]at e ⊢;exact UQ κ (eS e)
theorem POk.rev{p:Array Nat}(h:POk n p)(i j:Nat):POk n (kas_rev p i j):=h.of (mirror_perm _ _ _ _)
theorem POk.bub{p:Array Nat}(h:POk n p)(i j:Nat):POk n (bubble p i j):=h.of (bubble_perm _ _ _)
theorem sd(p:Array Nat):bj κ p 1:=fun i j a b=>by
 have e:i=j:=by lia
 rw[e];exact Vu _
theorem pH{p:Array Nat}{m:Nat}(h1:1<=m)(h:bj κ p m)(hm:O.kle (kk κ p (m-1)) (kk κ p m)):bj κ p (m+1):=by
 intro i j My hj;by_cases e:j=m
 ·subst e;by_cases e2:i=j
  ·subst e2;exact Vu _
  ·exact WR (h i (j-1) (by lia) (by lia)) hm
 ·exact h i j My (by lia)
theorem eT{p:Array Nat}{m:Nat}(h1:1<=m)(h:fD κ p m)(hm:O.kle (kk κ p m) (kk κ p (m-1))):fD κ p (m+1):=by
 intro i j My hj;by_cases e:j=m
 ·subst e;by_cases e2:i=j
  ·subst e2;exact Vu _
  ·exact WR hm (h i (j-1) (by lia) (by lia))
 ·exact h i j My (by lia)
variable(hc:∀i j,i<n->j<n->∀(Q:Bool->Shared->Prop) s,Good s->(∀s',Good s'->Q (O.blt (κ i) (κ j)) s')->cmp i j Q s)
include hc
theorem uh{p:Array Nat}(hp:POk n p){HB:Nat}(hn:HB<=n){Q:Nat->Shared->Prop}:∀(f m:Nat) (s:Shared),Good s->1<=m->m+f=HB->bj κ p m->
  (∀r s',Good s'->m<=r->r<=HB->bj κ p r->(r<HB->O.klt (kk κ p r) (kk κ p (r-1)))->Q r s')->(kas_asc p f m).kasWp cmp Q s
 | 0,m,s,g,h1,hf,hs,k=>k m s g (Tz _) (by lia) hs (fun z=>by lia)
 |f+1,m,s,g,h1,hf,hs,k=>by
  show cmp (p.getD m 0) (p.getD (m-1) 0) _ s;refine hc _ _ (hp.lt (by lia)) (hp.lt (by lia)) _ s g fun s' g'=>?_
  cases e:O.blt (κ (p.getD m 0)) (κ (p.getD (m-1) 0)) with
  |true=>
   (try dsimp only)
   rw[Tq rfl];exact k m s' g' (Tz _) (by lia) hs fun _=>e
  |false=>
   (try dsimp only)
   rw[Tv TC];exact uh hp hn f (m+1) s' g' (by lia) (by lia) (pH h1 hs e) fun r s2 g2 a b c d=>k r s2 g2 (by lia) b c d
def zQ(κ:Nat->O.α)(p:Array Nat)(m q:Nat):Prop:=∀k,m-(q+1)<=k->k<m->kk κ p k=kk κ p (m-1)
omit hc in
theorem nW{p:Array Nat}{m q:Nat}(hm:m<=p.size)(h:zQ κ p m q)(k:Nat):kk κ (kas_rev p (m-(q+1)) m) k=kk κ p k:=by
 rw[qx hm];split
 ·rename_i hk;rw[h _ (by lia) (by lia),h k hk.1 hk.2]
 ·rfl
omit hc in
theorem ji{p p':Array Nat}{m:Nat}(e:∀k,kk κ p' k=kk κ p k)(h:fD κ p m):fD κ p' m:=fun i j a b=>by rw[e,e];exact h i j a b
theorem ml{HB:Nat}(hn:HB<=n){Q:Array Nat×Nat×Nat->Shared->Prop}:∀(f:Nat) (p:Array Nat) (m q:Nat) (s:Shared),POk n p->Good s->1<=m->q+1<=m->m+f=HB->fD κ p m->zQ κ p m q->
  (∀p' m' q' s',POk n p'->Good s'->m<=m'->m'<=HB->q'+1<=m'->fD κ p' m'->zQ κ p' m' q'->Q (p',m',q') s')->(kas_desc f p m q).kasWp cmp Q s
 | 0,p,m,q,s,hp,g,h1,hq,hf,hs,ha,k=>k p m q s hp g (Tz _) (by lia) hq hs ha
 |f+1,p,m,q,s,hp,g,h1,hq,hf,hs,ha,k=>by
  show cmp (p.getD m 0) (p.getD (m-1) 0) _ s;refine hc _ _ (hp.lt (by lia)) (hp.lt (by lia)) _ s g fun s' g'=>?_
  have hsz:=hp.size;cases e:O.blt (κ (p.getD m 0)) (κ (p.getD (m-1) 0)) with
  |true=>
   (try dsimp only)
   rw[Tq rfl];have le:O.kle (kk κ p m) (kk κ p (m-1)):=WI e;by_cases h0:q>0
   ·rw[Tq h0];have same:=nW (κ:=κ) (p:=p) (m:=m) (q:=q) (by lia) ha;refine ml hn f _ (m+1) 0 s' (hp.rev _ _) g' (by lia) (by lia) (by lia) (eT h1 (ji same hs) (by rw[same,same];exact le)) ?_ fun p' m' q' s2 a b c d e' f' g2=>k p' m' q' s2 a b (by lia) d e' f' g2
    intro k' a b;have:k'=m:=by lia
    rw[this];rfl
   ·rw[Tv h0];refine ml hn f p (m+1) 0 s' hp g' (by lia) (by lia) (by lia) (eT h1 hs le) ?_ fun p' m' q' s2 a b c d e' f' g2=>k p' m' q' s2 a b (by lia) d e' f' g2
    intro k' a b;have:k'=m:=by lia
    rw[this];rfl
  |false=>
   (try dsimp only)
   rw[Tv TC];show cmp (p.getD (m-1) 0) (p.getD m 0) _ s';refine hc _ _ (hp.lt (by lia)) (hp.lt (by lia)) _ s' g' fun s2 g2=>?_
   cases e2:O.blt (κ (p.getD (m-1) 0)) (κ (p.getD m 0)) with
   |true=>
    (try dsimp only)
    rw[Tq rfl];exact k p m q s2 hp g2 (Tz _) (by lia) hq hs ha
   |false=>
    (try dsimp only)
    rw[Tv TC];have eq:kk κ p (m-1)=kk κ p m:=KeyOrd.kle_antisymm (O:=O) e e2;refine ml hn f p (m+1) (q+1) s2 hp g2 (by lia) (by lia) (by lia) (eT h1 hs (by rw[eq];exact Vu _)) ?_ fun p' m' q' s3 a b c d e' f' g3=>k p' m' q' s3 a b (by lia) d e' f' g3
    intro k' a b;show kk κ p k'=kk κ p m;by_cases z:k'=m
    ·rw[z]
    ·rw[ha k' (by lia) (by lia),eq]
omit hc in
theorem se{p:Array Nat}{m:Nat}(hm:m<=p.size)(h:fD κ p m):bj κ (kas_rev p 0 m) m:=by
 intro i j a b;rw[qx hm,qx hm,Tq (by lia),Tq (by lia)];exact h _ _ (by lia) (by lia)
theorem uk{p:Array Nat}(hp:POk n p){m HB:Nat}(hn:HB<=n)(h1:1<=m)(hm:m<=HB)(hs:fD κ p m){Q:Nat×Array Nat->Shared->Prop}{s:Shared}(g:Good s)
  (k:∀r p' s',POk n p'->Good s'->1<=r->r<=HB->bj κ p' r->Q (r,p') s'):(kas_tail3 m HB p).kasWp cmp Q s:=by
 unfold kas_tail3;rw[KasT.kasWp_bind];have hsz:=hp.size;refine uh hc (hp.rev 0 m) hn (HB-m) m s g h1 (by lia) (se (by lia) hs) fun r s' g' a b c _=>?_
 exact k r _ s' (hp.rev 0 m) g' (by lia) b c
theorem kh{p:Array Nat}(hp:POk n p){m HB:Nat}(hn:HB<=n)(h1:1<=m)(hm:m+1<=HB)(hs:fD κ p (m+1)){Q:Nat×Array Nat->Shared->Prop}{s:Shared}(g:Good s)
  (k:∀r p' s',POk n p'->Good s'->1<=r->r<=HB->bj κ p' r->Q (r,p') s'):(kas_descPart m HB p).kasWp cmp Q s:=by
 unfold kas_descPart;rw[KasT.kasWp_bind];refine ml hc hn (HB-(m+1)) p (m+1) 0 s hp g (by lia) (by lia) (by lia) hs ?_ fun p' m' q' s' a b c d e f g2=>?_
 ·intro k' a b;have:k'=m:=by lia
  rw[this];rfl
 ·have hsz:=a.size;dsimp only;split
  ·have same:=nW (κ:=κ) (p:=p') (m:=m') (q:=q') (by lia) g2;exact uk hc (a.rev _ _) hn (by lia) d (ji same f) b k
  ·exact uk hc a hn (by lia) d f b k
theorem xg{p:Array Nat}(hp:POk n p){HB:Nat}(hn:HB<=n)(h1:1<=HB){Q:Nat×Array Nat->Shared->Prop}{s:Shared}(g:Good s)
  (k:∀r p' s',POk n p'->Good s'->1<=r->r<=HB->bj κ p' r->Q (r,p') s'):(kas_count HB p).kasWp cmp Q s:=by
 unfold kas_count;rw[KasT.kasWp_bind];have hsz:=hp.size;refine uh hc hp hn (HB-1) 1 s g (Tz _) (by lia) (sd p) fun m s' g' a b c d=>?_
 by_cases e:m=HB
 ·rw[Tq (by simpa using e)];exact k m p s' hp g' (by lia) (by lia) c
 ·rw[Tv (by simpa using e)];have dd:=d (by lia);by_cases h2:m>1
  ·rw[Tq h2];show cmp (p.getD 0 0) (p.getD (m-1) 0) _ s';refine hc _ _ (hp.lt (by lia)) (hp.lt (by lia)) _ s' g' fun s2 g2=>?_
   cases e2:O.blt (κ (p.getD 0 0)) (κ (p.getD (m-1) 0)) with
   |true=>
    (try dsimp only)
    rw[Tq rfl];exact k m p s2 hp g2 (by lia) b c
   |false=>
    (try dsimp only)
    rw[Tv TC];have eq:∀i,i<m->kk κ p i=kk κ p 0:=fun i hi=>by
     have x1:=c 0 i (by lia) hi;have x2:=c i (m-1) (by lia) (by lia);exact KeyOrd.kle_antisymm (O:=O) (WR x2 e2) x1
    have same:∀i,kk κ (kas_rev p 0 m) i=kk κ p i:=fun i=>by
     rw[qx (by lia)];split
     ·rw[eq _ (by lia),eq i (by lia)]
     ·rfl
    refine kh hc (hp.rev 0 m) hn (by lia) (by lia) ?_ g2 k;refine ji same (eT (by lia) (fun i j x y=>?_) (WI dd));rw[eq i (by lia),eq j y];exact Vu _
  ·rw[Tv h2];refine kh hc hp hn (by lia) (by lia) (eT (by lia) (fun i j x y=>?_) (WI dd)) g' k;have:i=j:=by lia
   rw[this];exact Vu _
theorem mm{p:Array Nat}(hp:POk n p){t:Nat}(ht:t<n)(hs:bj κ p t){Q:Nat->Shared->Prop}:∀(f l r:Nat) (s:Shared),Good s->l<=r->r<=t->r-l<=f->(∀i,i<l->O.kle (kk κ p i) (kk κ p t))->(∀i,r<=i->i<t->O.klt (kk κ p t) (kk κ p i))->
  (∀x s',Good s'->x<=t->(∀i,i<x->O.kle (kk κ p i) (kk κ p t))->(∀i,x<=i->i<t->O.klt (kk κ p t) (kk κ p i))->Q x s')->(kas_place p t f l r).kasWp cmp Q s
 | 0,l,r,s,g,h1,h2,h3,lo,hi,k=>k l s g (by lia) lo fun i a b=>hi i (by lia) b
 |f+1,l,r,s,g,h1,h2,h3,lo,hi,k=>by
  unfold kas_place;by_cases e:l>=r
  ·rw[Tq e];exact k l s g (by lia) lo fun i a b=>hi i (by lia) b
  ·rw[Tv e];show cmp (p.getD t 0) (p.getD ((l+r) / 2) 0) _ s;refine hc _ _ (hp.lt ht) (hp.lt (by lia)) _ s g fun s' g'=>?_
   cases e2:O.blt (κ (p.getD t 0)) (κ (p.getD ((l+r) / 2) 0)) with
   |true=>
    (try dsimp only)
    rw[Tq rfl];refine mm hp ht hs f l ((l+r) / 2) s' g' (by lia) (by lia) (by lia) lo (fun i a b=>?_) k;exact KeyOrd.klt_of_klt_of_kle (O:=O) e2 (hs _ i a b)
   |false=>
    (try dsimp only)
    rw[Tv TC];refine mm hp ht hs f ((l+r) / 2+1) r s' g' (by lia) (by lia) (by lia) (fun i a=>?_) hi k;exact WR (O:=O) (hs i ((l+r) / 2) (by lia) (by lia)) e2
theorem yx{Q:Array Nat->Shared->Prop}:∀(f:Nat) (p:Array Nat) (t:Nat) (s:Shared),POk n p->Good s->t+f=n->bj κ p t->(∀p' s',POk n p'->Good s'->bj κ p' n->Q p' s')->(kas_bin f p t).kasWp cmp Q s
 | 0,p,t,s,hp,g,hf,hs,k=>k p s hp g (by rw[show n=t by lia];exact hs)
 |f+1,p,t,s,hp,g,hf,hs,k=>by
  unfold kas_bin;rw[KasT.kasWp_bind];have hsz:=hp.size;refine mm hc hp (by lia) hs t 0 t s g (Ut _) (Tz _) (by lia) (fun i a=>by lia) (fun i a b=>by lia) fun x s' g' hx lo hi=>?_
  refine yx f _ (t+1) s' (hp.bub _ _) g' (by lia) ?_ k;have ex:t-(t-x)=x:=by lia
  intro i j a b;rw[yw (by lia) (by lia),yw (by lia) (by lia),ex];have lo':=lo;by_cases i1:i=x
  ·by_cases j1:j=x
   ·rw[Tq i1,Tq j1];exact Vu _
   ·rw[Tq i1,Tv j1,Tq (by lia)];exact WI (hi (j-1) (by lia) (by lia))
  ·rw[Tv i1];by_cases i2:x<i/\i<=t
   ·rw[Tq i2,Tv (by lia),Tq (by lia)];exact hs (i-1) (j-1) (by lia) (by lia)
   ·rw[Tv i2];by_cases j1:j=x
    ·rw[Tq j1];exact lo i (by lia)
    ·rw[Tv j1];by_cases j2:x<j/\j<=t
     ·rw[Tq j2];exact hs i (j-1) (by lia) (by lia)
     ·rw[Tv j2];exact hs i j a (by lia)
theorem zR(h1:1<=n){Q:Array Nat->Shared->Prop}{s:Shared}(g:Good s)(k:∀p s',POk n p->Good s'->bj κ p n->Q p s'):(kas_sort n).kasWp cmp Q s:=by
 unfold kas_sort;rw[KasT.kasWp_bind];refine xg hc (p:=List.toArray (List.range n)) ⟨by simp⟩ (Tz _) h1 g fun r p' s' hp g' a b c=>?_
 dsimp only;split
 ·have e:max r 1=r:=by lia
  rw[e];exact yx hc (n-r) p' r s' hp g' (by lia) c k
 ·exact k p' s' hp g' (by rw[show n=r by lia];exact c)
end
end NX
namespace NX
open PySem PySem.W PySem.Spec PyProof.Rows L2
section
variable{prog:Program}{w:World}{A:Around}{E:Value->Shared->Prop}{s:Shared}
theorem qy(n:Nat):POk n (List.toArray (List.range n)):=⟨by simp⟩
theorem iw{O:KeyOrd}{key:Nat->O.α}{kd:SortKind}{a:Addr}{vs:List Value}{n:Nat}{P:PySem.Fin->Shared->Prop}(ho:s.heap.get? a=some (seqObj "list" vs.toArray n))(Lz:vs.length<64)
  (JH:2<=vs.length->∀(h':Heap),(∀b o,b≠a->s.heap.get? b=some o->h'.get? b=some o)->∀Q:SortKind->Shared->Prop,Q kd {s with heap:=h'}->wpAny (model prog w) A (keyKind' vs.toArray) Q E {s with heap:=h'})
  (L5:∀i j,i<vs.length->j<vs.length->∀(h':Heap),(∀b o,b≠a->s.heap.get? b=some o->h'.get? b=some o)->∀C:Bool->Shared->Prop,C (O.blt (key i) (key j)) {s with heap:=h'}->kas_ask prog w A kd vs i j C {s with heap:=h'})
  (h:∀p h',POk vs.length p->bj key p vs.length->(∃e,h'.get? a=some (seqObj "list" (List.toArray (p.toList.map fun i=>vs.getD i .none)) e))->(∀b o,b≠a->s.heap.get? b=some o->h'.get? b=some o)->P (.done (.ret .none)) {s with heap:=h'}):
  wpAny (model prog w) A (Builtin.«list.sort» ⟨[.ref a],[]⟩) P E s:=by
 rw[list_sort_plain];have la:a<s.heap.objs.size:=Tt ho;have zs:vs.toArray.size=vs.length:=by simp
 refine Tf (listItems_at ho rfl (Tf (listUpdate_at ho rfl ?_ (by rw[zs,UB];lia) (Ut _))));obtain⟨e1,h1⟩:∃e1,(s.heap.update a (Obj.mapSeq fun _=>#[])).get? a=some (seqObj "list" #[] e1):=⟨_,get?_update_seq ho (fun _=>#[])⟩
 refine Tf (seqEpoch_at h1 rfl (Tf (wpAny_newTuple (Tf (YM (VP ?_))) (by simp only[W7];rw[UB];lia))));generalize e6:((s.heap.update a (Obj.mapSeq fun _=>#[])).push {cls:=.type "tuple",data:=.seq vs.toArray.toList.toArray}).push {cls:=.type "list",data:=.seq ([]:List Value).toArray}=h6;have k6:∀b o,b≠a->s.heap.get? b=some o->h6.get? b=some o:=fun b o nb e=>by
  rw[<-e6];exact Th _ (Th _ ((Vc _ _ (Vd nb)).trans e))
 have PK:h6.get? a=some (seqObj "list" #[] e1):=by
  rw[<-e6];exact Th _ (Th _ h1)
 dsimp only;have fin:∀(p:Array Nat),POk vs.length p->bj key p vs.length->∀out:Array Value,out=List.toArray (p.toList.map fun i=>vs.getD i .none)->
   P (.done (.ret .none)) {s with heap:=h6.update a (Obj.mapSeq fun _=>out)}:=fun p hp hs out eo=>by
  subst eo;exact h p _ hp hs ⟨_,get?_update_seq PK _⟩ fun b o nb e=>(Vc _ _ (Vd nb)).trans (k6 b o nb e)
 have fits:∀{out:Array Value}{p:Array Nat},POk vs.length p->out=List.toArray (p.toList.map fun i=>vs.getD i .none)->out.size<=sizeLine+1:=fun{out p} hp e=>by
  rw[e,To,Tr,hp.perm.length_eq,TR,UB];lia
 by_cases h2:vs.toArray.size<2
 ·rw[Tq h2,Tq h2];refine Tf (Tu ?_);rw[StateT.run_pure];refine Tf (Tu ?_);dsimp only;have eo:(arrOf (SortSt.mk' general' (vs.toArray.zip vs.toArray) #[] 7 none)).map (·.2)=List.toArray ((List.toArray (List.range vs.length)).toList.map fun i=>vs.getD i .none):=by
   show(vs.toArray.zip vs.toArray).map (·.2)=_;apply Array.toList_inj.mp;simp only[Array.toList_map,Array.toList_zip,W7];have a1:(vs.zip vs).map (·.2)=vs:=by
    rw[List.map_snd_zip];exact Tz _
   rw[a1];apply WJ;intro i;by_cases hi:i<vs.length
   ·simp[hi]
   ·simp[hi]
  refine Tf (seqEpoch_at PK rfl (Tf (listUpdate_at PK rfl ?_ (Ut _) (fits (qy _) eo))));simp only[Xw,Vm,Wm];refine Tu (fin _ (qy _) ?_ _ eo);intro i j x y;have:i=j:=by lia
  rw[this];exact Vu _
 ·rw[Tv h2,Tv h2];have Sm:2<=vs.length:=by lia
  refine Tf (JH Sm h6 k6 _ ?_);refine Tf (Wd (kat_run (ks:=vs) (vs:=vs) (Q:=fun J2 s'=>∃p,POk vs.length p/\bj key p vs.length/\arrOf J2=p.map (kas_item (vs.toArray.zip vs.toArray))/\failedOf J2=none/\s'={s with heap:=h6})
   (G:=fun p s'=>POk vs.length p/\bj key p vs.length/\s'={s with heap:=h6}) rfl Sm Lz (fun p J2 s' hz NC hf hg=>⟨p,hg.1,hg.2.1,NC,hf,hg.2.2⟩)
   (zR (n:=vs.length) (O:=O) (κ:=key) (Good:=fun s'=>s'={s with heap:=h6}) (fun i j hi hj Q s' g k=>?_) (by lia) rfl fun p s' hp g hs=>⟨hp,hs,g⟩)) (fun r s' hq=>?_) fun _ _ e=>e)
  ·subst g;exact L5 i j hi hj h6 k6 Q (k _ rfl)
  ·obtain⟨p,hp,hs,NC,hf,rfl⟩:=hq;have eo:=kat_snds (ks:=vs) (vs:=vs) rfl NC;refine Tf (seqEpoch_at PK rfl (Tf (listUpdate_at PK rfl ?_ (Ut _) (fits hp eo))));rw[hf];simp only[Xw,Vm,Wm];exact Tu (fin p hp hs _ eo)
theorem jj{O:KeyOrd}{key:Nat->O.α}{kd:SortKind}{l:Addr}{vs:List Value}{Q:Value->Shared->Prop}(hl:s.heap.IsList l vs.toArray)(Lz:vs.length<64)
  (JH:2<=vs.length->∀(A':Around) (E':Value->Shared->Prop) (h':Heap),(∀b o,s.heap.get? b=some o->h'.get? b=some o)->∀Q:SortKind->Shared->Prop,Q kd {s with heap:=h'}->wpAny (model prog w) A' (keyKind' vs.toArray) Q E' {s with heap:=h'})
  (L5:∀i j,i<vs.length->j<vs.length->∀(h':Heap),(∀b o,s.heap.get? b=some o->h'.get? b=some o)->∀C:Bool->Shared->Prop,C (O.blt (key i) (key j)) {s with heap:=h'}->kas_ask prog w A.in1.in1 kd vs i j C {s with heap:=h'})
  (h:∀p h' e,POk vs.length p->bj key p vs.length->h'.get? (s.heap.objs.size+1)=some (seqObj "list" (List.toArray (p.toList.map fun i=>vs.getD i .none)) e)->(∀b o,s.heap.get? b=some o->h'.get? b=some o)->Q (.ref (s.heap.objs.size+1)) {s with heap:=h'}):
  wpAny (model prog w) A (call (.builtin "sorted") [.ref l]) Q E s:=by
 refine Wj kind_sorted plain_sorted entry_sorted (args_sorted1 _) ?_;unfold Builtin.«sorted»;refine Tf (m:=checkCount "sorted" 1 1 _) (Tu (Tf (collect_list hl (Tf (YM ?_ (by rw[UB];lia))) (by rw[UB];lia))));have zz:((s.heap.push (seqObj "list" #[] 0)).update s.heap.objs.size (Obj.mapSeq (·++vs.toArray))).objs.size=s.heap.objs.size+1:=by rw[Heap.size_update,size_push']
 generalize e5:(s.heap.push (seqObj "list" #[] 0)).update s.heap.objs.size (Obj.mapSeq (·++vs.toArray))=h5 at zz ⊢;have k5:∀b o,s.heap.get? b=some o->(h5.push (seqObj "list" vs.toArray 0)).get? b=some o:=fun b o e=>by
  rw[<-e5];exact Th _ ((Vc _ _ (Vd (TH (Tt e)))).trans (Th _ e))
 have hL:(h5.push (seqObj "list" vs.toArray 0)).get? (s.heap.objs.size+1)=some (seqObj "list" vs.toArray 0):=by
  rw[<-zz];exact TF _ rfl
 have ne:∀b o,s.heap.get? b=some o->b≠s.heap.objs.size+1:=fun b o e=>TH (WG (Tt e))
 show wpAny _ _ _ _ _ {s with heap:=h5.push (seqObj "list" vs.toArray 0)};rw[zz];refine Tf (VP (UO slot_list_sort ⟨_,hL,rfl⟩ entry_list_sort (iw (key:=key) (kd:=kd) hL Lz (fun h2 h' kk Q' q=>JH h2 _ _ h' (fun b o e=>kk b o (ne b o e) (k5 b o e)) Q' q)
  (fun i j hi hj h' kk C q=>L5 i j hi hj h' (fun b o e=>kk b o (ne b o e) (k5 b o e)) C q) fun p h' hp hs ⟨e,he⟩ kk=>⟨_,rfl,?_⟩) (args_list_sort _)))
 exact Tu ⟨_,rfl,h p h' e hp hs he fun b o q=>kk b o (ne b o q) (k5 b o q)⟩
end
def intO:KeyOrd where
 α:=Int
 blt a b:=decide (a<b)
 irrefl a:=by simp
 trans a b c h1 h2:=by simp only[T7] at *;lia
 negTrans a b c h:=by simp only[T7] at *;lia
 total a b h1 h2:=by simp only[US] at *;lia
abbrev Fo:KeyOrd:=strKind.toKeyOrd
noncomputable def qz:KeyOrd where
 α:=Key
 blt a b:=match a,b with
  | .inl i,.inl j=>decide (i<j)
  | .inr x,.inr y=>decide (x.cps.toList<y.cps.toList)
  | .inl _,.inr _=>true
  | .inr _,.inl _=>false
 irrefl a:=by
  cases a with
  |inl i=>simp
  |inr x=>simpa using List.lt_irrefl x.cps.toList
 trans a b c h1 h2:=by
  cases a <;> cases b <;> cases c <;> simp_all
  ·lia
  ·exact List.lt_trans h1 h2
 negTrans a b c h:=by
  cases a <;> cases b <;> cases c <;> simp_all
  ·lia
  ·rename_i x y z;by_cases q:x.cps.toList<y.cps.toList
   ·exact .inl q
   ·exact .inr (List.lt_of_le_of_lt (XH.mp q) h)
 total a b h1 h2:=by
  cases a <;> cases b <;> simp_all
  ·lia
  ·rename_i x y;have e:x.cps.toList=y.cps.toList:=List.le_antisymm (by first|exact h2|exact XH.mp h2) (by first|exact h1|exact XH.mp h1);rw[<-nP x,<-nP y,e]
def eI:List Key->List Key->Bool
 |[],[]=>false
 |[],_::_=>true
 |_::_,[]=>false
 |a::r,b::t=>if a=b then eI r t else qz.blt a b
theorem hW:∀a:List Key,eI a a=false
 |[]=>rfl
 |a::r=>by
  show(if a=a then eI r r else _)=false;rw[Tq rfl];exact hW r
theorem zS{a b:Key}(h:qz.blt a b=true):a≠b:=by
 rintro rfl;have:=qz.irrefl a;rw[h]at this;cases this
theorem gM:∀a b c:List Key,eI a b=true->eI b c=true->eI a c=true
 |[],[],_,h,_=>by cases h
 |[],_::_,[],_,h=>by cases h
 |[],_::_,_::_,_,_=>rfl
 |_::_,[],_,h,_=>by cases h
 |_::_,_::_,[],_,h=>by cases h
 |a::r,b::t,c::u,h1,h2=>by
  have h1:(if a=b then eI r t else qz.blt a b)=true:=h1;have h2:(if b=c then eI t u else qz.blt b c)=true:=h2;show(if a=c then eI r u else qz.blt a c)=true;by_cases e1:a=b
  ·by_cases e2:b=c
   ·rw[Tq e1]at h1;rw[Tq e2]at h2;rw[Tq (e1.trans e2)];exact gM r t u h1 h2
   ·rw[Tv e2]at h2;rw[e1,Tv e2];exact h2
  ·rw[Tv e1]at h1;by_cases e2:b=c
   ·rw[<-e2,Tv e1];exact h1
   ·rw[Tv e2]at h2;have h3:=qz.trans a b c h1 h2;rw[Tv (zS h3)];exact h3
theorem gN:∀a b:List Key,eI a b=false->eI b a=false->a=b
 |[],[],_,_=>rfl
 |[],_::_,h,_=>by cases h
 |_::_,[],_,h=>by cases h
 |a::r,b::t,h1,h2=>by
  have h1:(if a=b then eI r t else qz.blt a b)=false:=h1;have h2:(if b=a then eI t r else qz.blt b a)=false:=h2;by_cases e:a=b
  ·rw[Tq e]at h1;rw[Tq e.symm]at h2;rw[e,gN r t h1 h2]
  ·rw[Tv e]at h1;rw[Tv (Vd e)]at h2;exact absurd (qz.total a b h1 h2) e
theorem xh(a b c:List Key)(h:eI a c=true):eI a b=true\/eI b c=true:=by
 cases e:eI a b with
 |true=>exact .inl rfl
 |false=>
  refine .inr ?_;cases e2:eI b a with
  |true=>exact gM b a c e2 h
  |false=>
   rw[<-gN a b e e2];exact h
def DA:KeyOrd where
 α:=List Key
 blt:=eI
 irrefl:=hW
 trans:=gM
 negTrans:=xh
 total:=gN
section
variable{O:KeyOrd}
def sf(p:Array Nat)(xs:List V):List V:=p.toList.map fun i=>xs.getD i .non
theorem lx{α:Type}(xs:List α)(d:α):((List.range xs.length).map fun i=>xs.getD i d)=xs:=by
 apply WJ;intro i;by_cases hi:i<xs.length
 ·simp[hi]
 ·simp[hi]
theorem jW{α:Type}{p:Array Nat}{xs:List α}(d:α)(hp:POk xs.length p):(p.toList.map fun i=>xs.getD i d).Perm xs:=by
 have:=hp.perm.map (fun i=>xs.getD i d)
 rwa [lx]at this
theorem gO{α:Type}{p:Array Nat}{xs:List α}(d:α)(key:α->O.α)(hp:POk xs.length p)(hs:bj (O:=O) (fun i=>key (xs.getD i d)) p xs.length):(p.toList.map fun i=>xs.getD i d).Pairwise fun a b=>O.kle (key a) (key b):=by
 rw[List.pairwise_iff_getElem];intro i j hi hj My;have hsz:=hp.size;have Mx:i<p.size:=by simpa using hi
 have Ob:j<p.size:=by simpa using hj
 have h:=hs i j (Xi My) (by lia);unfold kk at h;simp only[U8,Array.getElem_toList];have e1:p.getD i 0=p[i]:=by simp[Array.getD,Mx]
 have e2:p.getD j 0=p[j]:=by simp[Array.getD,Ob]
 rw[e1,e2]at h;exact h
theorem vals_pick{xs:List V}{us:List Value}(r:Vals xs us):∀l:List Nat,(∀i∈l,i<xs.length)->Vals (l.map fun i=>xs.getD i .non) (l.map fun i=>us.getD i .none)
 |[],_=>.nil
 |i::l,h=>by
  refine .cons ?_ (vals_pick r l fun j hj=>h j (Tn _ hj));have hi:=h i Tg;have e1:xs[i]?=some (xs.getD i .non):=by rw[bK _ _ _ hi];exact Tj hi
  obtain⟨u,hu,ru⟩:=r.get e1;have e2:us.getD i .none=u:=by rw[Ti,hu];rfl
  show L2.RelV (xs.getD i .non) (us.getD i .none);rw[e2];exact ru
theorem jX{xs:List V}{us:List Value}{p:Array Nat}(r:Vals xs us)(hp:POk xs.length p):Vals (sf p xs) (p.toList.map fun i=>us.getD i .none):=
 vals_pick r _ fun i hi=>TM.mp (hp.perm.mem_iff.mp hi)
end
section
variable{X:Cx}
theorem iy{pr:List (Addr×Obj)}{s:Shared}{σ:L2.St}{H:Hp}{h':Heap}{ys:List V}{us:List Value}{e:Nat}{D:Addr}(I:Inv X pr σ H s)(kk:∀b o,s.heap.get? b=some o->h'.get? b=some o)(hD:s.heap.objs.size<=D)
  (ho:h'.get? D=some (seqObj "list" (List.toArray us) e)) (r:Vals ys us) (hz:ys.length<=sizeLine):Inv X pr σ (upd H D (.lst ys)) {s with heap:=h'}:=
 I.laid (t':=s.toks) kk hD ⟨hz,us,e,r,ho⟩
theorem jP(hc:X.calm=true):dB X (.builtin "sorted") (fun vs H Q=>∃(p:Addr) (ns:List Int),vs=[.ref p]/\SqL X.K H p (ns.map V.int)/\ns.length<64/\∀(D:Addr) (ms:List Int),H D=none->ms.Perm ns->ms.Pairwise (·<=·)->Q (.ref D) (upd H D (.lst (ms.map V.int)))):=by
 intro pr s σ H vs us Q I r h;obtain⟨p,ns,rfl,hp,Lz,q⟩:=h;obtain⟨u,rfl,r1⟩:=hJ r;cases r1;obtain⟨ws,rv,pl,hz⟩:=I.list hp;have hl:=rv.length;rw[Tr]at hl;have isI:∀v∈ws,∃n t,v=.int n t:=fun v hv=>by
  obtain⟨i,hi⟩:=V9.mp hv;obtain⟨t,e⟩:=hV rv hi;exact⟨_,t,e⟩
 refine jj (O:=intO) (key:=fun i=>ns.getD i 0) (kd:=oneType') pl.isList (by lia) (fun h2 A' E' h' kk Q' q'=>?_) (fun i j hi hj h' kk C q'=>?_) fun pp h' e Jk hs he kk=>?_
 ·refine kas_kind h2 (T:=.type "int") (fun v hv=>?_) (by decide) (by decide) q';obtain⟨n,t,rfl⟩:=isI v hv;exact fun A Q E s _ q=>V5 (Ws s n t) q
 ·unfold kas_ask;have e1:ws[i]?=some (ws.getD i .none):=by rw[bK _ _ _ hi];exact Tj hi
  have e2:ws[j]?=some (ws.getD j .none):=by rw[bK _ _ _ hj];exact Tj hj
  obtain⟨t,Rw⟩:=hV rv e1;obtain⟨t',Rx⟩:=hV rv e2;rw[Rw,Rx];exact kat_lt_int q'
 ·rw[<-hl]at Jk hs;have Oc:POk (ns.map V.int).length pp:=by rw[Tr];exact Jk
  have eo:sf pp (ns.map V.int)=(pp.toList.map fun i=>ns.getD i 0).map V.int:=by
   unfold sf;rw[TL];refine TN fun i hi=>?_
   have hi:=TM.mp (Jk.perm.mem_iff.mp hi);show(ns.map V.int).getD i .non=V.int (ns.getD i 0);rw[bK _ _ _ (by rw[Tr];exact hi),bK _ _ _ hi];simp
  have hn:H (s.heap.objs.size+1)=none:=I.hok.fresh (Vh _);refine⟨.ref (s.heap.objs.size+1),_,iy I kk (Vh _) he (jX rv Oc) ?_,rfl,?_⟩
  ·show(sf pp (ns.map V.int)).length<=sizeLine;rw[eo,Tr,Tr,Jk.perm.length_eq,TR,UB];lia
  ·rw[eo];refine q _ _ hn (jW 0 Jk) ?_;have:=gO (O:=intO) 0 (fun i:Int=>i) Jk hs;refine this.imp fun{a b} Ke=>?_
   have Ke:decide (b<a)=false:=Ke;have:=YN Ke;lia
theorem pI{ls:List (List Nat)}{us:List Value}(r:Vals (ls.map fun l=>V.str (S l)) us){i:Nat}{v:Value}(h:us[i]?=some v):∃t,v=.str (S (ls.getD i [])) t:=by
 have hl:=r.length;rw[Tr]at hl;obtain⟨hi,_⟩:=Tx.mp h;have e1:(ls.map fun l=>V.str (S l))[i]?=some (.str (S (ls.getD i []))):=by
  rw[TV,Tj (by lia),bK _ _ _ (by lia)];rfl
 obtain⟨u,hu,t,rfl⟩:=r.get e1;rw[h]at hu;exact⟨t,Ud hu⟩
theorem jQ(hc:X.calm=true):dB X (.builtin "sorted") (fun vs H Q=>∃(p:Addr) (ls:List (List Nat)),vs=[.ref p]/\SqL X.K H p (ls.map fun l=>V.str (S l))/\ls.length<64/\∀(D:Addr) (ms:List (List Nat)),H D=none->ms.Perm ls->ms.Pairwise (fun a b=>¬ b<a)->Q (.ref D) (upd H D (.lst (ms.map fun l=>V.str (S l))))):=by
 intro pr s σ H vs us Q I r h;obtain⟨p,ls,rfl,hp,Lz,q⟩:=h;obtain⟨u,rfl,r1⟩:=hJ r;cases r1;obtain⟨ws,rv,pl,hz⟩:=I.list hp;have hl:=rv.length;rw[Tr]at hl;refine jj (O:=Fo) (key:=fun i=>ls.getD i []) (kd:=oneType') pl.isList (by lia) (fun h2 A' E' h' kk Q' q'=>?_) (fun i j hi hj h' kk C q'=>?_) fun pp h' e Jk hs he kk=>?_
 ·refine kas_kind h2 (T:=.type "str") (fun v hv=>?_) (by decide) (by decide) q';obtain⟨i,hi⟩:=V9.mp hv;obtain⟨t,rfl⟩:=pI rv hi;exact fun A Q E s _ q=>V5 (Yo s _ t) q
 ·unfold kas_ask;have e1:ws[i]?=some (ws.getD i .none):=by rw[bK _ _ _ hi];exact Tj hi
  have e2:ws[j]?=some (ws.getD j .none):=by rw[bK _ _ _ hj];exact Tj hj
  obtain⟨t,Rw⟩:=pI rv e1;obtain⟨t',Rx⟩:=pI rv e2;rw[Rw,Rx];refine kas_lt_str ?_;rw[fW,fW];exact q'
 ·rw[<-hl]at Jk hs;have Oc:POk (ls.map fun l=>V.str (S l)).length pp:=by rw[Tr];exact Jk
  have eo:sf pp (ls.map fun l=>V.str (S l))=(pp.toList.map fun i=>ls.getD i []).map fun l=>V.str (S l):=by
   unfold sf;rw[TL];refine TN fun i hi=>?_
   have hi:=TM.mp (Jk.perm.mem_iff.mp hi);show(ls.map fun l=>V.str (S l)).getD i .non=V.str (S (ls.getD i []));rw[bK _ _ _ (by rw[Tr];exact hi),bK _ _ _ hi];simp
  have hn:H (s.heap.objs.size+1)=none:=I.hok.fresh (Vh _);refine⟨.ref (s.heap.objs.size+1),_,iy I kk (Vh _) he (jX rv Oc) ?_,rfl,?_⟩
  ·show(sf pp (ls.map fun l=>V.str (S l))).length<=sizeLine;rw[eo,Tr,Tr,Jk.perm.length_eq,TR,UB];lia
  ·rw[eo];refine q _ _ hn (jW [] Jk) ?_;have:=gO (O:=Fo) [] (fun l:List Nat=>l) Jk hs;refine this.imp fun{a b} Ke=>?_
   have Ke:decide (b<a)=false:=Ke;exact YN Ke
end
def kinds(k:List Key):List Bool:=k.map fun x=>x.isLeft
section
variable{prog:Program}{w:World}{A:Around}{s:Shared}
theorem um(a b:Key):Rm (kV a) (kV b)=decide (a=b):=by
 cases a <;> cases b <;> (rw[UG];simp[kV,Rm])
theorem jY(a:Key):w4 (kV a)=true:=by cases a <;> rfl
theorem BZ{a b:Key}{u v:Value}{top:Bool}{Q:Bool->Shared->Prop}(ra:L2.RelV (kV a) u)(rb:L2.RelV (kV b) v)(hk:a.isLeft=b.isLeft)(q:Q (qz.blt a b) s):wpAny (model prog w) A (oneLt' top u v) Q (fun _ _=>False) s:=by
 cases a with
 |inl i=>
  cases b with
  |inr _=>cases hk
  |inl j=>
   obtain⟨t,rfl⟩:=ra;obtain⟨t',rfl⟩:=rb;cases top with
   |true=>exact kat_lt_int (E:=fun _ _=>False) q
   |false=>exact kat_one _ _ (lt_int q)
 |inr x=>
  cases b with
  |inl _=>cases hk
  |inr y=>
   obtain⟨t,rfl⟩:=ra;obtain⟨t',rfl⟩:=rb;cases top with
   |true=>exact oneLt_str q
   |false=>exact kat_one _ _ (lt_str q)
theorem ki{Q:Bool->Shared->Prop}:∀(k1 k2:List Key) (us ws:List Value) (i:Nat),Vals (k1.map kV) us->Vals (k2.map kV) ws->kinds k1=kinds k2->Q (eI k1 k2) s->KatLex prog w A true false Q (us.zip ws) i s
 |[],[],_,_,_,.nil,.nil,_,q=>q
 |[],_::_,_,_,_,_,_,h,_=>by cases h
 |_::_,[],_,_,_,_,_,h,_=>by cases h
 |a::r,b::t,u::us,v::ws,i,.cons ru rus,.cons rv rvs,h,q=>by
  have h1:a.isLeft=b.isLeft:=(W2 h).1;have h2:kinds r=kinds t:=(W2 h).2;have q:Q (if a=b then eI r t else qz.blt a b) s:=q;refine kat_cons (yq (A:=A) (s:=s) ru rv (jY a) (jY b) prog w _ _ ?_);rw[um];by_cases e:a=b
  ·rw[Tq e]at q;rw[T6 e];exact kat_yes (ki r t us ws (i+1) rus rvs h2 q)
  ·rw[Tv e]at q;rw[T5 e];exact kat_no (BZ ru rv h1 q)
end
section
variable{X:Cx}{pr:List (Addr×Obj)}{σ:L2.St}{H:Hp}{s:Shared}
theorem nX(I:Inv X pr σ H s){a:Addr}{xs:List V}(h:SqT X.K H a xs):∃(us:List Value) (o:Obj) (n:Nat),Vals xs us/\s.heap.get? a=some o/\o.cls=.type "tuple"/\o.data=.seq us.toArray n:=by
 obtain⟨us,r,pl,_⟩:=I.tuple h;obtain⟨o,ho,oc,n,od⟩:=pl;exact⟨us,o,n,r,ho,oc,od⟩
theorem mn{al:List (Addr×List Key)}{us:List Value}(r:Vals (al.map fun a=>V.ref a.1) us){i:Nat}(h:i<al.length):us.getD i .none=.ref (al.getD i (0,[])).1:=by
 have e1:(al.map fun a=>V.ref a.1)[i]?=some (.ref (al.getD i (0,[])).1):=by
  rw[TV,Tj h,bK _ _ _ h];rfl
 obtain⟨u,hu,ru⟩:=r.get e1;rw[Ti,hu];exact ru
theorem qA{al:List (Addr×List Key)}{us:List Value}{h':Heap}(I:Inv X pr σ H s)(kk:∀b o,s.heap.get? b=some o->h'.get? b=some o)(top:Bool):
  (r:Vals (al.map fun a=>V.ref a.1) us)->(∀a∈al,SqT X.K H a.1 (a.2.map kV)/\∃t,kinds a.2=top::t)->∃fs:List Value,KatTups h' us fs/\fs.length=al.length/\∀v∈fs,∀M:Model,Looks M h' (typeOf v) (.type (if top then "int" else "str")):=by
 induction al generalizing us with
 |nil=>
  intro r _;cases r;exact⟨[],trivial,rfl,fun v hv=>by cases hv⟩
 |cons a al ih=>
  intro r h;cases r with
  |cons ra rs=>
   cases ra;obtain⟨fs,t1,t2,t3⟩:=ih rs fun b hb=>h b (Tn _ hb)
   obtain⟨ha,kt,hk⟩:=h a Tg;obtain⟨ws,o,n,rv,ho,oc,od⟩:=nX I ha;cases e2:a.2 with
   |nil=>rw[e2]at hk;cases hk
   |cons k ks=>
    rw[e2]at rv hk;have Sn:k.isLeft=top:=(W2 hk).1;cases rv with
    | @cons _ f _ fr rf rfs=>
     refine⟨f::fs,KatTups.cons (kk _ _ ho) oc od (by simp) t1,by simp[t2],fun v hv M=>?_⟩;rcases Tw.mp hv with rfl|hv
     ·cases k with
      |inl i=>
       obtain⟨t,rfl⟩:=rf;have:top=true:=Sn.symm;subst this;exact fun A Q E s _ q=>V5 (Ws s _ t) q
      |inr x=>
       obtain⟨t,rfl⟩:=rf;have:top=false:=Sn.symm;subst this;exact fun A Q E s _ q=>V5 (Yo s _ t) q
     ·exact t3 v hv M
end
section
variable{X:Cx}
theorem jR(hc:X.calm=true):dB X (.builtin "sorted") (fun vs H Q=>∃(p:Addr) (al:List (Addr×List Key)) (top:Bool) (t:List Bool),vs=[.ref p]/\SqL X.K H p (al.map fun a=>V.ref a.1)/\(∀a∈al,SqT X.K H a.1 (a.2.map kV)/\kinds a.2=top::t)/\al.length<64/\
  ∀(D:Addr) (ms:List (Addr×List Key)),H D=none->ms.Perm al->ms.Pairwise (fun a b=>eI b.2 a.2=false)->Q (.ref D) (upd H D (.lst (ms.map fun a=>V.ref a.1)))):=by
 intro pr s σ H vs us Q I r h;obtain⟨p,al,top,kt,rfl,hp,Lh,Lz,q⟩:=h;obtain⟨u,rfl,r1⟩:=hJ r;cases r1;obtain⟨ws,rv,pl,hz⟩:=I.list hp;have hl:=rv.length;rw[Tr]at hl;refine jj (O:=DA) (key:=fun i=>(al.getD i (0,[])).2) (kd:=tuples' true) pl.isList (by lia) (fun h2 A' E' h' kk Q' q'=>?_) (fun i j hi hj h' kk C q'=>?_) fun pp h' e Jk hs he kk=>?_
 ·obtain⟨fs,t1,t2,t3⟩:=qA I kk top rv fun a ha=>⟨(Lh a ha).1,kt,(Lh a ha).2⟩
  refine kat_kind (T:=.type (if top then "int" else "str")) t1 (by lia) (fun v hv=>t3 v hv _) (by simp) ?_;have:((Value.type (if top then "int" else "str")) != Value.type "tuple")=true:=by cases top <;> decide
  rw[this];exact q'
 ·unfold kas_ask;have Mx:i<al.length:=by lia
  have Ob:j<al.length:=by lia
  rw[mn rv Mx,mn rv Ob];have mi:al.getD i (0,[])∈al:=by rw[bK _ _ _ Mx];exact U9 _
  have mj:al.getD j (0,[])∈al:=by rw[bK _ _ _ Ob];exact U9 _
  obtain⟨u1,o1,n1,r1,g1,_,d1⟩:=nX I (Lh _ mi).1;obtain⟨u2,o2,n2,r2,g2,_,d2⟩:=nX I (Lh _ mj).1;have ek:kinds (al.getD i (0,[])).2=kinds (al.getD j (0,[])).2:=by rw[(Lh _ mi).2,(Lh _ mj).2]
  have el:u1.length=u2.length:=by
   have a1:=r1.length;have a2:=r2.length;have a3:=UQ List.length ek;simp only[kinds,Tr]at a1 a2 a3;lia
  refine kat_lt (kk _ _ g1) d1 (kk _ _ g2) d2 ?_;have ef:decide (u1.toArray.size<u2.toArray.size)=false:=by simp[el]
  rw[ef];exact ki _ _ _ _ 0 r1 r2 ek q'
 ·rw[<-hl]at Jk hs;have Oc:POk (al.map fun a=>V.ref a.1).length pp:=by rw[Tr];exact Jk
  have eo:sf pp (al.map fun a=>V.ref a.1)=(pp.toList.map fun i=>al.getD i (0,[])).map fun a=>V.ref a.1:=by
   unfold sf;rw[TL];refine TN fun i hi=>?_
   have hi:=TM.mp (Jk.perm.mem_iff.mp hi);show(al.map fun a=>V.ref a.1).getD i .non=V.ref (al.getD i (0,[])).1;rw[bK _ _ _ (by rw[Tr];exact hi),bK _ _ _ hi];simp
  have hn:H (s.heap.objs.size+1)=none:=I.hok.fresh (Vh _);refine⟨.ref (s.heap.objs.size+1),_,iy I kk (Vh _) he (jX rv Oc) ?_,rfl,?_⟩
  ·show(sf pp (al.map fun a=>V.ref a.1)).length<=sizeLine;rw[eo,Tr,Tr,Jk.perm.length_eq,TR,UB];lia
  ·rw[eo];refine q _ _ hn (jW (0,[]) Jk) ?_;exact gO (O:=DA) (0,[]) (fun a:Addr×List Key=>a.2) Jk hs
end
end NX
namespace L2
open PySem PySem.Spec PyProof.Rows
section
variable{κ:Type}[DecidableEq κ]
def nZ(GJ:List (κ×V))(k:κ):Option V:=(GJ.find? fun kv=>decide (kv.1=k)).map (·.2)
def ly(GJ:List (κ×V))(k:κ)(v:V):List (κ×V):=
 if(GJ.any fun kv=>decide (kv.1=k))=true then GJ.map (fun kv=>if kv.1=k then(kv.1,v) else kv) else GJ++[(k,v)]
theorem mq{p:κ×V}{r:List (κ×V)}{k:κ}(e:p.1=k):nZ (p::r) k=some p.2:=by simp[nZ,Wa,e]
theorem mr{p:κ×V}{r:List (κ×V)}{k:κ}(e:¬ p.1=k):nZ (p::r) k=nZ r k:=by simp[nZ,Wa,e]
theorem qB(k:κ):∀GJ:List (κ×V),(GJ.any fun kv=>decide (kv.1=k))=(nZ GJ k).isSome
 |[]=>rfl
 |p::r=>by
  rw[YO];by_cases e:p.1=k
  ·simp only[mq e,T6 e,Bool.true_or,YQ]
  ·rw[mr e,T5 e,Bool.false_or];exact qB k r
theorem kj(GJ:List (κ×V))(k:κ)(v:V):(ly GJ k v).length<=GJ.length+1:=by
 unfold ly;split
 ·rw[Tr];lia
 ·rw[Uz,TK,Uq];lia
theorem RelO.isSome_eq{o:Option V}{u:Option Value}(r:RelO o u):o.isSome=u.isSome:=by
 cases o with
 |none=>cases u with
  |none=>rfl
  |some _=>exact(show False from r).elim
 |some _=>cases u with
  |none=>exact(show False from r).elim
  |some _=>rfl
theorem KV.val{GJ:List (κ×V)}{vs:List (κ×Value)}(r:KV GJ vs)(k:κ):RelO (nZ GJ k) (valueAt vs k):=by
 unfold KV at r;induction r with
 |nil=>exact True.intro
 | @cons p q ps qs h t ih=>
  obtain⟨h1,h2⟩:=h;by_cases e:p.1=k
  ·have e':q.1=k:=h1.symm.trans e;have b:valueAt (q::qs) k=some q.2:=by simp[valueAt,Wa,e']
   rw[mq e,b];exact h2
  ·have e':¬ q.1=k:=fun z=>e (h1.trans z)
   have b:valueAt (q::qs) k=valueAt qs k:=by simp[valueAt,Wa,e']
   rw[mr e,b];exact ih
theorem KV.any{GJ:List (κ×V)}{vs:List (κ×Value)}(r:KV GJ vs)(k:κ):(GJ.any fun kv=>decide (kv.1=k))=vs.any fun kv=>decide (kv.1=k):=by
 unfold KV at r;induction r with
 |nil=>rfl
 |cons h t ih=>rw[YO,YO,ih,h.1]
theorem KV.repl{GJ:List (κ×V)}{vs:List (κ×Value)}(r:KV GJ vs)(k:κ){y:V}{u:Value}(ry:RelV y u):
  KV (GJ.map fun kv=>if kv.1=k then(kv.1,y) else kv) (vs.map fun kv=>if kv.1=k then(kv.1,u) else kv):=by
 unfold KV at r ⊢;induction r with
 |nil=>exact .nil
 | @cons p q ps qs h t ih=>
  rw[TU,TU];refine .cons ?_ ih;obtain⟨h1,h2⟩:=h;by_cases e:p.1=k
  ·rw[Tq e,Tq (h1.symm.trans e)];exact⟨h1,ry⟩
  ·rw[Tv e,Tv (fun z=>e (h1.trans z))];exact⟨h1,h2⟩
theorem KV.put{GJ:List (κ×V)}{vs:List (κ×Value)}(r:KV GJ vs)(k:κ){y:V}{u:Value}(ry:RelV y u):KV (ly GJ k y) (stored vs k u):=by
 unfold ly stored;rw[r.any k];by_cases e:(vs.any fun kv=>decide (kv.1=k))=true
 ·rw[Tq e,Tq e];exact r.repl k ry
 ·rw[Tv e,Tv e];exact Paired.snoc r ⟨rfl,ry⟩
theorem KV.length{GJ:List (κ×V)}{vs:List (κ×Value)}(r:KV GJ vs):GJ.length=vs.length:=WY r
end
theorem kV_is{P:Program}{w:World}{k:Key}{u:Value}(r:RelV (kV k) u):(mixKind P w).is k u=true:=by
 cases k with
 |inl i=>obtain⟨t,e⟩:=(show ∃t,u=Value.int i t from r);subst e;exact pE P w i t
 |inr x=>obtain⟨t,e⟩:=(show ∃t,u=Value.str x t from r);subst e;exact pF P w x t
theorem n0{P:Program}{w:World}:∀{ks:List Key}{us:List Value},Vals (ks.map kV) us->ItemsAre (mixKind P w) ks us
 |[],_,r=>by rw[Uw]at r;cases r;exact .nil
 |k::ks,_,r=>by
  rw[TU]at r;cases r with
  |cons h t=>exact .cons (kV_is h) (n0 t)
abbrev KT(H:Hp):List (List Key×V)->List (List Key×Addr×Value)->Prop:=Paired fun p q=>p.1=q.1/\H q.2.1=some (.tup (p.1.map kV))/\RelV p.2 q.2.2
theorem KT.val{H:Hp}{GJ:List (List Key×V)}{xs:List (List Key×Addr×Value)}(r:KT H GJ xs)(k:List Key):RelO (nZ GJ k) ((atKey xs k).map (·.2)):=by
 induction r with
 |nil=>exact True.intro
 | @cons p q ps qs h t ih=>
  obtain⟨h1,_,h2⟩:=h;by_cases e:p.1=k
  ·have e':q.1=k:=h1.symm.trans e;have b:atKey (q::qs) k=some q.2:=by simp[atKey,Wa,e']
   rw[mq e,b];exact h2
  ·have e':¬ q.1=k:=fun z=>e (h1.trans z)
   have b:atKey (q::qs) k=atKey qs k:=by simp[atKey,Wa,e']
   rw[mr e,b];exact ih
theorem KT.repl{H:Hp}{GJ:List (List Key×V)}{xs:List (List Key×Addr×Value)}(r:KT H GJ xs)(k:List Key){y:V}{u:Value}(ry:RelV y u):
  KT H (GJ.map fun kv=>if kv.1=k then(kv.1,y) else kv) (xs.map (putAt k u)):=by
 induction r with
 |nil=>exact .nil
 | @cons p q ps qs h t ih=>
  rw[TU,TU];refine .cons ?_ ih;obtain⟨h1,h2,h3⟩:=h;unfold putAt;by_cases e:p.1=k
  ·rw[Tq e,Tq (h1.symm.trans e)];exact⟨h1,h2,ry⟩
  ·rw[Tv e,Tv (fun z=>e (h1.trans z))];exact⟨h1,h2,h3⟩
theorem KT.put{H:Hp}{GJ:List (List Key×V)}{xs:List (List Key×Addr×Value)}(r:KT H GJ xs)(k:List Key){b:Addr}{y:V}{u:Value}(hb:H b=some (.tup (k.map kV)))(ry:RelV y u):
  KT H (ly GJ k y) (storedH xs k b u):=by
 have e:(GJ.any fun kv=>decide (kv.1=k))=(atKey xs k).isSome:=by
  rw[qB,(r.val k).isSome_eq,Xx]
 unfold ly storedH;rw[e];by_cases q:(atKey xs k).isSome=true
 ·rw[Tq q,Tq q];exact r.repl k ry
 ·rw[Tv q,Tv q];exact Paired.snoc r ⟨rfl,hb,ry⟩
theorem KT.keeps{H H':Hp}{GJ:List (List Key×V)}{xs:List (List Key×Addr×Value)}(r:KT H GJ xs)(ht:∀b ys,H b=some (.tup ys)->H' b=some (.tup ys)):KT H' GJ xs:=
 Paired.mapP r fun _ _ z=>⟨z.1,ht _ _ z.2.1,z.2.2⟩
section
variable{P:Program}{w:World}{H:Hp}{h:Heap}{a:Addr}
theorem B1{u:HO}(ok:HOk P w H h)(e:Rd H a u):ObjOk P w H h a u:=e.ok ok
theorem uo{GJ:List (Key×V)}(ok:HOk P w H h)(e:Rd H a (.dK GJ)):GJ.length<=sizeLine/\(a==sysModules)=false/\∃vs,KV GJ vs/\h.DictOf (mixKind P w) a vs:=
 show ObjOk P w H h a (.dK GJ) from B1 ok e
theorem Ed{GJ:List (Key×V)}(ok:HOk P w H h)(e:H a=some (.dK GJ)):GJ.length<=sizeLine/\(a==sysModules)=false/\∃vs,KV GJ vs/\h.DictOf (mixKind P w) a vs:=uo ok (.inl e)
theorem og{ks:List Key}(ok:HOk P w H h)(e:H a=some (.tup (ks.map kV))):(tupleKind (mixKind P w)).is h ks a:=by
 obtain⟨_,GO,r,o,h1,h2,⟨n,h3⟩,_⟩:=(show ObjOk P w H h a (.tup (ks.map kV)) from ok a _ e)
 exact⟨o,GO.toArray,n,h1,h2,h3,by simpa using n0 r⟩
theorem uq{GJ:List (List Key×V)}(ok:HOk P w H h)(e:Rd H a (.dT GJ)):GJ.length<=sizeLine/\(a==sysModules)=false/\
  ∃xs,KT H GJ xs/\h.DictOfH (tupleKind (mixKind P w)) a xs:=by
 obtain⟨z,y,xs,r,o,es,ep,h1,h2,h3,h4,h5⟩:=(show ObjOk P w H h a (.dT GJ) from B1 ok e)
 refine⟨z,y,xs,r,o,es,ep,h1,h2,h3,h4,fun x hx=>?_,h5⟩;have all:∀{l:List (List Key×V)}{m:List (List Key×Addr×Value)},KT H l m->∀x∈m,(tupleKind (mixKind P w)).is h x.1 x.2.1:=by
  intro l m q;induction q with
  |nil=>intro x hx;exact nomatch hx
  | @cons p q ps qs hq t ih=>
   intro x hx;rcases Tw.mp hx with e|hx
   ·subst e;exact og ok (by rw[<-hq.1];exact hq.2.1)
   ·exact ih x hx
 exact all r x hx
theorem Ee{GJ:List (List Key×V)}(ok:HOk P w H h)(e:H a=some (.dT GJ)):GJ.length<=sizeLine/\(a==sysModules)=false/\
  ∃xs,KT H GJ xs/\h.DictOfH (tupleKind (mixKind P w)) a xs:=uq ok (.inl e)
end
def DGet(H:Hp)(a:Addr)(y:V)(r:Option V):Prop:=
 (∃GJ k,Rd H a (.dK GJ)/\y=kV k/\r=nZ GJ k)\/∃GJ k b,Rd H a (.dT GJ)/\y=.ref b/\H b=some (.tup (k.map kV))/\r=nZ GJ k
def DPut(H:Hp)(a:Addr)(y v:V)(H':Hp):Prop:=
 (∃GJ k,H a=some (.dK GJ)/\y=kV k/\GJ.length<sizeLine/\H'=upd H a (.dK (ly GJ k v)))\/
 ∃GJ k b,H a=some (.dT GJ)/\y=.ref b/\H b=some (.tup (k.map kV))/\GJ.length<sizeLine/\H'=upd H a (.dT (ly GJ k v))
theorem DGet.k{H:Hp}{a:Addr}{GJ:List (Key×V)}{k:Key}(e:H a=some (.dK GJ)):DGet H a (kV k) (nZ GJ k):=.inl ⟨GJ,k,.inl e,rfl,rfl⟩
theorem DGet.t{H:Hp}{a b:Addr}{GJ:List (List Key×V)}{k:List Key}(e:H a=some (.dT GJ))(eb:H b=some (.tup (k.map kV))):DGet H a (.ref b) (nZ GJ k):=.inr ⟨GJ,k,b,.inl e,rfl,eb,rfl⟩
theorem DPut.k{H:Hp}{a:Addr}{GJ:List (Key×V)}{k:Key}{v:V}(e:H a=some (.dK GJ))(hl:GJ.length<sizeLine):DPut H a (kV k) v (upd H a (.dK (ly GJ k v))):=.inl ⟨GJ,k,e,rfl,hl,rfl⟩
theorem DPut.t{H:Hp}{a b:Addr}{GJ:List (List Key×V)}{k:List Key}{v:V}(e:H a=some (.dT GJ))(eb:H b=some (.tup (k.map kV)))(hl:GJ.length<sizeLine):
  DPut H a (.ref b) v (upd H a (.dT (ly GJ k v))):=.inr ⟨GJ,k,b,e,rfl,eb,hl,rfl⟩
section
variable{X:Cx}{pr:List (Addr×Obj)}{σ:St}{H:Hp}{s:Shared}{a:Addr}{y v:V}{u r:Value}{o:Option V}{A:Around}{E:Value->Shared->Prop}
theorem Inv.big(I:Inv X pr σ H s):sysModules<s.heap.objs.size:=by
 have h:mainGlobals<s.heap.objs.size:=(I.mod.glob.keeps I.bk).lt;exact Nat.lt_trans (by decide) h
theorem ur{Q:Value->Shared->Prop}(hu:A.units+1<cLine)(I:Inv X pr σ H s)(g:DGet H a y (some v))(ry:RelV y u)(h:∀w' s',Inv X pr σ H s'->RelV v w'->Q w' s'):
  wpAny (model X.prog X.w) A (getItem (.ref a) u) Q E s:=by
 rcases g with⟨GJ,k,e,ey,l⟩|⟨GJ,k,b,e,ey,eb,l⟩
 ·subst ey;obtain⟨z,hd,vs,rel,dd⟩:=uo I.hok e;obtain⟨w',hw,Lv⟩:=RelO.some_of (v:=v) (o:=valueAt vs k) (by rw[l];exact rel.val k);exact wpAny_getItem_of (kV_is ry) dd.mapOf hw (h w' _ (I.tok _) Lv)
 ·subst ey;cases(show u=Value.ref b from ry);obtain⟨z,hd,xs,rel,dd⟩:=uq I.hok e;obtain⟨w',hw,Lv⟩:=RelO.some_of (v:=v) (o:=(atKey xs k).map (·.2)) (by rw[l];exact rel.val k);obtain⟨p,hp,hp2⟩:=UW.mp hw;refine wpAny_getItem_heap (WA hu) (og I.hok eb) dd hp ?_;rw[hp2];exact h w' _ (I.tok _) Lv
theorem Gg{Q:Value->Shared->Prop}(hu:A.units+1<cLine)(I:Inv X pr σ H s)(g:DGet H a y o)(ry:RelV y u)(h:∀s',Inv X pr σ H s'->Q (.bool o.isSome) s'):
  wpAny (model X.prog X.w) A (compareOp .In u (.ref a)) Q E s:=by
 rcases g with⟨GJ,k,e,ey,l⟩|⟨GJ,k,b,e,ey,eb,l⟩
 ·subst ey;obtain⟨z,hd,vs,rel,dd⟩:=uo I.hok e;refine wpAny_in_of (kV_is ry) hd dd.mapOf ?_;rw[<-(rel.val k).isSome_eq,<-l];exact h _ (I.tok _)
 ·subst ey;cases(show u=Value.ref b from ry);obtain⟨z,hd,xs,rel,dd⟩:=uq I.hok e;refine wpAny_in_heap (WA hu) (og I.hok eb) hd dd ?_;have q:=(rel.val k).isSome_eq;rw[Xx]at q;rw[<-q,<-l];exact h _ (I.tok _)
theorem zT{Q:Value->Shared->Prop}(hu:A.units+1<cLine)(I:Inv X pr σ H s)(g:DGet H a y o)(ry:RelV y u)(h:∀s',Inv X pr σ H s'->Q (.bool (!o.isSome)) s'):
  wpAny (model X.prog X.w) A (compareOp .NotIn u (.ref a)) Q E s:=by
 rcases g with⟨GJ,k,e,ey,l⟩|⟨GJ,k,b,e,ey,eb,l⟩
 ·subst ey;obtain⟨z,hd,vs,rel,dd⟩:=uo I.hok e;refine wpAny_notIn_of (kV_is ry) hd dd.mapOf ?_;rw[<-(rel.val k).isSome_eq,<-l];exact h _ (I.tok _)
 ·subst ey;cases(show u=Value.ref b from ry);obtain⟨z,hd,xs,rel,dd⟩:=uq I.hok e;refine wpAny_notIn_heap (WA hu) (og I.hok eb) hd dd ?_;have q:=(rel.val k).isSome_eq;rw[Xx]at q;rw[<-q,<-l];exact h _ (I.tok _)
theorem uu{h':Heap}{t':Nat}{ob:HO}(I:Inv X pr σ H s)(mu:Pq (H a))(hs:Heap.SameBut a s.heap h')(he:∃q,h'.get? a=some q)(new:ObjOk X.prog X.w (upd H a ob) h' a ob):
  Inv X pr σ (upd H a ob) {s with heap:=h',toks:=t'}:=
 I.write (x:=a) (e:=a) mu (.inl rfl) (fun b q hb z=>(hs.2 b hb).trans z) he new
theorem B2{P:Program}{w:World}{H':Hp}{h':Heap}{GJ:List (Key×V)}{vs:List (Key×Value)}(z:GJ.length<=sizeLine)(hd:(a==sysModules)=false)(rel:KV GJ vs)(dd:h'.DictOf (mixKind P w) a vs):
  ObjOk P w H' h' a (.dK GJ):=⟨z,hd,vs,rel,dd⟩
theorem uv{H':Hp}{Q:Unit->Shared->Prop}(hu:A.units+1<cLine)(I:Inv X pr σ H s)(g:DPut H a y v H')(ry:RelV y u)(rv:RelV v r)(h:∀s',Inv X pr σ H' s'->Q () s'):
  wpAny (model X.prog X.w) A (setItem (.ref a) u r) Q E s:=by
 rcases g with⟨GJ,k,e,ey,l,eH⟩|⟨GJ,k,b,e,ey,eb,l,eH⟩
 ·subst ey eH;obtain⟨z,hd,vs,rel,dd⟩:=Ed I.hok e;have hz:vs.length<=sizeLine:=by rw[<-rel.length];exact z
  have hl:(ly GJ k v).length<=sizeLine:=by have:=kj GJ k v;lia
  refine wpAny_setItem_pairs (hsz:=hz) (kV_is ry) dd fun h' O9 hs=>h _ ?_
  have he:∃q,h'.get? a=some q:=let⟨q,_,_,hq,_⟩:=O9;⟨q,hq⟩
  exact uu I (by rw[e];exact True.intro) hs he (B2 hl hd (rel.put k rv) O9)
 ·subst ey eH;cases(show u=Value.ref b from ry);obtain⟨z,hd,xs,rel,dd⟩:=Ee I.hok e;have hz:xs.length<=sizeLine:=by rw[<-WY rel];exact z
  have hl:(ly GJ k v).length<=sizeLine:=by have:=kj GJ k v;lia
  refine wpAny_setItem_heap (hsz:=hz) (WA hu) (og I.hok eb) dd fun h' O9 hs=>h _ ?_
  obtain⟨q,es,ep,hq,h2,h3,h4,_,h5⟩:=O9;refine uu I (by rw[e];exact True.intro) hs ⟨q,hq⟩ ⟨hl,hd,_,(rel.put k eb rv).keeps fun c ys ec=>?_,q,es,ep,hq,h2,h3,h4,h5⟩;rw[ak (DK ec e (fun z=>nomatch z))];exact ec
end
section
variable{X:Cx}{pr:List (Addr×Obj)}{σ:St}{H:Hp}{s:Shared}{a:Addr}{GJ:List (Key×V)}{k:Key}{u:Value}{A:Around}{E:Value->Shared->Prop}
end
def NoSl(i:Expr):Prop:=∀ov iv,subscripted i false ov iv=operate [ov,iv] (getItem ov iv)
theorem zU{prog:Program}{w:World}{A:Around}{E:Value->Shared->Prop}{s:Shared}{env:Env}{value slice:Expr}{pos:Pos}{T id:String}{Q:Value->Shared->Prop}
  (hl:typeLookup (.type T) "__getitem__" = pure (some (.builtin id))) (hs:NoSl slice)
  (h:wpAny (model prog w) A (eval value env) (fun o s₁=>wpAny (model prog w) A (eval slice env) (fun i s₂=>s₂.TypeIs o T/\wpAny (model prog w) A (getItem o i) Q E s₂) E s₁) E s):
  wpAny (model prog w) A (eval (.Subscript value slice pos) env) Q E s:=by
 refine Subscript_ (Wd h (fun o s₁ h₁=>Wd h₁ (fun i s₂ h₂=>?_) fun _ _ x=>x) fun _ _ x=>x);obtain⟨hT,h₂⟩:=h₂;unfold subscriptTail;refine Tf ?_;rw[getitemInPython_of_ne hT.not_modules];refine Tf (X9 hT hl ?_);have fin:wpAny (model prog w) A (subscripted slice false o i) (fun r s₃=>wpAny (model prog w) A (letTemporaryGo value o r >>= fun _=>pure r) Q E s₃) E s₂:=by
  rw[hs o i];exact wpAny_operating (Wd h₂ (fun r s₃ h₃=>Tf (wpAny_letTemporaryGo (Tu h₃))) fun _ _ x=>x)
 first
  |exact Tu (Tf fin)
  |exact Tf (Tu (Tf fin))
  |exact Tf fin
theorem pJ{X:Cx}{pr:List (Addr×Obj)}{σ:St}{H:Hp}{s:Shared}{a:Addr}{y:V}{o:Option V}(I:Inv X pr σ H s)(g:DGet H a y o):s.TypeIs (.ref a) "dict":=by
 rcases g with⟨GJ,k,e,_,_⟩|⟨GJ,k,b,e,_,_,_⟩
 ·obtain⟨_,_,vs,_,dd⟩:=uo I.hok e;exact dd.typeIs
 ·obtain⟨_,_,xs,_,dd⟩:=uq I.hok e;exact dd.typeIs
def Ef(td ty:TE):TE:=fun σ H Q=>td σ H fun x H1=>ty σ H1 fun y H2=>∃a v,x=.ref a/\DGet H2 a y (some v)/\Q v H2
def Eg(td ty tv:TE):TS:=fun D σ H=>tv σ H fun v H1=>td σ H1 fun x H2=>ty σ H2 fun y H3=>∃a H4,x=.ref a/\DPut H3 a y v H4/\D.nx σ H4
section
variable{X:Cx}{o i e value:Expr}{pos pos' NV:Pos}{td ty tv:TE}
theorem zV(hu:X.A.units+1<cLine)(ho:PE X o td)(hi:PE X i ty)(hs:NoSl i):PE X (.Subscript o i pos) (Ef td ty):=by
 intro pr s σ H Q I h;refine zU PySem.F.slot_dict_getitem.lookup hs (Hf (ho pr s σ H _ I h) fun u s1 ⟨x,H1,I1,rx,q1⟩=>Hf (hi pr s1 σ H1 _ I1 q1) fun iv s2 Hc=>?_);obtain⟨y,H2,I2,ry,a,v,ex,g,q2⟩:=Hc;subst ex;obtain rfl:u=Value.ref a:=rx;exact⟨pJ I2 g,ur hu I2 g ry fun w' s3 I3 Lv=>⟨v,H2,I3,Lv,q2⟩⟩
theorem zW(hu:X.A.units+1<cLine)(ho:PE X o td)(hi:PE X i ty)(hv:PE X value tv)(hs:swapsWith value (some (.Subscript o i pos')) pos.line X.env=pure false):
  PS X (.Assign [.Subscript o i pos'] value pos) (Eg td ty tv):=by
 intro pr s σ H D I h;refine wpAny_Assign_Subscript (Hf (hv pr s σ H _ I h) fun r s1 ⟨v,H1,I1,rv,q1⟩=>Hf (ho pr s1 σ H1 _ I1 q1) fun u s2 ⟨x,H2,I2,rx,q2⟩=>Hf (hi pr s2 σ H2 _ I2 q2) fun iv s3 ⟨y,H3,I3,ry,a,H4,ex,g,q3⟩=>?_) hs;subst ex;obtain rfl:u=Value.ref a:=rx;exact uv hu I3 g ry rv fun s4 I4=>⟨σ,H4,I4,q3⟩
end
theorem dk_empty{P:Program}{w:World}{H:Hp}(h:Heap)(hb:sysModules<h.objs.size):ObjOk P w H (h.push {cls:=.type "dict",data:=.dict #[]}) h.objs.size (.dK []):=
 ⟨Ut _,T4.mpr (Vd (TH hb)),[],.nil,Heap.DictOf.new h⟩
def B3:TE:=fun _ H Q=>∀p,H p=none->Q (.ref p) (upd H p (.dK []))
section
variable{X:Cx}{pos:Pos}
theorem xi:PE X (.Dict [] [] pos) B3:=fun pr s σ H Q I h=>
 wpAny_Dict_empty ⟨.ref s.heap.objs.size,_,I.laid (a:=s.heap.objs.size) (o:=.dK []) (t':=s.toks) (fun _ _ q=>Th _ q) (Tz _) (dk_empty s.heap I.big),rfl,h _ (I.hok.fresh (Tz _))⟩
end
section
variable{X:Cx}{pr:List (Addr×Obj)}{σ:St}{H:Hp}{s:Shared}{a:Addr}{y d:V}{u r:Value}{o:Option V}{A:Around}{E:Value->Shared->Prop}
end
section
variable{X:Cx}{o e f:Expr}{apos Hs:Pos}{td ty tx:TE}
end
section
variable{X:Cx}{pr:List (Addr×Obj)}{σ:St}{H:Hp}{s:Shared}{a:Addr}{GJ:List (Key×V)}{A:Around}{E:Value->Shared->Prop}
end
section
variable{X:Cx}{pr:List (Addr×Obj)}{σ:St}{H:Hp}{s:Shared}{a:Addr}{y:V}{u:Value}{A:Around}{E:Value->Shared->Prop}
end
section
variable{κ:Type}[DecidableEq κ]
end
end L2
namespace NX
open PySem PySem.Spec PyProof.Rows L2
def RawD(h:Heap)(d:Addr)(es:Array DictEntry)(ep:Nat):Prop:=∃o,h.get? d=some o/\o.ExactDict/\o.data=.dict es ep
theorem RawD.at{h h':Heap}{d:Addr}{es:Array DictEntry}{ep:Nat}(x:RawD h d es ep)(e:∀o,h.get? d=some o->h'.get? d=some o):RawD h' d es ep:=by
 obtain⟨o,g,r⟩:=x;exact⟨o,e o g,r⟩
section
variable{prog:Program}{w:World}{A:Around}{E:Value->Shared->Prop}{s:Shared}{d it:Addr}{es:Array DictEntry}{ep i:Nat}
theorem jZ(x:RawD s.heap d es ep):s.TypeIs (.ref d) "dict":=by
 obtain⟨o,g,ex,_⟩:=x;exact⟨o,g,ex.1⟩
theorem xj{Q:Value->Shared->Prop}(nm:(d==sysModules)=false)(x:RawD s.heap d es ep)
  (q:Q (.ref s.heap.objs.size) {s with heap:=s.heap.push {cls:=.type "dict_keyiterator",data:=.fields #[.ref d,.int 0 0,.int es.size 0,.int ep 0]}}):wpAny (model prog w) A (pyIter (.ref d)) Q E s:=by
 have ty:=jZ x;obtain⟨o,g,ex,dat⟩:=x;refine wpAny_pyIter_slot ty F.slot_dict_iter (UO F.slot_dict_iter ty F.entry_dict_iter (Tf ?_) (F.args_dict_iter_1 _));refine Tf (wpAny_notOrdered_dict ty (Tu ?_));show wpAny _ _ (Builtin.Dict.showsAll d >>= fun _=>_) _ _ s;have ns:Builtin.Dict.showsAll d=pure ():=by
  unfold Builtin.Dict.showsAll;rw[nm];rfl
 rw[ns];refine Tf (Tu (Tf (WK g dat (Tf (Ya g dat (Tf (UH (Tu ⟨_,rfl,"dict_keyiterator",_,⟨_,TF _ rfl,rfl⟩,F.slot_dict_keyiterator_next.lookup,?_⟩))))))));exact q
theorem xk{Q:Option Value->Shared->Prop}{e:DictEntry}(hit:s.heap.IsKeyIter it d i es.size ep)(x:RawD s.heap d es ep)(hx:es[i]?=some e)
  (q:∀h',h'.IsKeyIter it d (i+1) es.size ep->Heap.SameBut it s.heap h'->Q (some e.key) {s with heap:=h'}):wpAny (model prog w) A (pyNext (.ref it)) Q E s:=by
 have ti:=hit.typeIs;obtain⟨o,g,oc,od⟩:=hit;obtain⟨ob,gd,_,dat⟩:=x;have Hx:i<es.size:=(Array.getElem?_eq_some_iff.mp hx).1;unfold pyNext;refine Tf (XG (Uv (name:=Str.ofString "__next__") ti Vo (UO Vo ti WS
  (Tf (Tu (Tf (Tf ?_)))) (WO _))))
 refine Tf (Vn ti (Tu (Tf (wpAny_fieldsOf g od ?_))));have Lr:Builtin.Dict_items.ownsTuple "dict_keyiterator" = false:=by decide
 simp only[Lr,Vm,Wm];show wpAny _ _ (if(Value.ref d==Value.none)=true then _ else _) _ _ s;have nz:¬ ((Value.ref d==Value.none)=true):=TC;rw[Tv nz];refine Tf (Tu (Tf (WK gd dat ?_)));rw[Tv (by simp)];refine Tf (Tu (Tf (Ya gd dat ?_)));rw[Tv (by simp)];refine Tu ?_;simp only[Tv (show ¬ ((i:Int)<0) by lia),Uk,hx];refine Tf (Tf (Vn ti (Tu (Tf (wpAny_isOneOf_keyiter ti ?_)))));show wpAny _ _ (setField (.ref it) 1 (rawInt ((i:Int)+1)) >>= fun _=>_) _ _ s;refine Tf (Xq g od (by simp) ?_);have nx:(s.heap.update it (Obj.mapFields fun y=>y.setIfInBounds 1 (rawInt ((i:Int)+1)))).IsKeyIter it d (i+1) es.size ep:=
  ⟨_,V6 _ g (Obj.isFreed_of_fields (Wz od _)),(Obj.cls_mapFields ..).trans oc,(Wz od _).trans (by simp[rawInt])⟩
 refine Tf (VP (Tf (wpAny_isOneOf_keyiter (s:={s with heap:=s.heap.update it (Obj.mapFields fun y=>y.setIfInBounds 1 (rawInt ((i:Int)+1)))}) nx.typeIs ?_)));show wpAny _ _ (pure e.key) _ _ _;exact Tu (Tu ⟨_,rfl,Tu (q _ nx (Wo ..))⟩)
theorem zX{Q:Option Value->Shared->Prop}(hh:A.handled=none)(hit:s.heap.IsKeyIter it d i es.size ep)(x:RawD s.heap d es ep)(hx:es[i]?=none)
  (q:∀h',Heap.ExtBut it s.heap h'->Q none {s with heap:=h'}):wpAny (model prog w) A (pyNext (.ref it)) Q E s:=by
 have ti:=hit.typeIs;obtain⟨o,g,oc,od⟩:=hit;obtain⟨ob,gd,_,dat⟩:=x;unfold pyNext;refine Tf (XG (Uv (name:=Str.ofString "__next__") ti Vo (UO Vo ti WS
  (Tf (Tu (Tf (Tf ?_)))) (WO _))))
 refine Tf (Vn ti (Tu (Tf (wpAny_fieldsOf g od ?_))));have Lr:Builtin.Dict_items.ownsTuple "dict_keyiterator" = false:=by decide
 simp only[Lr,Vm,Wm];show wpAny _ _ (if(Value.ref d==Value.none)=true then _ else _) _ _ s;have nz:¬ ((Value.ref d==Value.none)=true):=TC;rw[Tv nz];refine Tf (Tu (Tf (WK gd dat ?_)));rw[Tv (by simp)];refine Tf (Tu (Tf (Ya gd dat ?_)));rw[Tv (by simp)];refine Tu ?_;simp only[Tv (show ¬ ((i:Int)<0) by lia),Uk,hx];refine Tf (Tf (Vn ti (Tu ?_)));show wpAny _ _ (setField (.ref it) 0 .none >>= fun _=>_) _ _ s;refine Tf (Xq g od (by simp) ?_);show wpAny _ _ (newExc (.type "StopIteration") [] >>= fun _=>_) _ _ _;refine Tf ?_;simp only[newExc,newTuple];refine Tf (UH (Tf (m:=firstArgMember _ _) (wpAny_of_eq (a:=Value.none) (by first|rfl|(simp only[firstArgMember];rfl)) (UH ?_ (by size_fits)))) (by size_fits));simp only[raiseNew];refine Tf (wpAny_handled ?_);rw[show A.in1.handled=none from hh];refine Tf (Tu (wpAny_throw ?_));refine Tf (XQ (b:=true) (T:="StopIteration") ⟨_,TF _ rfl,rfl⟩ isSubtype_stop ?_);exact Tu (q _ (((Wo ..).extBut.push _).push _))
theorem uw(hh:A.handled=none)(I:Addr)(ne:d≠I):Walks prog w A I [I,d] [I] es.size (fun i v=>∃e,es[i]?=some e/\v=e.key) (fun i h=>h.IsKeyIter I d i es.size ep/\RawD h d es ep) where
 sub:=fun b hb=>by
  rw[T9]at hb;rw[hb];exact Tg
 frame:=fun _ _ _ st hk=>⟨st.1.at fun o e=>hk I Tg o e,st.2.at fun o e=>hk d (Tn _ Tg) o e⟩
 item:=fun i s Q E hi st hQ=>by
  refine xk st.1 st.2 (Xr hi) fun h' it' sb=>?_
  exact hQ _ h' s.toks ⟨_,Xr hi,rfl⟩ ⟨it',st.2.at fun o e=>sb.extBut d o ne e⟩ fun b o hb e=>sb.extBut b o (fun z=>hb (by rw[z];exact Tg)) e
 done:=fun s Q E st hQ=>zX hh st.1 st.2 (Array.getElem?_eq_none (Tz _)) fun h' ext=>hQ h' s.toks fun b o hb e=>ext b o (fun z=>hb (by rw[z];exact Tg)) e
 self:=fun _ _ _ _ st hQ=>wpAny_pyIter_keyiter st.1 hQ
theorem zY(nm:(d==sysModules)=false):PySem.W.KdlSrc prog w "dict" d d es.size (fun i v=>∃e,es[i]?=some e/\v=e.key) (fun h=>RawD h d es ep) where
 type:=fun _ x=>jZ x
 there:=fun _ x=>by
  obtain⟨o,g,_⟩:=x;exact⟨Tt g,Tt g⟩
 keep:=fun _ _ x hk=>x.at fun o e=>hk d (.inl rfl) o e
 notList:=by decide
 notTuple:=by decide
 hint:=fun _ _ _ _ x q=>PySem.W.kdl_hint_dict (jZ x) q
 iter:=fun _ s hh x=>⟨_,_,(fun _ _ q=>xj nm x q),uw hh _ (by obtain⟨o,g,_⟩:=x;exact TH (Tt g)),⟨⟨_,TF _ rfl,rfl,rfl⟩,x.at fun o e=>Th _ e⟩⟩
end
end NX
namespace NX
open PySem PySem.W PySem.Spec PyProof.Rows L2
section
variable{prog:Program}{w:World}{A:Around}{E:Value->Shared->Prop}{s:Shared}
theorem si{O:KeyOrd}{key:Nat->O.α}{kd:SortKind}{l:Addr}{vs:List Value}{Q:Value->Shared->Prop}
  (hcol:∀Q':List Value->Shared->Prop,(∀h' tk,(∀b o,s.heap.get? b=some o->h'.get? b=some o)->Q' vs {s with heap:=h',toks:=tk})->wpAny (model prog w) A.in1 (collect (.ref l)) Q' E s) (Lz:vs.length<64)
  (JH:2<=vs.length->∀(A':Around) (E':Value->Shared->Prop) (s':Shared),(∀b o,s.heap.get? b=some o->s'.heap.get? b=some o)->∀Q:SortKind->Shared->Prop,Q kd s'->wpAny (model prog w) A' (keyKind' vs.toArray) Q E' s')
  (L5:∀i j,i<vs.length->j<vs.length->∀s':Shared,(∀b o,s.heap.get? b=some o->s'.heap.get? b=some o)->∀C:Bool->Shared->Prop,C (O.blt (key i) (key j)) s'->kas_ask prog w A.in1.in1 kd vs i j C s')
  (h:∀(p:Array Nat) (h5 h':Heap) (tk e:Nat),POk vs.length p->bj key p vs.length->(∀b o,s.heap.get? b=some o->h5.get? b=some o)->(∀b o,h5.get? b=some o->h'.get? b=some o)->h'.get? h5.objs.size=some (seqObj "list" (List.toArray (p.toList.map fun i=>vs.getD i .none)) e)->Q (.ref h5.objs.size) {s with heap:=h',toks:=tk}):
  wpAny (model prog w) A (call (.builtin "sorted") [.ref l]) Q E s:=by
 refine Wj kind_sorted plain_sorted entry_sorted (args_sorted1 _) ?_;unfold Builtin.«sorted»;refine Tf (m:=checkCount "sorted" 1 1 _) (Tu (Tf (hcol _ fun h5 tk k5=>?_)));refine Tf (YM ?_ (by rw[UB];lia));have k6:∀b o,s.heap.get? b=some o->(h5.push (seqObj "list" vs.toArray 0)).get? b=some o:=fun b o e=>Th _ (k5 b o e)
 have hL:(h5.push (seqObj "list" vs.toArray 0)).get? h5.objs.size=some (seqObj "list" vs.toArray 0):=TF _ rfl;have So:∀b o,s.heap.get? b=some o->b<h5.objs.size:=fun b o e=>Tt (k5 b o e)
 show wpAny _ _ _ _ _ {s with heap:=h5.push (seqObj "list" vs.toArray 0),toks:=tk};refine Tf (VP (UO slot_list_sort ⟨_,hL,rfl⟩ entry_list_sort (iw (key:=key) (kd:=kd) hL Lz (fun h2 h' kk Q' q=>JH h2 _ _ _ (fun b o e=>kk b o (TH (So b o e)) (k6 b o e)) Q' q)
  (fun i j hi hj h' kk C q=>L5 i j hi hj _ (fun b o e=>kk b o (TH (So b o e)) (k6 b o e)) C q) fun p h' hp hs ⟨e,he⟩ kk=>⟨_,rfl,?_⟩) (args_list_sort _)))
 exact Tu ⟨_,rfl,h p h5 h' tk e hp hs k5 (fun b o q=>kk b o (TH (Tt q)) (Th _ q)) he⟩
end
section
variable{X:Cx}{pr:List (Addr×Obj)}{σ:L2.St}{H:Hp}{s:Shared}
theorem zZ{H:Hp}{GJ:List (List Key×V)}{xs:List (List Key×Addr×Value)}(r:KT H GJ xs):xs.map (·.1)=GJ.map (·.1):=by
 induction r with
 |nil=>rfl
 |cons hq _ ih=>rw[TU,TU,ih,hq.1]
theorem Eh{H:Hp}{GJ:List (List Key×V)}{xs:List (List Key×Addr×Value)}(r:KT H GJ xs):∀y∈xs,H y.2.1=some (.tup (y.1.map kV)):=by
 induction r with
 |nil=>exact fun y hy=>nomatch hy
 |cons hq _ ih=>
  intro y hy;rcases Tw.mp hy with rfl|hy
  ·rw[<-hq.1];exact hq.2.1
  ·exact ih y hy
theorem z4(I:Inv X pr σ H s){a:Addr}{GJ:List (List Key×V)}(h:Rd H a (.dT GJ)):(a==sysModules)=false/\∃(al:List (Addr×List Key)) (es:Array DictEntry) (ep:Nat),
  RawD s.heap a es ep/\es.toList.map (·.key)=al.map (fun x=>Value.ref x.1)/\al.map (·.2)=GJ.map (·.1)/\∀x∈al,H x.1=some (.tup (x.2.map kV)):=by
 obtain⟨_,nm,xs,r,o,es,ep,h1,h2,h3,h4,_⟩:=h.ok I.hok;refine⟨nm,xs.map fun x=>(x.2.1,x.1),es,ep,⟨o,h1,h2,h3⟩,?_,?_,?_⟩
 ·rw[h4,TL,TL];rfl
 ·rw[TL];exact zZ r
 ·intro x hx;obtain⟨y,hy,rfl⟩:=UJ.mp hx;exact Eh r y hy
theorem lz(hc:X.calm=true):dB X (.builtin "sorted") (fun vs H Q=>∃(p:Addr) (GJ:List (List Key×V)) (top:Bool) (t:List Bool),vs=[.ref p]/\Rd H p (.dT GJ)/\(∀kv∈GJ,kinds kv.1=top::t)/\GJ.length<64/\
  ∀(D:Addr) (ms:List (Addr×List Key)),H D=none->(∀a∈ms,H a.1=some (.tup (a.2.map kV)))->(ms.map (·.2)).Perm (GJ.map (·.1))->ms.Pairwise (fun a b=>eI b.2 a.2=false)->Q (.ref D) (upd H D (.lst (ms.map fun a=>V.ref a.1)))):=by
 intro pr s σ H vs us Q I r h;obtain⟨p,GJ,top,kt,rfl,hp,hk,Lz,q⟩:=h;obtain⟨u,rfl,r1⟩:=hJ r;cases r1;obtain⟨nm,al,es,ep,raw,L6,QV,Od⟩:=z4 I hp;have JK:al.length=GJ.length:=by
  have:=UQ List.length QV;simpa using this
 have Lh:∀a∈al,SqT X.K H a.1 (a.2.map kV)/\kinds a.2=top::kt:=fun a ha=>by
  refine⟨SqT.of (Od a ha),?_⟩;have:a.2∈GJ.map (·.1):=by rw[<-QV];exact UJ.mpr ⟨a,ha,rfl⟩
  obtain⟨kv,K4,e⟩:=UJ.mp this;rw[<-e];exact hk kv K4
 have rv:Vals (al.map fun a=>V.ref a.1) (al.map fun a=>Value.ref a.1):=by
  clear L6 QV Od JK Lh;induction al with
  |nil=>exact .nil
  |cons a al ih=>exact .cons rfl ih
 have hl:(al.map fun a=>Value.ref a.1).length=al.length:=Tr ..;refine si (O:=DA) (key:=fun i=>(al.getD i (0,[])).2) (kd:=tuples' true) (vs:=al.map fun a=>Value.ref a.1) (fun Q' hq=>?_) (by lia) (fun h2 A' E' s' kk Q' q'=>?_) (fun i j hi hj s' kk C q'=>?_) fun pp h5 h' tk e Jk hs k5 k' he=>?_
 ·refine kdu_collect (zY nm) (I.ok.hd hc) raw (by have:=UQ List.length L6;simp only[Tr,UZ]at this;rw[UB];lia) fun h' tk acc kk IP=>?_
  have ea:acc.toList=al.map fun a=>Value.ref a.1:=by
   rw[<-L6];apply WJ;intro j;rw[TV,V7,V7];cases hj:acc[j]? with
   |none=>
    have:es[j]?=none:=by
     rw[Array.getElem?_eq_none_iff]at hj ⊢;rw[<-IP.1];exact hj
    rw[this];rfl
   |some v=>
    obtain⟨en,h1,h2⟩:=IP.2 j v hj;rw[h1,h2];rfl
  have:=hq h' tk kk;rw[<-ea]at this;exact this
 ·obtain⟨fs,t1,t2,t3⟩:=qA (h':=s'.heap) I kk top rv fun a ha=>⟨(Lh a ha).1,kt,(Lh a ha).2⟩
  refine kat_kind (T:=.type (if top then "int" else "str")) t1 (by lia) (fun v hv=>t3 v hv _) (by simp) ?_;have:((Value.type (if top then "int" else "str")) != Value.type "tuple")=true:=by cases top <;> decide
  rw[this];exact q'
 ·unfold kas_ask;have Mx:i<al.length:=by lia
  have Ob:j<al.length:=by lia
  rw[mn rv Mx,mn rv Ob];have mi:al.getD i (0,[])∈al:=by rw[bK _ _ _ Mx];exact U9 _
  have mj:al.getD j (0,[])∈al:=by rw[bK _ _ _ Ob];exact U9 _
  obtain⟨u1,o1,n1,r1,g1,_,d1⟩:=nX I (Lh _ mi).1;obtain⟨u2,o2,n2,r2,g2,_,d2⟩:=nX I (Lh _ mj).1;have ek:kinds (al.getD i (0,[])).2=kinds (al.getD j (0,[])).2:=by rw[(Lh _ mi).2,(Lh _ mj).2]
  have el:u1.length=u2.length:=by
   have a1:=r1.length;have a2:=r2.length;have a3:=UQ List.length ek;simp only[kinds,Tr]at a1 a2 a3;lia
  refine kat_lt (kk _ _ g1) d1 (kk _ _ g2) d2 ?_;have ef:decide (u1.toArray.size<u2.toArray.size)=false:=by simp[el]
  rw[ef];exact ki _ _ _ _ 0 r1 r2 ek q'
 ·rw[hl]at Jk hs;have Oc:POk (al.map fun a=>V.ref a.1).length pp:=by rw[Tr];exact Jk
  have eo:sf pp (al.map fun a=>V.ref a.1)=(pp.toList.map fun i=>al.getD i (0,[])).map fun a=>V.ref a.1:=by
   unfold sf;rw[TL];refine TN fun i hi=>?_
   have hi:=TM.mp (Jk.perm.mem_iff.mp hi);show(al.map fun a=>V.ref a.1).getD i .non=V.ref (al.getD i (0,[])).1;rw[bK _ _ _ (by rw[Tr];exact hi),bK _ _ _ hi];simp
  have I5:Inv X pr σ H {s with heap:=h5,toks:=tk}:=I.kept k5;have hn:H h5.objs.size=none:=I5.hok.fresh (Tz _);refine⟨.ref h5.objs.size,_,iy (s:={s with heap:=h5,toks:=tk}) I5 k' (Tz _) he (jX rv Oc) ?_,rfl,?_⟩
  ·show(sf pp (al.map fun a=>V.ref a.1)).length<=sizeLine;rw[eo,Tr,Tr,Jk.perm.length_eq,TR,UB];lia
  ·rw[eo];have pm:=jW (0,[]) Jk;refine q _ _ hn (fun a ha=>Od a (pm.mem_iff.mp ha)) ?_ ?_
   ·rw[<-QV];exact pm.map _
   ·exact gO (O:=DA) (0,[]) (fun a:Addr×List Key=>a.2) Jk hs
end
end NX
namespace NX
open PySem PySem.Spec PyProof.Rows L2
section
open PySem.SeqAt
open PySem.AutoSeq1 (wpAny_loadPart')
open PySem.MeetsSeq PySem.MeetsSeq2 PySem.MeetsSeq3
theorem xl{A:Around}{s:Shared}{a c:Key}{u v:Value}(ra:RelV (kV a) u)(rc:RelV (kV c) v):EqAt A s u v (decide (a=c)):=by
 have h:=yq (A:=A) (s:=s) ra rc (jY a) (jY c);rw[um]at h;exact h
theorem xm{prog:Program}{w:World}{A:Around}{E:Value->Shared->Prop}{s:Shared}{Q:Value->Shared->Prop}{a c:Key}{u v:Value}(ra:RelV (kV a) u)(rc:RelV (kV c) v)(hk:a.isLeft=c.isLeft)(h:Q (.bool (qz.blt a c)) s):
  wpAny (model prog w) A (richCompare .Lt u v) Q E s:=by
 cases a with
 |inl i=>
  cases c with
  |inr _=>cases hk
  |inl j=>
   obtain⟨t,rfl⟩:=ra;obtain⟨t',rfl⟩:=rc;exact(PyProof.Rows.lt_int h:wpAny (model prog w) A (compareOp .Lt (.int i t) (.int j t')) Q E s)
 |inr x=>
  cases c with
  |inl _=>cases hk
  |inr y=>
   obtain⟨t,rfl⟩:=ra;obtain⟨t',rfl⟩:=rc;exact(PyProof.Rows.lt_str h:wpAny (model prog w) A (compareOp .Lt (.str x t) (.str y t')) Q E s)
theorem ux(a c:Key)(r t:List Key):eI (a::r) (c::t)=if a=c then eI r t else qz.blt a c:=rfl
theorem mv(l b:Addr)(items JN:Array Value)(n n2:Nat)(dd Mv:Option Addr)(sl Mw:Array (Option Value))(ks js:List Key)(hi:Vals (ks.map kV) items.toList)(hj:Vals (js.map kV) JN.toList)(hk:kinds ks=kinds js):
  Meets (Builtin.«tuple.__lt__» ⟨[.ref l,.ref b],[]⟩)
   (fun _ R s=>s.heap.get? l=some {cls:=.type "tuple",dict:=dd,data:=.seq items n,slots:=sl}/\s.heap.get? b=some {cls:=.type "tuple",dict:=Mv,data:=.seq JN n2,slots:=Mw}/\R (.ok (.ret (.bool (eI ks js)))) s):=
 .of_wp fun prog w A R s h=>by
  obtain⟨hp,g,d,tk,os⟩:=s;obtain⟨hl,hb,h⟩:=h;have f2:=AutoSeq1.sub_tuple_tuple;have z1:items.size=ks.length:=by have:=hi.length;simp at this;lia
  have z2:JN.size=js.length:=by have:=hj.length;simp at this;lia
  have z3:ks.length=js.length:=by have:=UQ List.length hk;simpa[kinds] using this
  wp_walk using wpAny_loadPart' hl,wpAny_loadPart' hb,wpAny_forIn_list _ (fun b7 b s'=>b.1=none/\s'=⟨hp,g,d,tk,os⟩/\∃(vs ws:List Value) (KW LB:List Key),b7=vs.zip ws/\
   Vals (KW.map kV) vs/\Vals (LB.map kV) ws/\kinds KW=kinds LB/\R (.ok (.ret (.bool (eI KW LB)))) ⟨hp,g,d,tk,os⟩) _
  case turn=>
   rintro⟨y,x⟩ b7 b s' ⟨Ry,rfl,vs,ws,KW,LB,hz,QX,Rz,LG,hR⟩;cases KW with
   |nil=>
    cases QX;rw[List.zip_nil_left]at hz;cases hz
   |cons a KW=>
    cases LB with
    |nil=>cases LG
    |cons c LB=>
     cases QX with
     | @cons _ va _ Kw ra hvi'=>
      cases Rz with
      | @cons _ vc _ PL rc hwi'=>
       rw[UT]at hz;injection hz with hyx hrest;injection hyx with hy hx;subst hy hx;have RA:a.isLeft=c.isLeft:=(W2 LG).1;have Li:kinds KW=kinds LB:=(W2 LG).2;rw[ux]at hR;have he:=xl (A:=A.in1) (s:=⟨hp,g,d,tk,os⟩) ra rc;refine Tf (he prog w _ _ ?_);by_cases hac:a=c
       ·rw[Tq hac]at hR;rw[T6 hac]
        wp_walk
        exact⟨rfl,rfl,_,_,_,_,hrest,hvi',hwi',Li,hR⟩
       ·rw[Tv hac]at hR;rw[T5 hac];have hri:=fun E Q=>xm (prog:=prog) (w:=w) (A:=A.in1) (E:=E) (s:=⟨hp,g,d,tk,os⟩) (Q:=Q) ra rc RA
        wp_walk using hri
        exact⟨_,rfl,by simpa using hR⟩
  case fin=>
   rintro⟨b1,b2⟩ s' ⟨Ry,rfl,vs,ws,KW,LB,hz,QX,Rz,LG,hR⟩;simp only at Ry;subst Ry;have hv:eI KW LB=decide (items.size<JN.size):=by
    cases KW with
    |nil=>
     cases LB with
     |nil=>exact(T5 (by lia)).symm
     |cons c LB=>cases LG
    |cons a KW=>
     cases LB with
     |nil=>cases LG
     |cons c LB=>
      cases QX;cases Rz;rw[UT]at hz;cases hz
   rw[hv]at hR
   wp_walk
   exact⟨_,rfl,by simpa[Builtin.Tuple.tupleCompareSizes] using hR⟩
  case h=>
   exact⟨rfl,rfl,items.toList,JN.toList,ks,js,rfl,hi,hj,hk,h⟩
end
section
variable{X:Cx}
def Gh(K:W.Frag)(neg:Bool):R2:=fun x y H Q=>∃a b ks js,x=.ref a/\y=.ref b/\SqT K H a (ks.map kV)/\SqT K H b (js.map kV)/\kinds ks=kinds js/\Q (.bl (if neg then !eI ks js else eI ks js)) H
theorem B4(hu:X.A.units<cLine):HG X (compareOp .Lt) (Gh X.K false):=by
 intro pr s σ H x y v u Q I rx ry h;obtain⟨a,b,ks,js,rfl,rfl,ha,hb,hk,q⟩:=h;cases rx;cases ry;obtain⟨GO,r1,p1,_⟩:=I.tuple ha;obtain⟨Lu,r2,p2,_⟩:=I.tuple hb;obtain⟨⟨cls,dd,data,sl⟩,ho,hc,n,hd⟩:=id p1;obtain⟨⟨NW,Mv,data2,Mw⟩,IW,LY,n2,hd2⟩:=id p2;simp only at hc hd LY hd2;subst hc hd LY hd2;exact richCompare_meets_room (op:=.Lt) ⟨_,ho,rfl⟩ ⟨_,IW,rfl⟩ PySem.F.slot_tuple_lt PySem.F.entry_tuple_lt (PySem.F.args_tuple_lt_2 _ _) (mv a b _ _ n n2 dd Mv sl Mw ks js (by simpa using r1) (by simpa using r2) hk)
  ⟨ho,IW,show Value.bool (eI ks js)≠Value.notImplemented/\EP X pr σ Q (.bool (eI ks js)) s from⟨(fun x=>nomatch x),⟨.bl (eI ks js),H,I,rfl,q⟩⟩⟩ hu
end
section
variable{prog:Program}{w:World}{A:Around}{E:Value->Shared->Prop}{s:Shared}
end
theorem wp_blockEnv{M:Model}{A:Around}{E:Value->Shared->Prop}{s:Shared}{scope:Scope}{globals:Addr}{cl:List (Str×Addr)}{qual:Str}{outer:Env}{Q:Env->Shared->Prop}
  (hQ:Q (newEnv scope s.heap.objs.size globals (cellsFrom (s.heap.objs.size+1) scope.names cl) qual none .none (some outer) builtinsNs) {s with heap:=pushCells (s.heap.push {cls:=.type "dict",data:=.dict #[]}) scope.names}):
  wpAny M A (newFunctionEnv scope globals cl [] qual none .none (some outer)) Q E s:=by
 simp only[newFunctionEnv,YQ,Va];refine Tf (wpAny_alloc ?_);refine Tf (wpAny_layCells _ (fun name kind cells=>by cases hkc:kind==NameKind.cell <;> simp[hkc]) _ _ _ _ ?_);rw[show({s with heap:=s.heap.push {cls:=.type "dict",data:=.dict #[]}}:Shared).heap.objs.size=s.heap.objs.size+1 from UA ..];refine Tf ?_;rw[Yt];exact Tu (Tu hQ)
theorem j0{x:Str}{c:Addr}:∀(nY:List (Str×NameKind)) (h:Heap) (acc:List (Str×Addr)),(cellsFrom h.objs.size nY acc).lookup x=some c->acc.lookup x=some c\/(h.objs.size<=c/\(pushCells h nY).IsCell c none)
 |[],_,_,e=>.inl e
 |(name,kind)::r,h,acc,e=>by
  unfold cellsFrom at e;unfold pushCells;split at e
  ·rename_i hk;rw[Tq hk];have sz:h.objs.size+1=(h.push {cls:=.type "cell",data:=.cell none}).objs.size:=(UA ..).symm;rw[sz]at e;rcases j0 r _ _ e with e|⟨e1,e2⟩
   ·rw[Uc]at e;cases hx:x==name with
    |true=>
     rw[hx]at e;cases e;exact .inr ⟨Tz _,_,Yc r _ _ _ (TF _ rfl),rfl⟩
    |false=>
     rw[hx]at e;exact .inl e
   ·rw[<-sz]at e1;exact .inr ⟨Wf e1,e2⟩
  ·rename_i hk;rw[Tv hk];exact j0 r h acc e
theorem uy:∀(nY:List (Str×NameKind)) (n:Nat) (acc:List (Str×Addr)),(∀x y c,acc.lookup x=some c->acc.lookup y=some c->x=y)->(∀x c,acc.lookup x=some c->c<n)->
  ∀x y c,(cellsFrom n nY acc).lookup x=some c->(cellsFrom n nY acc).lookup y=some c->x=y
 |[],_,_,h,_=>h
 |(name,kind)::r,n,acc,h,hl=>by
  unfold cellsFrom;split
  ·refine uy r (n+1) ((name,n)::acc) (fun x y c e1 e2=>?_) (fun x c e=>?_)
   ·rw[Uc]at e1 e2;cases hx:x==name with
    |true=>
     rw[hx]at e1;cases e1;cases hy:y==name with
     |true=>exact(Ul.mp hx).trans (Ul.mp hy).symm
     |false=>
      rw[hy]at e2;exact absurd (hl y _ e2) (UL _)
    |false=>
     rw[hx]at e1;cases hy:y==name with
     |true=>
      rw[hy]at e2;cases e2;exact absurd (hl x _ e1) (UL _)
     |false=>
      rw[hy]at e2;exact h x y c e1 e2
   ·rw[Uc]at e;cases hx:x==name with
    |true=>rw[hx]at e;cases e;exact UE _
    |false=>rw[hx]at e;exact WG (hl x c e)
  ·exact uy r n acc h hl
theorem uz{x:Str}:∀(nY:List (Str×NameKind)) (n:Nat) (acc:List (Str×Addr)),((∃d,acc.lookup x=some d)\/(x,NameKind.cell)∈nY)->∃d,(cellsFrom n nY acc).lookup x=some d
 |[],_,_,h=>h.elim id fun z=>nomatch z
 |(name,kind)::r,n,acc,h=>by
  unfold cellsFrom;split
  ·rename_i hk;refine uz r _ _ ?_;rw[Uc];cases hx:x==name with
   |true=>exact .inl ⟨_,rfl⟩
   |false=>
    rcases h with h|h
    ·exact .inl h
    ·rcases Tw.mp h with h|h
     ·cases h;rw[T8]at hx;cases hx
     ·exact .inr h
  ·rename_i hk;refine uz r _ _ ?_;rcases h with h|h
   ·exact .inl h
   ·rcases Tw.mp h with h|h
    ·cases h;exact absurd rfl hk
    ·exact .inr h
theorem uA{x:Str}{c:Addr}{lo:Nat}:∀(nY:List (Str×NameKind)) (n:Nat) (acc:List (Str×Addr)),((∀c,acc.lookup x=some c->lo<=c)\/(x,NameKind.cell)∈nY)->lo<=n->(cellsFrom n nY acc).lookup x=some c->lo<=c
 |[],_,_,h,_,e=>h.elim (fun h=>h c e) fun z=>nomatch z
 |(name,kind)::r,n,acc,h,hn,e=>by
  unfold cellsFrom at e;split at e
  ·refine uA r _ _ ?_ (Nat.le_succ_of_le hn) e;cases hx:x==name with
   |true=>exact .inl fun c e=>by rw[Uc,hx]at e;cases e;exact hn
   |false=>
    rcases h with h|h
    ·exact .inl fun c e=>by rw[Uc,hx]at e;exact h c e
    ·rcases Tw.mp h with h|h
     ·cases h;rw[T8]at hx;cases hx
     ·exact .inr h
  ·rename_i hk;refine uA r _ _ ?_ hn e;rcases h with h|h
   ·exact .inl h
   ·rcases Tw.mp h with h|h
    ·cases h;exact absurd rfl hk
    ·exact .inr h
theorem uB{x:Str}:∀(nY:List (Str×NameKind)) (n:Nat) (acc:List (Str×Addr)),(x,NameKind.cell)∉nY->(cellsFrom n nY acc).lookup x=acc.lookup x
 |[],_,_,_=>rfl
 |(name,kind)::r,n,acc,h=>by
  unfold cellsFrom;split
  ·rename_i hk;rw[uB r _ _ fun z=>h (Tn _ z),Uc];cases hx:x==name with
   |true=>
    refine absurd ?_ h;rw[Ul.mp hx,<-Ul.mp hk];exact Tg
   |false=>rfl
  ·exact uB r _ _ fun z=>h (Tn _ z)
theorem mw{scope:Scope}{env:Env}{x:Str}(h:(relabel scope env).names.lookup x=some .cell\/(relabel scope env).names.lookup x=some .free):(x,NameKind.free)∈scope.names\/(x,NameKind.cell)∈scope.names:=by
 unfold relabel at h;dsimp only at h;generalize scope.names=l at h;induction l with
 |nil=>rcases h with h|h <;> cases h
 |cons y l ih=>
  obtain⟨n,k⟩:=y;rw[TU]at h;dsimp only at h;have up:((x,NameKind.free)∈l\/(x,NameKind.cell)∈l)->(x,NameKind.free)∈(n,k)::l\/(x,NameKind.cell)∈(n,k)::l:=fun z=>z.imp (Tn _) (Tn _)
  by_cases cnd:(k==NameKind.free&&env.scope.kind==.function&&env.kindOf n==some .cell)=true
  ·rw[Tq cnd,Uc]at h;have kf:k=.free:=by
    have:(k==NameKind.free)=true:=by
     simp only[TJ]at cnd;exact cnd.1.1
    simpa using this
   cases hx:x==n with
   |true=>
    have:x=n:=by simpa using hx
    rw[this,kf];exact .inl Tg
   |false=>
    rw[hx]at h;exact up (ih h)
  ·rw[Tv cnd,Uc]at h;cases hx:x==n with
   |true=>
    rw[hx]at h;have:x=n:=by simpa using hx
    rw[this];rcases h with h|h
    ·rw[<-Ud h];exact .inr Tg
    ·rw[<-Ud h];exact .inl Tg
   |false=>
    rw[hx]at h;exact up (ih h)
noncomputable def bq(X:Cx)(scope:Scope)(N:List Str)(C:Addr)(s:Shared)(H:Hp)(fp:List Addr)(pn:List (Addr×Obj)):Cx:=
 {X with N:=N,s₀:=s,H₀:=H,env:=compEnvC scope (cellsFrom (C+1) scope.names (clOf scope X.env)) C X.env,outer:=X.stack,ex:=fp,fn:=fun x=>scope.names.lookup x==some .cell,pn:=pn,xe:=fun _ _=>False}
section
variable{X:Cx}{pr:List (Addr×Obj)}{σ:L2.St}{H:Hp}{s:Shared}{scope:Scope}{N:List Str}{ix:List (Option Nat)}{fp:List Addr}
theorem _root_.L2.Inv.blockK(I:Inv X pr σ H s)(hf:dE scope X.env=true)(hk:scope.kind=.function)(Hd:∀y∈scope.names,y.2=.cell->scope.names.lookup y.1=some .cell)(HX:nS X scope N ix=true)(fo:∀b∈fp,nF X pr H b)(fin:∀b∈fp,∃o,s.heap.get? b=some o)
  {h0:Heap}{t1:Nat}{D C:Addr}(hD:D=s.heap.objs.size) (hC:C=s.heap.objs.size+1) (hsz:h0.objs.size=C+1) (MI:∀b o,s.heap.get? b=some o->h0.get? b=some o) {n:Nat}(acc0:h0.get? D=some {cls:=.type "list",data:=.seq #[] n})
  {m:Str->Option Value}(ns0:h0.Ns C m):Inv (bq X scope N C s H fp (X.pn++pr)) [] (gw ix σ) (upd H D (.lst [])) {s with heap:=pushCells h0 scope.names,toks:=t1}:=by
 have kp:=Yc scope.names h0;have old:∀b o,s.heap.get? b=some o->(pushCells h0 scope.names).get? b=some o:=fun b o e=>kp b o (MI b o e)
 have HK:s.heap.objs.size<=C:=by rw[hC];exact Vh _
 have freshD:s.heap.objs.size<=D:=by rw[hD];exact Tz _
 have nD:H D=none:=I.hok.fresh freshD;have DC:D≠C:=by rw[hD,hC];exact TH (UE _)
 have Kz:∀b,H b=none->b≠D->upd H D (.lst []) b=none:=fun b n z=>by rw[ak z];exact n
 have MH:∀b o,s.heap.get? b=some o->b≠D:=fun b o e=>TH (Ts (Tt e) freshD)
 have Kv:∀b o,s.heap.get? b=some o->b≠C:=fun b o e=>TH (Ts (Tt e) HK)
 have cs:∀{x c},(cellsFrom (C+1) scope.names (clOf scope X.env)).lookup x=some c->X.env.cells.lookup x=some c\/(C+1<=c/\(pushCells h0 scope.names).IsCell c none):=fun{x c} e=>by
  rw[<-hsz]at e;rcases j0 scope.names h0 _ e with e|⟨e1,e2⟩
  ·exact .inl (fX I.ok hf e)
  ·exact .inr ⟨hsz▸e1,e2⟩
 have Rp:(bq X scope N C s H fp (X.pn++pr)).Ok:=by
  refine⟨I.ok.mod,hk,I.ok.glob,I.ok.blt,HK,fun x y c e1 e2=>?_,fun x hx=>?_,fun x c z e=>?_,I.ok.hd,I.ok.frames,.inl rfl,fun b hb=>?_,I.bs,?_,fun b o e hb=>?_,fun b hb hs=>?_,I.stack,I.stkFree⟩
  ·refine uy scope.names (C+1) (clOf scope X.env) (fun x y c e1 e2=>I.ok.inj x y c (fX I.ok hf e1) (fX I.ok hf e2)) (fun x c e=>?_) x y c e1 e2;obtain⟨v,q⟩:=I.cell x c (fX I.ok hf e);exact Ts q.lt (Ua HK (Vh _))
  ·refine uz scope.names (C+1) _ ?_;rcases mw hx with h|h
   ·obtain⟨c,e,_⟩:=ma I.ok hf h;exact .inl ⟨c,e⟩
   ·exact .inr h
  ·have z:(scope.names.lookup x==some NameKind.cell)=true:=z;have z:scope.names.lookup x=some .cell:=by simpa using z
   have:=uA (lo:=C+1) scope.names (C+1) _ (.inr (U0 z)) (Tz _) e;exact Ua HK (Wf this)
  ·obtain⟨f0,f1,f2,f3,f4,f5⟩:=fo b hb;obtain⟨o,ho⟩:=fin b hb;refine⟨?_,fun x c e=>?_⟩
   ·intro z;exact Kv b o ho z
   ·rcases cs e with e|⟨e1,_⟩
    ·exact f4 x c e
    ·intro z;subst z;exact absurd (Ts (Tt ho) (Ua HK (Wf e1))) (UL _)
  ·exact Ua I.ok.bsz I.sz
  ·obtain⟨f0,f1,f2,f3,f4,f5⟩:=fo b hb;rcases f3 with q|q
   ·exact I.ok.noex b o e q
   ·exact absurd (Ts (Tt e) (Ua I.ok.bsz q)) (UL _)
  ·obtain⟨f0,f1,f2,_⟩:=fo b hb;exact(Tw.mp (I.stkSub b hs)).elim f1 f2
 refine⟨Rp,rfl,I.bare,Un.laid old freshD nD,⟨m,ns0.keeps kp,fun i x v e1 e2 e3=>?_⟩,fun x c e=>?_,?_,fun x c e=>?_,fun p hp=>?_,I.hok.laid old freshD ⟨Ut _,[],n,.nil,kp _ _ acc0⟩,?_⟩
 ·have e2:(ix.map fun i=>i.bind fun i=>(σ[i]?).bind id)[i]?=some (some v):=e2;have e1:N[i]?=some x:=e1;unfold nS at HX;rw[TJ]at HX;rw[TV]at e2;cases q:ix[i]? with
  |none=>rw[q]at e2;cases e2
  |some o=>
   rw[q]at e2;have e2:(o.bind fun i=>(σ[i]?).bind id)=some v:=Ud e2;cases o with
   |none=>cases e2
   |some j=>
    have e2:(σ[j]?).bind id=some v:=e2;have hσ:σ[j]?=some (some v):=by
     cases w':σ[j]? with
     |none=>rw[w']at e2;cases e2
     |some y=>rw[w']at e2;exact UQ some e2
    have hz:(N.zip ix)[i]?=some (x,some j):=by
     rw[VG];exact⟨e1,q⟩
    have hy:=Us.mp HX.2 _ (U7 hz);simp only[TJ,Ul]at hy;have PH:(x,NameKind.free)∈scope.names:=U0 hy.2;obtain⟨c,c1,c2⟩:=ma I.ok hf PH;have nc:(x,NameKind.cell)∉scope.names:=fun z=>by
     have:=(Hd _ z rfl).symm.trans hy.2;cases this
    have c1:(cellsFrom (C+1) scope.names (clOf scope X.env)).lookup x=some c:=(uB _ _ _ nc).trans c1;have PJ:X.env.kindOf x=some .cell\/X.env.kindOf x=some .free:=by
     have:=Us.mp hf _ PH;simpa using this
    obtain⟨mo,N1,Lw⟩:=I.loc;obtain⟨u,r,l⟩:=Lw j x v hy.1 hσ (.inr PJ);refine⟨u,r,.inr ⟨jw hy.2,c,c1,?_⟩⟩;rcases l with⟨k1,_⟩|⟨_,c',e',LR⟩
    ·rcases PJ with k2|k2 <;> (rw[k1]at k2;cases k2)
    ·rw[c2]at e';cases e';obtain⟨o,ho,hd⟩:=LR;exact⟨o,old c o ho,hd⟩
 ·rcases cs e with e|⟨_,e2⟩
  ·obtain⟨v,q⟩:=I.cell x c e;exact⟨v,q.keeps old⟩
  ·exact⟨none,e2⟩
 ·exact Kz C (I.hok.fresh HK) (Vd DC)
 ·rcases cs e with e|⟨e1,_⟩
  ·obtain⟨v,o,ho,hd⟩:=I.cell x c e;exact Kz c (I.freeC x c e) (MH c o ho)
  ·refine Kz c (I.hok.fresh (Ua HK (Wf e1))) fun z=>?_
   subst z;rw[hD,hC]at e1;exact absurd (Ua (Vh _) e1) (Nat.not_succ_le_self _)
 ·have hp:p∈X.pn++pr:=by
   have:p∈(X.pn++pr)++[]:=hp
   rwa [Uo]at this
  obtain⟨e,nn,ne,nf,d⟩:=I.pin p hp;refine⟨old _ _ e,Kz _ nn (MH _ _ e),Kv _ _ e,fun z=>?_,d⟩;exact(Tw.mp (I.stkSub p.1 z)).elim ne nf
 ·unfold nS at HX;rw[TJ]at HX;have:N.length=ix.length:=by simpa using HX.1
  show(ix.map _).length=N.length;rw[Tr,this]
theorem _root_.L2.Inv.unblockK{C:Addr}{σ1:L2.St}{H1:Hp}{s1:Shared}{h2:Heap}(I:Inv X pr σ H s)(fo:∀b∈fp,nF X pr H b)(hC:s.heap.objs.size<=C)(J:Inv (bq X scope N C s H fp (X.pn++pr)) [] σ1 H1 s1)(hs:Heap.SameBut C s1.heap h2):
  Inv X pr σ H1 {s1 with heap:=h2}:=by
 have Kv:∀b o,s.heap.get? b=some o->b≠C:=fun b o e=>TH (Ts (Tt e) hC)
 have bb:Un (K0 X.stack) fp H H1 s.heap s1.heap:=J.base;have jf:H1 C=none:=J.free;refine I.call' (s':={s1 with heap:=h2}) (ch:=fp) J.os ⟨fun b o e n hb hx=>?_,fun b o e n hb hx=>?_,bb.free,fun b o e hx=>?_,bb.tups,bb.frzs,bb.tbls⟩ (fun b ob e=>?_) J.bare fun b hb=>?_
 ·exact(hs.2 b (Kv b o e)).trans (bb.keep b o e n hb hx)
 ·obtain⟨sl,q⟩:=bb.slot b o e n hb hx;exact⟨sl,(hs.2 b (Kv b o e)).trans q⟩
 ·obtain⟨o',q⟩:=bb.there b o e hx;exact⟨o',(hs.2 b (Kv b o e)).trans q⟩
 ·refine(J.hok b ob e).stay (fun c w' hc q=>(hs.2 c ?_).trans q) (fun _ q=>q) fun _ _ q=>q
  rintro rfl;rcases hc with rfl|hc
  ·rw[jf]at e;cases e
  ·rw[jf]at hc;cases hc
 ·obtain⟨f0,f1,f2,f3,f4,f5⟩:=fo b hb;exact⟨f3,f1,f4,f5⟩
end
section
variable{X:Cx}{scope:Scope}{N:List Str}{ix:List (Option Nat)}{tg iter elt:Expr}{ifs:List Expr}{pos:Pos}{wi:TI}{g:TG}{tc:TT}{te:TE}
theorem kn{pr:List (Addr×Obj)}{σ:L2.St}{H2:Hp}{s2:Shared}{J:It}{fp:List Addr}{it:Addr}{tn:Nat->Heap->Prop}{Q:VK}{RR:Value->Addr->Result->Shared->Prop}{E:Value->Shared->Prop}
  (hc:X.calm=true) (I2:Inv X pr σ H2 s2) (T:Turn X.prog X.w X.K tg J fp it tn) (GV:tn 0 s2.heap) (f2:∀b∈fp,nF X pr H2 b)
  (hg:∀C s H fp pn,PG (bq X scope N C s H fp pn) tg g) (ht:∀C s H fp pn,MG (bq X scope N C s H fp pn) ifs tc) (he:∀C s H fp pn,PE (bq X scope N C s H fp pn) elt te)
  (hf:dE scope X.env=true) (hk:scope.kind=.function) (Hd:∀y∈scope.names,y.2=.cell->scope.names.lookup y.1=some .cell) (HX:nS X scope N ix=true)
  (q:∀D,H2 D=none->∃W:Nat->Nat->L2.St->Hp->Prop,(∃m,W 0 m (gw ix σ) (upd H2 D (.lst [])))/\
   ∀i m σ1 H3,W i m σ1 H3->(J.stop i H3/\Q (.ref D) H3)\/(J.go i H3/\∀x H4,J.yld i H3 x H4->g x σ1 H4 fun σ2 H5=>tc σ2 H5 fun b H6=>if b=true then te σ2 H6 fun v H7=>
    ∃ys,H7 D=some (.lst ys)/\ys.length<sizeLine/\∃m',m'<m/\W (i+1) m' σ2 (upd H7 D (.lst (ys++[v]))) else ∃m',m'<m/\W (i+1) m' σ2 H6))
  (Rq:∀(D C:Addr) (σ1:L2.St) (H1:Hp) (s1:Shared),s2.heap.objs.size<=C->Inv (bq X scope N C s2 H2 fp (X.pn++pr)) [] σ1 H1 s1->Q (.ref D) H1->RR (.ref D) C (.ok .next) s1):
  wpAny (model X.prog X.w) X.A (newList []) (fun acc s₃=>wpAny (model X.prog X.w) X.A (newFunctionEnv scope X.env.globals (clOf scope X.env) [] X.env.qual none .none (some X.env)) (fun L4 s₄=>
   codeAny (model X.prog X.w) X.A (.compStart (.ListComp elt [⟨tg,iter,ifs,0⟩] scope pos) 0 (.ref it) acc {L4 with scope:=relabel scope X.env}) (RR acc L4.locals) s₄) E s₃) E s2:=by
 refine UH (wp_blockEnv ?_);dsimp only;generalize hH2:s2.heap.push {cls:=.type "list",dict:=none,data:=.seq ([]:List Value).toArray}=HH;have hC:HH.objs.size=s2.heap.objs.size+1:=by rw[<-hH2,UA]
 have Sl:s2.heap.objs.size≠HH.objs.size:=by rw[hC];exact TH (UE _)
 have Lx:s2.heap.objs.size<=HH.objs.size:=by rw[hC];exact Vh _
 have Kv:∀b o,s2.heap.get? b=some o->b≠HH.objs.size:=fun b o e=>TH (Ts (Tt e) Lx)
 have MI:∀b o,s2.heap.get? b=some o->(HH.push {cls:=.type "dict",data:=.dict #[]}).get? b=some o:=fun b o e=>Th _ (hH2▸Th _ e)
 have old:∀b o,s2.heap.get? b=some o->(pushCells (HH.push {cls:=.type "dict",data:=.dict #[]}) scope.names).get? b=some o:=fun b o e=>Yc _ _ b o (MI b o e)
 have IP:(HH.push {cls:=.type "dict",data:=.dict #[]}).get? s2.heap.objs.size=some {cls:=.type "list",data:=.seq #[] 0}:=Th _ (hH2▸TF _ rfl);obtain⟨W,⟨m0,w0⟩,turn⟩:=q s2.heap.objs.size (I2.hok.fresh (Tz _));have fin:∀b∈fp,∃o,s2.heap.get? b=some o:=fun b hb=>let⟨o,e,_⟩:=T.obj 0 _ GV b hb;⟨o,e⟩
 have JF:∀{H':Hp},(∀b∈fp,H' b=none)->∀b∈fp,nF (bq X scope N HH.objs.size s2 H2 fp (X.pn++pr)) [] H' b:=fun{H'} hn b hb=>by
  obtain⟨f0,f1,ff,f3,f4,f5⟩:=f2 b hb;refine⟨hn b hb,?_,fun z=>?_,.inl hb,fun x c e=>?_,fun p hp=>?_⟩
  ·intro z;have z:b=HH.objs.size:=z;obtain⟨o,ho⟩:=fin b hb;exact Kv b o ho z
  ·exact(Tw.mp (I2.stkSub b z)).elim f1 ff
  ·have e:(cellsFrom (HH.objs.size+1) scope.names (clOf scope X.env)).lookup x=some c:=e;have sz:(HH.push {cls:=.type "dict",data:=.dict #[]}).objs.size=HH.objs.size+1:=UA ..;rw[<-sz]at e;rcases j0 scope.names _ _ e with e|⟨e1,_⟩
   ·exact f4 x c (fX I2.ok hf e)
   ·intro z;subst z;obtain⟨o,ho⟩:=fin c hb;rw[sz]at e1;exact absurd (Ts (Tt ho) (Ua Lx (Wf e1))) (UL _)
  ·have hp:p∈X.pn++pr:=by
    have:p∈(X.pn++pr)++[]:=hp
    rwa [Uo]at this
   exact f5 p hp
 have loop:∀s₃:Shared,s₃={s2 with heap:=pushCells (HH.push {cls:=.type "dict",data:=.dict #[]}) scope.names}->
   codeAny (model X.prog X.w) X.A (.compLoop (.ListComp elt [⟨tg,iter,ifs,0⟩] scope pos) 0 (.ref it) (.ref s2.heap.objs.size) (compEnvC scope (cellsFrom (HH.objs.size+1) scope.names (clOf scope X.env)) HH.objs.size X.env)) (RR (.ref s2.heap.objs.size) HH.objs.size) s₃:=by
  rintro s₃ rfl;refine nR (fun n s'=>∃i σ' H',Inv (bq X scope N HH.objs.size s2 H2 fp (X.pn++pr)) [] σ' H' s'/\tn i s'.heap/\(∀b∈fp,H' b=none)/\W i n σ' H') ?_ m0
   ⟨0,_,_,I2.blockK hf hk Hd HX f2 fin rfl hC (UA ..) MI IP (Heap.Ns.new ..),T.keep 0 _ _ GV fun b _ o e=>old b o e,fun b hb=>?_,w0⟩
  ·rintro n s3 ⟨i,σ3,H3,I3,Ho,NA,w3⟩;rcases turn i n σ3 H3 w3 with⟨stop,qn⟩|⟨go,step⟩
   ·refine Hf (T.done (bq X scope N HH.objs.size s2 H2 fp (X.pn++pr)) rfl rfl rfl hc i [] s3 σ3 H3 L3 I3 (JF NA) Ho stop) fun r s4 Hc=>?_
    obtain⟨hr,I4⟩:=Hc;subst hr;exact Rq _ _ σ3 H3 s4 Lx I4 qn
   ·refine Hf (T.item (bq X scope N HH.objs.size s2 H2 fp (X.pn++pr)) rfl rfl rfl hc i [] s3 σ3 H3 L3 I3 (JF NA) Ho go) fun r s4 Hc=>?_
    obtain⟨u,hr,h4⟩:=Hc;subst hr;refine Hf h4 fun _ s5 Hc=>?_
    obtain⟨x,H5,I5,r5,y5,IV,Pt⟩:=Hc;have Pu:=I5.pinned (JF Pt) (T.obj _ _ IV);refine Hf (hg _ _ _ _ _ _ s5 σ3 H5 x u _ Pu r5 (step x H5 y5)) fun _ s6 Hc=>?_
    obtain⟨σ6,H6,I6,q6⟩:=Hc;refine Hf (ht _ _ _ _ _ _ s6 σ6 H6 _ I6 q6) fun ok s7 Hc=>?_
    obtain⟨H7,I7,q7⟩:=Hc;have again:∀{H8:Hp}{s8:Shared},Inv (bq X scope N HH.objs.size s2 H2 fp (X.pn++pr)) ([]++lJ fp s5.heap) σ6 H8 s8->(∃m',m'<n/\W (i+1) m' σ6 H8)->
      ∃m,m<n/\∃i σ' H',Inv (bq X scope N HH.objs.size s2 H2 fp (X.pn++pr)) [] σ' H' s8/\tn i s8.heap/\(∀b∈fp,H' b=none)/\W i m σ' H':=fun{H8 s8} I8 ⟨m',hm,w8⟩=>by
     refine⟨m',hm,i+1,σ6,H8,I8.unpinned,T.keep _ _ _ IV fun b hb o e=>(I8.pin (b,o) (Tp _ (Tp _ (dN hb e)))).1,fun b hb=>?_,w8⟩;obtain⟨o,e,d⟩:=T.obj _ _ IV b hb;exact(I8.pin (b,o) (Tp _ (Tp _ (dN hb e)))).2.1
    cases ok with
    |false=>exact again I7 q7
    |true=>
     show wpAny _ _ _ _ _ _;refine Hf (he _ _ _ _ _ _ s7 σ6 H7 _ I7 q7) fun x8 s8 Hc=>?_
     obtain⟨v8,H8,I8,r8,ys,Rr,Hx,q8⟩:=Hc;refine Hf (kc _ s8 σ6 H8 (.ref s2.heap.objs.size) [v8] (.ref s2.heap.objs.size) [x8] (fun _ H9=>∃m',m'<n/\W (i+1) m' σ6 H9) I8 rfl (.cons r8 .nil) ⟨_,ys,v8,rfl,rfl,Rr,Hx,q8⟩) fun _ s9 Hc=>?_
     obtain⟨_,H9,I9,_,q9⟩:=Hc;exact again I9 q9
  ·rw[ak (fun z=>by
    obtain⟨o,ho⟩:=fin b hb;exact absurd z (TH (Tt ho)))]
   exact(f2 b hb).1
 exact codeAny_compStart_list (loop _ rfl) (T.self _ 0 _ _ _ (T.keep 0 _ _ GV fun b _ o e=>old b o e) (loop _ rfl))
theorem xn(ix:List (Option Nat))(N:List Str)(hc:X.calm=true)(hi:PI X tg iter wi)(hg:∀C s H fp pn,PG (bq X scope N C s H fp pn) tg g)(ht:∀C s H fp pn,MG (bq X scope N C s H fp pn) ifs tc)(he:∀C s H fp pn,PE (bq X scope N C s H fp pn) elt te)
  (hf:dE scope X.env=true:=by rfl) (hk:scope.kind=.function:=by rfl) (Hd:∀y∈scope.names,y.2=.cell->scope.names.lookup y.1=some .cell:=by decide +kernel) (Hn:∀y∈scope.names,y.2=.local->scope.names.lookup y.1=some .local:=by decide +kernel) (HX:nS X scope N ix=true:=by rfl)
  (hs:∀x,foldedSetIterable iter X.env x=pure x:=by intro _;rfl):PE X (.ListComp elt [⟨tg,iter,ifs,0⟩] scope pos) (r6 wi ix g tc te):=by
 intro pr s σ H Q I h;rw[eval_ListComp];have JL:closureFor scope X.env=pure (clOf scope X.env):=by
  unfold closureFor clOf;have:=dO X.env scope.names [] (iu I.ok hf);simpa using this
 refine VO (use:=none) rfl hs JL hk Hn (Hf (hi pr s σ H _ I h) fun v s1 h1=>Hf h1 fun O2 s2 h2=>?_);obtain⟨it,fp,tn,J,H2,e,I2,T,GV,f2,q⟩:=h2;subst e;refine kn (RR:=fun acc C=>compPost (model X.prog X.w) X.A X.xe none (EP X pr σ Q) acc C) (Q:=Q) (iter:=iter) hc I2 T GV f2 hg ht he hf hk Hd HX q fun D C σ1 H1 s1 hC J1 q1=>?_
 obtain⟨m,ns,_⟩:=J1.loc;exact⟨m,ns,fun h' N5=>⟨.ref D,H1,I2.unblockK f2 hC J1 N5,rfl,q1⟩⟩
end
noncomputable def CXC(P:Program)(w:World)(base:Heap)(C:Addr):CXT:=fun outer H s E e s'=>
 ∃(a t:Addr) (B:Heap) (H':Hp),e=.ref a/\s'.os=s.os/\AllBare s'.gens/\Un (K0 outer) [] H H' s.heap s'.heap/\HOk P w H' s'.heap/\Heap.FlyingW B outer a (.ref C) (.ref t) s'.heap/\
  (∀b u,s'.heap.get? b=some u->(H' b≠none\/∃o,s.heap.get? b=some o)->b∉K0 outer->B.get? b=some u)/\E (.ref C) none H'
section
variable{X:Cx}{st:Stmt}{b7:List Stmt}{t:TS}{u u':L2.St->Hp->Prop}{e:Expr}{es:List Expr}{x:Str}{C:Addr}{Ww:Hp->Prop}{np Hs pos:Pos}
end
def XP(X:Cx)(pr:List (Addr×Obj))(σ:L2.St)(C:Addr)(Ww:Hp->Prop)(e:Value)(s':Shared):Prop:=∃(s1:Shared) (H1:Hp),Inv X pr σ H1 s1/\CXC X.prog X.w X.base C X.stack H1 s1 (fun _ _ H'=>Ww H') e s'
abbrev TX:=L2.St->Hp->(Hp->Prop)->Prop
section
variable{X:Cx}{st:Stmt}{b7:List Stmt}{tx:TX}{e a b:Expr}{es:List Expr}{x:Str}{C:Addr}{k:Nat}{sp:Sp}{p pos:Pos}
end
open PySem.Builtin.ObjectAttr PySem.Builtin.Getset_descriptor
section
variable{prog:Program}{w:World}{A:Around}{E:Value->Shared->Prop}{s:Shared}{K:W.Frag}{x D:Addr}
end
section
variable{X:Cx}{pr:List (Addr×Obj)}{σ:L2.St}{H:Hp}{s:Shared}{a:Addr}{o:Obj}
end
end NX
namespace NX
open PySem PySem.W PySem.Spec PyProof.Rows L2
section
variable{prog:Program}{w:World}{A:Around}{E:Value->Shared->Prop}{s:Shared}
end
section
variable{X:Cx}
end
end NX
namespace NX
open PySem PySem.Spec PyProof.Rows L2
abbrev eB(h:Heap)(k:Bool)(l:Addr):Heap:=(zA h k l).push {cls:=.type "enumerate",data:=.fields #[.none,.bool false,.ref h.objs.size,rawInt 0,.none,.none]}
set_option maxHeartbeats 8000000 in
theorem B5(k:Bool)(l:Addr)(xs:Array Value):
  Meets (Builtin.«enumerate.__new__» ⟨[.type "enumerate",.ref l],[]⟩) (fun _ R s=>IsSq k s.heap l xs/\R (.ok (.ret (.ref (zA s.heap k l).objs.size))) {s with heap:=eB s.heap k l}):=
 .of_wp fun prog w A R s h=>by
  obtain⟨hp,g,d,tk,os⟩:=s;obtain⟨g1,q⟩:=h;have N8:=sub_enumerate;cases k with
  |true=>
   obtain⟨o,ho,_⟩:=id (show Heap.IsList hp l xs from g1);have e1:Heap.IsList (Shared.heap ⟨hp,g,d,tk,os⟩) l xs:=g1;have hl:(Shared.heap ⟨hp,g,d,tk,os⟩).get? l=some o:=ho
   wp_walk using U1 hl
   refine wpAny_stack_any fun sk=>Tu ?_
   split
   ·rename_i c _ _ _ _ _;cases(c==Value.type "enumerate") <;> (wp_walk using U1 hl,Ve e1;exact⟨_,rfl,q⟩)
   ·wp_walk using U1 hl,Ve e1
    exact⟨_,rfl,q⟩
  |false=>
   obtain⟨o,ho,_⟩:=id (show Heap.IsTuple hp l xs from g1);have e1:Heap.IsTuple (Shared.heap ⟨hp,g,d,tk,os⟩) l xs:=g1;have hl:(Shared.heap ⟨hp,g,d,tk,os⟩).get? l=some o:=ho
   wp_walk using U1 hl
   refine wpAny_stack_any fun sk=>Tu ?_
   split
   ·rename_i c _ _ _ _ _;cases(c==Value.type "enumerate") <;> (wp_walk using U1 hl,U3 e1;exact⟨_,rfl,q⟩)
   ·wp_walk using U1 hl,U3 e1
    exact⟨_,rfl,q⟩
def ES(k:Bool)(e it l:Addr)(i:Nat)(h:Heap):Prop:=(∃old,IsEnum h e it i old)/\IsIt k h it l i
theorem z5{prog:Program}{w:World}{A:Around}{E:Value->Shared->Prop}{s:Shared}{k:Bool}{l:Addr}{xs:Array Value}{Q:Value->Shared->Prop}(g1:IsSq k s.heap l xs)
  (q:∀h',ES k (s.heap.objs.size+1) (s.heap.objs.size+0) l 0 h'->(∀c o,s.heap.get? c=some o->h'.get? c=some o)->Q (.ref (s.heap.objs.size+1)) {s with heap:=h'}):
  wpAny (model prog w) A (call (.type "enumerate") [.ref l]) Q E s:=by
 refine callType_new F.called_enumerate (by decide) (F.typeCall_enumerate_1 _) (F.newCall_enumerate_1 _) (fun obj=>F.args_object_init_2 obj _) F.entry_enumerate_new (B5 k l xs) ⟨g1,?_⟩;have nA:(zA s.heap k l).objs.size=s.heap.objs.size+1:=UA ..;have gz:(eB s.heap k l).get? (zA s.heap k l).objs.size=some _:=TF _ rfl;have j1:IsIt k (eB s.heap k l) s.heap.objs.size l 0:=(mf k s.heap l).at fun o e=>Th _ e
 show _/\_;rw[nA]at gz ⊢;exact⟨⟨_,gz,rfl⟩,q _ ⟨⟨_,gz⟩,j1⟩ fun c o x=>Th _ (Th _ x)⟩
theorem qC{prog:Program}{w:World}{A:Around}(k:Bool)(hh:A.handled=none)(it l:Addr)(ne:l≠it)(xs:Array Value):
  Draws prog w A it [it,l] xs.size (fun i v=>xs[i]?=some v) (fun i h=>IsIt k h it l i/\IsSq k h l xs) where
 live:=fun i h st=>by obtain⟨o,e,_⟩:=st.1.obj;exact⟨o,e⟩
 frame:=fun i h h' st kk=>⟨st.1.at fun o e=>kk it (by simp) o e,st.2.at fun o e=>kk l (by simp) o e⟩
 item:=fun i s Q E hi st q=>me st.1 st.2 (x:=xs[i]) (by simp[hi]) fun h' j sb=>q _ h' s.toks (by simp[hi]) ⟨j,st.2.at fun o e=>sb.extBut _ _ ne e⟩ sb
 done:=fun s Q E st q=>uf hh st.1 st.2 (by simp) q
noncomputable def RB(K:W.Frag)(k:Bool)(a:Addr):It:=
 ⟨fun i H=>∃xs x,(if k then SqL K H a xs else SqT K H a xs)/\xs[i]?=some x,
  fun i H v H'=>∃T,H T=none/\v=.ref T/\∀xs x,(if k then SqL K H a xs else SqT K H a xs)->xs[i]?=some x->H'=upd H T (.tup [.int (i:Int),x]),
  fun i H=>∃xs,(if k then SqL K H a xs else SqT K H a xs)/\i=xs.length⟩
theorem uC{P:Program}{w:World}{K:W.Frag}{es:List Expr}{kt:Nat}{pt:Pos}(k:Bool)(a e it:Addr)(ne:e≠it):
  Turn P w K (.Tuple es kt pt) (RB K k a) [e,it] e (ES k e it a) where
 mem:=by simp
 obj:=fun i h st c hc=>by
  obtain⟨⟨old,he⟩,h1⟩:=st;simp only[Tw,UP,W0]at hc;rcases hc with rfl|rfl
  ·exact⟨_,he,fun v q=>by cases q⟩
  ·exact h1.obj
 keep:=fun i h h' st k=>by
  obtain⟨⟨old,he⟩,h1⟩:=st;exact⟨⟨old,k e (by simp) _ he⟩,h1.at fun o x=>k it (by simp) o x⟩
 item:=by
  intro X hP hw hK hc i pr s σ H E I hf st hg;subst hP hw hK;obtain⟨xs,x,s1,hx⟩:=hg;obtain⟨us,r1,q1⟩:=mh I s1;obtain⟨u,hu,ru⟩:=r1.get hx;have fe:=hf e (by simp);have fi:=hf it (by simp);have na:a≠it:=fC I s1 fi;have nb:a≠e:=fC I s1 fe;obtain⟨⟨old,he⟩,h1⟩:=st;have lt:i<us.toArray.size:=by
   rw[To];exact(Tx.mp hu).1
  have dr:Draws X.prog X.w X.A.in1 it [it,a] us.toArray.size (fun i v=>us.toArray[i]?=some v) (fun i h=>IsIt k h it a i/\IsSq k h a us.toArray):=qC k (show X.A.in1.handled=none from I.ok.hd hc) it a na us.toArray;refine wpAny_pyNext_enum_itemD dr he ⟨h1,q1⟩ lt ne (by simp[ne,nb.symm]) fun v h' tk hv z1 j1 tp sz kk=>⟨_,rfl,?_⟩
  have hv:v=u:=by
   have QY:us[i]?=some v:=by simpa using hv
   rw[hu]at QY;cases QY;rfl
  subst hv;refine wpAny_letOwnedTupleGo_enum z1 fun h2 z2 sb=>?_
  have nT:H s.heap.objs.size=none:=I.hok.fresh (Tz _);have tT:s.heap.objs.size≠e:=V4 (Tt he);have tI:s.heap.objs.size≠it:=by
   obtain⟨o,x,_⟩:=h1.obj;exact V4 (Tt x)
  have all:∀c o,c≠e->c≠it->s.heap.get? c=some o->h2.get? c=some o:=fun c o c1 c2 x=>(sb.2 c c1).trans (kk c o c1 c2 x)
  have K2:∀c ob,H c=some ob->c≠e/\c≠it:=fun c ob x=>⟨(fun q=>by rw[q,fe.1]at x;cases x),fun q=>by rw[q,fi.1]at x;cases x⟩
  refine⟨.ref s.heap.objs.size,upd H s.heap.objs.size (.tup [.int (i:Int),x]),?_,rfl,⟨_,nT,rfl,fun HQ x' a1 a2=>?_⟩,⟨⟨v,z2⟩,j1.1.at fun o y=>(sb.2 it ne.symm).trans y⟩,fun c hc=>?_⟩
  ·have N9:h2.get? s.heap.objs.size=some {cls:=.type "tuple",data:=.seq #[.int i tk,v]}:=(sb.2 _ tT).trans tp;have S0:Inv X pr σ (upd H s.heap.objs.size (.tup [.int (i:Int),x])) {s with heap:=h2,gens:=s.gens,drawn:=s.drawn,toks:=tk+1}:=by
    refine I.step (ch:=[e,it]) (fun c hc=>?_) (fun c o _ _ nc y _=>all c o (fun q=>nc (by simp[q])) (fun q=>nc (by simp[q])) y)
     (fun c o _ _ nc y _=>⟨o.slots,all c o (fun q=>nc (by simp[q])) (fun q=>nc (by simp[q])) y⟩) (fun c o _ y n=>by rw[ak (TH (Tt y))];exact n)
     (fun c o nc y=>⟨o,all c o (fun q=>nc (by simp[q])) (fun q=>nc (by simp[q])) y⟩) (fun c l y=>by rw[ak (aJ y nT)];exact y) (fun c o u' y=>by rw[ak (aJ y nT)];exact y)
     (fun c ps y=>⟨#[],by rw[ak (aJ y nT),y];simp⟩) (fun m hm=>?_) (fun c ob y=>?_) I.bare
    ·simp only[Tw,UP,W0]at hc;rcases hc with rfl|rfl
     ·exact⟨fe.2.2.2.1,fe.2.1,fe.2.2.2.2.1,fe.2.2.2.2.2⟩
     ·exact⟨fi.2.2.2.1,fi.2.1,fi.2.2.2.2.1,fi.2.2.2.2.2⟩
    ·obtain⟨o,es,ep,ho,r⟩:=hm;exact⟨o,es,ep,all _ o (Vd fe.2.1) (Vd fi.2.1) ho,r⟩
    ·by_cases ec:c=s.heap.objs.size
     ·subst ec;rw[az]at y;cases y;exact⟨by simp only[TK,Uq];rw[UB];decide,[.int i tk,v],.cons ⟨tk,rfl⟩ (.cons ru .nil),⟨_,N9,rfl,⟨0,rfl⟩,rfl⟩⟩
     ·rw[ak ec]at y;refine(I.hok c ob y).stay (fun d w' hd q=>?_) (fun d q=>by rw[ak (aJ q nT)];exact q) fun d l q=>by rw[ak (aJ q nT)];exact q
      have ME:∃oo,H d=some oo:=by
       rcases hd with rfl|hd
       ·exact⟨_,y⟩
       ·exact⟨_,hd⟩
      obtain⟨oo,Oa⟩:=ME;obtain⟨m1,m2⟩:=K2 d oo Oa;exact all d w' m1 m2 q
   exact S0
  ·have e1:=ug I a1 s1;subst e1;rw[hx]at a2;cases a2;rfl
  ·have cs:c≠s.heap.objs.size:=by
    simp only[Tw,UP,W0]at hc;rcases hc with rfl|rfl
    ·exact tT.symm
    ·exact tI.symm
   rw[ak cs];exact(hf c hc).1
 done:=by
  intro X hP hw hK hc i pr s σ H E I hf st hg;subst hP hw hK;obtain⟨xs,s1,hi⟩:=hg;obtain⟨us,r1,q1⟩:=mh I s1;have l1:=r1.length;have fe:=hf e (by simp);have fi:=hf it (by simp);have na:a≠it:=fC I s1 fi;obtain⟨⟨old,he⟩,h1⟩:=st;have hn:i=us.toArray.size:=by rw[To,hi,l1]
  subst hn;have dr:Draws X.prog X.w X.A.in1 it [it,a] us.toArray.size (fun i v=>us.toArray[i]?=some v) (fun i h=>IsIt k h it a i/\IsSq k h a us.toArray):=qC k (show X.A.in1.handled=none from I.ok.hd hc) it a na us.toArray;refine wpAny_pyNext_enum_endD dr he ⟨h1,q1⟩ fun h' kk=>⟨rfl,?_⟩
  have K2:∀c ob,H c=some ob->c≠it:=fun c ob x q=>by rw[q,fi.1]at x;cases x
  have S0:Inv X pr σ H {s with heap:=h',gens:=s.gens,drawn:=s.drawn,toks:=s.toks}:=by
   refine I.step (ch:=[it]) (fun c hc=>?_) (fun c o _ _ nc y _=>kk c o (fun q=>nc (by simp[q])) y)
    (fun c o _ _ nc y _=>⟨o.slots,kk c o (fun q=>nc (by simp[q])) y⟩) (fun c o _ y n=>n)
    (fun c o nc y=>⟨o,kk c o (fun q=>nc (by simp[q])) y⟩) (fun c l y=>y) (fun c o u' y=>y)
    (fun c ps y=>⟨#[],by rw[y];simp⟩) (fun m hm=>?_) (fun c ob y=>?_) I.bare
   ·rw[T9.mp hc];exact⟨fi.2.2.2.1,fi.2.1,fi.2.2.2.2.1,fi.2.2.2.2.2⟩
   ·obtain⟨o,es,ep,ho,r⟩:=hm;exact⟨o,es,ep,kk _ o (Vd fi.2.1) ho,r⟩
   ·refine(I.hok c ob y).stay (fun d w' hd q=>?_) (fun d q=>q) fun d l q=>q
    have ME:∃oo,H d=some oo:=by
     rcases hd with rfl|hd
     ·exact⟨_,y⟩
     ·exact⟨_,hd⟩
    obtain⟨oo,Oa⟩:=ME;exact kk d w' (K2 d oo Oa) q
  exact S0
 self:=fun _ _ _ _ _ st h=>by
  obtain⟨⟨old,he⟩,_⟩:=st;exact wpAny_pyIter_enum he h
section
variable{X:Cx}{es:List Expr}{kt:Nat}{pt:Pos}
def Ei(K:W.Frag)(k:Bool)(ta:TA):TI:=fun σ H R=>ta σ H fun vs H1=>∃a xs,vs=[.ref a]/\(if k then SqL K H1 a xs else SqT K H1 a xs)/\R (RB K k a) H1
theorem z6(k:Bool){e1:Expr}{ta:TA}{p pos:Pos}(hg:Gl X "enumerate")(hm:X.mg "enumerate" = none)(ha:PA X [e1] ta)(he:starEach [e1] X.env=[(false,eval e1 X.env)]:=by rfl):
  PI X (.Tuple es kt pt) (.Call (.Name "enumerate" p) [e1] [] pos) (Ei X.K k ta):=by
 intro pr s σ H R I h;refine Vk (jt I hg hm (by decide +kernel:bootBuiltins "enumerate" = some (.type "enumerate")) ?_ (by decide) (by decide));refine UM (Hf (ha pos pr s σ H _ I h) fun us s1 ⟨vs,H1,I1,r1,a,xs,e,Rv,q⟩=>?_) he rfl;subst e;cases r1 with
 |cons r rr=>
  cases rr;cases r;obtain⟨us,v1,q1⟩:=mh I1 Rv;refine z5 q1 fun h' st kk=>?_
  obtain⟨⟨old,ho⟩,hi⟩:=id st;refine wpAny_pyIter_enum ho ?_;have fr:∀j,nF X pr H1 (s1.heap.objs.size+j):=fun j=>I1.fpOk (WQ _ _) (I1.hok.fresh (WQ _ _))
  refine⟨_,_,_,_,H1,rfl,I1.kept (t':=s1.toks) kk,uC k a (s1.heap.objs.size+1) (s1.heap.objs.size+0) (fun z=>by have:=Yx z;cases this),st,fun c hc=>?_,q⟩;simp only[Tw,UP,W0]at hc;rcases hc with rfl|rfl
  ·exact fr 1
  ·exact fr 0
end
section
variable{X:Cx}{scope:Scope}{N:List Str}{ix:List (Option Nat)}{tg iter elt:Expr}{ifs:List Expr}{pos:Pos}{wi:TI}{g:TG}{tc:TT}{te:TE}
theorem xo{i:Nat}{y:Str}{py JM:Pos}(ix:List (Option Nat))(N:List Str)(hN:X.N.Nodup)(N6:X.N[i]?=some y)(hy:Loc X.env.scope y)(hc:X.calm=true)(hi:PI X tg iter wi)(hg:∀C s H fp pn,PG (bq X scope N C s H fp pn) tg g)(ht:∀C s H fp pn,MG (bq X scope N C s H fp pn) ifs tc)
  (he:∀C s H fp pn,PE (bq X scope N C s H fp pn) elt te) (N7:swapsWith (.ListComp elt [⟨tg,iter,ifs,0⟩] scope pos) (some (.Name y py)) JM.line X.env=pure true:=by rfl)
  (hf:dE scope X.env=true:=by rfl) (hk:scope.kind=.function:=by rfl) (Hd:∀y∈scope.names,y.2=.cell->scope.names.lookup y.1=some .cell:=by decide +kernel) (Hn:∀y∈scope.names,y.2=.local->scope.names.lookup y.1=some .local:=by decide +kernel) (HX:nS X scope N ix=true:=by rfl)
  (hs:∀x,foldedSetIterable iter X.env x=pure x:=by intro _;rfl) (LS:X.fn y=true\/X.env.scope.names.lookup y=some .local:=by first|exact .inl rfl|exact .inr rfl):
  PS X (.Assign [.Name y py] (.ListComp elt [⟨tg,iter,ifs,0⟩] scope pos) JM) (fun D σ H=>r6 wi ix g tc te σ H fun v H'=>D.nx (σ.set i (some v)) H'):=by
 intro pr s σ H Dd I h;rw[exec_Assign_Name_used _ _ _ _ N7];have JL:closureFor scope X.env=pure (clOf scope X.env):=by
  unfold closureFor clOf;have:=dO X.env scope.names [] (iu I.ok hf);simpa using this
 refine Tf (YK (Tf ?_));show wpAny _ X.A (do let _ <-comprehension (.ListComp elt [⟨tg,iter,ifs,0⟩] scope pos) scope X.env _ (newList []) false (eval iter X.env) (some (assign (.Name y py) X.env))) _ _ s;refine Tf (Wd (VO (use:=some (assign (.Name y py) X.env)) (Q:=fun _ s'=>SP X pr Dd .next s') rfl hs JL hk Hn
  (Hf (hi pr s σ H _ I h) fun v s1 h1=>Hf h1 fun O2 s2 h2=>?_)) (fun _ s' hq=>Tu (Tu hq)) fun _ _ e=>e)
 obtain⟨it,fp,tn,J,H2,e,I2,T,GV,f2,q⟩:=h2;subst e;refine kn (RR:=fun acc C=>compPost (model X.prog X.w) X.A X.xe (some (assign (.Name y py) X.env)) (fun _ s'=>SP X pr Dd .next s') acc C) (Q:=fun v H'=>Dd.nx (σ.set i (some v)) H') (iter:=iter) hc I2 T GV f2 hg ht he hf hk Hd HX q fun D C σ1 H1 s1 hC J1 q1=>?_
 obtain⟨m,ns,_⟩:=id J1.loc;have ns:s1.heap.Ns C m:=ns;have I3:Inv X pr σ H1 s1:=I2.unblockK f2 hC J1 (.refl ..);show wpAny _ X.A (assign (.Name y py) X.env (.ref D)) _ _ s1;refine Xu (j7 I3 hN N6 hy (v:=.ref D) rfl (fun s4 I4 ⟨a,sb,ha⟩=>?_) LS);have aC:C≠a:=by
  intro z;rcases ha with ha|ha
  ·exact TH (Ts I2.lt hC) (ha▸z.symm)
  ·obtain⟨v,o,ho,_⟩:=I2.cell y a ha;exact TH (Ts (Tt ho) hC) z.symm
 refine⟨m,ns.sameBut sb aC,fun h' N5=>?_⟩;have jf:H1 C=none:=J1.free;have kk:∀b o,b≠C->s4.heap.get? b=some o->h'.get? b=some o:=fun b o hb e=>(N5.2 b hb).trans e
 refine⟨σ.set i (some (.ref D)),H1,?_,q1⟩;have z:=I4.turned (t':=s4.toks) kk jf (fun z=>TH (Ts I2.lt hC) z.symm) (.inr (Ua I2.sz hC)) (fun x c e z=>by
  obtain⟨v,o,ho,_⟩:=I2.cell x c e;exact TH (Ts (Tt ho) hC) z) (fun p hp z=>TH (Ts (Tt (I2.pin p hp).1) hC) z)
 exact z
end
end NX
namespace PV
open PySem L2 NX
inductive D where
 |non|bl (b:Bool)|int (i:Int)|str (l:List Nat)|tup (ds:List D)|lst (ds:List D)|dct (tk:Bool) (ks vs:List D)
inductive O where
 |f|l (c:O)|t (cs:List O)|d|pin (p:Addr) (c:O)
abbrev R:=O×D
abbrev Env:=List (Option R)
inductive Res(α:Type) where
 |ok (a:α)|exc (c:List Nat)|bad
def kD:Key->D
 | .inl i=>.int i
 | .inr x=>.str x.cps.toList
def isM:HO->Bool
 | .lst _=>true
 | .dK _=>true
 | .dT _=>true
 |_=>false
def isT:HO->Bool
 | .tup _=>true
 | .frz _ (.tup _)=>true
 |_=>false
def fitK:Key->Prop
 | .inl _=>True
 | .inr x=>x.cps.toList.length<=sizeLine
def DictO(o:HO)(tk:Bool)(ks:List D)(xs:List V):Prop:=match tk with
 |true=>∃GJ:List (List Key×V),o=.dT GJ/\ks=GJ.map (fun kv=>D.tup (kv.1.map kD))/\xs=GJ.map (·.2)/\∀kv∈GJ,∀k∈kv.1,fitK k
 |false=>∃GJ:List (Key×V),o=.dK GJ/\ks=GJ.map (fun kv=>kD kv.1)/\xs=GJ.map (·.2)/\∀kv∈GJ,fitK kv.1
mutual
noncomputable def Rep(K:W.Frag)(G:Hp):D->V->Prop
 | .non,v=>v=.non
 | .bl b,v=>v=.bl b
 | .int i,v=>v=.int i
 | .str l,v=>v=.str (S l)/\l.length<=sizeLine
 | .tup ds,v=>∃p xs,v=.ref p/\G p=some (.tup xs)/\Reps K G ds xs
 | .lst ds,v=>∃p xs,v=.ref p/\SqL K G p xs/\Reps K G ds xs
 | .dct tk ks vs,v=>∃p xs o,v=.ref p/\Rd G p o/\DictO o tk ks xs/\Reps K G vs xs
noncomputable def Reps(K:W.Frag)(G:Hp):List D->List V->Prop
 |[],xs=>xs=[]
 |d::ds,xs=>∃y ys,xs=y::ys/\Rep K G d y/\Reps K G ds ys
end
def AllO(P:D->V->List Addr->Prop):List D->List V->List Addr->Prop
 |[],xs,fp=>xs=[]/\fp=[]
 |d::ds,xs,fp=>∃y ys a b,xs=y::ys/\fp=a++b/\P d y a/\AllO P ds ys b
mutual
noncomputable def RepO(K:W.Frag)(G H:Hp):O->D->V->List Addr->Prop
 | .f,d,v,fp=>Rep K G d v/\fp=[]
 | .l c,.lst ds,v,fp=>∃p xs GR,v=.ref p/\H p=some (.lst xs)/\fp=p::GR/\AllO (RepO K G H c) ds xs GR
 | .t cs,.tup ds,v,fp=>∃p xs,v=.ref p/\G p=some (.tup xs)/\RepT K G H cs ds xs fp
 | .d,.dct tk ks vs,v,fp=>∃p xs o,v=.ref p/\H p=some o/\DictO o tk ks xs/\fp=[p]/\Reps K G vs xs
 | .pin p c,d,v,fp=>v=.ref p/\RepO K G H c d v fp
 |_,_,_,_=>False
noncomputable def RepT(K:W.Frag)(G H:Hp):List O->List D->List V->List Addr->Prop
 |[],[],xs,fp=>xs=[]/\fp=[]
 |c::cs,d::ds,xs,fp=>∃y ys a b,xs=y::ys/\fp=a++b/\RepO K G H c d y a/\RepT K G H cs ds ys b
 |_,_,_,_=>False
end
section
variable{K:W.Frag}{G G' H H':Hp}
theorem Rd.mono{p:Addr}{u:HO}(h:Same G G')(r:Rd G p u):Rd G' p u:=by
 rcases r with r|⟨o,r⟩
 ·exact .inl (h _ _ r)
 ·exact .inr ⟨o,h _ _ r⟩
theorem gP{p:Addr}{xs:List V}(h:Same G G')(r:SqL K G p xs):SqL K G' p xs:=r.elim (fun r=>.inl (Rd.mono h r)) .inr
theorem bH{p:Addr}{xs:List V}(h:Same G G')(r:SqT K G p xs):SqT K G' p xs:=r.elim (fun r=>.inl (Rd.mono h r)) .inr
mutual
theorem Rep.mono(h:Same G G'):∀{d:D}{v:V},Rep K G d v->Rep K G' d v
 | .non,_,r=>by simpa only[Rep] using r
 | .bl _,_,r=>by simpa only[Rep] using r
 | .int _,_,r=>by simpa only[Rep] using r
 | .str _,_,r=>by simpa only[Rep] using r
 | .tup ds,_,r=>by
  simp only[Rep]at r ⊢;obtain⟨p,xs,e,q,rs⟩:=r;exact⟨p,xs,e,h _ _ q,Reps.mono h rs⟩
 | .lst ds,_,r=>by
  simp only[Rep]at r ⊢;obtain⟨p,xs,e,q,rs⟩:=r;exact⟨p,xs,e,gP h q,Reps.mono h rs⟩
 | .dct tk ks vs,_,r=>by
  simp only[Rep]at r ⊢;obtain⟨p,xs,o,e,q,dd,rs⟩:=r;exact⟨p,xs,o,e,Rd.mono h q,dd,Reps.mono h rs⟩
theorem Reps.mono(h:Same G G'):∀{ds:List D}{xs:List V},Reps K G ds xs->Reps K G' ds xs
 |[],_,r=>by simpa only[Reps] using r
 |d::ds,_,r=>by
  simp only[Reps]at r ⊢;obtain⟨y,ys,e,r1,r2⟩:=r;exact⟨y,ys,e,Rep.mono h r1,Reps.mono h r2⟩
end
theorem AllO.imp{P P':D->V->List Addr->Prop}:∀{ds:List D}{xs:List V}{fp:List Addr},(∀d v a,(∀p∈a,p∈fp)->P d v a->P' d v a)->AllO P ds xs fp->AllO P' ds xs fp
 |[],_,_,_,r=>r
 |d::ds,xs,fp,h,r=>by
  obtain⟨y,ys,a,b,e1,e2,p,q⟩:=r;subst e2;exact⟨y,ys,a,b,e1,rfl,h _ _ _ (fun p hp=>TB _ hp) p,AllO.imp (fun d v c hc=>h d v c fun p hp=>Tp _ (hc p hp)) q⟩
mutual
theorem RepO.step(h:Same G G'):∀{o:O}{d:D}{v:V}{fp:List Addr},(∀p∈fp,H' p=H p)->RepO K G H o d v fp->RepO K G' H' o d v fp
 | .f,d,v,fp,hk,r=>by
  simp only[RepO]at r ⊢;exact⟨Rep.mono h r.1,r.2⟩
 | .pin p c,d,v,fp,hk,r=>by
  simp only[RepO]at r ⊢;exact⟨r.1,RepO.step h hk r.2⟩
 | .l c,.lst ds,v,fp,hk,r=>by
  simp only[RepO]at r ⊢;obtain⟨p,xs,GR,e,q,e2,a⟩:=r;subst e2;exact⟨p,xs,GR,e,(hk p Tg).trans q,rfl,AllO.imp (fun d v c hc=>RepO.step h fun z hz=>hk z (Tn _ (hc z hz))) a⟩
 | .t cs,.tup ds,v,fp,hk,r=>by
  simp only[RepO]at r ⊢;obtain⟨p,xs,e,q,a⟩:=r;exact⟨p,xs,e,h _ _ q,RepT.step h hk a⟩
 | .d,.dct tk ks vs,v,fp,hk,r=>by
  simp only[RepO]at r ⊢;obtain⟨p,xs,o,e,q,dd,e2,rs⟩:=r;subst e2;exact⟨p,xs,o,e,(hk p Tg).trans q,dd,rfl,Reps.mono h rs⟩
 | .l _,.non,_,_,_,r | .l _,.bl _,_,_,_,r | .l _,.int _,_,_,_,r | .l _,.str _,_,_,_,r | .l _,.tup _,_,_,_,r | .l _,.dct _ _ _,_,_,_,r=>by simp only[RepO]at r
 | .t _,.non,_,_,_,r | .t _,.bl _,_,_,_,r | .t _,.int _,_,_,_,r | .t _,.str _,_,_,_,r | .t _,.lst _,_,_,_,r | .t _,.dct _ _ _,_,_,_,r=>by simp only[RepO]at r
 | .d,.non,_,_,_,r | .d,.bl _,_,_,_,r | .d,.int _,_,_,_,r | .d,.str _,_,_,_,r | .d,.tup _,_,_,_,r | .d,.lst _,_,_,_,r=>by simp only[RepO]at r
theorem RepT.step(h:Same G G'):∀{cs:List O}{ds:List D}{xs:List V}{fp:List Addr},(∀p∈fp,H' p=H p)->RepT K G H cs ds xs fp->RepT K G' H' cs ds xs fp
 |[],[],_,_,_,r=>by simpa only[RepT] using r
 |c::cs,d::ds,xs,fp,hk,r=>by
  simp only[RepT]at r ⊢;obtain⟨y,ys,a,b,e1,e2,r1,r2⟩:=r;subst e2;exact⟨y,ys,a,b,e1,rfl,RepO.step h (fun p hp=>hk p (TB _ hp)) r1,RepT.step h (fun p hp=>hk p (Tp _ hp)) r2⟩
 |[],_::_,_,_,_,r=>by simp only[RepT]at r
 |_::_,[],_,_,_,r=>by simp only[RepT]at r
end
theorem AllO.frozen{P:D->V->List Addr->Prop}:∀{ds:List D}{xs:List V}{fp:List Addr},(∀d v a,(∀p∈a,p∈fp)->P d v a->Rep K G' d v)->AllO P ds xs fp->Reps K G' ds xs
 |[],_,_,_,r=>by simp only[Reps];exact r.1
 |d::ds,xs,fp,h,r=>by
  obtain⟨y,ys,a,b,e1,e2,p,q⟩:=r;subst e2;simp only[Reps];exact⟨y,ys,e1,h _ _ _ (fun p hp=>TB _ hp) p,AllO.frozen (fun d v c hc=>h d v c fun p hp=>Tp _ (hc p hp)) q⟩
mutual
theorem RepO.frozen(h:Same G G'):∀{o:O}{d:D}{v:V}{fp:List Addr},(∀p∈fp,∀u,H p=some u->G' p=some u)->RepO K G H o d v fp->Rep K G' d v
 | .f,d,v,fp,hk,r=>by
  simp only[RepO]at r;exact Rep.mono h r.1
 | .pin p c,d,v,fp,hk,r=>by
  simp only[RepO]at r;exact RepO.frozen h hk r.2
 | .l c,.lst ds,v,fp,hk,r=>by
  simp only[RepO]at r;simp only[Rep];obtain⟨p,xs,GR,e,q,e2,a⟩:=r;subst e2;exact⟨p,xs,e,SqL.of (hk p Tg _ q),AllO.frozen (fun d v c hc=>RepO.frozen h fun z hz=>hk z (Tn _ (hc z hz))) a⟩
 | .t cs,.tup ds,v,fp,hk,r=>by
  simp only[RepO]at r;simp only[Rep];obtain⟨p,xs,e,q,a⟩:=r;exact⟨p,xs,e,h _ _ q,RepT.frozen h hk a⟩
 | .d,.dct tk ks vs,v,fp,hk,r=>by
  simp only[RepO]at r;simp only[Rep];obtain⟨p,xs,o,e,q,dd,e2,rs⟩:=r;subst e2;exact⟨p,xs,o,e,.inl (hk p Tg _ q),dd,Reps.mono h rs⟩
 | .l _,.non,_,_,_,r | .l _,.bl _,_,_,_,r | .l _,.int _,_,_,_,r | .l _,.str _,_,_,_,r | .l _,.tup _,_,_,_,r | .l _,.dct _ _ _,_,_,_,r=>by simp only[RepO]at r
 | .t _,.non,_,_,_,r | .t _,.bl _,_,_,_,r | .t _,.int _,_,_,_,r | .t _,.str _,_,_,_,r | .t _,.lst _,_,_,_,r | .t _,.dct _ _ _,_,_,_,r=>by simp only[RepO]at r
 | .d,.non,_,_,_,r | .d,.bl _,_,_,_,r | .d,.int _,_,_,_,r | .d,.str _,_,_,_,r | .d,.tup _,_,_,_,r | .d,.lst _,_,_,_,r=>by simp only[RepO]at r
theorem RepT.frozen(h:Same G G'):∀{cs:List O}{ds:List D}{xs:List V}{fp:List Addr},(∀p∈fp,∀u,H p=some u->G' p=some u)->RepT K G H cs ds xs fp->Reps K G' ds xs
 |[],[],_,_,_,r=>by simp only[RepT]at r;simp only[Reps];exact r.1
 |c::cs,d::ds,xs,fp,hk,r=>by
  simp only[RepT]at r;simp only[Reps];obtain⟨y,ys,a,b,e1,e2,r1,r2⟩:=r;subst e2;exact⟨y,ys,e1,RepO.frozen h (fun p hp=>hk p (TB _ hp)) r1,RepT.frozen h (fun p hp=>hk p (Tp _ hp)) r2⟩
 |[],_::_,_,_,_,r=>by simp only[RepT]at r
 |_::_,[],_,_,_,r=>by simp only[RepT]at r
end
theorem AllO.live{P:D->V->List Addr->Prop}:∀{ds:List D}{xs:List V}{fp:List Addr},(∀d v a,P d v a->∀p∈a,∃u,H p=some u)->AllO P ds xs fp->∀p∈fp,∃u,H p=some u
 |[],_,_,_,r=>by rw[r.2];intro p hp;cases hp
 |d::ds,xs,fp,h,r=>by
  obtain⟨y,ys,a,b,e1,e2,p,q⟩:=r;subst e2;intro z hz;rcases Ub.mp hz with hz|hz
  ·exact h _ _ _ p z hz
  ·exact AllO.live h q z hz
mutual
theorem RepO.live:∀{o:O}{d:D}{v:V}{fp:List Addr},RepO K G H o d v fp->∀p∈fp,∃u,H p=some u
 | .f,d,v,fp,r=>by
  simp only[RepO]at r;rw[r.2];intro p hp;cases hp
 | .pin p c,d,v,fp,r=>by
  simp only[RepO]at r;exact RepO.live r.2
 | .l c,.lst ds,v,fp,r=>by
  simp only[RepO]at r;obtain⟨p,xs,GR,e,q,e2,a⟩:=r;subst e2;intro z hz;rcases Tw.mp hz with rfl|hz
  ·exact⟨_,q⟩
  ·exact AllO.live (fun d v a=>RepO.live) a z hz
 | .t cs,.tup ds,v,fp,r=>by
  simp only[RepO]at r;obtain⟨p,xs,e,q,a⟩:=r;exact RepT.live a
 | .d,.dct tk ks vs,v,fp,r=>by
  simp only[RepO]at r;obtain⟨p,xs,o,e,q,dd,e2,rs⟩:=r;subst e2;intro z hz;rw[T9]at hz;exact⟨_,hz▸q⟩
 | .l _,.non,_,_,r | .l _,.bl _,_,_,r | .l _,.int _,_,_,r | .l _,.str _,_,_,r | .l _,.tup _,_,_,r | .l _,.dct _ _ _,_,_,r=>by simp only[RepO]at r
 | .t _,.non,_,_,r | .t _,.bl _,_,_,r | .t _,.int _,_,_,r | .t _,.str _,_,_,r | .t _,.lst _,_,_,r | .t _,.dct _ _ _,_,_,r=>by simp only[RepO]at r
 | .d,.non,_,_,r | .d,.bl _,_,_,r | .d,.int _,_,_,r | .d,.str _,_,_,r | .d,.tup _,_,_,r | .d,.lst _,_,_,r=>by simp only[RepO]at r
theorem RepT.live:∀{cs:List O}{ds:List D}{xs:List V}{fp:List Addr},RepT K G H cs ds xs fp->∀p∈fp,∃u,H p=some u
 |[],[],_,_,r=>by
  simp only[RepT]at r;rw[r.2];intro p hp;cases hp
 |c::cs,d::ds,xs,fp,r=>by
  simp only[RepT]at r;obtain⟨y,ys,a,b,e1,e2,r1,r2⟩:=r;subst e2;intro z hz;rcases Ub.mp hz with hz|hz
  ·exact RepO.live r1 z hz
  ·exact RepT.live r2 z hz
 |[],_::_,_,_,r=>by simp only[RepT]at r
 |_::_,[],_,_,r=>by simp only[RepT]at r
end
theorem DictO.isM{o:HO}{tk:Bool}{ks:List D}{xs:List V}(h:DictO o tk ks xs):PV.isM o=true:=by
 cases tk with
 |true=>
  obtain⟨GJ,e,_⟩:=h;rw[e];rfl
 |false=>
  obtain⟨GJ,e,_⟩:=h;rw[e];rfl
theorem AllO.mut{P:D->V->List Addr->Prop}:∀{ds:List D}{xs:List V}{fp:List Addr},(∀d v a,P d v a->∀p∈a,∃u,H p=some u/\isM u=true)->AllO P ds xs fp->∀p∈fp,∃u,H p=some u/\isM u=true
 |[],_,_,_,r=>by rw[r.2];intro p hp;cases hp
 |d::ds,xs,fp,h,r=>by
  obtain⟨y,ys,a,b,e1,e2,p,q⟩:=r;subst e2;intro z hz;rcases Ub.mp hz with hz|hz
  ·exact h _ _ _ p z hz
  ·exact AllO.mut h q z hz
mutual
theorem RepO.mut:∀{o:O}{d:D}{v:V}{fp:List Addr},RepO K G H o d v fp->∀p∈fp,∃u,H p=some u/\isM u=true
 | .f,d,v,fp,r=>by
  simp only[RepO]at r;rw[r.2];intro p hp;cases hp
 | .pin p c,d,v,fp,r=>by
  simp only[RepO]at r;exact RepO.mut r.2
 | .l c,.lst ds,v,fp,r=>by
  simp only[RepO]at r;obtain⟨p,xs,GR,e,q,e2,a⟩:=r;subst e2;intro z hz;rcases Tw.mp hz with rfl|hz
  ·exact⟨_,q,rfl⟩
  ·exact AllO.mut (fun d v a=>RepO.mut) a z hz
 | .t cs,.tup ds,v,fp,r=>by
  simp only[RepO]at r;obtain⟨p,xs,e,q,a⟩:=r;exact RepT.mut a
 | .d,.dct tk ks vs,v,fp,r=>by
  simp only[RepO]at r;obtain⟨p,xs,o,e,q,dd,e2,rs⟩:=r;subst e2;intro z hz;rw[T9]at hz;exact⟨_,hz▸q,dd.isM⟩
 | .l _,.non,_,_,r | .l _,.bl _,_,_,r | .l _,.int _,_,_,r | .l _,.str _,_,_,r | .l _,.tup _,_,_,r | .l _,.dct _ _ _,_,_,r=>by simp only[RepO]at r
 | .t _,.non,_,_,r | .t _,.bl _,_,_,r | .t _,.int _,_,_,r | .t _,.str _,_,_,r | .t _,.lst _,_,_,r | .t _,.dct _ _ _,_,_,r=>by simp only[RepO]at r
 | .d,.non,_,_,r | .d,.bl _,_,_,r | .d,.int _,_,_,r | .d,.str _,_,_,r | .d,.tup _,_,_,r | .d,.lst _,_,_,r=>by simp only[RepO]at r
theorem RepT.mut:∀{cs:List O}{ds:List D}{xs:List V}{fp:List Addr},RepT K G H cs ds xs fp->∀p∈fp,∃u,H p=some u/\isM u=true
 |[],[],_,_,r=>by
  simp only[RepT]at r;rw[r.2];intro p hp;cases hp
 |c::cs,d::ds,xs,fp,r=>by
  simp only[RepT]at r;obtain⟨y,ys,a,b,e1,e2,r1,r2⟩:=r;subst e2;intro z hz;rcases Ub.mp hz with hz|hz
  ·exact RepO.mut r1 z hz
  ·exact RepT.mut r2 z hz
 |[],_::_,_,_,r=>by simp only[RepT]at r
 |_::_,[],_,_,r=>by simp only[RepT]at r
end
noncomputable def RepE(K:W.Frag)(G H:Hp):Env->List (Option V)->List Addr->Prop
 |[],vs,fp=>vs=[]/\fp=[]
 |e::es,vs,fp=>∃y ys,vs=y::ys/\match e with
  |none=>RepE K G H es ys fp
  |some r=>∃v a b,y=some v/\fp=a++b/\RepO K G H r.1 r.2 v a/\RepE K G H es ys b
theorem RepE.step(h:Same G G'):∀{es:Env}{vs:List (Option V)}{fp:List Addr},(∀p∈fp,H' p=H p)->RepE K G H es vs fp->RepE K G' H' es vs fp
 |[],_,_,_,r=>r
 |none::es,vs,fp,hk,r=>by
  obtain⟨y,ys,e,r⟩:=r;exact⟨y,ys,e,RepE.step h hk r⟩
 |some r::es,vs,fp,hk,q=>by
  obtain⟨y,ys,e,v,a,b,e1,e2,r1,r2⟩:=q;subst e2;exact⟨y,ys,e,v,a,b,e1,rfl,RepO.step h (fun p hp=>hk p (TB _ hp)) r1,RepE.step h (fun p hp=>hk p (Tp _ hp)) r2⟩
theorem RepE.live:∀{es:Env}{vs:List (Option V)}{fp:List Addr},RepE K G H es vs fp->∀p∈fp,∃u,H p=some u
 |[],_,_,r=>by
  rw[r.2];intro p hp;cases hp
 |none::es,vs,fp,r=>by
  obtain⟨y,ys,e,r⟩:=r;exact RepE.live r
 |some r::es,vs,fp,q=>by
  obtain⟨y,ys,e,v,a,b,e1,e2,r1,r2⟩:=q;subst e2;intro z hz;rcases Ub.mp hz with hz|hz
  ·exact r1.live z hz
  ·exact RepE.live r2 z hz
theorem RepE.mut:∀{es:Env}{vs:List (Option V)}{fp:List Addr},RepE K G H es vs fp->∀p∈fp,∃u,H p=some u/\isM u=true
 |[],_,_,r=>by
  rw[r.2];intro p hp;cases hp
 |none::es,vs,fp,r=>by
  obtain⟨y,ys,e,r⟩:=r;exact RepE.mut r
 |some r::es,vs,fp,q=>by
  obtain⟨y,ys,e,v,a,b,e1,e2,r1,r2⟩:=q;subst e2;intro z hz;rcases Ub.mp hz with hz|hz
  ·exact r1.mut z hz
  ·exact RepE.mut r2 z hz
theorem RepE.length:∀{es:Env}{vs:List (Option V)}{fp:List Addr},RepE K G H es vs fp->vs.length=es.length
 |[],_,_,r=>by rw[r.1];rfl
 |none::es,vs,fp,r=>by
  obtain⟨y,ys,e,r⟩:=r;rw[e,TK,TK,RepE.length r]
 |some r::es,vs,fp,q=>by
  obtain⟨y,ys,e,v,a,b,e1,e2,r1,r2⟩:=q;rw[e,TK,TK,RepE.length r2]
theorem RepE.take:∀{es:Env}{vs:List (Option V)}{fp:List Addr}{i:Nat}{r:R},RepE K G H es vs fp->es[i]?=some (some r)->
  ∃v a b,vs[i]?=some (some v)/\RepO K G H r.1 r.2 v a/\RepE K G H (es.set i none) vs b/\fp.Perm (a++b)
 |[],_,_,_,_,_,e=>by simp at e
 |none::es,vs,fp,0,r,q,e=>by simp at e
 |some r'::es,vs,fp,0,r,q,e=>by
  obtain⟨y,ys,e0,v,a,b,e1,e2,r1,r2⟩:=q;simp at e;subst e;subst e0;subst e1;exact⟨v,a,b,rfl,r1,⟨some v,ys,rfl,r2⟩,by rw[e2]⟩
 |none::es,vs,fp,i+1,r,q,e=>by
  obtain⟨y,ys,e0,q⟩:=q;obtain⟨v,a,b,g1,g2,g3,g4⟩:=RepE.take q (i:=i) (r:=r) (by simpa using e);subst e0;exact⟨v,a,b,by simpa using g1,g2,⟨y,ys,rfl,g3⟩,g4⟩
 |some r'::es,vs,fp,i+1,r,q,e=>by
  obtain⟨y,ys,e0,v',a',b',e1,e2,r1,r2⟩:=q;obtain⟨v,a,b,g1,g2,g3,g4⟩:=RepE.take r2 (i:=i) (r:=r) (by simpa using e);subst e0;refine⟨v,a,a'++b,by simpa using g1,g2,⟨y,ys,rfl,v',a',b,e1,rfl,r1,g3⟩,?_⟩;rw[e2];refine(Yd a' g4).trans ?_;rw[<-UR,<-UR];exact X1 b Ye
theorem RepE.put:∀{es:Env}{vs:List (Option V)}{b:List Addr}{i:Nat}{r:R}{v:V}{a:List Addr},RepE K G H es vs b->es[i]?=some none->RepO K G H r.1 r.2 v a->
  ∃fp,RepE K G H (es.set i (some r)) (vs.set i (some v)) fp/\fp.Perm (a++b)
 |[],_,_,_,_,_,_,_,e,_=>by simp at e
 |none::es,vs,b,0,r,v,a,q,e,ro=>by
  obtain⟨y,ys,e0,q⟩:=q;subst e0;exact⟨a++b,⟨some v,ys,rfl,v,a,b,rfl,rfl,ro,q⟩,.refl _⟩
 |some r'::es,vs,b,0,r,v,a,q,e,ro=>by simp at e
 |none::es,vs,b,i+1,r,v,a,q,e,ro=>by
  obtain⟨y,ys,e0,q⟩:=q;obtain⟨fp,g1,g2⟩:=RepE.put q (i:=i) (r:=r) (by simpa using e) ro;subst e0;exact⟨fp,⟨y,_,rfl,g1⟩,g2⟩
 |some r'::es,vs,b,i+1,r,v,a,q,e,ro=>by
  obtain⟨y,ys,e0,v',a',b',e1,e2,r1,r2⟩:=q;obtain⟨fp,g1,g2⟩:=RepE.put r2 (i:=i) (r:=r) (by simpa using e) ro;subst e0;refine⟨a'++fp,⟨y,_,rfl,v',a',fp,e1,rfl,r1,g1⟩,?_⟩;rw[e2];refine(Yd a' g2).trans ?_;rw[<-UR,<-UR];exact X1 b' Ye
structure Rel(K:W.Frag)(G H:Hp)(es:Env)(vs:List (Option V))(fp:List Addr):Prop where
 rep:RepE K G H es vs fp
 nd:fp.Nodup
 gn:∀p∈fp,G p=none
 gh:Same G H
structure Step(G H:Hp)(fp:List Addr)(G' H':Hp)(GR:List Addr):Prop where
 gg:Same G G'
 keep:∀q u,H q=some u->q∉fp->H' q=some u
 fpn:∀q∈GR,q∈fp\/H q=none
 gnew:∀q u,G' q=some u->G q=some u\/q∈fp\/H q=none\/isT u=true/\H q=some u
 there:∀q u,H q=some u->∃u',H' q=some u'
theorem Step.refl{fp:List Addr}:Step G H fp G H fp:=⟨.refl _,fun _ _ h _=>h,fun _ h=>.inl h,fun _ _ h=>.inl h,fun _ u h=>⟨u,h⟩⟩
theorem Step.trans{G1 H1 G2 H2:Hp}{fp Hi Ht:List Addr}(a:Step G H fp G1 H1 Hi)(b:Step G1 H1 Hi G2 H2 Ht):Step G H fp G2 H2 Ht:=by
 refine⟨a.gg.trans b.gg,fun q u h n=>?_,fun q hq=>?_,fun q u hq=>?_,fun q u h=>?_⟩
 ·refine b.keep q u (a.keep q u h n) fun hq=>?_
  rcases a.fpn q hq with z|z
  ·exact n z
  ·rw[z]at h;cases h
 ·rcases b.fpn q hq with z|z
  ·exact a.fpn q z
  ·cases e:H q with
   |none=>exact .inr rfl
   |some u=>
    obtain⟨u',e'⟩:=a.there q u e;rw[z]at e';cases e'
 ·rcases b.gnew q u hq with z|z|z|⟨t,z⟩
  ·exact a.gnew q u z
  ·exact .inr ((a.fpn q z).imp_right .inl)
  ·cases e:H q with
   |none=>exact .inr (.inr (.inl rfl))
   |some u=>
    obtain⟨u',e'⟩:=a.there q u e;rw[z]at e';cases e'
  ·cases e:H q with
   |none=>exact .inr (.inr (.inl rfl))
   |some u2=>
    by_cases hf:q∈fp
    ·exact .inr (.inl hf)
    ·rw[a.keep q u2 e hf]at z;cases z;exact .inr (.inr (.inr ⟨t,rfl⟩))
 ·obtain⟨u',h'⟩:=a.there q u h;exact b.there q u' h'
theorem Step.perm{fp fq GR PM:List Addr}(a:Step G H fp G' H' GR)(h:∀q,q∈fp<->q∈fq)(h':∀q∈PM,q∈GR):Step G H fq G' H' PM:=
 ⟨a.gg,fun q u e n=>a.keep q u e fun z=>n ((h q).mp z),fun q hq=>(a.fpn q (h' q hq)).imp_left (h q).mp,fun q u e=>(a.gnew q u e).imp_right (Or.imp_left (h q).mp),a.there⟩
theorem Step.wide{fp fq GR PM:List Addr}(a:Step G H fp G' H' GR)(h:∀q∈fp,q∈fq)(h':∀q∈PM,q∈GR\/q∈fq):Step G H fq G' H' PM:=
 ⟨a.gg,fun q u e n=>a.keep q u e fun z=>n (h q z),fun q hq=>(h' q hq).elim (fun z=>(a.fpn q z).imp_left (h q)) .inl,fun q u e=>(a.gnew q u e).imp_right (Or.imp_left (h q)),a.there⟩
theorem Rel.perm{es:Env}{vs:List (Option V)}{fp fq:List Addr}(r:RepE K G H es vs fq)(nd:fp.Nodup)(gn:∀p∈fp,G p=none)(gh:Same G H)(h:fp.Perm fq):Rel K G H es vs fq:=
 ⟨r,h.nodup_iff.mp nd,fun p hp=>gn p (h.mem_iff.mpr hp),gh⟩
theorem Rel.frame{r:R}{v:V}{es:Env}{vs:List (Option V)}{fp:List Addr}(q:Rel K G H (some r::es) (some v::vs) fp):
  ∃a b,fp=a++b/\RepO K G H r.1 r.2 v a/\Rel K G H es vs b/\∀(G' H':Hp) (Ky:Env) (Kw:List (Option V)) (b':List Addr),Step G H b G' H' b'->Rel K G' H' Ky Kw b'->
   Rel K G' H' (some r::Ky) (some v::Kw) (a++b')/\Step G H (a++b) G' H' (a++b'):=by
 obtain⟨y,ys,e,v',a,b,e1,e2,r1,r2⟩:=q.rep;cases e;cases e1;subst e2;have nd:=Ui.mp q.nd;refine⟨a,b,rfl,r1,⟨r2,nd.2.1,fun p hp=>q.gn p (Tp _ hp),q.gh⟩,fun G' H' Ky Kw b' st k=>?_⟩;have nb:∀p∈a,p∉b:=fun p hp hb=>nd.2.2 p hp p hb rfl
 have same:∀p∈a,H' p=H p:=fun p hp=>by
  obtain⟨u,hu⟩:=r1.live p hp;rw[hu];exact st.keep p u hu (nb p hp)
 refine⟨⟨⟨some v,Kw,rfl,v,a,b',rfl,rfl,r1.step st.gg same,k.rep⟩,?_,fun p hp=>?_,k.gh⟩,st.wide (fun p hp=>Tp _ hp) fun p hp=>?_⟩
 ·rw[Ui];refine⟨nd.1,k.nd,fun p hp z hz e=>?_⟩;subst e;obtain⟨u,hu⟩:=r1.live p hp;rcases st.fpn p hz with z|z
  ·exact nb p hp z
  ·rw[z]at hu;cases hu
 ·rcases Ub.mp hp with hp|hp
  ·cases e:G' p with
   |none=>rfl
   |some u=>
    exfalso;obtain⟨u',hu⟩:=r1.live p hp;rcases st.gnew p u e with z|z|z|⟨t,z⟩
    ·rw[q.gn p (TB _ hp)]at z;cases z
    ·exact nb p hp z
    ·rw[z]at hu;cases hu
    ·obtain⟨u2,h2,hm⟩:=r1.mut p hp;rw[z]at h2;cases h2;cases u with
     |tup _=>cases hm
     |frz _ _=>cases hm
     |_=>cases t
  ·exact k.gn p hp
 ·rcases Ub.mp hp with hp|hp
  ·exact .inr (TB _ hp)
  ·exact .inl hp
theorem Rel.freeze{r:R}{v:V}{es:Env}{vs:List (Option V)}{fp:List Addr}(q:Rel K G H (some r::es) (some v::vs) fp):
  ∃G' b,Rep K G' r.2 v/\Rel K G' H es vs b/\Step G H fp G' H b:=by
 obtain⟨y,ys,e,v',a,b,e1,e2,r1,r2⟩:=q.rep;cases e;cases e1;subst e2;have nd:=Ui.mp q.nd;have nb:∀p∈a,p∉b:=fun p hp hb=>nd.2.2 p hp p hb rfl
 have hg:Same G (fun p=>if p∈a then H p else G p):=fun p u e=>by
  show(if p∈a then H p else G p)=some u;by_cases hp:p∈a
  ·rw[Tq hp];exact q.gh p u e
  ·rw[Tv hp];exact e
 refine⟨fun p=>if p∈a then H p else G p,b,r1.frozen hg fun p hp u e=>?_,⟨r2.step hg fun _ _=>rfl,nd.2.1,fun p hp=>?_,fun p u e=>?_⟩,⟨hg,fun _ _ e _=>e,fun p hp=>.inl (Tp _ hp),fun p u e=>?_,fun _ u e=>⟨u,e⟩⟩⟩
 ·show(if p∈a then H p else G p)=some u;rw[Tq hp];exact e
 ·show(if p∈a then H p else G p)=none;rw[Tv (fun z=>nb p z hp)];exact q.gn p (Tp _ hp)
 ·have e:(if p∈a then H p else G p)=some u:=e;by_cases hp:p∈a
  ·rw[Tq hp]at e;exact e
  ·rw[Tv hp]at e;exact q.gh p u e
 ·have e:(if p∈a then H p else G p)=some u:=e;by_cases hp:p∈a
  ·exact .inr (.inl (TB _ hp))
  ·rw[Tv hp]at e;exact .inl e
end
section
variable{K:W.Frag}{G G' H H':Hp}{es:Env}{vs:List (Option V)}{fp:List Addr}
theorem qE:∀{ds:List D}{xs:List V}{fp:List Addr},AllO (RepO K G H .f) ds xs fp<->Reps K G ds xs/\fp=[]
 |[],xs,fp=>by simp only[AllO,Reps]
 |d::ds,xs,fp=>by
  simp only[AllO,Reps,RepO];constructor
  ·rintro⟨y,ys,a,b,e1,e2,⟨r,e3⟩,q⟩;obtain⟨q1,q2⟩:=qE.mp q;subst e3;subst q2;exact⟨⟨y,ys,e1,r,q1⟩,e2⟩
  ·rintro⟨⟨y,ys,e1,r,q1⟩,e⟩;exact⟨y,ys,[],[],e1,e,⟨r,rfl⟩,qE.mpr ⟨q1,rfl⟩⟩
theorem eU{d:D}{v:V}{a:List Addr}:RepO K G H .f d v a<->Rep K G d v/\a=[]:=by simp only[RepO]
theorem dR{ds:List D}{v:V}{a:List Addr}:RepO K G H (.l .f) (.lst ds) v a<->∃p xs,v=.ref p/\H p=some (.lst xs)/\a=[p]/\Reps K G ds xs:=by
 rw[RepO];constructor
 ·rintro⟨p,xs,b,e,q,e2,r⟩;obtain⟨r',eb⟩:=qE.mp r;subst eb;exact⟨p,xs,e,q,e2,r'⟩
 ·rintro⟨p,xs,e,q,e2,r⟩;exact⟨p,xs,[],e,q,e2,qE.mpr ⟨r,rfl⟩⟩
theorem Reps.length:∀{ds:List D}{xs:List V},Reps K G ds xs->xs.length=ds.length
 |[],xs,r=>by simp only[Reps]at r;rw[r];rfl
 |d::ds,xs,r=>by
  simp only[Reps]at r;obtain⟨y,ys,e,_,q⟩:=r;rw[e,TK,TK,Reps.length q]
theorem Reps.get:∀{ds:List D}{xs:List V}{i:Nat}{d:D},Reps K G ds xs->ds[i]?=some d->∃v,xs[i]?=some v/\Rep K G d v
 |[],_,_,_,_,e=>by simp at e
 |d'::ds,xs,0,d,r,e=>by
  simp only[Reps]at r;obtain⟨y,ys,e1,q,_⟩:=r;simp at e;subst e;exact⟨y,by rw[e1];rfl,q⟩
 |d'::ds,xs,i+1,d,r,e=>by
  simp only[Reps]at r;obtain⟨y,ys,e1,_,q⟩:=r;obtain⟨v,a,b⟩:=Reps.get q (i:=i) (d:=d) (by simpa using e);exact⟨v,by rw[e1];simpa using a,b⟩
theorem Reps.app:∀{ds es:List D}{xs ys:List V},Reps K G ds xs->Reps K G es ys->Reps K G (ds++es) (xs++ys)
 |[],_,_,_,r,q=>by simp only[Reps]at r;rw[r];exact q
 |d::ds,es,xs,ys,r,q=>by
  simp only[Reps]at r;obtain⟨z,zs,e,r1,r2⟩:=r;rw[e];simp only[VW,Reps];exact⟨z,_,rfl,r1,r2.app q⟩
theorem Reps.one{d:D}{v:V}(r:Rep K G d v):Reps K G [d] [v]:=by
 simp only[Reps];exact⟨v,[],rfl,r,rfl⟩
theorem Reps.nil:Reps K G [] []:=by simp only[Reps]
theorem Reps.cons{d:D}{v:V}{ds:List D}{xs:List V}(r:Rep K G d v)(q:Reps K G ds xs):Reps K G (d::ds) (v::xs):=by
 simp only[Reps];exact⟨v,xs,rfl,r,q⟩
theorem Reps.cons_iff{d:D}{v:V}{ds:List D}{xs:List V}:Reps K G (d::ds) (v::xs)<->Rep K G d v/\Reps K G ds xs:=by
 simp only[Reps];constructor
 ·rintro⟨y,ys,e,r,q⟩;cases e;exact⟨r,q⟩
 ·rintro⟨r,q⟩;exact⟨v,xs,rfl,r,q⟩
theorem Reps.take:∀{ds:List D}{xs:List V}(n:Nat),Reps K G ds xs->Reps K G (ds.take n) (xs.take n)
 |_,_,0,_=>by rw[Xs,Xs];exact Reps.nil
 |[],xs,n+1,r=>by simp only[Reps]at r;rw[r];exact Reps.nil
 |d::ds,xs,n+1,r=>by
  simp only[Reps]at r;obtain⟨y,ys,e,r1,r2⟩:=r;rw[e,Yz,Yz];exact .cons r1 (r2.take n)
theorem Reps.drop:∀{ds:List D}{xs:List V}(n:Nat),Reps K G ds xs->Reps K G (ds.drop n) (xs.drop n)
 |_,_,0,r=>r
 |[],xs,n+1,r=>by simp only[Reps]at r;rw[r];exact Reps.nil
 |d::ds,xs,n+1,r=>by
  simp only[Reps]at r;obtain⟨y,ys,e,r1,r2⟩:=r;rw[e,YA,YA];exact r2.drop n
theorem Reps.set:∀{ds:List D}{xs:List V}(n:Nat) {d:D}{v:V},Reps K G ds xs->Rep K G d v->Reps K G (ds.set n d) (xs.set n v)
 |[],xs,n,d,v,r,q=>by simp only[Reps]at r;rw[r];exact Reps.nil
 |d'::ds,xs,0,d,v,r,q=>by
  simp only[Reps]at r;obtain⟨y,ys,e,r1,r2⟩:=r;rw[e];exact .cons q r2
 |d'::ds,xs,n+1,d,v,r,q=>by
  simp only[Reps]at r;obtain⟨y,ys,e,r1,r2⟩:=r;rw[e];exact .cons r1 (r2.set n q)
theorem Step.cut{fq:List Addr}(h:∀q∈fq,q∈fp):Step G H fp G H fq:=⟨.refl _,fun _ _ e _=>e,fun q hq=>.inl (h q hq),fun _ _ e=>.inl e,fun _ u e=>⟨u,e⟩⟩
theorem Rel.drop{r:R}{y:Option V}(q:Rel K G H (some r::es) (y::vs) fp):∃b,Rel K G H es vs b/\Step G H fp G H b:=by
 obtain⟨y,ys,e,v',a,b,e1,e2,r1,r2⟩:=q.rep;cases e;cases e1;subst e2;have nd:=Ui.mp q.nd;exact⟨b,⟨r2,nd.2.1,fun p hp=>q.gn p (Tp _ hp),q.gh⟩,Step.cut fun p hp=>Tp _ hp⟩
theorem Rel.top{r:R}{v:V}(q:Rel K G H (some r::es) (some v::vs) fp):Rep K H r.2 v:=by
 obtain⟨y,ys,e,v',a,b,e1,e2,r1,r2⟩:=q.rep;cases e;cases e1;exact r1.frozen q.gh fun p hp u e=>e
theorem Rel.out{i:Nat}{r:R}(q:Rel K G H es vs fp)(e:es[i]?=some (some r)):∃v fq,vs[i]?=some (some v)/\Rel K G H (some r::es.set i none) (some v::vs) fq/\Step G H fp G H fq/\Step G H fq G H fp:=by
 obtain⟨v,a,b,e1,r1,r2,pm⟩:=q.rep.take e;exact⟨v,a++b,e1,Rel.perm ⟨some v,vs,rfl,v,a,b,rfl,rfl,r1,r2⟩ q.nd q.gn q.gh pm,Step.cut fun p hp=>pm.mem_iff.mpr hp,Step.cut fun p hp=>pm.mem_iff.mp hp⟩
theorem Rel.view{i:Nat}{r:R}(q:Rel K G H es vs fp)(e:es[i]?=some (some r)):∃v,vs[i]?=some (some v)/\Rep K H r.2 v:=by
 obtain⟨v,fq,e1,r1,_⟩:=q.out e;exact⟨v,e1,r1.top⟩
theorem iz{α:Type}{l:List α}{i:Nat}{x:α}(h:l[i]?=some x):l.set i x=l:=by
 apply WJ;intro j;by_cases e:i=j
 ·subst e;rw[Vb (Tx.mp h).1,h]
 ·rw[WV e]
theorem Rel.store{i:Nat}{r:R}{v:V}(q:Rel K G H (some r::es) (some v::vs) fp)(hi:i<es.length):∃fq,Rel K G H (es.set i (some r)) (vs.set i (some v)) fq/\Step G H fp G H fq:=by
 obtain⟨y,ys,e,v',a,b,e1,e2,r1,r2⟩:=q.rep;cases e;cases e1;subst e2;obtain⟨c,hc⟩:∃c,es[i]?=some c:=⟨_,Tj hi⟩
 have nd:=Ui.mp q.nd;have key:∃b',RepE K G H (es.set i none) vs b'/\(∀p∈b',p∈b)/\b'.Nodup:=by
  cases c with
  |none=>exact⟨b,by rw[iz hc];exact r2,fun _ h=>h,nd.2.1⟩
  |some r'=>
   obtain⟨v2,a2,b2,_,_,g,pm⟩:=r2.take hc;refine⟨b2,g,fun p hp=>pm.mem_iff.mpr (Tp _ hp),?_⟩;exact(Ui.mp (pm.nodup_iff.mp nd.2.1)).2.1
 obtain⟨b',g,sub,ndb⟩:=key;obtain⟨fq,g2,pm⟩:=g.put (i:=i) (r:=r) (v:=v) (by rw[Vb hi]) r1;rw[Vs]at g2;have hnd:(a++b').Nodup:=by
  rw[Ui];exact⟨nd.1,ndb,fun p hp z hz=>nd.2.2 p hp z (sub z hz)⟩
 refine⟨fq,Rel.perm g2 hnd (fun p hp=>?_) q.gh pm.symm,Step.cut fun p hp=>?_⟩
 ·refine q.gn p ?_;rcases Ub.mp hp with hp|hp
  ·exact TB _ hp
  ·exact Tp _ (sub p hp)
 ·rcases Ub.mp (pm.mem_iff.mp hp) with hp|hp
  ·exact TB _ hp
  ·exact Tp _ (sub p hp)
theorem Rel.back{i:Nat}{r:R}{v:V}(q:Rel K G H (some r::es) (some v::vs) fp)(hi:i<es.length)(hv:vs[i]?=some (some v)):∃fq,Rel K G H (es.set i (some r)) vs fq/\Step G H fp G H fq:=by
 obtain⟨fq,g,st⟩:=q.store hi;rw[iz hv]at g;exact⟨fq,g,st⟩
theorem Rel.freezeAt{i:Nat}{r:R}(q:Rel K G H es vs fp)(e:es[i]?=some (some r)):∃v G' fq,vs[i]?=some (some v)/\Rep K G' r.2 v/\Rel K G' H (es.set i (some (.f,r.2))) vs fq/\Step G H fp G' H fq:=by
 obtain⟨v,fq,ev,g,st,_⟩:=q.out e;obtain⟨G',b,rv,g2,GV⟩:=g.freeze;have g3:Rel K G' H (some (.f,r.2)::es.set i none) (some v::vs) b:=by
  refine⟨⟨some v,vs,rfl,v,[],b,rfl,rfl,?_,g2.rep⟩,g2.nd,g2.gn,g2.gh⟩;exact eU.mpr ⟨rv,rfl⟩
 obtain⟨fz,g4,Ia⟩:=g3.back (i:=i) (by rw[Up];exact(Tx.mp e).1) ev;rw[Vs]at g4;exact⟨v,G',fz,ev,rv,g4,st.trans (GV.trans Ia)⟩
theorem Rel.push{d:D}{v:V}(q:Rel K G H es vs fp)(r:Rep K G d v):Rel K G H (some (.f,d)::es) (some v::vs) fp:=by
 refine⟨⟨some v,vs,rfl,v,[],fp,rfl,rfl,?_,q.rep⟩,q.nd,q.gn,q.gh⟩;exact eU.mpr ⟨r,rfl⟩
theorem Rel.newF{p:Addr}{u:HO}(q:Rel K G H es vs fp)(hp:H p=none):Rel K (upd G p u) (upd H p u) es vs fp/\Step G H fp (upd G p u) (upd H p u) fp:=by
 have gp:G p=none:=by
  cases e:G p with
  |none=>rfl
  |some o=>rw[q.gh p o e]at hp;cases hp
 have np:p∉fp:=fun z=>by
  obtain⟨u,e⟩:=q.rep.live p z;rw[hp]at e;cases e
 have sg:Same G (upd G p u):=fun b o e=>by rw[ak (aJ e gp)];exact e
 have sh:Same H (upd H p u):=fun b o e=>by rw[ak (aJ e hp)];exact e
 refine⟨⟨q.rep.step sg fun z hz=>ak fun e=>np (e▸hz),q.nd,fun z hz=>?_,fun b o e=>?_⟩,⟨sg,fun b o e _=>sh b o e,fun _ h=>.inl h,fun b o e=>?_,fun b o e=>⟨o,sh b o e⟩⟩⟩
 ·have:z≠p:=fun e=>np (e▸hz)
  rw[ak this];exact q.gn z hz
 ·by_cases hb:b=p
  ·subst hb;rw[az]at e ⊢;exact e
  ·rw[ak hb]at e ⊢;exact q.gh b o e
 ·by_cases hb:b=p
  ·subst hb;exact .inr (.inr (.inl hp))
  ·rw[ak hb]at e;exact .inl e
theorem Rel.newL{p:Addr}{ds:List D}{xs:List V}(q:Rel K G H es vs fp)(hp:H p=none)(r:Reps K G ds xs):
  Rel K G (upd H p (.lst xs)) (some (.l .f,.lst ds)::es) (some (.ref p)::vs) (p::fp)/\Step G H fp G (upd H p (.lst xs)) (p::fp):=by
 have gp:G p=none:=by
  cases e:G p with
  |none=>rfl
  |some o=>rw[q.gh p o e]at hp;cases hp
 have np:p∉fp:=fun z=>by
  obtain⟨u,e⟩:=q.rep.live p z;rw[hp]at e;cases e
 have sh:Same H (upd H p (.lst xs)):=fun b o e=>by rw[ak (aJ e hp)];exact e
 refine⟨⟨⟨some (.ref p),vs,rfl,.ref p,[p],fp,rfl,rfl,dR.mpr ⟨p,xs,rfl,az,rfl,r⟩,q.rep.step (.refl _) fun z hz=>ak fun e=>np (e▸hz)⟩,Uu.mpr ⟨np,q.nd⟩,fun z hz=>?_,fun b o e=>?_⟩,
  ⟨.refl _,fun b o e _=>sh b o e,fun b hb=>?_,fun b o e=>.inl e,fun b o e=>⟨o,sh b o e⟩⟩⟩
 ·rcases Tw.mp hz with rfl|hz
  ·exact gp
  ·exact q.gn z hz
 ·exact sh b o (q.gh b o e)
 ·rcases Tw.mp hb with rfl|hb
  ·exact .inr hp
  ·exact .inl hb
theorem Rel.chg{i:Nat}{ds ds':List D}(q:Rel K G H es vs fp)(e:es[i]?=some (some (.l .f,.lst ds))):∃p xs,vs[i]?=some (some (.ref p))/\H p=some (.lst xs)/\Reps K G ds xs/\
  ∀HQ,Reps K G ds' HQ->∃fq,Rel K G (upd H p (.lst HQ)) (es.set i (some (.l .f,.lst ds'))) vs fq/\Step G H fp G (upd H p (.lst HQ)) fq:=by
 obtain⟨v,fq,ev,g,st,J2⟩:=q.out e;obtain⟨y,ys,e0,v',a,b,e1,e2,r1,r2⟩:=g.rep;cases e0;cases e1;obtain⟨p,xs,e3,hp,e4,rs⟩:=dR.mp r1;subst e3;subst e4;subst e2;have nd:=Uu.mp (show(p::b).Nodup from g.nd);refine⟨p,xs,ev,hp,rs,fun HQ IQ=>?_⟩;have g2:Rel K G (upd H p (.lst HQ)) (some (.l .f,.lst ds')::es.set i none) (some (.ref p)::vs) (p::b):=by
  refine⟨⟨some (.ref p),vs,rfl,.ref p,[p],b,rfl,rfl,dR.mpr ⟨p,HQ,rfl,az,rfl,IQ⟩,r2.step (.refl _) fun z hz=>ak fun e=>nd.1 (e▸hz)⟩,g.nd,g.gn,fun z o ez=>?_⟩;have:z≠p:=fun w=>by
   subst w;rw[g.gn z Tg]at ez;cases ez
  rw[ak this];exact g.gh z o ez
 have PN:Step G H (p::b) G (upd H p (.lst HQ)) (p::b):=by
  refine⟨.refl _,fun z o ez nz=>?_,fun z hz=>.inl hz,fun z o ez=>.inl ez,fun z o ez=>?_⟩
  ·have:z≠p:=fun w=>nz (by rw[w];exact Tg)
   rw[ak this];exact ez
  ·by_cases w:z=p
   ·subst w;exact⟨_,az⟩
   ·exact⟨o,by rw[ak w];exact ez⟩
 obtain⟨fz,g3,Ho⟩:=g2.back (i:=i) (by rw[Up];exact(Tx.mp e).1) ev;rw[Vs]at g3;exact⟨fz,g3,st.trans (PN.trans Ho)⟩
end
mutual
noncomputable def cv:D->Bool
 | .tup ds=>flatDs ds
 | .lst _=>false
 | .dct _ _ _=>false
 |_=>true
noncomputable def flatDs:List D->Bool
 |[]=>true
 |d::ds=>cv d&&flatDs ds
end
mutual
noncomputable def aT:O->D->Bool
 | .f,d=>cv d
 | .l c,.lst ds=>ds.all (aT c)
 | .t cs,.tup ds=>qF cs ds
 | .d,.dct _ _ vs=>flatDs vs
 | .pin _ c,d=>aT c d
 |_,_=>false
noncomputable def qF:List O->List D->Bool
 |[],[]=>true
 |c::cs,d::ds=>aT c d&&qF cs ds
 |_,_=>false
end
def frz:Option R->Option R:=Option.map fun r=>(.f,r.2)
theorem cY:∀ds,flatDs ds=ds.all cv
 |[]=>rfl
 |d::ds=>by rw[flatDs,VQ,cY ds]
section
variable{K:W.Frag}{G G' G2 G3 H H' H2:Hp}{es:Env}{vs:List (Option V)}{fp:List Addr}
mutual
theorem Rep.flat(h:∀p u,isT u=true->G2 p=some u->G3 p=some u):∀{d:D}{v:V},cv d=true->Rep K G2 d v->Rep K G3 d v
 | .non,_,_,r=>by simpa only[Rep] using r
 | .bl _,_,_,r=>by simpa only[Rep] using r
 | .int _,_,_,r=>by simpa only[Rep] using r
 | .str _,_,_,r=>by simpa only[Rep] using r
 | .tup ds,_,e,r=>by
  simp only[Rep]at r ⊢;simp only[cv]at e;obtain⟨p,xs,ev,q,rs⟩:=r;exact⟨p,xs,ev,h _ _ rfl q,Reps.flat h e rs⟩
 | .lst ds,_,e,r=>by simp only[cv]at e;cases e
 | .dct _ _ _,_,e,r=>by simp only[cv]at e;cases e
theorem Reps.flat(h:∀p u,isT u=true->G2 p=some u->G3 p=some u):∀{ds:List D}{xs:List V},flatDs ds=true->Reps K G2 ds xs->Reps K G3 ds xs
 |[],_,_,r=>by simpa only[Reps] using r
 |d::ds,_,e,r=>by
  simp only[Reps]at r ⊢;simp only[flatDs,TJ]at e;obtain⟨y,ys,ev,r1,r2⟩:=r;exact⟨y,ys,ev,Rep.flat h e.1 r1,Reps.flat h e.2 r2⟩
end
theorem AllO.clean{P P':D->V->List Addr->Prop}{c:D->Bool}:∀{ds:List D}{xs:List V}{fp:List Addr},(∀d v a,c d=true->P d v a->P' d v a)->ds.all c=true->AllO P ds xs fp->AllO P' ds xs fp
 |[],_,_,_,_,r=>r
 |d::ds,xs,fp,h,e,r=>by
  obtain⟨y,ys,a,b,e1,e2,p,q⟩:=r;rw[VQ,TJ]at e;exact⟨y,ys,a,b,e1,e2,h _ _ _ e.1 p,AllO.clean h e.2 q⟩
mutual
theorem RepO.clean(h:∀p u,isT u=true->G2 p=some u->G3 p=some u):∀{o:O}{d:D}{v:V}{fp:List Addr},aT o d=true->RepO K G2 H o d v fp->RepO K G3 H o d v fp
 | .f,d,v,fp,e,r=>by
  simp only[RepO]at r ⊢;simp only[aT]at e;exact⟨r.1.flat h e,r.2⟩
 | .pin p c,d,v,fp,e,r=>by
  simp only[RepO]at r ⊢;simp only[aT]at e;exact⟨r.1,RepO.clean h e r.2⟩
 | .l c,.lst ds,v,fp,e,r=>by
  rw[RepO]at r ⊢;rw[aT]at e;obtain⟨p,xs,GR,ev,q,e2,a⟩:=r;exact⟨p,xs,GR,ev,q,e2,AllO.clean (fun d v a=>RepO.clean h) e a⟩
 | .t cs,.tup ds,v,fp,e,r=>by
  rw[RepO]at r ⊢;rw[aT]at e;obtain⟨p,xs,ev,q,a⟩:=r;exact⟨p,xs,ev,h _ _ rfl q,RepT.clean h e a⟩
 | .d,.dct tk ks vs,v,fp,e,r=>by
  rw[RepO]at r ⊢;rw[aT]at e;obtain⟨p,xs,o,ev,q,dd,e2,rs⟩:=r;exact⟨p,xs,o,ev,q,dd,e2,rs.flat h e⟩
 | .l _,.non,_,_,_,r | .l _,.bl _,_,_,_,r | .l _,.int _,_,_,_,r | .l _,.str _,_,_,_,r | .l _,.tup _,_,_,_,r | .l _,.dct _ _ _,_,_,_,r=>by simp only[RepO]at r
 | .t _,.non,_,_,_,r | .t _,.bl _,_,_,_,r | .t _,.int _,_,_,_,r | .t _,.str _,_,_,_,r | .t _,.lst _,_,_,_,r | .t _,.dct _ _ _,_,_,_,r=>by simp only[RepO]at r
 | .d,.non,_,_,_,r | .d,.bl _,_,_,_,r | .d,.int _,_,_,_,r | .d,.str _,_,_,_,r | .d,.tup _,_,_,_,r | .d,.lst _,_,_,_,r=>by simp only[RepO]at r
theorem RepT.clean(h:∀p u,isT u=true->G2 p=some u->G3 p=some u):∀{cs:List O}{ds:List D}{xs:List V}{fp:List Addr},qF cs ds=true->RepT K G2 H cs ds xs fp->RepT K G3 H cs ds xs fp
 |[],[],_,_,_,r=>by simpa only[RepT] using r
 |c::cs,d::ds,xs,fp,e,r=>by
  rw[RepT]at r ⊢;rw[qF,TJ]at e;obtain⟨y,ys,a,b,e1,e2,r1,r2⟩:=r;exact⟨y,ys,a,b,e1,e2,RepO.clean h e.1 r1,RepT.clean h e.2 r2⟩
 |[],_::_,_,_,_,r=>by simp only[RepT]at r
 |_::_,[],_,_,_,r=>by simp only[RepT]at r
end
theorem RepE.frz(h:Same G G'):∀{es:Env}{vs:List (Option V)}{fp:List Addr},(∀p∈fp,∀u,H p=some u->G' p=some u)->RepE K G H es vs fp->RepE K G' H' (es.map PV.frz) vs []
 |[],_,_,_,r=>⟨r.1,rfl⟩
 |none::es,vs,fp,hk,r=>by
  obtain⟨y,ys,e,r⟩:=r;exact⟨y,ys,e,RepE.frz h hk r⟩
 |some r::es,vs,fp,hk,q=>by
  obtain⟨y,ys,e,v,a,b,e1,e2,r1,r2⟩:=q;subst e2;exact⟨y,ys,e,v,[],[],e1,rfl,eU.mpr ⟨r1.frozen h (fun p hp=>hk p (TB _ hp)),rfl⟩,RepE.frz h (fun p hp=>hk p (Tp _ hp)) r2⟩
theorem RepE.rep(h:Same G G'):∀{es:Env}{vs:List (Option V)}{fp:List Addr}{i:Nat}{r:R}{v:V},(∀p∈fp,∀u,H p=some u->G' p=some u)->RepE K G H es vs fp->es[i]?=some (some r)->vs[i]?=some (some v)->Rep K G' r.2 v:=fun{es vs fp i r v} hk q e ev=>by
 obtain⟨v',a,b,e1,r1,_,pm⟩:=q.take e;rw[ev]at e1;cases e1;exact r1.frozen h fun p hp=>hk p (pm.mem_iff.mpr (TB _ hp))
theorem Rel.lend(q:Rel K G H es vs fp):∃G1,Same G G1/\Same G1 H/\(∀(i:Nat) (r:R) (v:V),es[i]?=some (some r)->vs[i]?=some (some v)->Rep K G1 r.2 v)/\
  RepE K G1 H (es.map PV.frz) vs []/\
  ∀(H2 G2:Hp) (Ht:List Addr) (r:R) (v:V),Step G1 H [] G2 H2 Ht->Rel K G2 H2 [some r] [some v] Ht->
   (aT r.1 r.2=true->∃G3 IT,Step G H fp G3 H2 IT/\Rel K G3 H2 (some r::es) (some v::vs) IT)/\
   ∃G3 IT,Step G H fp G3 H2 IT/\Rel K G3 H2 (some r::es.map PV.frz) (some v::vs) IT:=by
 have hg:Same G (fun p=>if p∈fp then H p else G p):=fun p u e=>by
  show(if p∈fp then H p else G p)=some u;by_cases hp:p∈fp
  ·rw[Tq hp];exact q.gh p u e
  ·rw[Tv hp];exact e
 have hh:Same (fun p=>if p∈fp then H p else G p) H:=fun p u e=>by
  have e:(if p∈fp then H p else G p)=some u:=e;by_cases hp:p∈fp
  ·rw[Tq hp]at e;exact e
  ·rw[Tv hp]at e;exact q.gh p u e
 have hk:∀p∈fp,∀u,H p=some u->(fun p=>if p∈fp then H p else G p) p=some u:=fun p hp u e=>by
  show(if p∈fp then H p else G p)=some u;rw[Tq hp];exact e
 refine⟨fun p=>if p∈fp then H p else G p,hg,hh,fun i r v e ev=>q.rep.rep hg hk e ev,q.rep.frz hg hk,fun H2 G2 Ht r v st k=>?_⟩;obtain⟨y,ys,e0,v',a,b,e1,e2,r1,r2⟩:=k.rep;cases e0;cases e1;obtain⟨_,e3⟩:=r2;subst e3;rw[Uo]at e2;subst e2;have fresh:∀p∈Ht,H p=none:=fun p hp=>by
  rcases st.fpn p hp with z|z
  ·cases z
  ·exact z
 have kept:∀p∈fp,H2 p=H p:=fun p hp=>by
  obtain⟨u,hu⟩:=q.rep.live p hp;rw[hu];exact st.keep p u hu (by simp)
 refine⟨fun cl=>?_,⟨G2,Ht,⟨hg.trans st.gg,fun p u e n=>st.keep p u e (by simp),fun p hp=>.inr (fresh p hp),fun p u e=>?_,st.there⟩,?_⟩⟩
 ·have apart:∀p∈Ht,p∉fp:=fun p hp hf=>by
   obtain⟨u,hu⟩:=q.rep.live p hf;rw[fresh p hp]at hu;cases hu
  have g3:Same G (fun p=>if p∈fp then none else G2 p):=fun p u e=>by
   show(if p∈fp then none else G2 p)=some u;rw[Tv (fun z=>by rw[q.gn p z]at e;cases e)];exact st.gg p u (hg p u e)
  refine⟨fun p=>if p∈fp then none else G2 p,Ht++fp,⟨g3,fun p u e n=>st.keep p u e (by simp),fun p hp=>?_,fun p u e=>?_,st.there⟩,⟨⟨some v,vs,rfl,v,Ht,fp,rfl,rfl,r1.clean (fun p u t e=>?_) cl,q.rep.step g3 kept⟩,?_,fun p hp=>?_,fun p u e=>?_⟩⟩
  ·rcases Ub.mp hp with hp|hp
   ·exact .inr (fresh p hp)
   ·exact .inl hp
  ·have e:(if p∈fp then none else G2 p)=some u:=e;by_cases hp:p∈fp
   ·rw[Tq hp]at e;cases e
   ·rw[Tv hp]at e;rcases st.gnew p u e with z|z|z
    ·have z:(if p∈fp then H p else G p)=some u:=z;rw[Tv hp]at z;exact .inl z
    ·cases z
    ·exact .inr (.inr z)
  ·show(if p∈fp then none else G2 p)=some u;by_cases hp:p∈fp
   ·exfalso;obtain⟨u',hu,hm⟩:=q.rep.mut p hp;have:=st.gg p u' (hk p hp u' hu);rw[e]at this;cases this;cases u with
    |lst _=>cases t
    |dK _=>cases t
    |dT _=>cases t
    |_=>cases hm
   ·rw[Tv hp];exact e
  ·rw[Ui];exact⟨k.nd,q.nd,fun p hp z hz e=>apart p hp (e▸hz)⟩
  ·show(if p∈fp then none else G2 p)=none;by_cases hf:p∈fp
   ·rw[Tq hf]
   ·rw[Tv hf];rcases Ub.mp hp with hp|hp
    ·exact k.gn p hp
    ·exact absurd hp hf
  ·have e:(if p∈fp then none else G2 p)=some u:=e;by_cases hp:p∈fp
   ·rw[Tq hp]at e;cases e
   ·rw[Tv hp]at e;exact k.gh p u e
 ·rcases st.gnew p u e with z|z|z
  ·have z:(if p∈fp then H p else G p)=some u:=z;by_cases hp:p∈fp
   ·exact .inr (.inl hp)
   ·rw[Tv hp]at z;exact .inl z
  ·cases z
  ·exact .inr (.inr z)
 ·refine⟨⟨some v,vs,rfl,v,Ht,[],rfl,(Uo _).symm,r1,q.rep.frz (hg.trans st.gg) fun p hp u e=>st.gg p u (hk p hp u e)⟩,k.nd,k.gn,k.gh⟩
end
end PV
namespace PV
open PySem PySem.Spec PyProof.Rows L2 NX
def Res.bind{α β:Type}:Res α->(α->Res β)->Res β
 | .ok a,f=>f a
 | .exc c,_=>.exc c
 | .bad,_=>.bad
inductive BindOk{α β:Type}(x:Res α)(f:α->Res β)(b:β):Prop
 |mk (a:α) (h:x=.ok a) (k:f a=.ok b):BindOk x f b
theorem aj{α β:Type}{x:Res α}{f:α->Res β}{b:β}(h:x.bind f=.ok b):BindOk x f b:=by
 cases x with
 |ok a=>exact⟨a,rfl,h⟩
 |exc c=>cases h
 |bad=>cases h
inductive Opd where
 |val (d:D)|var (i:Nat)
def OpdOk(K:W.Frag)(G:Hp)(σ:L2.St):Opd->V->Prop
 | .val d,v=>Rep K G d v
 | .var i,v=>σ[i]?=some (some v)
theorem OpdOk.mono{K:W.Frag}{G G':Hp}{σ:L2.St}{o:Opd}{v:V}(h:Same G G')(r:OpdOk K G σ o v):OpdOk K G' σ o v:=by
 cases o with
 |val d=>exact Rep.mono h r
 |var i=>exact r
def qG(K:W.Frag)(G:Hp)(σ:L2.St):List Opd->List V->Prop
 |[],vs=>vs=[]
 |o::os,vs=>∃y ys,vs=y::ys/\OpdOk K G σ o y/\qG K G σ os ys
def wH:O->Bool
 | .f=>true
 | .l .f=>true
 | .d=>true
 | .pin _ .f=>true
 | .pin _ (.l .f)=>true
 | .pin _ .d=>true
 |_=>false
def Ji(env:PV.Env):Opd->Res D
 | .val d=>.ok d
 | .var i=>match env[i]? with
  |some (some r)=>if wH r.1 then .ok r.2 else .bad
  |_=>.bad
def sj(env:PV.Env):Opd->Res D
 | .val d=>.ok d
 | .var i=>match env[i]? with
  |some (some r)=>.ok r.2
  |_=>.bad
def sY(env:PV.Env):List Opd->Res (List D)
 |[]=>.ok []
 |o::os=>(Ji env o).bind fun d=>(sY env os).bind fun ds=>.ok (d::ds)
def lA(env:PV.Env):List Opd->Res (List D)
 |[]=>.ok []
 |o::os=>(sj env o).bind fun d=>(lA env os).bind fun ds=>.ok (d::ds)
def Vw(K:W.Frag)(G H:Hp):D->V->Prop
 | .lst ds,v=>∃p xs,v=.ref p/\SqL K H p xs/\Reps K G ds xs
 | .dct tk ks vs,v=>∃p xs o,v=.ref p/\Rd H p o/\DictO o tk ks xs/\Reps K G vs xs
 |d,v=>Rep K G d v
def PQ(K:W.Frag)(G H:Hp):List D->List V->Prop
 |[],vs=>vs=[]
 |d::ds,vs=>∃y ys,vs=y::ys/\Vw K G H d y/\PQ K G H ds ys
section
variable{K:W.Frag}{G G' H H':Hp}{es:PV.Env}{σ:L2.St}{fp:List Addr}
theorem Vw.of{d:D}{v:V}(gh:Same G H)(r:Rep K G d v):Vw K G H d v:=by
 cases d with
 |lst ds=>
  rw[Rep]at r;obtain⟨p,xs,e,q,rs⟩:=r;exact⟨p,xs,e,gP gh q,rs⟩
 |dct tk ks vs=>
  rw[Rep]at r;obtain⟨p,xs,o,e,q,dd,rs⟩:=r;exact⟨p,xs,o,e,PV.Rd.mono gh q,dd,rs⟩
 |_=>exact r
theorem RepO.vw0{o:O}{d:D}{v:V}{a:List Addr}(gh:Same G H)(hs:o=.f\/o=.l .f\/o=.d)(r:RepO K G H o d v a):Vw K G H d v:=by
 rcases hs with rfl|rfl|rfl
 ·exact Vw.of gh (eU.mp r).1
 ·cases d with
  |lst ds=>
   obtain⟨p,xs,e,q,_,rs⟩:=dR.mp r;exact⟨p,xs,e,SqL.of q,rs⟩
  |_=>simp only[RepO]at r
 ·cases d with
  |dct tk ks vs=>
   rw[RepO]at r;obtain⟨p,xs,o,e,q,dd,_,rs⟩:=r;exact⟨p,xs,o,e,.inl q,dd,rs⟩
  |_=>simp only[RepO]at r
theorem RepO.vw{o:O}{d:D}{v:V}{a:List Addr}(gh:Same G H)(hs:wH o=true)(r:RepO K G H o d v a):Vw K G H d v:=by
 unfold wH at hs;split at hs
 ·exact r.vw0 gh (.inl rfl)
 ·exact r.vw0 gh (.inr (.inl rfl))
 ·exact r.vw0 gh (.inr (.inr rfl))
 ·rw[RepO]at r;exact r.2.vw0 gh (.inl rfl)
 ·rw[RepO]at r;exact r.2.vw0 gh (.inr (.inl rfl))
 ·rw[RepO]at r;exact r.2.vw0 gh (.inr (.inr rfl))
 ·cases hs
theorem Rel.vw{o:Opd}{v:V}{d:D}(q:Rel K G H es σ fp)(k:OpdOk K G σ o v)(e:Ji es o=.ok d):Vw K G H d v:=by
 cases o with
 |val d'=>
  cases e;exact Vw.of q.gh k
 |var i=>
  unfold Ji at e;dsimp only at e;split at e
  ·rename_i r hr;split at e
   ·rename_i hs;cases e;obtain⟨v',a,b,ev,r1,_⟩:=q.rep.take hr;have k:σ[i]?=some (some v):=k;rw[k]at ev;cases ev;exact r1.vw q.gh hs
   ·cases e
  ·cases e
theorem Rel.vwA{o:Opd}{v:V}{d:D}(q:Rel K G H es σ fp)(k:OpdOk K G σ o v)(e:sj es o=.ok d):Rep K H d v:=by
 cases o with
 |val d'=>
  cases e;exact Rep.mono q.gh k
 |var i=>
  unfold sj at e;dsimp only at e;split at e
  ·rename_i r hr;cases e;obtain⟨v',ev,r1⟩:=q.view hr;have k:σ[i]?=some (some v):=k;rw[k]at ev;cases ev;exact r1
  ·cases e
theorem Rel.vws(q:Rel K G H es σ fp):∀{os:List Opd}{vs:List V}{ds:List D},qG K G σ os vs->sY es os=.ok ds->PQ K G H ds vs
 |[],_,_,k,e=>by
  cases e;exact k
 |o::os,_,_,⟨y,ys,e0,k1,k2⟩,e=>by
  unfold sY at e;obtain⟨d,e1,e⟩:=aj e;obtain⟨ds,e2,e⟩:=aj e;cases e;exact⟨y,ys,e0,q.vw k1 e1,Rel.vws q k2 e2⟩
theorem ko{G1:Hp}(gg:Same G G1)(ht:∀(i:Nat) (r:R) (v:V),es[i]?=some (some r)->σ[i]?=some (some v)->Rep K G1 r.2 v):∀{os:List Opd}{vs:List V}{ds:List D},qG K G σ os vs->lA es os=.ok ds->Reps K G1 ds vs
 |[],_,_,k,e=>by
  cases e;have k:_=_:=k;rw[k];exact Reps.nil
 |o::os,_,_,⟨y,ys,e0,k1,k2⟩,e=>by
  unfold lA at e;obtain⟨d,e1,e⟩:=aj e;obtain⟨ds,e2,e⟩:=aj e;cases e;rw[e0];refine .cons ?_ (ko gg ht k2 e2);cases o with
  |val d'=>
   cases e1;exact Rep.mono gg k1
  |var i=>
   unfold sj at e1;dsimp only at e1;split at e1
   ·rename_i r hr;cases e1;exact ht i r y hr k1
   ·cases e1
end
abbrev FX:=PV.Env->Res (R×PV.Env)
abbrev FO:=PV.Env->Res (Opd×PV.Env)
abbrev FOs:=PV.Env->Res (List Opd×PV.Env)
abbrev FT:=PV.Env->Res (Bool×PV.Env)
inductive Out where
 |nx (env:PV.Env)|rt (r:R)|bk (env:PV.Env)|ct (env:PV.Env)
abbrev FS:=PV.Env->Res Out
inductive tQ(K:W.Frag)(f:FX)(σ:L2.St)(H:Hp)(Q:VK):Prop
 |mk:∀G env fp r env',Rel K G H env σ fp->f env=.ok (r,env')->(∀v H' G' GR,Step G H fp G' H' GR->Rel K G' H' (some r::env') (some v::σ) GR->Q v H')->tQ K f σ H Q
inductive tO(K:W.Frag)(f:FO)(σ:L2.St)(H:Hp)(Q:VK):Prop
 |mk:∀G env fp o env',Rel K G H env σ fp->f env=.ok (o,env')->(∀v H' G' GR,Step G H fp G' H' GR->Rel K G' H' env' σ GR->OpdOk K G' σ o v->Q v H')->tO K f σ H Q
inductive tOs(K:W.Frag)(f:FOs)(σ:L2.St)(H:Hp)(Q:List V->Hp->Prop):Prop
 |mk:∀G env fp o env',Rel K G H env σ fp->f env=.ok (o,env')->(∀v H' G' GR,Step G H fp G' H' GR->Rel K G' H' env' σ GR->qG K G' σ o v->Q v H')->tOs K f σ H Q
inductive tQT(K:W.Frag)(f:FT)(σ:L2.St)(H:Hp)(Q:Bool->Hp->Prop):Prop
 |mk:∀G env fp b env',Rel K G H env σ fp->f env=.ok (b,env')->(∀H' G' GR,Step G H fp G' H' GR->Rel K G' H' env' σ GR->Q b H')->tQT K f σ H Q
inductive Mode where
 |plain|mut
def Fp(md:Mode)(K:W.Frag)(G H:Hp)(r:R)(v:V)(fp:List Addr):Prop:=match md with
 | .plain=>Rel K G H [some r] [some v] fp
 | .mut=>∃o d p c d0,r=(.t [o,.pin p c],.tup [d,d0])/\Rel K G H [some (o,d),some (.pin p c,d0)] [some v,some (.ref p)] fp
noncomputable def OutOk{md:Mode}(K:W.Frag)(G H:Hp)(fp:List Addr)(Dd:Ends):Res Out->Prop
 | .ok (.nx env')=>∀σ' H' G' GR,Step G H fp G' H' GR->Rel K G' H' env' σ' GR->Dd.nx σ' H'
 | .ok (.bk env')=>∀σ' H' G' GR,Step G H fp G' H' GR->Rel K G' H' env' σ' GR->Dd.bk σ' H'
 | .ok (.ct env')=>∀σ' H' G' GR,Step G H fp G' H' GR->Rel K G' H' env' σ' GR->Dd.ct σ' H'
 | .ok (.rt r)=>∀v H' G' GR,Step G H fp G' H' GR->Fp md K G' H' r v GR->Dd.rt v H'
 |_=>False
inductive tQS{md:Mode}(K:W.Frag)(g:FS)(Dd:Ends)(σ:L2.St)(H:Hp):Prop
 |mk:∀G env fp,Rel K G H env σ fp->OutOk (md:=md) K G H fp Dd (g env)->tQS (md:=md) K g Dd σ H
def QE(X:Cx)(e:Expr)(f:FX):Prop:=PE X e (tQ X.K f)
def QO(X:Cx)(e:Expr)(f:FO):Prop:=PE X e (tO X.K f)
def LN(X:Cx)(es:List Expr)(f:FOs):Prop:=PA X es (tOs X.K f)
def QT(X:Cx)(e:Expr)(f:FT):Prop:=PT X e (tQT X.K f)
def QW(X:Cx)(e:Expr)(f:FT):Prop:=PW X e (tQT X.K f)
def QS{md:Mode}(X:Cx)(st:Stmt)(g:FS):Prop:=PS X st (tQS (md:=md) X.K g)
def LH{md:Mode}(X:Cx)(st:List Stmt)(g:FS):Prop:=PSs X st (tQS (md:=md) X.K g)
theorem bI{X:Cx}{e:Expr}{t t':TE}(h:PE X e t)(k:∀σ H Q,t' σ H Q->t σ H Q):PE X e t':=fun pr s σ H Q I w=>h pr s σ H Q I (k σ H Q w)
theorem oh{X:Cx}{e:Expr}{t t':TT}(h:PT X e t)(k:∀σ H Q,t' σ H Q->t σ H Q):PT X e t':=fun pr s σ H Q I w=>h pr s σ H Q I (k σ H Q w)
theorem yy{X:Cx}{e:Expr}{t t':TT}(h:PW X e t)(k:∀σ H Q,t' σ H Q->t σ H Q):PW X e t':=fun wh pr s σ H Q I w=>h wh pr s σ H Q I (k σ H Q w)
theorem qH{X:Cx}{e:List Expr}{t t':TA}(h:PA X e t)(k:∀σ H Q,t' σ H Q->t σ H Q):PA X e t':=fun pos pr s σ H Q I w=>h pos pr s σ H Q I (k σ H Q w)
theorem eW{X:Cx}{e:Stmt}{t t':TS}(h:PS X e t)(k:∀D σ H,t' D σ H->t D σ H):PS X e t':=fun pr s σ H D I w=>h pr s σ H D I (k D σ H w)
theorem uD{X:Cx}{e:List Stmt}{t t':TS}(h:PSs X e t)(k:∀D σ H,t' D σ H->t D σ H):PSs X e t':=fun pr s σ H D I w=>h pr s σ H D I (k D σ H w)
theorem OutOk.imp{md:Mode}{K:W.Frag}{G H G1 H1:Hp}{fp Hi:List Addr}{Dd PR:Ends}{r:Res Out}(st:Step G H fp G1 H1 Hi)(h:OutOk (md:=md) K G H fp Dd r)(n:∀σ H,Dd.nx σ H->PR.nx σ H)(b:∀σ H,Dd.bk σ H->PR.bk σ H)(c:∀σ H,Dd.ct σ H->PR.ct σ H)(t:∀v H,Dd.rt v H->PR.rt v H):OutOk (md:=md) K G1 H1 Hi PR r:=by
 match r,h with
 | .ok (.nx env'),h=>exact fun σ' H' G' GR s q=>n _ _ (h σ' H' G' GR (st.trans s) q)
 | .ok (.bk env'),h=>exact fun σ' H' G' GR s q=>b _ _ (h σ' H' G' GR (st.trans s) q)
 | .ok (.ct env'),h=>exact fun σ' H' G' GR s q=>c _ _ (h σ' H' G' GR (st.trans s) q)
 | .ok (.rt r),h=>exact fun v H' G' GR s q=>t _ _ (h v H' G' GR (st.trans s) q)
theorem OutOk.after{md:Mode}{K:W.Frag}{G H G1 H1:Hp}{fp Hi:List Addr}{Dd:Ends}{r:Res Out}(st:Step G H fp G1 H1 Hi)(h:OutOk (md:=md) K G H fp Dd r):OutOk (md:=md) K G1 H1 Hi Dd r:=h.imp st (fun _ _ z=>z) (fun _ _ z=>z) (fun _ _ z=>z) fun _ _ z=>z
def eCon(d:D):FX:=fun env=>.ok ((.f,d),env)
def fz:O->O
 | .pin p .f=>.pin p .f
 |_=>.f
def ax(i:Nat):FX:=fun env=>match env[i]? with
 |some (some r)=>.ok ((.f,r.2),env.set i (some (fz r.1,r.2)))
 |_=>.bad
def kq(i:Nat):FX:=fun env=>match env[i]? with
 |some (some r)=>.ok (r,env.set i none)
 |_=>.bad
def oVal(f:FX):FO:=fun env=>(f env).bind fun p=>.ok (.val p.1.2,p.2)
def oVar(i:Nat):FO:=fun env=>match env[i]? with
 |some (some _)=>.ok (.var i,env)
 |_=>.bad
def au:FOs:=fun env=>.ok ([],env)
def ag(f:FO)(g:FOs):FOs:=fun env=>(f env).bind fun p=>(g p.2).bind fun q=>.ok (p.1::q.1,q.2)
section
variable{X:Cx}
theorem qI{e:Expr}{v:V}{d:D}(h:PE X e (tC v))(r:∀G,Rep X.K G d v):QE X e (eCon d):=bI h fun σ H Q G0=>by
 obtain⟨G,env,fp,rr,env',rel,e,k⟩:=G0;cases e;exact k v H G fp .refl (rel.push (r G))
theorem ao{i j pos}:QE X (.Constant (.int i) j pos) (eCon (.int i)):=qI Bi fun G=>by rw[Rep]
theorem jk{i j pos}:QE X (.Constant (.bool i) j pos) (eCon (.bl i)):=qI DM fun G=>by rw[Rep]
theorem qJ{j pos}:QE X (.Constant .none j pos) (eCon .non):=qI Bj fun G=>by rw[Rep]
theorem dS{x j pos}{l:List Nat}(h:x=S l)(hl:l.length<=1000):QE X (.Constant (.str x) j pos) (eCon (.str l)):=qI Bk fun G=>by
 rw[Rep,h];exact⟨rfl,by rw[line_eq];lia⟩
theorem aq{i:Nat}{e:Expr}(h:PE X e (rR i)):QE X e (ax i):=bI h fun σ H Q G0=>by
 obtain⟨G,env,fp,rr,env',rel,e,k⟩:=G0;unfold ax at e;split at e
 ·rename_i r hr;cases e;by_cases hf:fz r.1=.f
  ·obtain⟨v,G',fq,ev,rv,Hy,st⟩:=rel.freezeAt hr;rw[hf]at k;exact⟨v,ev,k v H G' fq st (Hy.push rv)⟩
  ·have hp:∃p,r.1=.pin p .f:=by
    unfold fz at hf;split at hf
    ·rename_i p hp;exact⟨p,hp⟩
    ·exact absurd rfl hf
   obtain⟨p,hp⟩:=hp;obtain⟨v,a,b,ev,r1,_,_⟩:=rel.rep.take hr;rw[hp,RepO]at r1;have es:env.set i (some (fz r.1,r.2))=env:=by
    refine iz ?_;rw[hr,hp];show some (some r)=some (some (.pin p .f,r.2));rw[<-hp]
   rw[es]at k;exact⟨v,ev,k v H G fp .refl (rel.push (eU.mp r1.2).1)⟩
 ·cases e
theorem gx{i:Nat}{e:Expr}(h:PE X e (rR i)):QE X e (kq i):=bI h fun σ H Q G0=>by
 obtain⟨G,env,fp,rr,env',rel,e,k⟩:=G0;unfold kq at e;split at e
 ·rename_i r hr;cases e;obtain⟨v,fq,ev,Hy,st,_⟩:=rel.out hr;exact⟨v,ev,k v H G fq st Hy⟩
 ·cases e
theorem ae{e:Expr}{f:FX}(h:QE X e f):QO X e (oVal f):=bI h fun σ H Q G0=>by
 obtain⟨G,env,fp,o,env',rel,e,k⟩:=G0;obtain⟨⟨r,GL⟩,e1,e⟩:=aj e;cases e;refine⟨G,env,fp,r,GL,rel,e1,fun v H' G' GR st Hy=>?_⟩;obtain⟨G2,b,rv,GN,GV⟩:=Hy.freeze;exact k v H' G2 b (st.trans GV) GN rv
theorem af{i:Nat}{e:Expr}(h:PE X e (rR i)):QO X e (oVar i):=bI h fun σ H Q G0=>by
 obtain⟨G,env,fp,o,env',rel,e,k⟩:=G0;unfold oVar at e;split at e
 ·rename_i r hr;cases e;obtain⟨v,ev,_⟩:=rel.view hr;exact⟨v,ev,k v H G fp .refl rel ev⟩
 ·cases e
theorem ai:LN X [] au:=qH tP fun σ H Q G0=>by
 obtain⟨G,env,fp,o,env',rel,e,k⟩:=G0;cases e;exact k [] H G fp .refl rel rfl
theorem ab{e:Expr}{es:List Expr}{f:FO}{g:FOs}(h:QO X e f)(hs:LN X es g)(NU:starEach (e::es) X.env=(false,eval e X.env)::starEach es X.env:=by rfl):LN X (e::es) (ag f g):=
 qH (l5 h hs NU) fun σ H Q G0=>by
  obtain⟨G,env,fp,o,env',rel,e,k⟩:=G0;obtain⟨⟨o1,GL⟩,e1,e⟩:=aj e;obtain⟨⟨os,GY⟩,e2,e⟩:=aj e;cases e;exact⟨G,env,fp,o1,GL,rel,e1,fun v H1 G1 Hi Hb GP Jw=>⟨G1,GL,Hi,os,GY,GP,e2,fun vs H2 G2 Ht GV GN Oe=>k _ H2 G2 Ht (Hb.trans GV) GN ⟨v,vs,rfl,Jw.mono GV.gg,Oe⟩⟩⟩
def eBin(g:D->D->Res R)(fa fb:FO):FX:=fun env=>(fa env).bind fun p=>(fb p.2).bind fun q=>(Ji q.2 p.1).bind fun a=>(Ji q.2 q.1).bind fun b=>(g a b).bind fun r=>.ok (r,q.2)
def aB(g:D->D->Res R)(fa fb:FO):FX:=fun env=>(fa env).bind fun p=>(fb p.2).bind fun q=>(sj q.2 p.1).bind fun a=>(sj q.2 q.1).bind fun b=>(g a b).bind fun r=>.ok (r,q.2)
structure Goes(K:W.Frag)(H:Hp)(G:Hp)(fp:List Addr)(es:PV.Env)(vs:L2.St)(r:R)(Q:VK):Prop where
 rel:Rel K G H es vs fp
 goes:∀v H' G' GR,Step G H fp G' H' GR->Rel K G' H' (some r::es) (some v::vs) GR->Q v H'
inductive rG(K:W.Frag)(g:D->D->Res R)(x:V)(y:V)(H:Hp)(Q:VK):Prop
 |mk:∀G fp es vs a b r,Goes K H G fp es vs r Q->Vw K G H a x->Vw K G H b y->g a b=.ok r->rG K g x y H Q
inductive rGA(K:W.Frag)(g:D->D->Res R)(x:V)(y:V)(H:Hp)(Q:VK):Prop
 |mk:∀G fp es vs a b r,Goes K H G fp es vs r Q->Rep K H a x->Rep K H b y->g a b=.ok r->rGA K g x y H Q
variable{a b c:Expr}{fa fb fc:FO}{pos:Pos}{g g':D->D->Res R}
theorem qK{σ:L2.St}{H:Hp}{Q:VK}(h:tQ X.K (eBin g fa fb) σ H Q):O4 (rG X.K g) (tO X.K fa) (tO X.K fb) σ H Q:=by
 obtain⟨G,env,fp,r,env',rel,e,k⟩:=h;obtain⟨⟨oa,e1⟩,ha,e⟩:=aj e;obtain⟨⟨ob,e2⟩,hb,e⟩:=aj e;obtain⟨da,PU,e⟩:=aj e;obtain⟨db,JG,e⟩:=aj e;obtain⟨r',hr,e⟩:=aj e;cases e;exact⟨G,env,fp,oa,e1,rel,ha,fun x H1 G1 Hi Hb GP Jw=>⟨G1,e1,Hi,ob,e2,GP,hb,fun y H2 G2 Ht GV GN Oe=>
  ⟨G2,Ht,e2,σ,da,db,r,⟨GN,fun v H' G' GR st Hy=>k v H' G' GR (Hb.trans (GV.trans st)) Hy⟩,GN.vw (Jw.mono GV.gg) PU,GN.vw Oe JG,hr⟩⟩⟩
theorem uE{σ:L2.St}{H:Hp}{Q:VK}(h:tQ X.K (aB g fa fb) σ H Q):O4 (rGA X.K g) (tO X.K fa) (tO X.K fb) σ H Q:=by
 obtain⟨G,env,fp,r,env',rel,e,k⟩:=h;obtain⟨⟨oa,e1⟩,ha,e⟩:=aj e;obtain⟨⟨ob,e2⟩,hb,e⟩:=aj e;obtain⟨da,PU,e⟩:=aj e;obtain⟨db,JG,e⟩:=aj e;obtain⟨r',hr,e⟩:=aj e;cases e;exact⟨G,env,fp,oa,e1,rel,ha,fun x H1 G1 Hi Hb GP Jw=>⟨G1,e1,Hi,ob,e2,GP,hb,fun y H2 G2 Ht GV GN Oe=>
  ⟨G2,Ht,e2,σ,da,db,r,⟨GN,fun v H' G' GR st Hy=>k v H' G' GR (Hb.trans (GV.trans st)) Hy⟩,GN.vwA (Jw.mono GV.gg) PU,GN.vwA Oe JG,hr⟩⟩⟩
theorem bc{op:Operator}(ho:HG X (binaryOp op) (rG X.K g))(ha:QO X a fa)(hb:QO X b fb):QE X (.BinOp a op b pos) (eBin g fa fb):=bI (DX ho ha hb) fun _ _ _=>qK
theorem B6{op:CmpOp}(ho:HG X (compareOp op) (rG X.K g))(ha:QO X a fa)(hb:QO X b fb)(hm:behindInMarks op b=false):QE X (.Compare a [op] [b] pos) (eBin g fa fb):=bI (tM ho ha hb hm) fun _ _ _=>qK
theorem hZ{op:CmpOp}(ho:HG X (compareOp op) (rGA X.K g))(ha:QO X a fa)(hb:QO X b fb)(hm:behindInMarks op b=false):QE X (.Compare a [op] [b] pos) (aB g fa fb):=bI (tM ho ha hb hm) fun _ _ _=>uE
def GX(f:FX):FT:=fun env=>(f env).bind fun p=>match p.1.2 with
 | .bl k=>.ok (k,p.2)
 |_=>.bad
theorem z7{f:FX}{σ:L2.St}{H:Hp}{Q:Bool->Hp->Prop}(h:tQT X.K (GX f) σ H Q):tQ X.K f σ H fun x H'=>∃k,x=.bl k/\Q k H':=by
 obtain⟨G,env,fp,k,env',rel,e,q⟩:=h;obtain⟨⟨⟨o,d⟩,GL⟩,e1,e⟩:=aj e;dsimp only at e;split at e
 ·cases e;refine⟨G,env,fp,_,_,rel,e1,fun v H' G' GR st Hy=>?_⟩;have hv:=Hy.top;rw[show((o,D.bl k):R).2=D.bl k from rfl,Rep]at hv;obtain⟨b,GN,GV⟩:=Hy.drop;exact⟨k,hv,q H' G' b (st.trans GV) GN⟩
 ·cases e
theorem dt{e:Expr}{f:FX}(h:QE X e f)(he:∀whole,isTrue e X.env whole=(do let v <-whole;standAt e.pos;holding [v] (truthy v)):=by intro _;rfl):QT X e (GX f):=oh (Bl h he) fun _ _ _=>z7
theorem eX{op:CmpOp}(ho:HG X (compareOp op) (rG X.K g))(ha:QO X a fa)(hb:QO X b fb)(hm:behindInMarks op b=false):QT X (.Compare a [op] [b] pos) (GX (eBin g fa fb)):=
 oh (tN ho ha hb hm) fun _ _ _ h=>qK (z7 h)
theorem aF{op:CmpOp}(ho:HG X (compareOp op) (rGA X.K g))(ha:QO X a fa)(hb:QO X b fb)(hm:behindInMarks op b=false):QT X (.Compare a [op] [b] pos) (GX (aB g fa fb)):=
 oh (tN ho ha hb hm) fun _ _ _ h=>uE (z7 h)
def uF(f g:FT):FT:=fun env=>(f env).bind fun p=>if p.1 then g p.2 else .ok (false,p.2)
def KA(f g:FT):FT:=fun env=>(f env).bind fun p=>if p.1 then .ok (true,p.2) else g p.2
def oi(f:FT):FT:=fun env=>(f env).bind fun p=>.ok (!p.1,p.2)
variable{ga gb:FT}{b7:List Expr}
theorem h8(h:QT X a ga):QW X (.BoolOp .And [a] pos) ga:=ze h
theorem ku(h:QT X a ga):QW X (.BoolOp .Or [a] pos) ga:=Bm h
theorem jx(h:QT X a ga)(h2:QW X (.BoolOp .And (b::b7) pos) gb):QW X (.BoolOp .And (a::b::b7) pos) (uF ga gb):=yy (Bn h h2) fun σ H Q G0=>by
 obtain⟨G,env,fp,k,env',rel,e,q⟩:=G0;obtain⟨⟨k1,GL⟩,e1,e⟩:=aj e;refine⟨G,env,fp,k1,GL,rel,e1,fun H1 G1 Hi Hb GP=>?_⟩;dsimp only at e;cases k1 with
 |true=>exact⟨G1,GL,Hi,k,env',GP,e,fun H2 G2 Ht GV GN=>q H2 G2 Ht (Hb.trans GV) GN⟩
 |false=>
  cases e;exact q H1 G1 Hi Hb GP
theorem jl(h:QT X a ga)(h2:QW X (.BoolOp .Or (b::b7) pos) gb):QW X (.BoolOp .Or (a::b::b7) pos) (KA ga gb):=yy (DN h h2) fun σ H Q G0=>by
 obtain⟨G,env,fp,k,env',rel,e,q⟩:=G0;obtain⟨⟨k1,GL⟩,e1,e⟩:=aj e;refine⟨G,env,fp,k1,GL,rel,e1,fun H1 G1 Hi Hb GP=>?_⟩;dsimp only at e;cases k1 with
 |false=>exact⟨G1,GL,Hi,k,env',GP,e,fun H2 G2 Ht GV GN=>q H2 G2 Ht (Hb.trans GV) GN⟩
 |true=>
  cases e;exact q H1 G1 Hi Hb GP
theorem QW.qt{e:Expr}{f:FT}(h:QW X e f):QT X e f:=h.pt
theorem eY(h:QT X a ga):QT X (.UnaryOp .Not a pos) (oi ga):=oh (Bo h) fun σ H Q G0=>by
 obtain⟨G,env,fp,k,env',rel,e,q⟩:=G0;obtain⟨⟨k1,GL⟩,e1,e⟩:=aj e;cases e;exact⟨G,env,fp,k1,GL,rel,e1,fun H1 G1 Hi Hb GP=>q H1 G1 Hi Hb GP⟩
def DB(f g:FX):FX:=fun env=>(f env).bind fun p=>match p.1.2 with
 | .bl true=>g p.2
 | .bl false=>.ok ((.f,.bl false),p.2)
 |_=>.bad
def eOr(f g:FX):FX:=fun env=>(f env).bind fun p=>match p.1.2 with
 | .bl true=>.ok ((.f,.bl true),p.2)
 | .bl false=>g p.2
 |_=>.bad
def Ej(f:FX):FX:=fun env=>(f env).bind fun p=>match p.1.2 with
 | .bl k=>.ok ((.f,.bl (!k)),p.2)
 |_=>.bad
def eIf(c:FT)(f g:FX):FX:=fun env=>(c env).bind fun p=>if p.1 then f p.2 else g p.2
variable{ea eb:FX}
theorem yz{op}(h:QE X a ea):QE X (.BoolOp op [a] pos) ea:=Bp h
theorem cV{K:W.Frag}{G:Hp}(k:Bool):Rep K G (.bl k) (.bl k):=by rw[Rep]
theorem rep_int{K:W.Frag}{G:Hp}(k:Int):Rep K G (.int k) (.int k):=by rw[Rep]
theorem mx{K:W.Frag}{G:Hp}:Rep K G .non .non:=by rw[Rep]
theorem h9{K:W.Frag}{G:Hp}{l:List Nat}(h:l.length<=sizeLine):Rep K G (.str l) (.str (S l)):=by
 rw[Rep];exact⟨rfl,h⟩
theorem cF{K:W.Frag}{G:Hp}{k:Bool}{v:V}(h:Rep K G (.bl k) v):v=.bl k:=by rw[Rep]at h;exact h
theorem bJ{K:W.Frag}{G:Hp}{k:Int}{v:V}(h:Rep K G (.int k) v):v=.int k:=by rw[Rep]at h;exact h
theorem b9{K:W.Frag}{G:Hp}{v:V}(h:Rep K G .non v):v=.non:=by rw[Rep]at h;exact h
theorem bw{K:W.Frag}{G:Hp}{l:List Nat}{v:V}(h:Rep K G (.str l) v):v=.str (S l)/\l.length<=sizeLine:=by rw[Rep]at h;exact h
inductive OfT(K:W.Frag)(G:Hp)(l:List D)(v:V):Prop
 |mk (p:Addr) (xs:List V) (e:v=.ref p) (q:SqT K G p xs) (r:Reps K G l xs):OfT K G l v
inductive OfL(K:W.Frag)(G:Hp)(l:List D)(v:V):Prop
 |mk (p:Addr) (xs:List V) (e:v=.ref p) (q:SqL K G p xs) (r:Reps K G l xs):OfL K G l v
theorem bE{K:W.Frag}{G:Hp}{l:List D}{v:V}(h:Rep K G (.tup l) v):OfT K G l v:=by
 rw[Rep]at h;obtain⟨p,xs,e,q,r⟩:=h;exact⟨p,xs,e,SqT.of q,r⟩
theorem uG{K:W.Frag}{G:Hp}{l:List D}{v:V}(h:Rep K G (.tup l) v):∃p xs,v=.ref p/\G p=some (.tup xs)/\Reps K G l xs:=by rw[Rep]at h;exact h
theorem bF{K:W.Frag}{G:Hp}{l:List D}{v:V}(h:Rep K G (.lst l) v):OfL K G l v:=by
 rw[Rep]at h;obtain⟨p,xs,e,q,r⟩:=h;exact⟨p,xs,e,q,r⟩
theorem Ek{K:W.Frag}{G H:Hp}{k:Bool}{v:V}(h:Vw K G H (.bl k) v):v=.bl k:=cF (K:=K) (G:=G) h
theorem bx{K:W.Frag}{G H:Hp}{k:Int}{v:V}(h:Vw K G H (.int k) v):v=.int k:=bJ (K:=K) (G:=G) h
theorem jy{K:W.Frag}{G H:Hp}{l:List Nat}{v:V}(h:Vw K G H (.str l) v):v=.str (S l)/\l.length<=sizeLine:=bw (K:=K) (G:=G) h
theorem fY{K:W.Frag}{G H:Hp}{l:List D}{v:V}(h:Vw K G H (.tup l) v):OfT K G l v:=bE (K:=K) (G:=G) h
theorem yA(h:QE X a ea)(h2:QE X (.BoolOp .And (b::b7) pos) eb):QE X (.BoolOp .And (a::b::b7) pos) (DB ea eb):=bI (Bq h h2) fun σ H Q G0=>by
 obtain⟨G,env,fp,r,env',rel,e,q⟩:=G0;obtain⟨⟨⟨o,d⟩,GL⟩,e1,e⟩:=aj e;refine⟨G,env,fp,_,GL,rel,e1,fun v H1 G1 Hi Hb GP=>?_⟩;have hv:=GP.top;obtain⟨b',GN,GV⟩:=GP.drop;dsimp only at e hv;split at e
 ·exact⟨true,cF hv,BP ⟨G1,GL,b',r,env',GN,e,fun v H2 G2 Ht Ho Hu=>q v H2 G2 Ht (Hb.trans (GV.trans Ho)) Hu⟩⟩
 ·cases e;exact⟨false,cF hv,iteF (q _ H1 G1 b' (Hb.trans GV) (GN.push (cV _)))⟩
 ·cases e
theorem B7(h:QE X a ea):QE X (.UnaryOp .Not a pos) (Ej ea):=bI (Br h) fun σ H Q G0=>by
 obtain⟨G,env,fp,r,env',rel,e,q⟩:=G0;obtain⟨⟨⟨o,d⟩,GL⟩,e1,e⟩:=aj e;refine⟨G,env,fp,_,GL,rel,e1,fun v H1 G1 Hi Hb GP=>?_⟩;have hv:=GP.top;obtain⟨b',GN,GV⟩:=GP.drop;dsimp only at e hv;split at e
 ·cases e;exact⟨_,cF hv,q _ H1 G1 b' (Hb.trans GV) (GN.push (cV _))⟩
 ·cases e
noncomputable def Fq(g g':D->D->Res R)(fa fb fc:FO):FX:=fun env=>(fa env).bind fun p=>(fb p.2).bind fun q=>(Ji q.2 p.1).bind fun a=>(Ji q.2 q.1).bind fun b=>(g a b).bind fun r=>match r with
 |(.f,.bl true)=>(fc q.2).bind fun t=>(Ji t.2 q.1).bind fun b=>(Ji t.2 t.1).bind fun c=>(g' b c).bind fun r=>.ok (r,t.2)
 |(.f,.bl false)=>.ok ((.f,.bl false),q.2)
 |_=>.bad
inductive rC(K:W.Frag)(g:List D->Res R)(xs:List V)(H:Hp)(Q:VK):Prop
 |mk:∀G fp es vs ds r,Goes K H G fp es vs r Q->PQ K G H ds xs->g ds=.ok r->rC K g xs H Q
def aZ(g:List D->Res R)(fs:FOs):FX:=fun env=>(fs env).bind fun p=>(sY p.2 p.1).bind fun ds=>(g ds).bind fun r=>.ok (r,p.2)
theorem pK{gg:List D->Res R}{fs:FOs}{σ:L2.St}{H:Hp}{Q:VK}(h:tQ X.K (aZ gg fs) σ H Q):Rk (rC X.K gg) (tOs X.K fs) σ H Q:=by
 obtain⟨G,env,fp,r,env',rel,e,k⟩:=h;obtain⟨⟨os,e1⟩,ha,e⟩:=aj e;obtain⟨ds,hd,e⟩:=aj e;obtain⟨r',hr,e⟩:=aj e;cases e;exact⟨G,env,fp,os,e1,rel,ha,fun vs H1 G1 Hi Hb GP Jw=>⟨G1,Hi,e1,σ,ds,r,⟨GP,fun v H' G' GR st Hy=>k v H' G' GR (Hb.trans st) Hy⟩,GP.vws Jw hd,hr⟩⟩
variable{x:Str}{p:Pos}{e:Expr}{es:List Expr}{gg:List D->Res R}{fs:FOs}{id T:String}
theorem aG(hc:dB X (.builtin id) (rC X.K gg))(hg:Gl X x)(hm:X.mg x=none)(hv:bootBuiltins x=some (.builtin id))(ha:LN X (e::es) fs)(hn:x≠"__name__":=by decide)(JG:(x==("__debug__" : Str))=false:=by decide)
  (he:starEach (e::es) X.env=(false,eval e X.env)::starEach es X.env:=by rfl) (IM:(backTo pos (starEach es X.env)).any (·.1)=false:=by rfl):QE X (.Call (.Name x p) (e::es) [] pos) (aZ gg fs):=
 bI (qq hc hg hm hv ha hn JG he IM) fun _ _ _=>pK
theorem du(hc:dB X (.type T) (rC X.K gg))(hg:Gl X x)(hm:X.mg x=none)(hv:bootBuiltins x=some (.type T))(ha:LN X (e::es) fs)(hn:x≠"__name__":=by decide)(JG:(x==("__debug__" : Str))=false:=by decide)
  (he:starEach (e::es) X.env=(false,eval e X.env)::starEach es X.env:=by rfl) (IM:(backTo pos (starEach es X.env)).any (·.1)=false:=by rfl):QE X (.Call (.Name x p) (e::es) [] pos) (aZ gg fs):=
 bI (tU hc hg hm hv ha hn JG he IM) fun _ _ _=>pK
inductive spF(K:W.Frag)(F:List D->Res R)(vs:List V)(H:Hp)(Q:VK)(zz:XK):Prop
 |mk:∀G ds r,Same G H->Reps K G ds vs->F ds=.ok r->(∀v H' G' GR,Step G H [] G' H' GR->Rel K G' H' [some r] [some v] GR->Q v H')->spF K F vs H Q zz
def cx(F:List D->Res R)(fs:FOs):FX:=fun env=>(fs env).bind fun p=>(lA p.2 p.1).bind fun ds=>(F ds).bind fun r=>.ok (r,if aT r.1 r.2 then p.2 else p.2.map frz)
theorem aO{F:List D->Res R}{k:Nat}(C:Ct X.prog X.w X.K X.mg X.base x k (spF X.K F))(hr:Room k X.A)(hg:Gl X x)(ha:LN X (e::es) fs)(JG:(x==("__debug__" : Str))=false:=by decide)
  (he:starEach (e::es) X.env=(false,eval e X.env)::starEach es X.env:=by rfl) (IM:(backTo pos (starEach es X.env)).any (·.1)=false:=by rfl):QE X (.Call (.Name x p) (e::es) [] pos) (cx F fs):=
 bI (BU C hr hg ha JG he IM) fun σ H Q G0=>by
  obtain⟨G,env,fp,r,env',rel,e,k⟩:=G0;obtain⟨⟨os,e1⟩,ha,e⟩:=aj e;obtain⟨ds,hd,e⟩:=aj e;obtain⟨r',hr,e⟩:=aj e;refine⟨G,env,fp,os,e1,rel,ha,fun vs H1 G1 Hi Hb GP Jw=>?_⟩;show spF X.K F (vs++[]) H1 Q _;rw[Uo];obtain⟨G2,MJ,Of,I0,_,Io⟩:=GP.lend;refine⟨G2,ds,r',Of,ko MJ I0 Jw hd,hr,fun v H' G' GR st Hy=>?_⟩;obtain⟨k1,k2⟩:=Io H' G' GR r' v st Hy;by_cases hc:aT r'.1 r'.2=true
  ·rw[Tq hc]at e;cases e;obtain⟨G3,IT,Ho,Hu⟩:=k1 hc;exact k v H' G3 IT (Hb.trans Ho) Hu
  ·rw[Tv hc]at e;cases e;obtain⟨G3,IT,Ho,Hu⟩:=k2;exact k v H' G3 IT (Hb.trans Ho) Hu
end
def sSeq(g1 g2:FS):FS:=fun env=>(g1 env).bind fun o=>match o with
 | .nx e=>g2 e
 |o=>.ok o
def bQ:FS:=fun env=>.ok (.nx env)
def cp(i:Nat)(f:FX):FS:=fun env=>(f env).bind fun p=>if i<p.2.length then .ok (.nx (p.2.set i (some p.1))) else .bad
def kx(f:FX):FS:=fun env=>(f env).bind fun p=>.ok (.nx p.2)
def dG(f:FX):FS:=fun env=>(f env).bind fun p=>.ok (.rt p.1)
def HU(c:FT)(g h:FS):FS:=fun env=>(c env).bind fun p=>if p.1 then g p.2 else h p.2
section
variable{md:Mode}{X:Cx}{st:Stmt}{RC:List Stmt}{g h:FS}{f:FX}{c:FT}{pos:Pos}{e:Expr}
theorem aU:LH (md:=md) X [] bQ:=uD zf fun D σ H ⟨G,env,fp,rel,k⟩=>k σ H G fp .refl rel
theorem ar(a:QS (md:=md) X st g):LH (md:=md) X [st] g:=zg a
theorem ah(a:QS (md:=md) X st g)(b:LH (md:=md) X RC h):LH (md:=md) X (st::RC) (sSeq g h):=uD (wO a b) fun D σ H G0=>by
 obtain⟨G,env,fp,rel,k⟩:=G0;refine⟨G,env,fp,rel,?_⟩;have k:OutOk X.K G H fp D ((g env).bind fun o=>match o with | .nx e=>h e|o=>.ok o):=k;match q:g env,k with
 | .ok (.nx GL),k=>exact fun σ1 H1 G1 Hi Hb GP=>⟨G1,GL,Hi,GP,OutOk.after Hb k⟩
 | .ok (.bk GL),k=>exact k
 | .ok (.ct GL),k=>exact k
 | .ok (.rt r),k=>exact k
theorem pL{K:W.Frag}{G H:Hp}{fp:List Addr}{D:Ends}{i:Nat}{env:PV.Env}{σ:L2.St}(rel:Rel K G H env σ fp)(k:OutOk (md:=md) K G H fp D (cp i f env)):tQ K f σ H fun v H'=>D.nx (σ.set i (some v)) H':=by
 unfold cp at k;match q:f env,k with
 | .ok (r,GL),k=>
  have k:OutOk K G H fp D (if i<GL.length then .ok (.nx (GL.set i (some r))) else .bad):=k;by_cases hi:i<GL.length
  ·rw[Tq hi]at k;refine⟨G,env,fp,r,GL,rel,q,fun v H1 G1 Hi Hb GP=>?_⟩;obtain⟨fq,GN,GV⟩:=GP.store hi;exact k _ H1 G1 fq (Hb.trans GV) GN
  ·rw[Tv hi]at k;exact k.elim
theorem aI{i:Nat}{x:Str}{pos':Pos}(hN:X.N.Nodup)(hi:X.N[i]?=some x)(hx:Loc X.env.scope x)(he:QE X e f)(hs:swapsWith e (some (.Name x pos')) pos.line X.env=pure false:=by rfl)(hf:X.fn x=true\/X.env.scope.names.lookup x=some .local:=by first|exact .inl rfl|exact .inr rfl|assumption):
  QS (md:=md) X (.Assign [.Name x pos'] e pos) (cp i f):=eW (Bu (i:=i) hN hi hx he hs hf) fun D σ H ⟨G,env,fp,rel,k⟩=>pL rel k
theorem ky(he:QE X e f)(hs:swapsWith e none pos.line X.env=pure false:=by rfl):QS (md:=md) X (.Expr e pos) (kx f):=eW (zh he hs) fun D σ H G0=>by
 obtain⟨G,env,fp,rel,k⟩:=G0;unfold kx at k;match q:f env,k with
 | .ok (r,GL),k=>
  refine⟨G,env,fp,r,GL,rel,q,fun v H1 G1 Hi Hb GP=>?_⟩;obtain⟨b,GN,GV⟩:=GP.drop;exact k _ H1 G1 b (Hb.trans GV) GN
theorem Rel.only{K:W.Frag}{G H:Hp}{r:R}{v:V}{es:PV.Env}{vs:L2.St}{fp:List Addr}(q:Rel K G H (some r::es) (some v::vs) fp):∃a,Rel K G H [some r] [some v] a/\Step G H fp G H a:=by
 obtain⟨y,ys,e,v',a,b,e1,e2,r1,r2⟩:=q.rep;cases e;cases e1;subst e2;have nd:=Ui.mp q.nd;exact⟨a,⟨⟨some v,[],rfl,v,a,[],rfl,(Uo _).symm,r1,rfl,rfl⟩,nd.1,fun p hp=>q.gn p (TB _ hp),q.gh⟩,Step.cut fun p hp=>TB _ hp⟩
theorem aR(he:QE X e f):QS (md:=.plain) X (.Return (some e) pos) (dG f):=eW (yo he) fun D σ H G0=>by
 obtain⟨G,env,fp,rel,k⟩:=G0;unfold dG at k;match q:f env,k with
 | .ok (r,GL),k=>
  refine⟨G,env,fp,r,GL,rel,q,fun v H1 G1 Hi Hb GP=>?_⟩;obtain⟨b,GN,GV⟩:=GP.only;exact k _ H1 G1 b (Hb.trans GV) GN
theorem Rel.nilF{K:W.Frag}{G H:Hp}{es:PV.Env}{vs:L2.St}{fp:List Addr}(q:Rel K G H es vs fp):Rel K G H [] [] []:=⟨⟨rfl,rfl⟩,VZ,(fun _ h=>nomatch h),q.gh⟩
theorem cy{a b:List Stmt}{ct:Expr}(hc:QT X ct c)(ha:LH (md:=md) X a g)(hb:LH (md:=md) X b h):QS (md:=md) X (.If ct a b pos) (HU c g h):=eW (DS hc ha hb) fun D σ H G0=>by
 obtain⟨G,env,fp,rel,k⟩:=G0;unfold HU at k;match q:c env,k with
 | .ok (true,GL),k=>exact⟨G,env,fp,true,GL,rel,q,fun H1 G1 Hi Hb GP=>BP ⟨G1,GL,Hi,GP,OutOk.after Hb k⟩⟩
 | .ok (false,GL),k=>exact⟨G,env,fp,false,GL,rel,q,fun H1 G1 Hi Hb GP=>iteF ⟨G1,GL,Hi,GP,OutOk.after Hb k⟩⟩
def cz(c:FT)(g:FS):Nat->FS
 | 0,_=>.bad
 |n+1,env=>(c env).bind fun p=>if p.1 then(g p.2).bind fun o=>match o with
  | .nx e=>cz c g n e
  | .ct e=>cz c g n e
  | .bk e=>.ok (.nx e)
  | .rt r=>.ok (.rt r)
  else .ok (.nx p.2)
theorem j3{ct:Expr}{body:List Stmt}(n:Nat)(hp:PassesOwn (model X.prog X.w) X.A X.env X.xe)(hc:QT X ct c)(hb:LH (md:=md) X body g):QS (md:=md) X (.While ct body [] pos) (cz c g n):=
 eW (wR hp hc hb) fun D σ H G0=>by
  obtain⟨G,env,fp,rel,k⟩:=G0;refine⟨fun m σ' H'=>∃G' env' GR,Rel X.K G' H' env' σ' GR/\OutOk X.K G' H' GR D (cz c g m env'),⟨n,G,env,fp,rel,k⟩,?_⟩;rintro m σ1 H1 ⟨G1,GL,Hi,GP,k1⟩;cases m with
  |zero=>exact k1.elim
  |succ m=>
   unfold cz at k1;match q:c GL,k1 with
   | .ok (false,GY),k1=>exact⟨G1,GL,Hi,false,GY,GP,q,fun H2 G2 Ht GV GN=>iteF (k1 _ H2 G2 Ht GV GN)⟩
   | .ok (true,GY),k1=>
    refine⟨G1,GL,Hi,true,GY,GP,q,fun H2 G2 Ht GV GN=>BP ?_⟩;refine⟨fun σ' H'=>∃G' env' GR,Rel X.K G' H' env' σ' GR/\OutOk X.K G' H' GR D (cz c g m env'),fun σ' H' z=>⟨m,UE _,z⟩,G2,GY,Ht,GN,?_⟩;have k2:OutOk X.K G1 H1 Hi D ((g GY).bind fun o=>match o with | .nx e=>cz c g m e | .ct e=>cz c g m e | .bk e=>.ok (.nx e) | .rt r=>.ok (.rt r)):=k1;match q2:g GY,k2 with
    | .ok (.nx e),k2=>exact fun σ' H' G' GR st rel=>⟨G',e,GR,rel,OutOk.after (GV.trans st) k2⟩
    | .ok (.ct e),k2=>exact fun σ' H' G' GR st rel=>⟨G',e,GR,rel,OutOk.after (GV.trans st) k2⟩
    | .ok (.bk e),k2=>exact fun σ' H' G' GR st rel=>k2 σ' H' G' GR (GV.trans st) rel
    | .ok (.rt r),k2=>exact fun v H' G' GR st rel=>k2 v H' G' GR (GV.trans st) rel
def Walk(K:W.Frag)(G:Hp)(J:It)(ds:List D):Prop:=∀G' H' es vs fp,Same G G'->Rel K G' H' es vs fp->∀i:Nat,
 (∀d,ds[i]?=some d->J.go i H'/\∀x H2,J.yld i H' x H2->∃G2,Rep K G2 d x/\Rel K G2 H2 es vs fp/\Step G' H' fp G2 H2 fp)/\(i=ds.length->J.stop i H')
abbrev FI:=PV.Env->Res (List D×PV.Env)
inductive tQI(K:W.Frag)(f:FI)(σ:L2.St)(H:Hp)(R:It->Hp->Prop):Prop
 |mk:∀G env fp ds env',Rel K G H env σ fp->f env=.ok (ds,env')->(∀J H' G' GR,Step G H fp G' H' GR->Rel K G' H' env' σ GR->Walk K G' J ds->R J H')->tQI K f σ H R
def QI(X:Cx)(tg e:Expr)(f:FI):Prop:=PI X tg e (tQI X.K f)
theorem jz{X:Cx}{tg e:Expr}{t t':TI}(h:PI X tg e t)(k:∀σ H R,t' σ H R->t σ H R):PI X tg e t':=fun pr s σ H R I w=>h pr s σ H R I (k σ H R w)
abbrev FG:=D->PV.Env->Res PV.Env
inductive tQG(K:W.Frag)(a:FG)(v:V)(σ:L2.St)(H:Hp)(Q:L2.St->Hp->Prop):Prop
 |mk:∀G env fp d env',Rel K G H env σ fp->Rep K G d v->a d env=.ok env'->(∀σ' G' GR,Step G H fp G' H GR->Rel K G' H env' σ' GR->Q σ' H)->tQG K a v σ H Q
def QG(X:Cx)(tg:Expr)(a:FG):Prop:=PG X tg (tQG X.K a)
def aName(i:Nat):FG:=fun d env=>if i<env.length then .ok (env.set i (some (.f,d))) else .bad
theorem yB{X:Cx}{tg:Expr}{t t':TG}(h:PG X tg t)(k:∀v σ H Q,t' v σ H Q->t v σ H Q):PG X tg t':=fun pr s σ H v u Q I r w=>h pr s σ H v u Q I r (k v σ H Q w)
theorem uH{X:Cx}{tg:List Expr}{t t':Nz}(h:NT X tg t)(k:∀v σ H Q,t' v σ H Q->t v σ H Q):NT X tg t':=fun pr s σ H v u Q I r w=>h pr s σ H v u Q I r (k v σ H Q w)
theorem ay{i:Nat}{x:Str}(hN:X.N.Nodup)(hi:X.N[i]?=some x)(hx:Loc X.env.scope x)(hf:X.fn x=true\/X.env.scope.names.lookup x=some .local:=by first|exact .inl rfl|exact .inr rfl|assumption):QG X (.Name x pos) (aName i):=
 yB (zi (i:=i) hN hi hx hf) fun v σ H Q G0=>by
  obtain⟨G,env,fp,d,env',rel,r,e,k⟩:=G0;unfold aName at e;split at e
  ·rename_i hl;cases e;obtain⟨fq,GN,GV⟩:=(rel.push r).store hl;exact k _ G fq GV GN
  ·cases e
abbrev MK:=List D->PV.Env->Res PV.Env
inductive tQGs(K:W.Frag)(a:MK)(vs:List V)(σ:L2.St)(H:Hp)(Q:L2.St->Hp->Prop):Prop
 |mk:∀G env fp ds env',Rel K G H env σ fp->Reps K G ds vs->a ds env=.ok env'->(∀σ' G' GR,Step G H fp G' H GR->Rel K G' H env' σ' GR->Q σ' H)->tQGs K a vs σ H Q
def QZ(X:Cx)(tg:List Expr)(a:MK):Prop:=NT X tg (tQGs X.K a)
def cU:MK:=fun ds env=>match ds with
 |[]=>.ok env
 |_=>.bad
def aD(a:FG)(b:MK):MK:=fun ds env=>match ds with
 |d::ds=>(a d env).bind fun e=>b ds e
 |_=>.bad
theorem ia:QZ X [] cU:=uH zj fun vs σ H Q G0=>by
 obtain⟨G,env,fp,ds,env',rel,r,e,k⟩:=G0;cases ds with
 |nil=>
  cases e;rw[Reps]at r;exact⟨r,k σ G fp .refl rel⟩
 |cons d ds=>cases e
theorem cb{tg:Expr}{KC:List Expr}{a:FG}{b:MK}(h1:QG X tg a)(h2:QZ X KC b)(hs:(assignEach (tg::KC) X.env).map (·.2)=assign tg X.env::(assignEach KC X.env).map (·.2):=by rfl):QZ X (tg::KC) (aD a b):=
 uH (wQ h1 h2 hs) fun vs σ H Q G0=>by
  obtain⟨G,env,fp,ds,env',rel,r,e,k⟩:=G0;cases ds with
  |nil=>cases e
  |cons d ds=>
   rw[Reps]at r;obtain⟨y,ys,ev,r1,r2⟩:=r;obtain⟨GL,e1,e2⟩:=aj e;exact⟨y,ys,ev,G,env,fp,d,GL,rel,r1,e1,fun σ1 G1 Hi Hb GP=>⟨G1,GL,Hi,ds,env',GP,r2.mono Hb.gg,e2,fun σ2 G2 Ht GV GN=>k σ2 G2 Ht (Hb.trans GV) GN⟩⟩
def iA(n:Nat)(a:MK):FG:=fun d env=>match d with
 | .tup ds=>if ds.length=n then a ds env else .bad
 |_=>.bad
theorem kz{KC:List Expr}{k n:Nat}{a:MK}(hc:X.calm=true)(h:QZ X KC a)(hn:(assignEach KC X.env).length=n:=by rfl)(NU:(assignEach KC X.env).findIdx? (·.1)=none:=by rfl):QG X (.Tuple KC k pos) (iA n a):=
 yB (Bt hc h hn NU) fun v σ H Q G0=>by
  obtain⟨G,env,fp,d,env',rel,r,e,k⟩:=G0;unfold iA at e;split at e
  ·rename_i ds;split at e
   ·rename_i hl;obtain⟨p,xs,ev,sq,rs⟩:=bE r;exact⟨p,xs,ev,bH rel.gh sq,rs.length.trans hl,G,env,fp,ds,env',rel,rs,e,k⟩
   ·cases e
  ·cases e
def eD(a:FG)(g:FS):List D->FS
 |[],env=>.ok (.nx env)
 |d::ds,env=>(a d env).bind fun e=>(g e).bind fun o=>match o with
  | .nx e=>eD a g ds e
  | .ct e=>eD a g ds e
  | .bk e=>.ok (.nx e)
  | .rt r=>.ok (.rt r)
def so(f:FI)(a:FG)(g:FS):FS:=fun env=>(f env).bind fun p=>eD a g p.1 p.2
theorem gW{tg iter:Expr}{body:List Stmt}{fi:FI}{a:FG}(hp:PassesOwn (model X.prog X.w) X.A X.env X.xe)(hc:X.calm=true)(hi:QI X tg iter fi)(hg:QG X tg a)(hb:LH (md:=md) X body g)(hs:∀x,foldedSetIterable iter X.env x=pure x:=by intro _;rfl):QS (md:=md) X (.For tg iter body [] pos) (so fi a g):=
 eW (tG hp hc hi hg hb hs) fun D σ H G0=>by
  obtain⟨G,env,fp,rel,k⟩:=G0;unfold so at k;match q:fi env,k with
  | .ok (ds,GL),k=>
   refine⟨G,env,fp,ds,GL,rel,q,fun J H1 G1 Hi Hb GP wk=>?_⟩;have k:OutOk X.K G H fp D (eD a g ds GL):=k;refine⟨fun i m σ' H'=>m=ds.length-i/\i<=ds.length/\∃G' env' GR,Same G1 G'/\Rel X.K G' H' env' σ' GR/\OutOk X.K G' H' GR D (eD a g (ds.drop i) env'),⟨_,rfl,Ut _,G1,GL,Hi,.refl _,GP,OutOk.after Hb k⟩,?_⟩;rintro i m σ2 H2 ⟨rfl,hi,G2,GY,Ht,gg,GN,k2⟩;obtain⟨w1,w2⟩:=wk G2 H2 _ _ _ gg GN i;by_cases Hx:i<ds.length
   ·have hd:ds[i]?=some ds[i]:=Tj Hx;obtain⟨go,yl⟩:=w1 _ hd;rw[Ur Hx]at k2;refine .inr ⟨go,fun σ' H'=>∃G' env' GR,Same G1 G'/\Rel X.K G' H' env' σ' GR/\OutOk X.K G' H' GR D (eD a g (ds.drop (i+1)) env'),fun σ' H' z=>⟨ds.length-(i+1),by lia,rfl,Hx,z⟩,fun x H3 y=>?_⟩;obtain⟨G3,rx,Hu,Ho⟩:=yl x H3 y;unfold eD at k2;match q3:a ds[i] GY,k2 with
    | .ok HC,k2=>
     refine⟨G3,GY,Ht,ds[i],HC,Hu,rx,q3,fun σ4 G4 PX Ia IA=>⟨G4,HC,PX,IA,?_⟩⟩;have k3:OutOk X.K G2 H2 Ht D ((g HC).bind fun o=>match o with | .nx e=>eD a g (ds.drop (i+1)) e | .ct e=>eD a g (ds.drop (i+1)) e | .bk e=>.ok (.nx e) | .rt r=>.ok (.rt r)):=k2;match q4:g HC,k3 with
     | .ok (.nx e),k3=>exact fun σ' H' G' GR st rel=>⟨G',e,GR,gg.trans (Ho.gg.trans (Ia.gg.trans st.gg)),rel,OutOk.after (Ho.trans (Ia.trans st)) k3⟩
     | .ok (.ct e),k3=>exact fun σ' H' G' GR st rel=>⟨G',e,GR,gg.trans (Ho.gg.trans (Ia.gg.trans st.gg)),rel,OutOk.after (Ho.trans (Ia.trans st)) k3⟩
     | .ok (.bk e),k3=>exact fun σ' H' G' GR st rel=>k3 σ' H' G' GR (Ho.trans (Ia.trans st)) rel
     | .ok (.rt r),k3=>exact fun v H' G' GR st rel=>k3 v H' G' GR (Ho.trans (Ia.trans st)) rel
   ·have e:i=ds.length:=by lia
    subst e;rw[Wn]at k2;exact .inl ⟨w2 rfl,k2 σ2 H2 G2 Ht .refl GN⟩
def B8(f:FX):FI:=fun env=>(f env).bind fun p=>match p.1.2 with
 | .lst ds=>.ok (ds,p.2)
 |_=>.bad
def dH(f:FX):FI:=fun env=>(f env).bind fun p=>match p.1.2 with
 | .tup ds=>.ok (ds,p.2)
 |_=>.bad
variable{tg l:Expr}
theorem oj{K:W.Frag}{G:Hp}{a:Addr}{xs:List V}{ds:List D}(sq:SqL K G a xs)(rs:Reps K G ds xs):Walk K G (O3 K a) ds:=by
 intro G' H' es vs fp gg rel i;have IB:SqL K H' a xs:=gP rel.gh (gP gg sq);refine⟨fun d hd=>?_,fun e=>⟨xs,IB,by rw[rs.length];lia⟩⟩;obtain⟨x,hx,rx⟩:=rs.get hd;refine⟨⟨xs,x,IB,hx⟩,fun y H2 ⟨e,hy⟩=>?_⟩;subst e;have:=hy xs IB;rw[hx]at this;cases this;exact⟨G',Rep.mono gg rx,rel,.refl⟩
theorem xp{K:W.Frag}{G:Hp}{a:Addr}{xs:List V}{ds:List D}(sq:SqT K G a xs)(rs:Reps K G ds xs):Walk K G (Rh K a) ds:=by
 intro G' H' es vs fp gg rel i;have IB:SqT K H' a xs:=bH rel.gh (bH gg sq);refine⟨fun d hd=>?_,fun e=>⟨xs,IB,by rw[rs.length];lia⟩⟩;obtain⟨x,hx,rx⟩:=rs.get hd;refine⟨⟨xs,x,IB,hx⟩,fun y H2 ⟨e,hy⟩=>?_⟩;subst e;have:=hy xs IB;rw[hx]at this;cases this;exact⟨G',Rep.mono gg rx,rel,.refl⟩
theorem z8(h:QE X l f):QI X tg l (B8 f):=jz (tu h) fun σ H R G0=>by
 obtain⟨G,env,fp,ds,env',rel,e,k⟩:=G0;obtain⟨⟨⟨o,d⟩,GL⟩,e1,e⟩:=aj e;dsimp only at e;split at e
 ·cases e;refine⟨G,env,fp,_,_,rel,e1,fun v H1 G1 Hi Hb GP=>?_⟩;obtain⟨G2,b,rv,GN,GV⟩:=GP.freeze;obtain⟨p,xs,ev,sq,rs⟩:=bF rv;exact⟨p,ev,⟨xs,gP GN.gh sq⟩,k _ H1 G2 b (Hb.trans GV) GN (oj sq rs)⟩
 ·cases e
theorem dU(h:QE X l f):QI X tg l (dH f):=jz (Bw h) fun σ H R G0=>by
 obtain⟨G,env,fp,ds,env',rel,e,k⟩:=G0;obtain⟨⟨⟨o,d⟩,GL⟩,e1,e⟩:=aj e;dsimp only at e;split at e
 ·cases e;refine⟨G,env,fp,_,_,rel,e1,fun v H1 G1 Hi Hb GP=>?_⟩;obtain⟨G2,b,rv,GN,GV⟩:=GP.freeze;obtain⟨p,xs,ev,sq,rs⟩:=bE rv;exact⟨p,ev,⟨xs,bH GN.gh sq⟩,k _ H1 G2 b (Hb.trans GV) GN (xp sq rs)⟩
 ·cases e
def dI(f:FX):FI:=fun env=>(f env).bind fun p=>match p.1.2 with
 | .str l=>.ok (l.map fun c=>.str [c],p.2)
 |_=>.bad
theorem dW(h:QE X l f):QI X tg l (dI f):=jz (BV h) fun σ H R G0=>by
 obtain⟨G,env,fp,ds,env',rel,e,k⟩:=G0;obtain⟨⟨⟨o,d⟩,GL⟩,e1,e⟩:=aj e;dsimp only at e;split at e
 ·rename_i cs;cases e;refine⟨G,env,fp,_,_,rel,e1,fun v H1 G1 Hi Hb GP=>?_⟩;obtain⟨G2,b,rv,GN,GV⟩:=GP.freeze;obtain⟨ev,hl⟩:=bw rv;refine⟨cs,ev,k _ H1 G2 b (Hb.trans GV) GN fun G' H' es vs GR gg Hy i=>⟨fun d hd=>?_,fun e=>?_⟩⟩
  ·rw[TV]at hd;cases hc:cs[i]? with
   |none=>rw[hc]at hd;cases hd
   |some c=>
    rw[hc]at hd;cases hd;refine⟨(Tx.mp hc).1,fun x H2 ⟨e1,e2⟩=>?_⟩;subst e1;refine⟨G',?_,Hy,.refl⟩;rw[e2];show Rep X.K G' (.str [c]) (.str (S [cs.getD i 0]));rw[Ti,hc];exact h9 (by rw[line_eq];simp)
  ·rw[Tr]at e;exact e
 ·cases e
def b5(f:FO):FI:=fun env=>(f env).bind fun p=>(Ji p.2 p.1).bind fun d=>match d with
 | .int j=>if -4611686018427387904<=j/\j<4611686018427387904 then .ok ((List.range j.toNat).map fun(k:Nat)=>D.int (k:Int),p.2) else .bad
 |_=>.bad
theorem sr{K:W.Frag}{G:Hp}(lo:Int)(n:Nat):Walk K G (QN lo n) ((List.range n).map fun(k:Nat)=>D.int (lo+(k:Int))):=by
 intro G' H' es vs fp gg rel i;refine⟨fun d hd=>?_,fun e=>?_⟩
 ·rw[TV]at hd;cases hc:(List.range n)[i]? with
  |none=>rw[hc]at hd;cases hd
  |some c=>
   rw[hc]at hd;cases hd;obtain⟨h1,h2⟩:=Tx.mp hc;rw[TR]at h1;rw[VD]at h2;subst h2;refine⟨h1,fun x H2 ⟨e1,e2⟩=>?_⟩;subst e1;exact⟨G',by rw[e2];exact rep_int _,rel,.refl⟩
 ·rw[Tr,TR]at e;exact Xj e.symm
theorem dv{a:Expr}{fa:FO}{p pos:Pos}(hg:Gl X "range")(hm:X.mg "range" = none)(ha:QO X a fa)(hs:starEach [a] X.env=[(false,eval a X.env)]:=by rfl):QI X tg (.Call (.Name "range" p) [a] [] pos) (b5 fa):=
 jz (tw hg hm (ab ha ai hs) hs) fun σ H R G0=>by
  obtain⟨G,env,fp,ds,env',rel,e,k⟩:=G0;obtain⟨⟨o,GL⟩,e1,e⟩:=aj e;obtain⟨d,e2,e⟩:=aj e;dsimp only at e;split at e
  ·rename_i j;split at e
   ·rename_i hj;cases e;refine⟨G,env,fp,[o],_,rel,by show(fa env).bind _=_;rw[e1];rfl,fun vs H1 G1 Hi Hb GP Jw=>?_⟩;obtain⟨y,ys,ev,k1,k2⟩:=Jw;have k2:ys=[]:=k2;subst k2;have hv:=bx (GP.vw k1 e2);subst hv;refine⟨j,ev,by lia,by lia,k _ H1 G1 Hi Hb GP ?_⟩;have w:=sr (K:=X.K) (G:=G1) 0 j.toNat
    simpa using w
   ·cases e
  ·cases e
noncomputable def El(fs:FOs):FI:=fun env=>(fs env).bind fun p=>(sY p.2 p.1).bind fun d=>match d with
 |[.int i,.int j]=>if(-4611686018427387904<=i/\i<4611686018427387904)/\-4611686018427387904<=j/\j<4611686018427387904 then .ok ((List.range (j-i).toNat).map fun(k:Nat)=>D.int (i+(k:Int)),p.2) else .bad
 |_=>.bad
def iC(k:Bool):D->Res (List D)
 | .lst ds=>if k then .ok ds else .bad
 | .tup ds=>if k then .bad else .ok ds
 |_=>.bad
def su(k1 k2:Bool)(fs:FOs):FI:=fun env=>(fs env).bind fun p=>match p.1 with
 |[.val d1,.val d2]=>(iC k1 d1).bind fun a=>(iC k2 d2).bind fun b=>.ok ((a.zip b).map fun z=>D.tup [z.1,z.2],p.2)
 |_=>.bad
theorem my{K:W.Frag}{G:Hp}{k:Bool}{d:D}{ds:List D}{v:V}(e:iC k d=.ok ds)(r:Rep K G d v):∃p xs,v=.ref p/\(if k then SqL K G p xs else SqT K G p xs)/\Reps K G ds xs:=by
 cases d with
 |lst es=>
  cases k with
  |true=>
   cases e;obtain⟨p,xs,e1,q,rs⟩:=bF r;exact⟨p,xs,e1,q,rs⟩
  |false=>cases e
 |tup es=>
  cases k with
  |true=>cases e
  |false=>
   cases e;obtain⟨p,xs,e1,q,rs⟩:=bE r;exact⟨p,xs,e1,q,rs⟩
 |_=>cases e
theorem jm{K:W.Frag}{G G':Hp}{k:Bool}{p:Addr}{xs:List V}(h:Same G G')(r:if k then SqL K G p xs else SqT K G p xs):if k then SqL K G' p xs else SqT K G' p xs:=by
 cases k with
 |true=>exact gP h r
 |false=>exact bH h r
theorem xq{K:W.Frag}{G:Hp}{k1 k2:Bool}{p1 p2:Addr}{xs ys:List V}{as bs:List D}(s1:if k1 then SqL K G p1 xs else SqT K G p1 xs)(s2:if k2 then SqL K G p2 ys else SqT K G p2 ys)(r1:Reps K G as xs)(r2:Reps K G bs ys):
  Walk K G (Rt K k1 k2 p1 p2) ((as.zip bs).map fun z=>D.tup [z.1,z.2]):=by
 intro G' H' es vs fp gg rel i;have g1:=jm (gg.trans rel.gh) s1;have g2:=jm (gg.trans rel.gh) s2;refine⟨fun d hd=>?_,fun e=>⟨xs,ys,g1,g2,?_⟩⟩
 ·rw[TV]at hd;cases hz:(as.zip bs)[i]? with
  |none=>rw[hz]at hd;cases hd
  |some z=>
   rw[hz]at hd;cases hd;obtain⟨h1,h2⟩:=VG.mp hz;obtain⟨x,hx,rx⟩:=r1.get h1;obtain⟨y,hy,ry⟩:=r2.get h2;refine⟨⟨xs,ys,x,y,g1,g2,hx,hy⟩,fun v H2 ⟨T,hT,ev,hh⟩=>?_⟩;have e2:=hh xs ys x y g1 g2 hx hy;subst e2;obtain⟨GN,GV⟩:=rel.newF (u:=.tup [x,y]) hT;refine⟨_,?_,GN,GV⟩;rw[Rep];exact⟨T,[x,y],ev,az,.cons (Rep.mono (gg.trans GV.gg) rx) (.one (Rep.mono (gg.trans GV.gg) ry))⟩
 ·rw[Tr,U6]at e;rw[r1.length,r2.length];exact e
theorem qL(k1 k2:Bool){KC:List Expr}{kt:Nat}{pt:Pos}{e1 e2:Expr}{fs:FOs}{p pos:Pos}(hg:Gl X "zip")(hm:X.mg "zip" = none)(ha:LN X [e1,e2] fs)(he:starEach [e1,e2] X.env=(false,eval e1 X.env)::starEach [e2] X.env:=by rfl)(IM:(backTo pos (starEach [e2] X.env)).any (·.1)=false:=by rfl):
  QI X (.Tuple KC kt pt) (.Call (.Name "zip" p) [e1,e2] [] pos) (su k1 k2 fs):=
 jz (BY k1 k2 hg hm ha he IM) fun σ H R G0=>by
  obtain⟨G,env,fp,ds,env',rel,e,k⟩:=G0;obtain⟨⟨o,GL⟩,e1,e⟩:=aj e;dsimp only at e;split at e
  ·rename_i d1 d2;obtain⟨a,ea,e⟩:=aj e;obtain⟨b,eb,e⟩:=aj e;cases e;refine⟨G,env,fp,_,_,rel,e1,fun vs H1 G1 Hi Hb GP Jw=>?_⟩;obtain⟨y,ys,ev,v1,z,zs,RD,v2,e3⟩:=Jw;have e3:zs=[]:=e3;subst e3;obtain⟨p1,RE,RF,q1,r1⟩:=my ea v1;obtain⟨p2,Pa,ep2,q2,r2⟩:=my eb v2;subst RF;subst ep2;subst RD;exact⟨p1,p2,RE,Pa,ev,jm GP.gh q1,jm GP.gh q2,k _ H1 G1 Hi Hb GP (xq q1 q2 r1 r2)⟩
  ·cases e
end
def fBody(np nn:Nat)(g:FS):List D->Res R:=fun ds=>if ds.length=np then(g (ds.map (fun d=>some (O.f,d))++List.replicate nn none)).bind fun o=>match o with
 | .rt r=>.ok r
 | .nx _=>.ok (.f,.non)
 |_=>.bad
 else .bad
theorem iE{K:W.Frag}{G H:Hp}(n:Nat):∀{ds:List D}{vs:List V},Reps K G ds vs->RepE K G H (ds.map (fun d=>some (O.f,d))++List.replicate n none) (vs.map some++List.replicate n none) []
 |[],vs,r=>by
  rw[Reps]at r;subst r;show RepE K G H (List.replicate n none) (List.replicate n none) [];induction n with
  |zero=>exact⟨rfl,rfl⟩
  |succ n ih=>exact⟨none,_,rfl,ih⟩
 |d::ds,vs,r=>by
  rw[Reps]at r;obtain⟨y,ys,e,r1,r2⟩:=r;subst e;exact⟨some y,_,rfl,y,[],[],rfl,rfl,eU.mpr ⟨r1,rfl⟩,iE n r2⟩
theorem dJ{P:Program}{w:World}{K:W.Frag}{mg:Str->Option Value}{base:Heap}{x:Str}{st:Stmt}{N ps:List Str}{k:Nat}{g:FS}(Df:Def K mg x st)(sc:FnScope N ps (defScope st))
  (hb:∀(kV doc pm:Value) (an:Option Addr) (Hk ct:Value) (us:List Value),us.length=ps.length->bindArgs (PySem.W.fnOf x x (fB st) (cX st) (defScope st) .none kV doc pm an Hk ct) ⟨us,[]⟩=pure (ps.zip us))
  (body:∀(f:Addr) (Hk:Value) (A:Around) (outer:List PySem.Env) (s:Shared) (H:Hp) (E:XK),Room k (A.deeper (envOfC x (defScope st) s.heap.objs.size f Hk))->LH (md:=.plain) (wW LM P w K mg base N x (defScope st) f Hk A outer s H E).nox (cX st) g):
  Ct P w K mg base x (k+1) (spF K (fBody ps.length (N.length-ps.length) g)):=by
 obtain⟨f,fd,F,m⟩:=Df;refine⟨f,fd,ps,F.ok sc (fun vs H Q E h=>?_) (fun Hk A outer s H vs Q E hr h=>?_),m,F.kp,F.binds hb⟩
 ·obtain⟨G,ds,r,_,rs,e,_⟩:=h;unfold fBody at e;split at e
  ·rename_i hl;rw[rs.length,hl]
  ·cases e
 ·obtain⟨G,ds,r,gh,rs,e,q⟩:=h;unfold fBody at e;split at e
  ·rename_i hl;refine⟨_,body f Hk A outer s H E hr,G,ds.map (fun d=>some (O.f,d))++List.replicate (N.length-ps.length) none,[],⟨?_,VZ,(fun _ h=>nomatch h),gh⟩,?_⟩
   ·have:=iE (K:=K) (G:=G) (H:=H) (N.length-ps.length) rs;unfold L2.j8;rw[rs.length,hl];exact this
   ·obtain⟨o,eo,e⟩:=aj e;rw[eo];cases o with
    |rt r'=>
     cases e;exact fun v H' G' GR st rel=>q v H' G' GR st rel
    |nx env'=>
     cases e;exact fun σ' H' G' GR st rel=>q .non H' G' [] (st.trans (Step.cut fun _ h=>nomatch h)) (rel.nilF.push mx)
    |bk env'=>cases e
    |ct env'=>cases e
  ·cases e
def cC(ix:List (Option Nat))(env:PV.Env):PV.Env:=ix.map fun j=>j.bind fun j=>match env[j]? with
 |some (some r)=>some (O.f,r.2)
 |_=>none
def cYes:FT:=fun env=>.ok (true,env)
def compL(a:FG)(c:FT)(f:FX):List D->PV.Env->Res (List D)
 |[],_=>.ok []
 |d::ds,env=>(a d env).bind fun e=>(c e).bind fun p=>if p.1 then(f p.2).bind fun q=>(compL a c f ds q.2).bind fun rs=>.ok (q.1.2::rs) else compL a c f ds p.2
def bT(fi:FI)(ix:List (Option Nat))(a:FG)(c:FT)(f:FX):FX:=fun env=>(fi env).bind fun p=>(compL a c f p.1 (cC ix p.2)).bind fun ds=>if ds.length<=sizeLine then .ok ((.l .f,.lst ds),if flatDs ds then p.2 else p.2.map frz) else .bad
theorem iF:∀ds,ds.all (aT .f)=flatDs ds
 |[]=>rfl
 |d::ds=>by rw[VQ,flatDs,iF ds,aT]
theorem eZ{K:W.Frag}{G1 H:Hp}{es:PV.Env}{σ:L2.St}(ht:∀(i:Nat) (r:R) (v:V),es[i]?=some (some r)->σ[i]?=some (some v)->Rep K G1 r.2 v)(hv:∀(i:Nat) (r:R),es[i]?=some (some r)->∃v,σ[i]?=some (some v)):
  ∀ix:List (Option Nat),RepE K G1 H (cC ix es) (gw ix σ) []
 |[]=>⟨rfl,rfl⟩
 |none::ix=>⟨none,_,rfl,eZ ht hv ix⟩
 |some j::ix=>by
  show RepE K G1 H ((match es[j]? with|some (some r)=>some (O.f,r.2)|_=>none)::cC ix es) ((σ[j]?).bind id::gw ix σ) [];cases e:es[j]? with
  |none=>exact⟨_,_,rfl,eZ ht hv ix⟩
  |some r=>
   cases r with
   |none=>exact⟨_,_,rfl,eZ ht hv ix⟩
   |some r=>
    obtain⟨v,ev⟩:=hv j r e;refine⟨_,_,rfl,v,[],[],?_,rfl,eU.mpr ⟨ht j r v e ev,rfl⟩,eZ ht hv ix⟩;rw[ev];rfl
section
variable{md:Mode}{X:Cx}{scope:Scope}{N:List Str}{tg iter elt:Expr}{ifs:List Expr}{pos:Pos}{fi:FI}{a:FG}{c:FT}{f:FX}
def Og(X:Cx)(ifs:List Expr)(c:FT):Prop:=MG X ifs (tQT X.K c)
theorem cw:Og X [] cYes:=fun pr s σ H Q I G0=>by
 obtain⟨G,env,fp,b,env',rel,e,k⟩:=G0;cases e;exact zJ pr s σ H Q I (k H G fp .refl rel)
theorem dC{t:Expr}(h:QT X t c):Og X [t] c:=zL h
end
section
variable{X:Cx}
inductive rCatS(K:W.Frag)(x:V)(y:V)(H:Hp)(Q:VK):Prop
 |mk:∀l b xs zs,x=.ref l->y=.ref b->SqL K H l xs->SqL K H b zs->xs.length+zs.length<=sizeLine->(∀p,H p=none->Q (.ref p) (upd H p (.lst (xs++zs))))->rCatS K x y H Q
theorem z9:HG X (binaryOp .Add) (rCatS X.K):=by
 intro pr s σ H x y v u Q I rx ry h;obtain⟨l,b,xs,zs,rfl,rfl,hH,hB,hz,q⟩:=h;cases rx;cases ry;obtain⟨GO,r1,p1,_⟩:=I.list hH;obtain⟨Lu,r2,p2,_⟩:=I.list hB;have l1:=r1.length;have l2:=r2.length;obtain⟨⟨cls,dd,data,sl⟩,ho,hc,n,hd⟩:=id p1.isList;obtain⟨⟨NW,Mv,data2,Mw⟩,IW,LY,n2,hd2⟩:=id p2.isList;simp only at hc hd LY hd2;subst hc hd LY hd2;have e:GO.toArray++Lu.toArray=(GO++Lu).toArray:=by simp
 refine X5 ⟨_,ho,rfl⟩ ⟨_,IW,rfl⟩ noFill_list_add seq_list_add PySem.F.slot_list_add PySem.F.entry_list_add (PySem.F.args_list_add_2 _ _) (list_addW l b GO.toArray Lu.toArray n n2 dd Mv sl Mw (by rw[To,To];lia)) ⟨ho,IW,?_⟩;rw[e];exact⟨.ref _,_,I.lnew (t':=s.toks) (r1.append r2) (by rw[Uz];lia),rfl,q _ I.fresh⟩
end
noncomputable def addD:D->D->Res R
 | .int i,.int j=>.ok (.f,.int (i+j))
 | .str a,.str b=>if a.length+b.length<=sizeLine then .ok (.f,.str (a++b)) else .bad
 | .lst a,.lst b=>if a.length+b.length<=sizeLine then .ok (.l .f,.lst (a++b)) else .bad
 | .tup a,.tup b=>if a≠[]/\a.length+b.length<=sizeLine then .ok (.f,.tup (a++b)) else .bad
 |_,_=>.bad
section
variable{X:Cx}
theorem mz{K:W.Frag}{G H:Hp}{fp:List Addr}{es:PV.Env}{vs:L2.St}{ds:List D}{xs:List V}{p:Addr}(rel:Rel K G H es vs fp)(hp:H p=none)(r:Reps K G ds xs):
  ∃G',Rel K G' (upd H p (.tup xs)) (some (.f,.tup ds)::es) (some (.ref p)::vs) fp/\Step G H fp G' (upd H p (.tup xs)) fp:=by
 obtain⟨GN,GV⟩:=rel.newF (u:=.tup xs) hp;refine⟨_,GN.push ?_,GV⟩;rw[Rep];exact⟨p,xs,rfl,az,r.mono GV.gg⟩
theorem B9:HG X (binaryOp .Add) (rG X.K addD):=by
 rintro pr s σ H x y v u Q I rx ry ⟨G,fp,es,vs,a,b,r,⟨rel,k⟩,va,vb,e⟩;unfold addD at e;split at e
 ·rename_i i j;cases e;cases bx va;cases bx vb;exact Bx pr s σ H _ _ v u Q I rx ry ⟨i,j,rfl,rfl,k _ H G fp .refl (rel.push (rep_int _))⟩
 ·rename_i i j;split at e
  ·rename_i hl;cases e;obtain⟨e1,h1⟩:=jy va;obtain⟨e2,h2⟩:=jy vb;subst e1;subst e2;refine rV pr s σ H _ _ v u Q I rx ry ⟨_,_,rfl,rfl,by rw[nQ,nQ];exact hl,?_⟩;rw[Eb];exact k _ H G fp .refl (rel.push (h9 (by rw[Uz];exact hl)))
  ·cases e
 ·rename_i i j;split at e
  ·rename_i hl;cases e;obtain⟨p,xs,e1,h1,r1⟩:=va;obtain⟨p2,Pa,e2,h2,r2⟩:=vb;subst e1;subst e2;refine z9 pr s σ H _ _ v u Q I rx ry ⟨p,p2,xs,Pa,rfl,rfl,h1,h2,by rw[r1.length,r2.length];exact hl,fun q hq=>?_⟩;obtain⟨GN,GV⟩:=rel.newL hq (r1.app r2);exact k _ _ G _ GV GN
  ·cases e
 ·rename_i i j;split at e
  ·rename_i hl;cases e;obtain⟨p,xs,e1,h1,r1⟩:=fY va;obtain⟨p2,Pa,e2,h2,r2⟩:=fY vb;subst e1;subst e2;have hx:xs≠[]:=fun z=>hl.1 (Ue (by rw[<-r1.length,z];rfl))
   refine zu pr s σ H _ _ v u Q I rx ry ⟨p,p2,xs,Pa,rfl,rfl,bH rel.gh h1,bH rel.gh h2,hx,by rw[r1.length,r2.length];exact hl.2,fun z=>?_,fun z q hq=>?_⟩
   ·have:j=[]:=Ue (by rw[<-r2.length,z];rfl);subst this;rw[Uo]at k;exact k _ H G fp .refl (rel.push va)
   ·obtain⟨G',GN,GV⟩:=mz rel hq (r1.app r2);exact k _ _ G' _ GV GN
  ·cases e
 ·cases e
def om:D->D->Res R
 | .int i,.int j=>.ok (.f,.int (i-j))
 |_,_=>.bad
theorem iG:HG X (binaryOp .Sub) (rG X.K om):=by
 rintro pr s σ H x y v u Q I rx ry ⟨G,fp,es,vs,a,b,r,⟨rel,k⟩,va,vb,e⟩;unfold om at e;split at e
 ·rename_i i j;cases e;cases bx va;cases bx vb;exact By pr s σ H _ _ v u Q I rx ry ⟨i,j,rfl,rfl,k _ H G fp .refl (rel.push (rep_int _))⟩
 ·cases e
def iH(i:Int):Bool:=decide (-(2 ^ 64)<i/\i<2 ^ 64)
def Em:D->D->Res R
 | .int i,.int j=>if iH i||iH j then .ok (.f,.int (i*j)) else .bad
 |_,_=>.bad
theorem Ca:HG X (binaryOp .Mult) (rG X.K Em):=by
 rintro pr s σ H x y v u Q I rx ry ⟨G,fp,es,vs,a,b,r,⟨rel,k⟩,va,vb,e⟩;unfold Em at e;split at e
 ·rename_i i j;split at e
  ·rename_i hc;cases e;cases bx va;cases bx vb;have hc:CMul i j:=by
    rw[W8]at hc;exact hc.imp WH WH
   exact Bz pr s σ H _ _ v u Q I rx ry ⟨i,j,rfl,rfl,hc,k _ H G fp .refl (rel.push (rep_int _))⟩
  ·cases e
 ·cases e
def wI:D->D->Res R
 | .int i,.int j=>if 0<j then .ok (.f,.int (i%j)) else .bad
 |_,_=>.bad
theorem qM:HG X (binaryOp .Mod) (rG X.K wI):=by
 rintro pr s σ H x y v u Q I rx ry ⟨G,fp,es,vs,a,b,r,⟨rel,k⟩,va,vb,e⟩;unfold wI at e;split at e
 ·rename_i i j;split at e
  ·rename_i hc;cases e;cases bx va;cases bx vb;exact BA pr s σ H _ _ v u Q I rx ry ⟨i,j,rfl,rfl,hc,k _ H G fp .refl (rel.push (rep_int _))⟩
  ·cases e
 ·cases e
def sv:D->D->Res R
 | .int i,.int j=>if 0<=j/\j<=1000000/\i.natAbs<2 ^ 64 then .ok (.f,.int (i ^ j.toNat)) else .bad
 |_,_=>.bad
theorem qN:HG X (binaryOp .Pow) (rG X.K sv):=by
 rintro pr s σ H x y v u Q I rx ry ⟨G,fp,es,vs,a,b,r,⟨rel,k⟩,va,vb,e⟩;unfold sv at e;split at e
 ·rename_i i j;split at e
  ·rename_i hc;cases e;cases bx va;cases bx vb;exact BC pr s σ H _ _ v u Q I rx ry ⟨i,j,rfl,rfl,hc,k _ H G fp .refl (rel.push (rep_int _))⟩
  ·cases e
 ·cases e
def MH:D->D->Res R
 | .int i,.int j=>.ok (.f,.bl (decide (i<j)))
 | .str a,.str b=>.ok (.f,.bl (decide (a<b)))
 |_,_=>.bad
theorem En:HG X (compareOp .Lt) (rG X.K MH):=by
 rintro pr s σ H x y v u Q I rx ry ⟨G,fp,es,vs,a,b,r,⟨rel,k⟩,va,vb,e⟩;unfold MH at e;split at e
 ·rename_i i j;cases e;cases bx va;cases bx vb;exact DZ pr s σ H _ _ v u Q I rx ry ⟨i,j,rfl,rfl,k _ H G fp .refl (rel.push (cV _))⟩
 ·rename_i i j;cases e;obtain⟨e1,h1⟩:=jy va;obtain⟨e2,h2⟩:=jy vb;subst e1;subst e2;refine tJ pr s σ H _ _ v u Q I rx ry ⟨_,_,rfl,rfl,?_⟩;rw[fW,fW];exact k _ H G fp .refl (rel.push (cV _))
 ·cases e
def leD:D->D->Res R
 | .int i,.int j=>.ok (.f,.bl (decide (i<=j)))
 | .str a,.str b=>.ok (.f,.bl (!decide (b<a)))
 |_,_=>.bad
def KY:D->D->Res R
 | .int i,.int j=>.ok (.f,.bl (decide (j<i)))
 |_,_=>.bad
theorem pM:HG X (compareOp .Gt) (rG X.K KY):=by
 rintro pr s σ H x y v u Q I rx ry ⟨G,fp,es,vs,a,b,r,⟨rel,k⟩,va,vb,e⟩;unfold KY at e;split at e
 ·rename_i i j;cases e;cases bx va;cases bx vb;exact D2 pr s σ H _ _ v u Q I rx ry ⟨i,j,rfl,rfl,k _ H G fp .refl (rel.push (cV _))⟩
 ·cases e
def geD:D->D->Res R
 | .int i,.int j=>.ok (.f,.bl (decide (j<=i)))
 |_,_=>.bad
end
abbrev FDs:=PV.Env->Res (List D×PV.Env)
inductive tDs(K:W.Frag)(f:FDs)(σ:L2.St)(H:Hp)(Q:List V->Hp->Prop):Prop
 |mk:∀G env fp ds env',Rel K G H env σ fp->f env=.ok (ds,env')->(∀vs H' G' GR,Step G H fp G' H' GR->Rel K G' H' env' σ GR->Reps K G' ds vs->Q vs H')->tDs K f σ H Q
def PY(X:Cx)(es:List Expr)(f:FDs):Prop:=PA X es (tDs X.K f)
def dsNil:FDs:=fun env=>.ok ([],env)
def dsCons(f:FX)(g:FDs):FDs:=fun env=>(f env).bind fun p=>(g p.2).bind fun q=>.ok (p.1.2::q.1,q.2)
section
variable{X:Cx}
theorem aQ:PY X [] dsNil:=qH tP fun σ H Q G0=>by
 obtain⟨G,env,fp,o,env',rel,e,k⟩:=G0;cases e;exact k [] H G fp .refl rel .nil
theorem aH{e:Expr}{es:List Expr}{f:FX}{g:FDs}(h:QE X e f)(hs:PY X es g)(NU:starEach (e::es) X.env=(false,eval e X.env)::starEach es X.env:=by rfl):PY X (e::es) (dsCons f g):=
 qH (l5 h hs NU) fun σ H Q G0=>by
  obtain⟨G,env,fp,o,env',rel,e,k⟩:=G0;obtain⟨⟨r,GL⟩,e1,e⟩:=aj e;obtain⟨⟨ds,GY⟩,e2,e⟩:=aj e;cases e;refine⟨G,env,fp,r,GL,rel,e1,fun v H1 G1 Hi Hb GP=>?_⟩;obtain⟨G2,b,rv,GN,GV⟩:=GP.freeze;exact⟨G2,GL,b,ds,GY,GN,e2,fun vs H3 G3 IT Ho Hu rs=>k _ H3 G3 IT (Hb.trans (GV.trans Ho)) Hu (.cons (Rep.mono Ho.gg rv) rs)⟩
def eTup(fs:FDs):FX:=fun env=>(fs env).bind fun p=>if p.1.length<=1000 then .ok ((.f,.tup p.1),p.2) else .bad
def jA(fs:FDs):FX:=fun env=>(fs env).bind fun p=>if p.1.length<=1000 then .ok ((.l .f,.lst p.1),p.2) else .bad
variable{es:List Expr}{fs:FDs}{pos:Pos}
theorem fZ{x1}(h:PY X es fs):QE X (.Tuple es x1 pos) (eTup fs):=bI (BE h) fun σ H Q G0=>by
 obtain⟨G,env,fp,r,env',rel,e,k⟩:=G0;obtain⟨⟨ds,GL⟩,e1,e⟩:=aj e;dsimp only at e;split at e
 ·rename_i hl;cases e;refine⟨G,env,fp,ds,env',rel,e1,fun vs H1 G1 Hi Hb GP rs=>⟨by rw[rs.length,line_eq];lia,fun p hp=>?_⟩⟩;obtain⟨G2,GN,GV⟩:=mz GP hp rs;exact k _ _ G2 _ (Hb.trans GV) GN
 ·cases e
theorem cG(h:PY X es fs):QE X (.List es pos) (jA fs):=bI (BF h) fun σ H Q G0=>by
 obtain⟨G,env,fp,r,env',rel,e,k⟩:=G0;obtain⟨⟨ds,GL⟩,e1,e⟩:=aj e;dsimp only at e;split at e
 ·rename_i hl;cases e;refine⟨G,env,fp,ds,env',rel,e1,fun vs H1 G1 Hi Hb GP rs=>⟨by rw[rs.length,line_eq];lia,fun p hp=>?_⟩⟩;obtain⟨GN,GV⟩:=GP.newL hp rs;exact k _ _ G1 _ (Hb.trans GV) GN
 ·cases e
noncomputable def Ha:D->D->Res R
 | .lst ds,.int i=>match Jv ds i with
  |some d=>.ok (.f,d)
  |none=>.bad
 | .tup ds,.int i=>match Jv ds i with
  |some d=>.ok (.f,d)
  |none=>.bad
 | .str l,.int i=>match Jv l i with
  |some c=>.ok (.f,.str [c])
  |none=>.bad
 |_,_=>.bad
theorem qO{K:W.Frag}{G:Hp}{ds:List D}{xs:List V}{i:Int}{d:D}(r:Reps K G ds xs)(e:Jv ds i=some d):∃v,Jv xs i=some v/\Rep K G d v:=by
 unfold Jv at e ⊢;rw[r.length];cases hn:ixN ds.length i with
 |none=>rw[hn]at e;cases e
 |some j=>
  rw[hn]at e;exact r.get e
theorem Eo:Py X (rG X.K Ha):=by
 rintro value slice pr s σ H x y v u Q I rx ry ⟨G,fp,es,vs,a,b,r,⟨rel,k⟩,va,vb,e⟩ hs;unfold Ha at e;split at e
 ·rename_i ds i;split at e
  ·rename_i d hd;cases e;obtain⟨p,xs,ev,sq,rs⟩:=va;subst ev;cases bx vb;obtain⟨w',hw,Lv⟩:=qO rs hd;exact zv value slice pr s σ H _ _ v u Q I rx ry ⟨p,xs,i,w',rfl,rfl,sq,hw,k _ H G fp .refl (rel.push Lv)⟩ hs
  ·cases e
 ·rename_i ds i;split at e
  ·rename_i d hd;cases e;obtain⟨p,xs,ev,sq,rs⟩:=fY va;subst ev;cases bx vb;obtain⟨w',hw,Lv⟩:=qO rs hd;exact BI value slice pr s σ H _ _ v u Q I rx ry ⟨p,xs,i,w',rfl,rfl,bH rel.gh sq,hw,k _ H G fp .refl (rel.push Lv)⟩ hs
  ·cases e
 ·rename_i l i;split at e
  ·rename_i c hc;cases e;obtain⟨ev,hl⟩:=jy va;subst ev;cases bx vb;refine BJ value slice pr s σ H _ _ v u Q I rx ry ⟨_,i,c,rfl,rfl,by rw[nQ];exact hl,by rw[fW];exact hc,?_⟩ hs;exact k _ H G fp .refl (rel.push (h9 (l:=[c]) (by rw[line_eq];simp)))
  ·cases e
 ·cases e
variable{a b:Expr}{fa fb:FO}
theorem br(ha:QO X a fa)(hb:QO X b fb)(hs:tZ b:=by exact fun _ _=>rfl):QE X (.Subscript a b pos) (eBin Ha fa fb):=bI (D8 Eo ha hb hs) fun _ _ _=>qK
abbrev FP:=PV.Env->Res (Option Int×PV.Env)
inductive tQP(K:W.Frag)(f:FP)(σ:L2.St)(H:Hp)(Q:Option Int->Hp->Prop):Prop
 |mk:∀G env fp i env',Rel K G H env σ fp->f env=.ok (i,env')->(∀H' G' GR,Step G H fp G' H' GR->Rel K G' H' env' σ GR->Q i H')->tQP K f σ H Q
def QP(X:Cx)(e:Option Expr)(f:FP):Prop:=PO X e (tQP X.K f)
def pN:FP:=fun env=>.ok (none,env)
def pO(f:FX):FP:=fun env=>(f env).bind fun p=>match p.1.2 with
 | .int i=>.ok (some i,p.2)
 |_=>.bad
theorem yC{X:Cx}{e:Option Expr}{t t':TO}(h:PO X e t)(k:∀σ H Q,t' σ H Q->t σ H Q):PO X e t':=fun pr s σ H Q I w=>h pr s σ H Q I (k σ H Q w)
theorem kA:QP X none pN:=yC zr fun σ H Q G0=>by
 obtain⟨G,env,fp,i,env',rel,e,k⟩:=G0;cases e;exact k H G fp .refl rel
theorem kB{e:Expr}{f:FX}(h:QE X e f):QP X (some e) (pO f):=yC (zt h) fun σ H Q G0=>by
 obtain⟨G,env,fp,i,env',rel,e,k⟩:=G0;obtain⟨⟨⟨o,d⟩,GL⟩,e1,e⟩:=aj e;dsimp only at e;split at e
 ·rename_i j;cases e;refine⟨G,env,fp,_,_,rel,e1,fun v H1 G1 Hi Hb GP=>?_⟩;have hv:=GP.top;obtain⟨b,GN,GV⟩:=GP.drop;exact⟨j,bJ hv,k H1 G1 b (Hb.trans GV) GN⟩
 ·cases e
def jS{α:Type}(xs:List α)(lo hi:Option Int):List α:=(xs.drop (HT.sIx xs.length 0 lo)).take (HT.sIx xs.length xs.length hi-HT.sIx xs.length 0 lo)
noncomputable def Pb(k:D)(lo hi:Option Int):Res R:=match k with
 | .lst ds=>.ok (.l .f,.lst (jS ds lo hi))
 | .tup ds=>if ¬ (HT.sIx ds.length 0 lo=0/\HT.sIx ds.length ds.length hi=ds.length) then .ok (.f,.tup (jS ds lo hi)) else .bad
 | .str l=>.ok (.f,.str (jS l lo hi))
 |_=>.bad
def eSl(fa:FO)(lo hi:FP):FX:=fun env=>(fa env).bind fun p=>(lo p.2).bind fun q=>(hi q.2).bind fun t=>(Ji t.2 p.1).bind fun d=>(Pb d q.1 t.1).bind fun r=>.ok (r,t.2)
theorem qP{K:W.Frag}{G:Hp}{ds:List D}{xs:List V}{lo hi:Option Int}(r:Reps K G ds xs):Reps K G (jS ds lo hi) (yp xs lo hi):=by
 unfold jS yp;rw[r.length];exact(r.drop _).take _
theorem Aa{α:Type}(xs:List α)(lo hi:Option Int):(jS xs lo hi).length<=xs.length:=by
 unfold jS;rw[UC,UY];lia
inductive rSl(K:W.Frag)(x:V)(lo:Option Int)(hi:Option Int)(H:Hp)(Q:VK):Prop
 |mk:∀G fp es vs d r,Goes K H G fp es vs r Q->Vw K G H d x->Pb d lo hi=.ok r->rSl K x lo hi H Q
theorem Cb:N2 X (rSl X.K):=by
 rintro pr s σ H x v vl vu lo hi sl Q I rx hs pl pu ⟨G,fp,es,vs,d,r,⟨rel,k⟩,vd,e⟩;unfold Pb at e;split at e
 ·rename_i ds;cases e;obtain⟨p,xs,ev,sq,rs⟩:=vd;subst ev;refine zw pr s σ H _ v vl vu lo hi sl Q I rx hs pl pu ⟨p,xs,rfl,sq,fun q hq=>?_⟩;obtain⟨GN,GV⟩:=rel.newL hq (qP (lo:=lo) (hi:=hi) rs);exact k _ _ G _ GV GN
 ·rename_i ds;split at e
  ·rename_i hw;cases e;obtain⟨p,xs,ev,sq,rs⟩:=fY vd;subst ev;refine BH pr s σ H _ v vl vu lo hi sl Q I rx hs pl pu ⟨p,xs,rfl,bH rel.gh sq,by rw[rs.length];exact hw,fun q hq=>?_⟩;obtain⟨G2,GN,GV⟩:=mz rel hq (qP (lo:=lo) (hi:=hi) rs);exact k _ _ G2 _ GV GN
  ·cases e
 ·rename_i l;cases e;obtain⟨ev,hl⟩:=jy vd;subst ev;exact BS pr s σ H _ v vl vu lo hi sl Q I rx hs pl pu ⟨l,rfl,hl,k _ H G fp .refl (rel.push (h9 (l:=BR l lo hi) (Ua (Aa l lo hi) hl)))⟩
 ·cases e
def isLst(env:PV.Env)(i:Nat):Bool:=match env[i]? with
 |some (some (_,.lst _))=>true
 |_=>false
theorem qQ{K:W.Frag}{G H:Hp}{es:PV.Env}{σ:L2.St}{fp:List Addr}{i:Nat}(rel:Rel K G H es σ fp)(h:isLst es i=true):∃v,σ[i]?=some (some v)/\QQ K "list" v H:=by
 unfold isLst at h;split at h
 ·rename_i o ds hr;obtain⟨v,ev,rv⟩:=rel.view hr;obtain⟨p,xs,e,sq,_⟩:=bF rv;subst e;exact⟨_,ev,.inl ⟨rfl,xs,sq⟩⟩
 ·cases h
noncomputable def yD(i:Nat)(f:FX):FX:=fun env=>if isLst env i then(f env).bind fun p=>match p.2[i]? with
 |some (some (.l .f,.lst ds))=>if ds.length<sizeLine then .ok ((.f,.non),p.2.set i (some (.l .f,.lst (ds++[p.1.2])))) else .bad
 |_=>.bad
 else .bad
theorem iI{i:Nat}{o e:Expr}{f:FX}{apos Hs:Pos}(ho:PE X o (rR i))(he:QE X e f)
  (IY:attributeBase o "append" X.env (eval o X.env)=eval o X.env:=by rfl)
  (L0:((backTo Hs (starEach [e] X.env)).all (fun x=>!x.1)&&(backToKw Hs (keywordEach [] X.env)).all (fun x=>x.1.isSome)&&decide ([e].length+([]:List Keyword).length+(if([]:List Keyword).isEmpty then 0 else 1)<30))=true:=by rfl)
  (IZ:(apos.endLine==Hs.line)=true:=by rfl) (hs:starEach [e] X.env=(false,eval e X.env)::starEach [] X.env:=by rfl) (JI:(backTo Hs (starEach [] X.env)).any (·.1)=false:=by rfl):
  QE X (.Call (.Attribute o "append" apos) [e] [] Hs) (yD i f):=by
 refine bI (BN WB PySem.F.slot_list_append PySem.F.type_list_append kc ho (aH he aQ hs) IY L0 IZ hs JI) fun σ H Q Hc=>?_
 obtain⟨G,env,fp,r,env',rel,e,k⟩:=Hc;unfold yD at e;split at e
 ·rename_i hil;obtain⟨v,ev,ty⟩:=qQ rel hil;obtain⟨⟨r1,GL⟩,e1,e⟩:=aj e;dsimp only at e;split at e
  ·rename_i ds LZ;split at e
   ·rename_i hl;cases e;refine⟨v,ev,ty,G,env,fp,[r1.2],GL,rel,by show(f env).bind _=_;rw[e1];rfl,fun vs H1 G1 Hi Hb GP rs=>?_⟩;rw[Reps]at rs;obtain⟨y,ys,RG,ry,rn⟩:=rs;rw[Reps]at rn;subst rn;obtain⟨p,xs,ep,hp,LI,cg⟩:=GP.chg (ds':=ds++[r1.2]) LZ;rw[ev]at ep;cases ep;obtain⟨fq,GN,GV⟩:=cg (xs++[y]) (LI.app (.one ry));exact⟨p,xs,y,rfl,RG,hp,by rw[LI.length];exact hl,k _ _ G1 fq (Hb.trans GV) (GN.push mx)⟩
   ·cases e
  ·cases e
 ·cases e
def Ep:List D->Res R
 |[.lst ds]=>.ok (.f,.int ds.length)
 |[.tup ds]=>.ok (.f,.int ds.length)
 |[.str l]=>.ok (.f,.int l.length)
 |_=>.bad
theorem oq{K:W.Frag}{G H:Hp}{d:D}{xs:List V}(h:PQ K G H [d] xs):∃v,xs=[v]/\Vw K G H d v:=by
 obtain⟨y,ys,e,v1,e2⟩:=h;have e2:ys=[]:=e2;subst e2;exact⟨y,e,v1⟩
theorem Gi{K:W.Frag}{G H:Hp}{d d':D}{xs:List V}(h:PQ K G H [d,d'] xs):∃v w,xs=[v,w]/\Vw K G H d v/\Vw K G H d' w:=by
 obtain⟨y,ys,e,v1,h2⟩:=h;obtain⟨z,e2,v2⟩:=oq h2;subst e2;exact⟨y,z,e,v1,v2⟩
theorem Cc:dB X (.builtin "len") (rC X.K Ep):=by
 rintro pr s σ H xs us Q I rx ⟨G,fp,es,vs,ds,r,⟨rel,k⟩,vd,e⟩;unfold Ep at e;split at e
 ·rename_i ds;cases e;obtain⟨v,ev,p,ys,ep,sq,rs⟩:=oq vd;subst ev;subst ep;refine ju pr s σ H _ us Q I rx ⟨p,ys,rfl,.inl sq,?_⟩;rw[rs.length];exact k _ H G fp .refl (rel.push (rep_int _))
 ·rename_i ds;cases e;obtain⟨v,ev,vt⟩:=oq vd;obtain⟨p,ys,ep,sq,rs⟩:=fY vt;subst ev;subst ep;refine ju pr s σ H _ us Q I rx ⟨p,ys,rfl,.inr (bH rel.gh sq),?_⟩;rw[rs.length];exact k _ H G fp .refl (rel.push (rep_int _))
 ·rename_i l;cases e;obtain⟨v,ev,vt⟩:=oq vd;obtain⟨ep,hl⟩:=jy vt;subst ev;subst ep;refine nN pr s σ H _ us Q I rx ⟨S l,rfl,by rw[nQ];exact hl,?_⟩;rw[nQ];exact k _ H G fp .refl (rel.push (rep_int _))
 ·cases e
def pP:List D->Res R
 |[.lst ds]=>.ok (.l .f,.lst ds)
 |[.tup ds]=>.ok (.l .f,.lst ds)
 |_=>.bad
theorem uI:dB X (.type "list") (rC X.K pP):=by
 rintro pr s σ H xs us Q I rx ⟨G,fp,es,vs,ds,r,⟨rel,k⟩,vd,e⟩;unfold pP at e;split at e
 ·rename_i ds;cases e;obtain⟨v,ev,p,ys,ep,sq,rs⟩:=oq vd;subst ev;subst ep;refine jv pr s σ H _ us Q I rx ⟨p,ys,rfl,.inl sq,fun q hq=>?_⟩;obtain⟨GN,GV⟩:=rel.newL hq rs;exact k _ _ G _ GV GN
 ·rename_i ds;cases e;obtain⟨v,ev,vt⟩:=oq vd;obtain⟨p,ys,ep,sq,rs⟩:=fY vt;subst ev;subst ep;refine jv pr s σ H _ us Q I rx ⟨p,ys,rfl,.inr (bH rel.gh sq),fun q hq=>?_⟩;obtain⟨GN,GV⟩:=rel.newL hq rs;exact k _ _ G _ GV GN
 ·cases e
def iJ:List D->Res R
 |[.lst ds]=>.ok (.f,.tup ds)
 |[.tup ds]=>.ok (.f,.tup ds)
 |_=>.bad
theorem iK:dB X (.type "tuple") (rC X.K iJ):=by
 rintro pr s σ H xs us Q I rx ⟨G,fp,es,vs,ds,r,⟨rel,k⟩,vd,e⟩;unfold iJ at e;split at e
 ·rename_i ds;cases e;obtain⟨v,ev,p,ys,ep,sq,rs⟩:=oq vd;subst ev;subst ep;refine ir pr s σ H _ us Q I rx ⟨p,ys,rfl,.inl ⟨sq,fun q hq=>?_⟩⟩;obtain⟨G2,GN,GV⟩:=mz rel hq rs;exact k _ _ G2 _ GV GN
 ·rename_i ds;cases e;obtain⟨v,ev,vt⟩:=oq vd;obtain⟨p,ys,ep,sq,rs⟩:=fY vt;subst ev;subst ep;exact ir pr s σ H _ us Q I rx ⟨p,ys,rfl,.inr ⟨bH rel.gh sq,k _ H G fp .refl (rel.push vt)⟩⟩
 ·cases e
def xr:List D->Option (List Bool)
 |[]=>some []
 | .bl b::ds=>(xr ds).map (b:: ·)
 |_=>none
def fg:List D->Option (List Int)
 |[]=>some []
 | .int b::ds=>(fg ds).map (b:: ·)
 |_=>none
theorem ib{K:W.Frag}{G:Hp}:∀{ds:List D}{bs:List Int}{xs:List V},fg ds=some bs->Reps K G ds xs->xs=bs.map V.int
 |[],_,_,e,r=>by
  cases e;rw[Reps]at r;exact r
 | .int b::ds,_,_,e,r=>by
  rw[fg,UW]at e;obtain⟨bs,e1,e2⟩:=e;subst e2;rw[Reps]at r;obtain⟨y,ys,e3,r1,r2⟩:=r;rw[e3,bJ r1,ib e1 r2];rfl
 | .non::_,_,_,e,_ | .bl _::_,_,_,e,_ | .str _::_,_,_,e,_ | .tup _::_,_,_,e,_ | .lst _::_,_,_,e,_ | .dct _ _ _::_,_,_,e,_=>by simp[fg]at e
theorem sx(ns:List Int):fg (ns.map D.int)=some ns:=by
 induction ns with
 |nil=>rfl
 |cons n ns ih=>rw[TU,fg,ih];rfl
theorem Cd(ns:List Bool):xr (ns.map D.bl)=some ns:=by
 induction ns with
 |nil=>rfl
 |cons n ns ih=>rw[TU,xr,ih];rfl
def ot:D->Option (List D)
 | .lst ds=>some ds
 | .tup ds=>some ds
 |_=>none
theorem Ab{K:W.Frag}{G H:Hp}{d:D}{ds:List D}{v:V}(gh:Same G H)(e:ot d=some ds)(h:Vw K G H d v):∃p xs,v=.ref p/\(SqL K H p xs\/SqT K H p xs)/\Reps K G ds xs:=by
 cases d with
 |lst es=>
  cases e;obtain⟨p,xs,ev,sq,rs⟩:=h;exact⟨p,xs,ev,.inl sq,rs⟩
 |tup es=>
  cases e;obtain⟨p,xs,ev,sq,rs⟩:=bE h;exact⟨p,xs,ev,.inr (bH gh sq),rs⟩
 |_=>cases e
def GA:List D->Res R
 |[d]=>match(ot d).bind xr with
  |some bs=>.ok (.f,.bl (bs.all id))
  |none=>.bad
 |_=>.bad
def yE:List D->Res R
 |[d]=>match(ot d).bind fg with
  |some ns=>.ok (.f,.int ns.sum)
  |none=>.bad
 |_=>.bad
def maxD:List D->Res R
 |[d]=>match(ot d).bind fg with
  |some (n::ns)=>.ok (.f,.int (xb (n::ns)))
  |_=>.bad
 |[.int i,.int j]=>.ok (.f,.int (if i<j then j else i))
 |_=>.bad
theorem ou{K:W.Frag}{G H:Hp}{d:D}{ns:List Int}{v:V}(gh:Same G H)(hb:(ot d).bind fg=some ns)(vt:Vw K G H d v):∃p,v=.ref p/\(SqL K H p (ns.map V.int)\/SqT K H p (ns.map V.int)):=by
 obtain⟨l,hl,hb⟩:=VR.mp hb;obtain⟨p,ys,ep,sq,rs⟩:=Ab gh hl vt;have:=ib hb rs;subst this;exact⟨p,ep,sq⟩
theorem uJ(hc:X.calm=true):dB X (.builtin "sum") (rC X.K yE):=by
 rintro pr s σ H xs us Q I rx ⟨G,fp,es,vs,ds,r,⟨rel,k⟩,vd,e⟩;unfold yE at e;split at e
 ·rename_i d;split at e
  ·rename_i ns hb;cases e;obtain⟨v,ev,vt⟩:=oq vd;obtain⟨p,ep,sq⟩:=ou rel.gh hb vt;subst ev;subst ep;exact ue hc pr s σ H _ us Q I rx ⟨p,ns,rfl,sq,k _ H G fp .refl (rel.push (rep_int _))⟩
  ·cases e
 ·cases e
end
mutual
noncomputable def GW:D->D->Bool
 | .non,.non=>true
 | .bl a,.bl b=>a==b
 | .bl a,.int j=>(if a then 1 else 0)==j
 | .int i,.bl b=>i==(if b then 1 else 0)
 | .int i,.int j=>i==j
 | .str a,.str b=>a==b
 | .tup a,.tup b=>j4 a b
 | .lst a,.lst b=>j4 a b
 |_,_=>false
noncomputable def j4:List D->List D->Bool
 |[],[]=>true
 |a::as,b::bs=>GW a b&&j4 as bs
 |_,_=>false
end
mutual
noncomputable def plainD:Nat->D->Bool
 |n+1,.tup ds=>plainDs n ds
 |n+1,.lst ds=>plainDs n ds
 | 0,.tup _=>false
 | 0,.lst _=>false
 |_,.dct _ _ _=>false
 |_,_=>true
noncomputable def plainDs:Nat->List D->Bool
 |_,[]=>true
 |n,d::ds=>plainD n d&&plainDs n ds
end
theorem plainDs_mem:∀{n:Nat}{ds:List D},plainDs n ds=true->∀{i:Nat}{d:D},ds[i]?=some d->plainD n d=true
 |_,[],_,_,_,e=>by simp at e
 |n,a::ds,h,0,d,e=>by
  rw[plainDs,TJ]at h;simp at e;rw[<-e];exact h.1
 |n,a::ds,h,i+1,d,e=>by
  rw[plainDs,TJ]at h;exact plainDs_mem h.2 (i:=i) (by simpa using e)
theorem iL:∀{a b:List D},a.length≠b.length->j4 a b=false
 |[],[],h=>absurd rfl h
 |[],_::_,_=>by simp only[j4]
 |_::_,[],_=>by simp only[j4]
 |x::xs,y::ys,h=>by
  rw[j4,iL (fun e=>h (by simp[e])),VH]
theorem fm:∀{a b:List D},a.length=b.length->(List.range a.length).all (fun j=>GW (a.getD j .non) (b.getD j .non))=j4 a b
 |[],[],_=>rfl
 |[],_::_,h=>by simp at h
 |_::_,[],h=>by simp at h
 |x::xs,y::ys,h=>by
  rw[j4,<-fm (a:=xs) (b:=ys) (by simpa using h),TK,List.range_succ_eq_map,VQ,Wt];rfl
section
variable{X:Cx}{pr:List (Addr×Obj)}{σ:L2.St}{H:Hp}{s:Shared}
theorem kC(I:Inv X pr σ H s){p:Addr}{xs ys:List V}(h:SqL X.K H p xs)(h':SqT X.K H p ys):False:=by
 obtain⟨us,_,p1,_⟩:=I.list h;obtain⟨ws,_,p2,_⟩:=I.tuple h';exact SeqAt.ne_of_list_tuple p1.isList (show s.heap.IsTuple p ws.toArray from p2) rfl
mutual
theorem mC(I:Inv X pr σ H s):∀(d e:D) (x:V) (n:Nat),plainD n d=true->Rep X.K H d x->Rep X.K H e x->d=e
 | .non,e,x,n,_,r,q=>by
  cases b9 r;cases e with
  |non=>rfl
  |bl b=>cases cF q
  |int i=>cases bJ q
  |str l=>cases(bw q).1
  |tup l=>obtain⟨p,xs,ev,_⟩:=bE q;cases ev
  |lst l=>obtain⟨p,xs,ev,_⟩:=bF q;cases ev
  |dct tk ks vs=>rw[Rep]at q;obtain⟨p,xs,o,ev,_⟩:=q;cases ev
 | .bl b,e,x,n,_,r,q=>by
  cases cF r;cases e with
  |non=>cases b9 q
  |bl b=>cases cF q;rfl
  |int i=>cases bJ q
  |str l=>cases(bw q).1
  |tup l=>obtain⟨p,xs,ev,_⟩:=bE q;cases ev
  |lst l=>obtain⟨p,xs,ev,_⟩:=bF q;cases ev
  |dct tk ks vs=>rw[Rep]at q;obtain⟨p,xs,o,ev,_⟩:=q;cases ev
 | .int i,e,x,n,_,r,q=>by
  cases bJ r;cases e with
  |non=>cases b9 q
  |bl b=>cases cF q
  |int i=>cases bJ q;rfl
  |str l=>cases(bw q).1
  |tup l=>obtain⟨p,xs,ev,_⟩:=bE q;cases ev
  |lst l=>obtain⟨p,xs,ev,_⟩:=bF q;cases ev
  |dct tk ks vs=>rw[Rep]at q;obtain⟨p,xs,o,ev,_⟩:=q;cases ev
 | .str l,e,x,n,_,r,q=>by
  have hr:=(bw r).1;subst hr;cases e with
  |non=>cases b9 q
  |bl b=>cases cF q
  |int i=>cases bJ q
  |str l'=>
   have hq:=(bw q).1;injection hq with hq;rw[zH hq]
  |tup l=>obtain⟨p,xs,ev,_⟩:=bE q;cases ev
  |lst l=>obtain⟨p,xs,ev,_⟩:=bF q;cases ev
  |dct tk ks vs=>rw[Rep]at q;obtain⟨p,xs,o,ev,_⟩:=q;cases ev
 | .tup l,e,x,n,h,r,q=>by
  obtain⟨p,xs,ev,sq,rs⟩:=bE r;subst ev;cases e with
  |non=>cases b9 q
  |bl b=>cases cF q
  |int i=>cases bJ q
  |str l=>cases(bw q).1
  |tup l'=>
   obtain⟨p',HQ,Jl,IB,IQ⟩:=bE q;cases Jl;have:=I.tuple_inj sq IB;subst this;cases n with
   |zero=>simp only[plainD]at h;cases h
   |succ n=>
    simp only[plainD]at h;rw[mD I l l' xs n h rs IQ]
  |lst l'=>
   obtain⟨p',HQ,Jl,IB,IQ⟩:=bF q;cases Jl;exact(kC I IB sq).elim
  |dct tk ks vs=>
   exfalso;rw[Rep]at q;obtain⟨p',HQ,o,Jl,rd,dd,_⟩:=q;cases Jl;obtain⟨GO,_,ip,_⟩:=I.tuple sq;obtain⟨ob,ho,hc,_⟩:=ip;have PZ:=rd.ok I.hok;cases tk with
   |true=>
    obtain⟨GJ,eo,_⟩:=dd;subst eo;obtain⟨_,_,_,_,o2,_,_,IW,ex,_⟩:=PZ;rw[ho]at IW;cases IW;rw[ex.1]at hc;exact absurd hc (by decide)
   |false=>
    obtain⟨GJ,eo,_⟩:=dd;subst eo;obtain⟨_,_,_,_,o2,_,_,IW,ex,_⟩:=PZ;rw[ho]at IW;cases IW;rw[ex.1]at hc;exact absurd hc (by decide)
 | .lst l,e,x,n,h,r,q=>by
  obtain⟨p,xs,ev,sq,rs⟩:=bF r;subst ev;cases e with
  |non=>cases b9 q
  |bl b=>cases cF q
  |int i=>cases bJ q
  |str l=>cases(bw q).1
  |tup l'=>
   obtain⟨p',HQ,Jl,IB,IQ⟩:=bE q;cases Jl;exact(kC I sq IB).elim
  |lst l'=>
   obtain⟨p',HQ,Jl,IB,IQ⟩:=bF q;cases Jl;have:=I.list_inj sq IB;subst this;cases n with
   |zero=>simp only[plainD]at h;cases h
   |succ n=>
    simp only[plainD]at h;rw[mD I l l' xs n h rs IQ]
  |dct tk ks vs=>
   exfalso;rw[Rep]at q;obtain⟨p',HQ,o,Jl,rd,dd,_⟩:=q;cases Jl;obtain⟨GO,_,ip,_⟩:=I.list sq;obtain⟨ob,_,ho,hc,_⟩:=ip;have PZ:=rd.ok I.hok;cases tk with
   |true=>
    obtain⟨GJ,eo,_⟩:=dd;subst eo;obtain⟨_,_,_,_,o2,_,_,IW,ex,_⟩:=PZ;rw[ho]at IW;cases IW;rw[ex.1]at hc;exact absurd hc (by decide)
   |false=>
    obtain⟨GJ,eo,_⟩:=dd;subst eo;obtain⟨_,_,_,_,o2,_,_,IW,ex,_⟩:=PZ;rw[ho]at IW;cases IW;rw[ex.1]at hc;exact absurd hc (by decide)
 | .dct _ _ _,_,_,n,h,_,_=>by cases n <;> (simp only[plainD]at h;cases h)
theorem mD(I:Inv X pr σ H s):∀(ds es:List D) (xs:List V) (n:Nat),plainDs n ds=true->Reps X.K H ds xs->Reps X.K H es xs->ds=es
 |[],es,xs,n,_,r,q=>by
  rw[Reps]at r;subst r;cases es with
  |nil=>rfl
  |cons e es=>
   rw[Reps]at q;obtain⟨y,ys,ev,_⟩:=q;cases ev
 |d::ds,es,xs,n,h,r,q=>by
  rw[Reps]at r;obtain⟨y,ys,ev,r1,r2⟩:=r;subst ev;rw[plainDs,TJ]at h;cases es with
  |nil=>
   rw[Reps]at q;cases q
  |cons e es=>
   rw[Reps]at q;obtain⟨y',ys',ev,q1,q2⟩:=q;cases ev;rw[mC I d e y n h.1 r1 q1,mD I ds es ys n h.2 r2 q2]
end
mutual
theorem mE:∀(d:D) (n:Nat),plainD n d=true->GW d d=true
 | .non,_,_=>by simp only[GW]
 | .bl _,_,_=>by simp only[GW,T8]
 | .int _,_,_=>by simp only[GW,T8]
 | .str _,_,_=>by simp only[GW,T8]
 | .tup ds,0,h=>by simp only[plainD]at h;cases h
 | .tup ds,n+1,h=>by simp only[plainD]at h;simp only[GW];exact kF ds n h
 | .lst ds,0,h=>by simp only[plainD]at h;cases h
 | .lst ds,n+1,h=>by simp only[plainD]at h;simp only[GW];exact kF ds n h
 | .dct _ _ _,n,h=>by cases n <;> (simp only[plainD]at h;cases h)
theorem kF:∀(ds:List D) (n:Nat),plainDs n ds=true->j4 ds ds=true
 |[],_,_=>by simp only[j4]
 |d::ds,n,h=>by
  rw[plainDs,TJ]at h;rw[j4,mE d n h.1,kF ds n h.2];rfl
end
open PySem.SeqAt
theorem bM{n:Nat}{tk:Bool}{ks vs:List D}(h:plainD n (.dct tk ks vs)=true):False:=by cases n <;> (simp only[plainD]at h;cases h)
mutual
theorem Ce(I:Inv X pr σ H s):∀(d e:D) (x y:V) (v u:Value) (A:Around) (n:Nat),plainD n d=true->plainD n e=true->A.units+n<cLine->Rep X.K H d x->Rep X.K H e y->RelV x v->RelV y u->EqAt A s v u (GW d e)
 | .non,e,x,y,v,u,A,n,h,h',hu,r,q,rx,ry=>by
  cases b9 r;cases rx;cases e with
  |non=>cases b9 q;cases ry;simp only[GW];exact .same _
  |bl b=>cases cF q;cases ry;simp only[GW];exact .none_bool _
  |int i=>cases bJ q;obtain⟨t,rfl⟩:=ry;simp only[GW];exact .none_int _ _
  |str l=>cases(bw q).1;obtain⟨t,rfl⟩:=ry;simp only[GW];exact .none_str _ _
  |tup l=>obtain⟨p,xs,rfl,sq,_⟩:=bE q;cases ry;obtain⟨GO,_,ip,_⟩:=I.tuple sq;simp only[GW];exact .none_tuple (show s.heap.IsTuple p GO.toArray from ip) (by lia)
  |lst l=>obtain⟨p,xs,rfl,sq,_⟩:=bF q;cases ry;obtain⟨GO,_,ip,_⟩:=I.list sq;simp only[GW];exact .none_list ip.isList (by lia)
  |dct tk ks vs=>exact(bM h').elim
 | .bl b,e,x,y,v,u,A,n,h,h',hu,r,q,rx,ry=>by
  cases cF r;cases rx;cases e with
  |non=>cases b9 q;cases ry;simp only[GW];exact .bool_none _
  |bl b=>cases cF q;cases ry;simp only[GW];exact .bool_bool _ _
  |int i=>cases bJ q;obtain⟨t,rfl⟩:=ry;simp only[GW];exact .bool_int _ _ _
  |str l=>cases(bw q).1;obtain⟨t,rfl⟩:=ry;simp only[GW];exact .bool_str _ _ _
  |tup l=>obtain⟨p,xs,rfl,sq,_⟩:=bE q;cases ry;obtain⟨GO,_,ip,_⟩:=I.tuple sq;simp only[GW];exact .bool_tuple _ (show s.heap.IsTuple p GO.toArray from ip) (by lia)
  |lst l=>obtain⟨p,xs,rfl,sq,_⟩:=bF q;cases ry;obtain⟨GO,_,ip,_⟩:=I.list sq;simp only[GW];exact .bool_list _ ip.isList (by lia)
  |dct tk ks vs=>exact(bM h').elim
 | .int b,e,x,y,v,u,A,n,h,h',hu,r,q,rx,ry=>by
  cases bJ r;obtain⟨t0,rfl⟩:=rx;cases e with
  |non=>cases b9 q;cases ry;simp only[GW];exact .int_none _ _
  |bl b=>cases cF q;cases ry;simp only[GW];exact .int_bool _ _ _
  |int i=>cases bJ q;obtain⟨t,rfl⟩:=ry;simp only[GW];exact .int_int _ _ _ _
  |str l=>cases(bw q).1;obtain⟨t,rfl⟩:=ry;simp only[GW];exact .int_str _ _ _ _
  |tup l=>obtain⟨p,xs,rfl,sq,_⟩:=bE q;cases ry;obtain⟨GO,_,ip,_⟩:=I.tuple sq;simp only[GW];exact .int_tuple _ _ (show s.heap.IsTuple p GO.toArray from ip) (by lia)
  |lst l=>obtain⟨p,xs,rfl,sq,_⟩:=bF q;cases ry;obtain⟨GO,_,ip,_⟩:=I.list sq;simp only[GW];exact .int_list _ _ ip.isList (by lia)
  |dct tk ks vs=>exact(bM h').elim
 | .str b,e,x,y,v,u,A,n,h,h',hu,r,q,rx,ry=>by
  have hr:=(bw r).1;subst hr;obtain⟨t0,rfl⟩:=rx;cases e with
  |non=>cases b9 q;cases ry;simp only[GW];exact .str_none _ _
  |bl b=>cases cF q;cases ry;simp only[GW];exact .str_bool _ _ _
  |int i=>cases bJ q;obtain⟨t,rfl⟩:=ry;simp only[GW];exact .str_int _ _ _ _
  |str l=>
   have hq:=(bw q).1;subst hq;obtain⟨t,rfl⟩:=ry;have e1:(b==l)=(S b==S l):=by
    rw[UG,Ul,Ul];exact⟨fun z=>by rw[z],zH⟩
   simp only[GW,e1];exact .str_str _ _ _ _
  |tup l=>obtain⟨p,xs,rfl,sq,_⟩:=bE q;cases ry;obtain⟨GO,_,ip,_⟩:=I.tuple sq;simp only[GW];exact .str_tuple _ _ (show s.heap.IsTuple p GO.toArray from ip) (by lia)
  |lst l=>obtain⟨p,xs,rfl,sq,_⟩:=bF q;cases ry;obtain⟨GO,_,ip,_⟩:=I.list sq;simp only[GW];exact .str_list _ _ ip.isList (by lia)
  |dct tk ks vs=>exact(bM h').elim
 | .tup l,e,x,y,v,u,A,n,h,h',hu,r,q,rx,ry=>by
  have rr:=r;obtain⟨p,xs,ev,sq,rs⟩:=bE r;subst ev;cases rx;obtain⟨GO,vl,ip,_⟩:=I.tuple sq;have ip:s.heap.IsTuple p GO.toArray:=ip;cases e with
  |non=>cases b9 q;cases ry;simp only[GW];exact .tuple_none ip (by lia)
  |bl b=>cases cF q;cases ry;simp only[GW];exact .tuple_bool _ ip (by lia)
  |int i=>cases bJ q;obtain⟨t,rfl⟩:=ry;simp only[GW];exact .tuple_int _ _ ip (by lia)
  |str l=>cases(bw q).1;obtain⟨t,rfl⟩:=ry;simp only[GW];exact .tuple_str _ _ ip (by lia)
  |tup l'=>
   obtain⟨p',HQ,Jl,IB,IQ⟩:=bE q;subst Jl;cases ry;by_cases hp:p=p'
   ·subst hp;have hz:=mC I _ _ _ n h rr q;rw[<-hz,mE _ n h];exact .same _
   ·obtain⟨its',L7,IU,_⟩:=I.tuple IB;have IU:s.heap.IsTuple p' its'.toArray:=IU;cases n with
    |zero=>simp only[plainD]at h;cases h
    |succ n=>
     simp only[plainD]at h h';have l1:=vl.length;have l2:=L7.length;have l3:=rs.length;have l4:=IQ.length;have key:=RcAt.tuples (A:=A) (e:=fun j=>GW (l.getD j .non) (l'.getD j .non)) ip IU (by lia) fun j h1 h2=>by
      simp only[To]at h1 h2;have g1:l[j]?=some (l[j]'(by lia)):=Tj _;have g2:l'[j]?=some (l'[j]'(by lia)):=Tj _;obtain⟨w1,Jx,L8⟩:=rs.get g1;obtain⟨w2,ML,MM⟩:=IQ.get g2;obtain⟨u1,KD,L9⟩:=vl.get Jx;obtain⟨u2,KZ,MN⟩:=L7.get ML;have q1:GO.toArray[j]=u1:=by rw[Tj h1]at KD;simpa using KD
      have q2:its'.toArray[j]=u2:=by rw[Tj h2]at KZ;simpa using KZ
      rw[q1,q2,Ti,Ti,g1,g2];exact ox I l j _ g1 _ w1 w2 u1 u2 A.in1 n (plainDs_mem h g1) (plainDs_mem h' g2) (by show A.units+1+n<cLine;lia) L8 MM L9 MN
     simp only[GW];have fin:((List.range (min GO.toArray.size its'.toArray.size)).all (fun j=>GW (l.getD j .non) (l'.getD j .non))&&GO.toArray.size==its'.toArray.size)=j4 l l':=by
      simp only[To];by_cases hl:l.length=l'.length
      ·rw[<-fm hl,show min GO.length its'.length=l.length by lia,show(GO.length==its'.length)=true by rw[Ul];lia,Vp]
      ·rw[iL hl,show(GO.length==its'.length)=false by rw[T4];lia,VH]
     rw[<-fin];exact .of_refs hp key
  |lst l'=>obtain⟨p',HQ,Jl,IB,_⟩:=bF q;subst Jl;cases ry;obtain⟨its',_,IU,_⟩:=I.list IB;simp only[GW];exact .tuple_list ip IU.isList (by lia)
  |dct tk ks vs=>exact(bM h').elim
 | .lst l,e,x,y,v,u,A,n,h,h',hu,r,q,rx,ry=>by
  have rr:=r;obtain⟨p,xs,ev,sq,rs⟩:=bF r;subst ev;cases rx;obtain⟨GO,vl,ip,_⟩:=I.list sq;have ip:=ip.isList;cases e with
  |non=>cases b9 q;cases ry;simp only[GW];exact .list_none ip (by lia)
  |bl b=>cases cF q;cases ry;simp only[GW];exact .list_bool _ ip (by lia)
  |int i=>cases bJ q;obtain⟨t,rfl⟩:=ry;simp only[GW];exact .list_int _ _ ip (by lia)
  |str l=>cases(bw q).1;obtain⟨t,rfl⟩:=ry;simp only[GW];exact .list_str _ _ ip (by lia)
  |lst l'=>
   obtain⟨p',HQ,Jl,IB,IQ⟩:=bF q;subst Jl;cases ry;by_cases hp:p=p'
   ·subst hp;have hz:=mC I _ _ _ n h rr q;rw[<-hz,mE _ n h];exact .same _
   ·obtain⟨its',L7,IU,_⟩:=I.list IB;have IU:=IU.isList;cases n with
    |zero=>simp only[plainD]at h;cases h
    |succ n=>
     simp only[plainD]at h h';have l1:=vl.length;have l2:=L7.length;have l3:=rs.length;have l4:=IQ.length;simp only[GW];by_cases hl:l.length=l'.length
     ·have key:=RcAt.lists (A:=A) (e:=fun j=>GW (l.getD j .non) (l'.getD j .non)) ip IU (by simp only[To];lia) (by lia) fun j h1 h2=>by
       simp only[To]at h1 h2;have g1:l[j]?=some (l[j]'(by lia)):=Tj _;have g2:l'[j]?=some (l'[j]'(by lia)):=Tj _;obtain⟨w1,Jx,L8⟩:=rs.get g1;obtain⟨w2,ML,MM⟩:=IQ.get g2;obtain⟨u1,KD,L9⟩:=vl.get Jx;obtain⟨u2,KZ,MN⟩:=L7.get ML;have q1:GO.toArray[j]=u1:=by rw[Tj h1]at KD;simpa using KD
       have q2:its'.toArray[j]=u2:=by rw[Tj h2]at KZ;simpa using KZ
       rw[q1,q2,Ti,Ti,g1,g2];exact ox I l j _ g1 _ w1 w2 u1 u2 A.in1 n (plainDs_mem h g1) (plainDs_mem h' g2) (by show A.units+1+n<cLine;lia) L8 MM L9 MN
      rw[<-fm hl,show l.length=GO.toArray.size by simp only[To];lia];exact .of_refs hp key
     ·rw[iL hl];exact .of_refs hp (RcAt.lists_lengths ip IU (by simp only[To,bne_iff_ne];lia) (by lia))
  |tup l'=>obtain⟨p',HQ,Jl,IB,_⟩:=bE q;subst Jl;cases ry;obtain⟨its',_,IU,_⟩:=I.tuple IB;simp only[GW];exact .list_tuple ip (show s.heap.IsTuple p' its'.toArray from IU) (by lia)
  |dct tk ks vs=>exact(bM h').elim
 | .dct _ _ _,_,_,_,_,_,_,n,h,_,_,_,_,_,_=>(bM h).elim
theorem ox(I:Inv X pr σ H s):∀(ds:List D) (j:Nat) (d:D),ds[j]?=some d->∀(e:D) (x y:V) (v u:Value) (A:Around) (n:Nat),plainD n d=true->plainD n e=true->A.units+n<cLine->Rep X.K H d x->Rep X.K H e y->RelV x v->RelV y u->EqAt A s v u (GW d e)
 |[],_,_,hj=>by simp at hj
 |d'::ds,0,d,hj=>by
  simp at hj;subst hj;exact Ce I d'
 |d'::ds,j+1,d,hj=>ox I ds j d (by simpa using hj)
end
end
section
variable{X:Cx}
def Il(a b:D):Res R:=if plainD 40 a&&plainD 40 b then .ok (.f,.bl (GW a b)) else .bad
def Hz(a b:D):Res R:=if plainD 40 a&&plainD 40 b then .ok (.f,.bl (!GW a b)) else .bad
open PySem.SeqAt in
theorem Cf{pr:List (Addr×Obj)}{σ:L2.St}{H:Hp}{s:Shared}(I:Inv X pr σ H s){d e:D}{x y:V}{v u:Value}{A:Around}(h:plainD 40 d=true)(h':plainD 40 e=true)(hu:A.units+64<cLine)(r:Rep X.K H d x)(q:Rep X.K H e y)(rx:RelV x v)(ry:RelV y u):
  RcAt A s v u (GW d e)/\RcNeAt A s v u (!GW d e):=by
 cases d with
 |non=>
  cases b9 r;cases rx;cases e with
  |non=>cases b9 q;cases ry;simp only[GW];exact⟨.none_none,.none_none⟩
  |bl b=>cases cF q;cases ry;simp only[GW];exact⟨.none_bool _,.none_bool _⟩
  |int i=>cases bJ q;obtain⟨t,rfl⟩:=ry;simp only[GW];exact⟨.none_int _ _,.none_int _ _⟩
  |str l=>cases(bw q).1;obtain⟨t,rfl⟩:=ry;simp only[GW];exact⟨.none_str _ _,.none_str _ _⟩
  |tup l=>obtain⟨p,xs,rfl,sq,_⟩:=bE q;cases ry;obtain⟨GO,_,ip,_⟩:=I.tuple sq;simp only[GW];exact⟨.none_tuple (show s.heap.IsTuple p GO.toArray from ip) (by lia),.none_tuple (show s.heap.IsTuple p GO.toArray from ip) (by lia)⟩
  |lst l=>obtain⟨p,xs,rfl,sq,_⟩:=bF q;cases ry;obtain⟨GO,_,ip,_⟩:=I.list sq;simp only[GW];exact⟨.none_list ip.isList (by lia),.none_list ip.isList (by lia)⟩
  |dct tk ks vs=>exact(bM h').elim
 |bl b=>
  cases cF r;cases rx;cases e with
  |non=>cases b9 q;cases ry;simp only[GW];exact⟨.bool_none _,.bool_none _⟩
  |bl b=>cases cF q;cases ry;simp only[GW];exact⟨.bool_bool _ _,.bool_bool _ _⟩
  |int i=>cases bJ q;obtain⟨t,rfl⟩:=ry;simp only[GW];exact⟨.bool_int _ _ _,.bool_int _ _ _⟩
  |str l=>cases(bw q).1;obtain⟨t,rfl⟩:=ry;simp only[GW];exact⟨.bool_str _ _ _,.bool_str _ _ _⟩
  |tup l=>obtain⟨p,xs,rfl,sq,_⟩:=bE q;cases ry;obtain⟨GO,_,ip,_⟩:=I.tuple sq;simp only[GW];exact⟨.bool_tuple _ (show s.heap.IsTuple p GO.toArray from ip) (by lia),.bool_tuple _ (show s.heap.IsTuple p GO.toArray from ip) (by lia)⟩
  |lst l=>obtain⟨p,xs,rfl,sq,_⟩:=bF q;cases ry;obtain⟨GO,_,ip,_⟩:=I.list sq;simp only[GW];exact⟨.bool_list _ ip.isList (by lia),.bool_list _ ip.isList (by lia)⟩
  |dct tk ks vs=>exact(bM h').elim
 |int b=>
  cases bJ r;obtain⟨t0,rfl⟩:=rx;cases e with
  |non=>cases b9 q;cases ry;simp only[GW];exact⟨.int_none _ _,.int_none _ _⟩
  |bl b=>cases cF q;cases ry;simp only[GW];exact⟨.int_bool _ _ _,.int_bool _ _ _⟩
  |int i=>cases bJ q;obtain⟨t,rfl⟩:=ry;simp only[GW];exact⟨.int_int _ _ _ _,.int_int _ _ _ _⟩
  |str l=>cases(bw q).1;obtain⟨t,rfl⟩:=ry;simp only[GW];exact⟨.int_str _ _ _ _,.int_str _ _ _ _⟩
  |tup l=>obtain⟨p,xs,rfl,sq,_⟩:=bE q;cases ry;obtain⟨GO,_,ip,_⟩:=I.tuple sq;simp only[GW];exact⟨.int_tuple _ _ (show s.heap.IsTuple p GO.toArray from ip) (by lia),.int_tuple _ _ (show s.heap.IsTuple p GO.toArray from ip) (by lia)⟩
  |lst l=>obtain⟨p,xs,rfl,sq,_⟩:=bF q;cases ry;obtain⟨GO,_,ip,_⟩:=I.list sq;simp only[GW];exact⟨.int_list _ _ ip.isList (by lia),.int_list _ _ ip.isList (by lia)⟩
  |dct tk ks vs=>exact(bM h').elim
 |str b=>
  have hr:=(bw r).1;subst hr;obtain⟨t0,rfl⟩:=rx;cases e with
  |non=>cases b9 q;cases ry;simp only[GW];exact⟨.str_none _ _,.str_none _ _⟩
  |bl b=>cases cF q;cases ry;simp only[GW];exact⟨.str_bool _ _ _,.str_bool _ _ _⟩
  |int i=>cases bJ q;obtain⟨t,rfl⟩:=ry;simp only[GW];exact⟨.str_int _ _ _ _,.str_int _ _ _ _⟩
  |str l=>
   have hq:=(bw q).1;subst hq;obtain⟨t,rfl⟩:=ry;have e1:(b==l)=(S b==S l):=by
    rw[UG,Ul,Ul];exact⟨fun z=>by rw[z],zH⟩
   simp only[GW,e1];exact⟨.str_str _ _ _ _,.str_str _ _ _ _⟩
  |tup l=>obtain⟨p,xs,rfl,sq,_⟩:=bE q;cases ry;obtain⟨GO,_,ip,_⟩:=I.tuple sq;simp only[GW];exact⟨.str_tuple _ _ (show s.heap.IsTuple p GO.toArray from ip) (by lia),.str_tuple _ _ (show s.heap.IsTuple p GO.toArray from ip) (by lia)⟩
  |lst l=>obtain⟨p,xs,rfl,sq,_⟩:=bF q;cases ry;obtain⟨GO,_,ip,_⟩:=I.list sq;simp only[GW];exact⟨.str_list _ _ ip.isList (by lia),.str_list _ _ ip.isList (by lia)⟩
  |dct tk ks vs=>exact(bM h').elim
 |tup l=>
  obtain⟨p,xs,ev,sq,rs⟩:=bE r;subst ev;cases rx;obtain⟨GO,vl,ip,_⟩:=I.tuple sq;have ip:s.heap.IsTuple p GO.toArray:=ip;cases e with
  |non=>cases b9 q;cases ry;simp only[GW];exact⟨.tuple_none ip (by lia),.tuple_none ip (by lia)⟩
  |bl b=>cases cF q;cases ry;simp only[GW];exact⟨.tuple_bool _ ip (by lia),.tuple_bool _ ip (by lia)⟩
  |int i=>cases bJ q;obtain⟨t,rfl⟩:=ry;simp only[GW];exact⟨.tuple_int _ _ ip (by lia),.tuple_int _ _ ip (by lia)⟩
  |str l=>cases(bw q).1;obtain⟨t,rfl⟩:=ry;simp only[GW];exact⟨.tuple_str _ _ ip (by lia),.tuple_str _ _ ip (by lia)⟩
  |tup l'=>
   obtain⟨p',HQ,Jl,IB,IQ⟩:=bE q;subst Jl;cases ry;obtain⟨its',L7,IU,_⟩:=I.tuple IB;have IU:s.heap.IsTuple p' its'.toArray:=IU;simp only[plainD]at h h';have l1:=vl.length;have l2:=L7.length;have l3:=rs.length;have l4:=IQ.length;have el:∀j (h1:j<GO.toArray.size) (h2:j<its'.toArray.size),EqAt A.in1 s GO.toArray[j] its'.toArray[j] ((fun j=>GW (l.getD j .non) (l'.getD j .non)) j):=fun j h1 h2=>by
    simp only[To]at h1 h2;have g1:l[j]?=some (l[j]'(by lia)):=Tj _;have g2:l'[j]?=some (l'[j]'(by lia)):=Tj _;obtain⟨w1,Jx,L8⟩:=rs.get g1;obtain⟨w2,ML,MM⟩:=IQ.get g2;obtain⟨u1,KD,L9⟩:=vl.get Jx;obtain⟨u2,KZ,MN⟩:=L7.get ML;have q1:GO.toArray[j]=u1:=by rw[Tj h1]at KD;simpa using KD
    have q2:its'.toArray[j]=u2:=by rw[Tj h2]at KZ;simpa using KZ
    dsimp only;rw[q1,q2,Ti,Ti,g1,g2];exact ox I l j _ g1 _ w1 w2 u1 u2 A.in1 39 (plainDs_mem h g1) (plainDs_mem h' g2) (by show A.units+1+39<cLine;lia) L8 MM L9 MN
   simp only[GW];have fin:((List.range (min GO.toArray.size its'.toArray.size)).all (fun j=>GW (l.getD j .non) (l'.getD j .non))&&GO.toArray.size==its'.toArray.size)=j4 l l':=by
    simp only[To];by_cases hl:l.length=l'.length
    ·rw[<-fm hl,show min GO.length its'.length=l.length by lia,show(GO.length==its'.length)=true by rw[Ul];lia,Vp]
    ·rw[iL hl,show(GO.length==its'.length)=false by rw[T4];lia,VH]
   rw[<-fin];exact⟨.tuples ip IU (by lia) el,.tuples ip IU (by lia) el⟩
  |lst l'=>obtain⟨p',HQ,Jl,IB,_⟩:=bF q;subst Jl;cases ry;obtain⟨its',_,IU,_⟩:=I.list IB;simp only[GW];exact⟨.tuple_list ip IU.isList (by lia),.tuple_list ip IU.isList (by lia)⟩
  |dct tk ks vs=>exact(bM h').elim
 |lst l=>
  obtain⟨p,xs,ev,sq,rs⟩:=bF r;subst ev;cases rx;obtain⟨GO,vl,ip,_⟩:=I.list sq;have ip:=ip.isList;cases e with
  |non=>cases b9 q;cases ry;simp only[GW];exact⟨.list_none ip (by lia),.list_none ip (by lia)⟩
  |bl b=>cases cF q;cases ry;simp only[GW];exact⟨.list_bool _ ip (by lia),.list_bool _ ip (by lia)⟩
  |int i=>cases bJ q;obtain⟨t,rfl⟩:=ry;simp only[GW];exact⟨.list_int _ _ ip (by lia),.list_int _ _ ip (by lia)⟩
  |str l=>cases(bw q).1;obtain⟨t,rfl⟩:=ry;simp only[GW];exact⟨.list_str _ _ ip (by lia),.list_str _ _ ip (by lia)⟩
  |lst l'=>
   obtain⟨p',HQ,Jl,IB,IQ⟩:=bF q;subst Jl;cases ry;obtain⟨its',L7,IU,_⟩:=I.list IB;have IU:=IU.isList;simp only[plainD]at h h';have l1:=vl.length;have l2:=L7.length;have l3:=rs.length;have l4:=IQ.length;simp only[GW];by_cases hl:l.length=l'.length
   ·have el:∀j (h1:j<GO.toArray.size) (h2:j<its'.toArray.size),EqAt A.in1 s GO.toArray[j] its'.toArray[j] ((fun j=>GW (l.getD j .non) (l'.getD j .non)) j):=fun j h1 h2=>by
     simp only[To]at h1 h2;have g1:l[j]?=some (l[j]'(by lia)):=Tj _;have g2:l'[j]?=some (l'[j]'(by lia)):=Tj _;obtain⟨w1,Jx,L8⟩:=rs.get g1;obtain⟨w2,ML,MM⟩:=IQ.get g2;obtain⟨u1,KD,L9⟩:=vl.get Jx;obtain⟨u2,KZ,MN⟩:=L7.get ML;have q1:GO.toArray[j]=u1:=by rw[Tj h1]at KD;simpa using KD
     have q2:its'.toArray[j]=u2:=by rw[Tj h2]at KZ;simpa using KZ
     dsimp only;rw[q1,q2,Ti,Ti,g1,g2];exact ox I l j _ g1 _ w1 w2 u1 u2 A.in1 39 (plainDs_mem h g1) (plainDs_mem h' g2) (by show A.units+1+39<cLine;lia) L8 MM L9 MN
    rw[<-fm hl,show l.length=GO.toArray.size by simp only[To];lia];exact⟨.lists ip IU (by simp only[To];lia) (by lia) el,.lists ip IU (by simp only[To];lia) (by lia) el⟩
   ·rw[iL hl];exact⟨.lists_lengths ip IU (by simp only[To,bne_iff_ne];lia) (by lia),.lists_lengths ip IU (by simp only[To,bne_iff_ne];lia) (by lia)⟩
  |tup l'=>obtain⟨p',HQ,Jl,IB,_⟩:=bE q;subst Jl;cases ry;obtain⟨its',_,IU,_⟩:=I.tuple IB;simp only[GW];exact⟨.list_tuple ip (show s.heap.IsTuple p' its'.toArray from IU) (by lia),.list_tuple ip (show s.heap.IsTuple p' its'.toArray from IU) (by lia)⟩
  |dct tk ks vs=>exact(bM h').elim
 |dct tk ks vs=>exact(bM h).elim
theorem gy(hu:X.A.units+64<cLine):HG X (compareOp .Eq) (rGA X.K Il):=by
 rintro pr s σ H x y v u Q I rx ry ⟨G,fp,es,vs,a,b,r,⟨rel,k⟩,va,vb,e⟩;unfold Il at e;split at e
 ·rename_i hp;cases e;rw[TJ]at hp;exact(Cf I hp.1 hp.2 hu va vb rx ry).1 _ _ _ _ ⟨.bl _,H,I,rfl,k _ H G fp .refl (rel.push (cV _))⟩
 ·cases e
theorem dX(hu:X.A.units+64<cLine):HG X (compareOp .NotEq) (rGA X.K Hz):=by
 rintro pr s σ H x y v u Q I rx ry ⟨G,fp,es,vs,a,b,r,⟨rel,k⟩,va,vb,e⟩;unfold Hz at e;split at e
 ·rename_i hp;cases e;rw[TJ]at hp;exact(Cf I hp.1 hp.2 hu va vb rx ry).2 _ _ _ _ ⟨.bl _,H,I,rfl,k _ H G fp .refl (rel.push (cV _))⟩
 ·cases e
def wJ(a:D)(ds:List D):Bool:=ds.any fun d=>GW d a
noncomputable def NF(a b:D):Res R:=match b with
 | .lst ds=>if plainD 40 a&&plainDs 40 ds then .ok (.f,.bl (wJ a ds)) else .bad
 | .tup ds=>if plainD 40 a&&plainDs 40 ds then .ok (.f,.bl (wJ a ds)) else .bad
 | .str l=>match a with
  | .str [c]=>.ok (.f,.bl (decide (c∈l)))
  |_=>.bad
 |_=>.bad
def Cg(a b:D):Res R:=(NF a b).bind fun r=>match r.2 with
 | .bl k=>.ok (.f,.bl (!k))
 |_=>.bad
open PySem.SeqAt in
theorem qR{pr:List (Addr×Obj)}{σ:L2.St}{H:Hp}{s:Shared}(I:Inv X pr σ H s){a:D}{x:V}{v:Value}{A:Around}(h:plainD 40 a=true)(hu:A.units+64<cLine)(r:Rep X.K H a x)(rx:RelV x v):
  ∀(ds:List D) (xs:List V) (us:List Value),plainDs 40 ds=true->Reps X.K H ds xs->Vals xs us->∃e:Value->Bool,us.any e=wJ a ds/\∀u∈us,EqAt A s u v (e u):=by
 classical
 intro ds xs us hp rs vl;refine⟨fun u=>decide (∃(j:Nat) (d:D),ds[j]?=some d/\us[j]?=some u/\GW d a=true),?_,fun u hu'=>?_⟩
 ·rw[UG,WT];unfold wJ;rw[WT];constructor
  ·rintro⟨u,_,hd⟩;obtain⟨j,d,h1,_,h2⟩:=WH hd;exact⟨d,U7 h1,h2⟩
  ·rintro⟨d,hd,h2⟩;obtain⟨j,hj⟩:=V9.mp hd;obtain⟨w1,Jx,L8⟩:=rs.get hj;obtain⟨u1,KD,L9⟩:=vl.get Jx;exact⟨u1,U7 KD,T6 ⟨j,d,hj,KD,h2⟩⟩
 ·obtain⟨j,hj⟩:=V9.mp hu';have l1:=vl.length;have l2:=rs.length;have Sq:=(Tx.mp hj).1;have g1:ds[j]?=some (ds[j]'(by lia)):=Tj _;obtain⟨w1,Jx,L8⟩:=rs.get g1;obtain⟨u1,KD,L9⟩:=vl.get Jx;rw[hj]at KD;cases KD;have z:=Ce I _ _ w1 x u v A 40 (plainDs_mem hp g1) h (by lia) L8 r L9 rx;have e:decide (∃(j:Nat) (d:D),ds[j]?=some d/\us[j]?=some u/\GW d a=true)=GW (ds[j]'(by lia)) a:=by
   rw[UG,T7];constructor
   ·rintro⟨j2,d2,k1,k2,k3⟩;obtain⟨w2,ML,MM⟩:=rs.get k1;obtain⟨u2,KZ,MN⟩:=vl.get ML;rw[k2]at KZ;cases KZ;have:=L9.inj MN;subst this;rw[mC I _ _ _ 40 (plainDs_mem hp g1) L8 MM];exact k3
   ·intro k3;exact⟨j,_,g1,hj,k3⟩
  show EqAt A s u v (decide (∃(j:Nat) (d:D),ds[j]?=some d/\us[j]?=some u/\GW d a=true));rw[e];exact z
theorem oy(l:List Nat)(c:Nat):(!(Builtin.Str.occurrences (S l) (S [c]) 0 (S l).length 1).isEmpty)=decide (c∈l):=by
 have h:=PySem.StrLaws.found_one (S l) c;rw[fW]at h;exact h
theorem mF{e:Value->Bool}(us:List Value):us.toArray.any e=us.any e:=by simp
theorem Er(hu:X.A.units+65<cLine):HG X (compareOp .In) (rGA X.K NF):=by
 rintro pr s σ H x y v u Q I rx ry ⟨G,fp,es,vs,a,b,r,⟨rel,k⟩,va,vb,e⟩;unfold NF at e;split at e
 ·rename_i ds;split at e
  ·rename_i hp;cases e;rw[TJ]at hp;obtain⟨p,xs,ev,sq,rs⟩:=bF vb;subst ev;cases ry;obtain⟨GO,vl,ip,_⟩:=I.list sq;obtain⟨ef,e1,e2⟩:=qR (A:=X.A.in1) I hp.1 (by show X.A.units+1+64<cLine;lia) va rx ds xs GO hp.2 rs vl;refine SeqAt.in_listAt ef ip.isList (fun z hz=>e2 z (by simpa using hz)) ?_;rw[mF,e1];exact⟨.bl _,H,I,rfl,k _ H G fp .refl (rel.push (cV _))⟩
  ·cases e
 ·rename_i ds;split at e
  ·rename_i hp;cases e;rw[TJ]at hp;obtain⟨p,xs,ev,sq,rs⟩:=bE vb;subst ev;cases ry;obtain⟨GO,vl,ip,_⟩:=I.tuple sq;obtain⟨ef,e1,e2⟩:=qR (A:=X.A.in1) I hp.1 (by show X.A.units+1+64<cLine;lia) va rx ds xs GO hp.2 rs vl;refine SeqAt.in_tupleAt ef (show s.heap.IsTuple p GO.toArray from ip) (fun z hz=>e2 z (by simpa using hz)) ?_;rw[mF,e1];exact⟨.bl _,H,I,rfl,k _ H G fp .refl (rel.push (cV _))⟩
  ·cases e
 ·rename_i l;split at e
  ·rename_i c;cases e;obtain⟨e1,h1⟩:=bw va;obtain⟨e2,h2⟩:=bw vb;subst e1;subst e2;refine tL pr s σ H _ _ v u Q I rx ry ⟨_,_,rfl,rfl,?_⟩;rw[oy];exact k _ H G fp .refl (rel.push (cV _))
  ·cases e
 ·cases e
theorem Ci(hu:X.A.units+65<cLine):HG X (compareOp .NotIn) (rGA X.K Cg):=by
 rintro pr s σ H x y v u Q I rx ry ⟨G,fp,es,vs,a,b,r,⟨rel,k⟩,va,vb,e⟩;unfold Cg at e;obtain⟨r0,e0,e⟩:=aj e;unfold NF at e0;split at e0
 ·rename_i ds;split at e0
  ·rename_i hp;cases e0;cases e;rw[TJ]at hp;obtain⟨p,xs,ev,sq,rs⟩:=bF vb;subst ev;cases ry;obtain⟨GO,vl,ip,_⟩:=I.list sq;obtain⟨ef,e1,e2⟩:=qR (A:=X.A.in1) I hp.1 (by show X.A.units+1+64<cLine;lia) va rx ds xs GO hp.2 rs vl;refine SeqAt.notIn_listAt ef ip.isList (fun z hz=>e2 z (by simpa using hz)) ?_;rw[mF,e1];exact⟨.bl _,H,I,rfl,k _ H G fp .refl (rel.push (cV _))⟩
  ·cases e0
 ·rename_i ds;split at e0
  ·rename_i hp;cases e0;cases e;rw[TJ]at hp;obtain⟨p,xs,ev,sq,rs⟩:=bE vb;subst ev;cases ry;obtain⟨GO,vl,ip,_⟩:=I.tuple sq;obtain⟨ef,e1,e2⟩:=qR (A:=X.A.in1) I hp.1 (by show X.A.units+1+64<cLine;lia) va rx ds xs GO hp.2 rs vl;refine SeqAt.notIn_tupleAt ef (show s.heap.IsTuple p GO.toArray from ip) (fun z hz=>e2 z (by simpa using hz)) ?_;rw[mF,e1];exact⟨.bl _,H,I,rfl,k _ H G fp .refl (rel.push (cV _))⟩
  ·cases e0
 ·rename_i l;split at e0
  ·rename_i c;cases e0;cases e;obtain⟨e1,h1⟩:=bw va;obtain⟨e2,h2⟩:=bw vb;subst e1;subst e2;refine nG pr s σ H _ _ v u Q I rx ry ⟨_,_,rfl,rfl,?_⟩;rw[oy];exact k _ H G fp .refl (rel.push (cV _))
  ·cases e0
 ·cases e0
def Mz(a b:D):Res R:=match b with
 | .bl k=>.ok (.f,.bl (match a with | .bl j=>j==k|_=>false))
 | .non=>.ok (.f,.bl (match a with | .non=>true|_=>false))
 |_=>.bad
def GC(a b:D):Res R:=(Mz a b).bind fun r=>match r.2 with
 | .bl k=>.ok (.f,.bl (!k))
 |_=>.bad
theorem xt{K:W.Frag}{H:Hp}{a b:D}{x y:V}{v u:Value}{r:R}(va:Rep K H a x)(vb:Rep K H b y)(rx:RelV x v)(ry:RelV y u)(e:Mz a b=.ok r):plainIs v u=true/\r=(.f,.bl (v==u)):=by
 unfold Mz at e;split at e
 ·rename_i k;cases e;cases cF vb;cases ry;cases a with
  |non=>cases b9 va;cases rx;exact⟨rfl,rfl⟩
  |bl j=>cases cF va;cases rx;refine⟨rfl,?_⟩;cases j <;> cases k <;> rfl
  |int i=>cases bJ va;obtain⟨t,rfl⟩:=rx;exact⟨rfl,rfl⟩
  |str l=>cases(bw va).1;obtain⟨t,rfl⟩:=rx;exact⟨rfl,rfl⟩
  |tup l=>obtain⟨p,xs,rfl,_⟩:=bE va;cases rx;exact⟨rfl,rfl⟩
  |lst l=>obtain⟨p,xs,rfl,_⟩:=bF va;cases rx;exact⟨rfl,rfl⟩
  |dct tk ks vs=>rw[Rep]at va;obtain⟨p,xs,o,rfl,_⟩:=va;cases rx;exact⟨rfl,rfl⟩
 ·cases e;cases b9 vb;cases ry;cases a with
  |non=>cases b9 va;cases rx;exact⟨rfl,rfl⟩
  |bl j=>cases cF va;cases rx;exact⟨rfl,rfl⟩
  |int i=>cases bJ va;obtain⟨t,rfl⟩:=rx;exact⟨rfl,rfl⟩
  |str l=>cases(bw va).1;obtain⟨t,rfl⟩:=rx;exact⟨rfl,rfl⟩
  |tup l=>obtain⟨p,xs,rfl,_⟩:=bE va;cases rx;exact⟨rfl,rfl⟩
  |lst l=>obtain⟨p,xs,rfl,_⟩:=bF va;cases rx;exact⟨rfl,rfl⟩
  |dct tk ks vs=>rw[Rep]at va;obtain⟨p,xs,o,rfl,_⟩:=va;cases rx;exact⟨rfl,rfl⟩
 ·cases e
theorem Cj:HG X (compareOp .Is) (rGA X.K Mz):=by
 rintro pr s σ H x y v u Q I rx ry ⟨G,fp,es,vs,a,b,r,⟨rel,k⟩,va,vb,e⟩;obtain⟨h1,h2⟩:=xt va vb rx ry e;subst h2;exact wpAny_is_plain h1 ⟨.bl _,H,I,rfl,k _ H G fp .refl (rel.push (cV _))⟩
end
section
variable{X:Cx}
theorem Ck(hc:X.calm=true):dB X (.builtin "max") (rC X.K maxD):=by
 rintro pr s σ H xs us Q I rx ⟨G,fp,es,vs,ds,r,⟨rel,k⟩,vd,e⟩;unfold maxD at e;split at e
 ·rename_i d;split at e
  ·rename_i n ns hb;cases e;obtain⟨v,ev,vt⟩:=oq vd;obtain⟨p,ep,sq⟩:=ou rel.gh hb vt;subst ev;subst ep;exact ud hc pr s σ H _ us Q I rx ⟨p,n::ns,rfl,sq,by simp,k _ H G fp .refl (rel.push (rep_int _))⟩
  ·cases e
 ·rename_i i j;cases e;obtain⟨v,w',ev,v1,v2⟩:=Gi vd;subst ev;cases bx v1;cases bx v2;obtain⟨u,u',rfl,⟨t,rfl⟩,t',rfl⟩:=zm rx;refine max_two_ints (I.ok.hd hc) fun h' tk kk=>?_
  have I2:Inv X pr σ H {s with heap:=h',toks:=tk}:=I.kept kk;refine⟨.int (if i<j then j else i),H,I2,?_,k _ H G fp .refl (rel.push (rep_int _))⟩;by_cases My:i<j
  ·rw[Tq My,Tq (show j>i from My)];exact⟨_,rfl⟩
  ·rw[Tv My,Tv (show ¬ j>i from My)];exact⟨_,rfl⟩
 ·cases e
def Gj(f g:FX):FX:=fun env=>(f env).bind fun p=>(g p.2).bind fun q=>match(ot p.1.2).bind fg,q.1.2 with
 |some ns,.int d=>.ok ((.f,.int (NX.maxD ns d)),q.2)
 |_,_=>.bad
def A8:List D->Res R
 |[.bl b]=>.ok (.f,.int (if b then 1 else 0))
 |[.int i]=>.ok (.f,.int i)
 |_=>.bad
theorem Cm:dB X (.type "int") (rC X.K A8):=by
 rintro pr s σ H xs us Q I rx ⟨G,fp,es,vs,ds,r,⟨rel,k⟩,vd,e⟩;unfold A8 at e;split at e
 ·rename_i b;cases e;obtain⟨v,ev,v1⟩:=oq vd;subst ev;cases Ek v1;obtain⟨u,rfl,ru⟩:=hJ rx;cases ru;exact call_int_bool ⟨.int _,H,I.tok _,⟨_,rfl⟩,k _ H G fp .refl (rel.push (rep_int _))⟩
 ·rename_i i;cases e;obtain⟨v,ev,v1⟩:=oq vd;subst ev;cases bx v1;obtain⟨u,rfl,t,rfl⟩:=hJ rx;first
   |exact YR ⟨.int _,H,I.tok _,⟨_,rfl⟩,k _ H G fp .refl (rel.push (rep_int _))⟩
   |exact YR ⟨.int _,H,I,⟨_,rfl⟩,k _ H G fp .refl (rel.push (rep_int _))⟩
 ·cases e
def pQ:D->String
 | .non=>"NoneType"
 | .bl _=>"bool"
 | .int _=>"int"
 | .str _=>"str"
 | .tup _=>"tuple"
 | .lst _=>"list"
 | .dct _ _ _=>"dict"
def pA(T:String)(d:D):Bool:=pQ d==T||(pQ d == "bool" && T == "int")
def Ma(T:String)(f:FO):FX:=fun env=>(f env).bind fun p=>(sj p.2 p.1).bind fun d=>.ok ((.f,.bl (pA T d)),p.2)
theorem Cn(K:W.Frag)(d:D){T:String}(hT:T = "int"\/T = "bool"\/T = "str"\/T = "list"\/T = "tuple"\/T = "dict"):PySem.W.kitOne K (.type (pQ d)) (.type T)=some (pA T d):=by
 rcases hT with rfl|rfl|rfl|rfl|rfl|rfl <;> cases d <;> (unfold PySem.W.kitOne PySem.W.kitCls PySem.W.subIn;kernel_rfl)
theorem xu:dB X (.builtin "isinstance") (fun xs H Q=>∃d x T,xs=[x,.ty T]/\Rep X.K H d x/\(T = "int"\/T = "bool"\/T = "str"\/T = "list"\/T = "tuple"\/T = "dict")/\Q (.bl (pA T d)) H):=by
 intro pr s σ H xs us Q I r h;obtain⟨d,x,T,rfl,rd,hT,q⟩:=h;obtain⟨u,w',rfl,r1,r2⟩:=zm r;cases(show w'=Value.type T from r2);have e:=Cn X.K d hT;have fin:∀tk,EP X pr σ Q (.bool (pA T d)) {s with toks:=tk}:=fun tk=>⟨.bl (pA T d),H,I.tok tk,rfl,q⟩
 cases d with
 |non=>cases b9 rd;cases(show u=Value.none from r1);exact Vv PySem.W.kitx_none I.kIn True.intro e (fun z=>nomatch z) fin
 |bl y=>cases cF rd;cases(show u=Value.bool y from r1);exact Vv PySem.W.kitx_bool I.kIn True.intro e (fun z=>nomatch z) fin
 |int i=>cases bJ rd;obtain⟨t,z⟩:=(show ∃t,u=Value.int i t from r1);cases z;exact Vv PySem.W.kitx_int I.kIn True.intro e (fun z=>nomatch z) fin
 |str l=>
  have hr:=(bw rd).1;subst hr;obtain⟨t,z⟩:=(show ∃t,u=Value.str (S l) t from r1)
  cases z;exact Vv PySem.W.kitx_str I.kIn True.intro e (fun z=>nomatch z) fin
 |lst l=>
  obtain⟨p,xs,ev,sq,_⟩:=bF rd;subst ev;cases(show u=Value.ref p from r1);obtain⟨GO,_,ip,_⟩:=I.list sq;obtain⟨o,ho,hc,_⟩:=ip.isList;exact Vv PySem.W.kitx_list I.kIn ⟨o,ho,hc⟩ e (fun z=>nomatch z) fin
 |tup l=>
  obtain⟨p,xs,ev,sq,_⟩:=bE rd;subst ev;cases(show u=Value.ref p from r1);obtain⟨GO,_,ip,_⟩:=I.tuple sq;obtain⟨o,ho,hc,_⟩:=ip;exact Vv PySem.W.kitx_tuple I.kIn ⟨o,ho,hc⟩ e (fun z=>nomatch z) fin
 |dct tk ks vs=>
  rw[Rep]at rd;obtain⟨p,xs,o,ev,hr,dd,_⟩:=rd;subst ev;cases(show u=Value.ref p from r1);have ok:=hr.ok I.hok;cases tk with
  |true=>
   obtain⟨GJ,eo,_⟩:=dd;subst eo;obtain⟨_,_,_,_,o2,_,_,IW,ex,_⟩:=ok;exact Vv PySem.W.kitx_dict I.kIn ⟨o2,IW,ex.1⟩ e (fun z=>nomatch z) fin
  |false=>
   obtain⟨GJ,eo,_⟩:=dd;subst eo;obtain⟨_,_,_,_,o2,_,_,IW,ex,_⟩:=ok;exact Vv PySem.W.kitx_dict I.kIn ⟨o2,IW,ex.1⟩ e (fun z=>nomatch z) fin
theorem oz{T:String}{x:Str}{e:Expr}{f:FO}{p q pos:Pos}(hT:T = "int"\/T = "bool"\/T = "str"\/T = "list"\/T = "tuple"\/T = "dict")(he:QO X e f)(hg:Gl X "isinstance")(hm:X.mg "isinstance" = none)(P0:Gl X x)(P1:X.mg x=none)(QY:bootBuiltins x=some (.type T))(hn:x≠"__name__":=by decide)(JG:(x==("__debug__" : Str))=false:=by decide)
  (hs:starEach [e,.Name x q] X.env=(false,eval e X.env)::starEach [.Name x q] X.env:=by rfl) (Pc:starEach [.Name x q] X.env=(false,eval (.Name x q) X.env)::starEach [] X.env:=by rfl) (IM:(backTo pos (starEach [.Name x q] X.env)).any (·.1)=false:=by rfl):
  QE X (.Call (.Name "isinstance" p) [e,.Name x q] [] pos) (Ma T f):=
 bI (qq xu hg hm l8 (l5 he (l5 (zd (v:=.ty T) P0 P1 QY rfl hn JG) tP Pc) hs) (by decide) (by decide) hs IM) fun σ H Q G0=>by
  obtain⟨G,env,fp,r,env',rel,e,k⟩:=G0;obtain⟨⟨o,GL⟩,e1,e⟩:=aj e;obtain⟨d,e2,e⟩:=aj e;cases e;exact⟨G,env,fp,o,_,rel,e1,fun v H1 G1 Hi Hb GP Jw=>⟨d,v,T,rfl,GP.vwA Jw e2,hT,k _ H1 G1 Hi Hb (GP.push (cV _))⟩⟩
def HD{α:Type}(f g:PV.Env->Res α):PV.Env->Res α:=fun env=>match f env with
 | .ok a=>.ok a
 |_=>g env
theorem yF{α:Type}{f g:PV.Env->Res α}{env:PV.Env}{a:α}(h:HD f g env=.ok a):f env=.ok a\/g env=.ok a:=by
 unfold HD at h;split at h
 ·rename_i b hb;cases h;exact .inl hb
 ·exact .inr h
theorem sy{tg e:Expr}{f g:FI}(h:QI X tg e f)(h2:QI X tg e g):QI X tg e (HD f g):=fun pr s σ H R I G0=>by
 obtain⟨G,env,fp,ds,env',rel,ee,k⟩:=G0;rcases yF ee with z|z
 ·exact h pr s σ H R I ⟨G,env,fp,ds,env',rel,z,k⟩
 ·exact h2 pr s σ H R I ⟨G,env,fp,ds,env',rel,z,k⟩
end
section
variable{α:Type}
def ins(lt:α->α->Bool)(x:α):List α->List α
 |[]=>[x]
 |y::ys=>if lt y x then y::ins lt x ys else x::y::ys
def jT(lt:α->α->Bool)(l:List α):List α:=l.foldr (ins lt) []
structure Ord(lt:α->α->Bool):Prop where
 irr:∀a,lt a a=false
 trans:∀a b c,lt a b=true->lt b c=true->lt a c=true
 tot:∀a b,lt a b=false->lt b a=false->a=b
theorem mG(lt:α->α->Bool)(x:α):∀l,(ins lt x l).Perm (x::l)
 |[]=>.refl _
 |y::ys=>by
  unfold ins;split
  ·exact(List.Perm.cons y (mG lt x ys)).trans (List.Perm.swap x y ys)
  ·exact .refl _
theorem lP(lt:α->α->Bool):∀l,(jT lt l).Perm l
 |[]=>.refl _
 |x::l=>(mG lt x _).trans (List.Perm.cons x (lP lt l))
theorem lQ{lt:α->α->Bool}(o:Ord lt)(x:α):∀l:List α,l.Pairwise (fun a b=>lt b a=false)->(ins lt x l).Pairwise (fun a b=>lt b a=false)
 |[],_=>by simp[ins]
 |y::ys,h=>by
  rw[V2]at h;unfold ins;split
  ·rename_i hy;rw[V2];refine⟨fun z hz=>?_,lQ o x ys h.2⟩;rcases Tw.mp ((mG lt x ys).mem_iff.mp hz) with rfl|hz
   ·cases e:lt z y with
    |false=>rfl
    |true=>
     have:=o.trans y z y hy e;rw[o.irr]at this;cases this
   ·exact h.1 z hz
  ·rename_i hy;have hy:lt y x=false:=by simpa using hy
   rw[V2,V2];refine⟨fun z hz=>?_,h⟩;rcases Tw.mp hz with rfl|LJ
   ·exact hy
   ·cases e:lt z x with
    |false=>rfl
    |true=>
     exfalso;cases e2:lt x y with
     |true=>
      have:=o.trans z x y e e2;rw[h.1 z LJ]at this;cases this
     |false=>
      have hxy:=o.tot x y e2 hy;rw[hxy,h.1 z LJ]at e;cases e
theorem jB{lt:α->α->Bool}(o:Ord lt):∀l:List α,(jT lt l).Pairwise (fun a b=>lt b a=false)
 |[]=>.nil
 |x::l=>lQ o x _ (jB o l)
theorem oA{lt:α->α->Bool}(o:Ord lt):∀{a b:List α},a.Perm b->a.Pairwise (fun a b=>lt b a=false)->b.Pairwise (fun a b=>lt b a=false)->a=b
 |[],_,p,_,_=>p.nil_eq
 |x::xs,[],p,_,_=>absurd p.length_eq (by simp)
 |x::xs,y::ys,p,ha,hb=>by
  rw[V2]at ha hb;have hx:x∈y::ys:=p.mem_iff.mp Tg;have hy:y∈x::xs:=p.mem_iff.mpr Tg;have e:x=y:=by
   rcases Tw.mp hx with e|hx
   ·exact e
   ·rcases Tw.mp hy with e|hy
    ·exact e.symm
    ·exact o.tot x y (hb.1 x hx) (ha.1 y hy)
  subst e;rw[oA o p.cons_inv ha.2 hb.2]
theorem iM{lt:α->α->Bool}(o:Ord lt){l ms:List α}(p:ms.Perm l)(h:ms.Pairwise (fun a b=>lt b a=false)):ms=jT lt l:=oA o (p.trans (lP lt l).symm) h (jB o l)
end
def ltI(a b:Int):Bool:=decide (a<b)
def Pd(a b:List Nat):Bool:=decide (a<b)
theorem Ac:Ord ltI:=⟨fun a=>by simp[ltI],fun a b c=>by simp only[ltI,T7];lia,fun a b=>by simp only[ltI,US];lia⟩
theorem Ad:Ord Pd:=by
 refine⟨fun a=>?_,fun a b c h1 h2=>?_,fun a b h1 h2=>?_⟩
 ·unfold Pd;rw[US];exact List.lt_irrefl a
 ·unfold Pd at *;rw[T7] at *;exact List.lt_trans h1 h2
 ·unfold Pd at *;rw[US] at *;exact List.le_antisymm (XH.mp h2) (XH.mp h1)
theorem uK:Ord eI:=⟨hW,gM,gN⟩
def lR:List D->Option (List (List Nat))
 |[]=>some []
 | .str b::ds=>(lR ds).map (b:: ·)
 |_=>none
def kG:D->Option Key
 | .int i=>some (.inl i)
 | .str l=>some (.inr (S l))
 |_=>none
def fE:List D->Option (List Key)
 |[]=>some []
 |d::ds=>(kG d).bind fun k=>(fE ds).map (k:: ·)
def fF:D->Option (List Key)
 | .tup ds=>fE ds
 |_=>none
def kH:List D->Option (List (List Key))
 |[]=>some []
 |d::ds=>(fF d).bind fun k=>(kH ds).map (k:: ·)
def kT(k:List Key):D:=.tup (k.map kD)
section
variable{K:W.Frag}{G:Hp}
theorem kI:∀{ds:List D}{bs:List (List Nat)}{xs:List V},lR ds=some bs->Reps K G ds xs->xs=bs.map (fun l=>V.str (S l))/\∀l∈bs,l.length<=sizeLine
 |[],_,_,e,r=>by
  cases e;rw[Reps]at r;exact⟨r,fun _ h=>nomatch h⟩
 |d::ds,_,_,e,r=>by
  cases d with
  |str b=>
   rw[lR,UW]at e;obtain⟨bs,e1,e2⟩:=e;subst e2;rw[Reps]at r;obtain⟨y,ys,e3,r1,r2⟩:=r;obtain⟨h1,h2⟩:=kI e1 r2;obtain⟨h3,h4⟩:=bw r1;subst h3;refine⟨by rw[e3,h1];rfl,fun l hl=>?_⟩;rcases Tw.mp hl with rfl|hl
   ·exact h4
   ·exact h2 l hl
  |_=>simp[lR]at e
theorem jn{d:D}{k:Key}{v:V}(e:kG d=some k)(r:Rep K G d v):v=kV k/\d=kD k:=by
 cases d with
 |int i=>
  cases e;exact⟨bJ r,rfl⟩
 |str l=>
  cases e;refine⟨(bw r).1,?_⟩;show D.str l=D.str (S l).cps.toList;rw[fW]
 |_=>cases e
theorem jC:∀{ds:List D}{ks:List Key}{xs:List V},fE ds=some ks->Reps K G ds xs->xs=ks.map kV/\ds=ks.map kD
 |[],_,_,e,r=>by
  cases e;rw[Reps]at r;exact⟨r,rfl⟩
 |d::ds,_,_,e,r=>by
  rw[fE,VR]at e;obtain⟨k,e1,e⟩:=e;rw[UW]at e;obtain⟨ks,e2,e3⟩:=e;subst e3;rw[Reps]at r;obtain⟨y,ys,e4,r1,r2⟩:=r;obtain⟨h1,h2⟩:=jn e1 r1;obtain⟨h3,h4⟩:=jC e2 r2;rw[e4,h1,h2,h3,h4];exact⟨rfl,rfl⟩
theorem dY{d:D}{ks:List Key}{v:V}(e:fF d=some ks)(r:Rep K G d v):∃p,v=.ref p/\G p=some (.tup (ks.map kV))/\d=kT ks:=by
 cases d with
 |tup ds=>
  obtain⟨p,xs,ev,g,rs⟩:=uG r;obtain⟨h1,h2⟩:=jC e rs;subst h1;exact⟨p,ev,g,by rw[h2];rfl⟩
 |_=>cases e
theorem kJ:∀{ds:List D}{JO:List (List Key)}{xs:List V},kH ds=some JO->Reps K G ds xs->∃al:List (Addr×List Key),xs=al.map (fun a=>V.ref a.1)/\JO=al.map (·.2)/\ds=al.map (fun a=>kT a.2)/\∀a∈al,G a.1=some (.tup (a.2.map kV))/\Rep K G (kT a.2) (.ref a.1)
 |[],_,_,e,r=>by
  cases e;rw[Reps]at r;exact⟨[],r,rfl,rfl,fun _ h=>nomatch h⟩
 |d::ds,_,_,e,r=>by
  rw[kH,VR]at e;obtain⟨k,e1,e⟩:=e;rw[UW]at e;obtain⟨ks,e2,e3⟩:=e;subst e3;rw[Reps]at r;obtain⟨y,ys,e4,r1,r2⟩:=r;obtain⟨p,h1,h2,h5⟩:=dY e1 r1;obtain⟨al,h3,h4,h6,h7⟩:=kJ e2 r2;subst h1;refine⟨(p,k)::al,by rw[e4,h3];rfl,by rw[h4];rfl,by rw[h5,h6];rfl,fun a ha=>?_⟩;rcases Tw.mp ha with rfl|ha
  ·exact⟨h2,by rw[<-h5];exact r1⟩
  ·exact h7 a ha
theorem fG{α:Type}{f:α->D}{g:α->V}:∀{l:List α},(∀a∈l,Rep K G (f a) (g a))->Reps K G (l.map f) (l.map g)
 |[],_=>Reps.nil
 |a::l,h=>.cons (h a Tg) (fG fun b hb=>h b (Tn _ hb))
end
def sameKinds(k:List Key)(JO:List (List Key)):Bool:=!k.isEmpty&&JO.all fun j=>kinds j==kinds k
noncomputable def uL(ds:List D):Option (List D):=match fg ds with
 |some ns=>some ((jT ltI ns).map D.int)
 |none=>match lR ds with
  |some ls=>some ((jT Pd ls).map D.str)
  |none=>match kH ds with
   |some (k::JO)=>if sameKinds k JO then some ((jT eI (k::JO)).map kT) else none
   |_=>none
noncomputable def pR:List D->Res R
 |[.lst ds]=>if ds.length<64 then match uL ds with
  |some l=>.ok (.l .f,.lst l)
  |none=>.bad
  else .bad
 |[.dct true ks _]=>if ks.length<64 then match ks,kH ks with
  |[],_=>.ok (.l .f,.lst [])
  |_,some (k::JO)=>if sameKinds k JO then .ok (.l .f,.lst ((jT eI (k::JO)).map kT)) else .bad
  |_,_=>.bad
  else .bad
 |_=>.bad
theorem iN{k:List Key}{JO:List (List Key)}(h:sameKinds k JO=true):∃top t,∀j∈k::JO,kinds j=top::t:=by
 unfold sameKinds at h;rw[TJ,Us]at h;cases k with
 |nil=>simp at h
 |cons a k=>
  refine⟨a.isLeft,kinds k,fun j hj=>?_⟩;rcases Tw.mp hj with rfl|hj
  ·rfl
  ·exact Ul.mp (h.2 j hj)
def jD(H G:Hp):Hp:=fun p=>match H p with
 |some (HO.tup xs)=>some (HO.tup xs)
 |_=>G p
theorem sH{H G:Hp}{p:Addr}{xs:List V}(e:H p=some (.tup xs)):jD H G p=some (.tup xs):=by
 unfold jD;rw[e]
theorem kK{H G:Hp}{p:Addr}{u:HO}(e:jD H G p=some u):G p=some u\/(isT u=true/\H p=some u):=by
 unfold jD at e;split at e
 ·rename_i xs hx;cases e;exact .inr ⟨rfl,hx⟩
 ·exact .inl e
theorem uM{H G:Hp}(gh:Same G H):Same G (jD H G):=fun p u e=>by
 unfold jD;rw[gh p u e];cases u with
 |tup xs=>rfl
 |_=>exact e
theorem Rel.addT{K:W.Frag}{G H:Hp}{es:PV.Env}{vs:L2.St}{fp:List Addr}(q:Rel K G H es vs fp):∃G',Rel K G' H es vs fp/\Step G H fp G' H fp/\∀p xs,H p=some (.tup xs)->G' p=some (.tup xs):=by
 have gg:=uM q.gh;refine⟨jD H G,⟨q.rep.step gg fun _ _=>rfl,q.nd,fun p hp=>?_,fun p u e=>?_⟩,⟨gg,fun _ _ e _=>e,fun _ h=>.inl h,fun p u e=>(kK e).imp_right fun z=>.inr (.inr z),fun _ u e=>⟨u,e⟩⟩,fun p xs e=>sH e⟩
 ·cases e:jD H G p with
  |none=>rfl
  |some u=>
   exfalso;rcases kK e with z|⟨t,z⟩
   ·rw[q.gn p hp]at z;cases z
   ·obtain⟨u2,h2,hm⟩:=q.rep.mut p hp;rw[z]at h2;cases h2;cases u with
    |tup _=>cases hm
    |frz _ _=>cases hm
    |_=>cases t
 ·rcases kK e with z|z
  ·exact q.gh p u z
  ·exact z.2
theorem yG{K:W.Frag}{G:Hp}{k:Key}(h:fitK k):Rep K G (kD k) (kV k):=by
 cases k with
 |inl i=>exact rep_int i
 |inr x=>
  have:=h9 (K:=K) (G:=G) (l:=x.cps.toList) h;rw[nP]at this;exact this
theorem Co(k:Key):kG (kD k)=some k:=by
 cases k with
 |inl i=>rfl
 |inr x=>
  show some (Sum.inr (S x.cps.toList))=_;rw[nP]
theorem kM:∀ks:List Key,fE (ks.map kD)=some ks
 |[]=>rfl
 |k::ks=>by
  rw[TU,fE,Co,kM ks];rfl
theorem lS:∀JO:List (List Key),kH (JO.map kT)=some JO
 |[]=>rfl
 |k::JO=>by
  rw[TU,kH];show(fE (k.map kD)).bind _=_;rw[kM,lS JO];rfl
section
variable{X:Cx}
theorem Sr{α:Type}{lt:α->α->Bool}{p:α->α->Prop}(h:∀a b,p a b->lt b a=false){l:List α}(q:l.Pairwise p):l.Pairwise (fun a b=>lt b a=false):=q.imp (h _ _)
theorem uN(hc:X.calm=true):dB X (.builtin "sorted") (rC X.K pR):=by
 rintro pr s σ H xs us Q I rx ⟨G,fp,es,vs,ds,r,⟨rel,k⟩,vd,e⟩;unfold pR at e;split at e
 ·rename_i ds;split at e
  ·rename_i Lz;split at e
   ·rename_i l hl;cases e;obtain⟨v,ev,p,ys,ep,sq,rs⟩:=oq vd;subst ev;subst ep;unfold uL at hl;split at hl
    ·rename_i ns L1;cases hl;have hy:=ib L1 rs;subst hy;have hlen:ns.length<64:=by have:=rs.length;rw[Tr]at this;lia
     refine jP hc pr s σ H _ us Q I rx ⟨p,ns,rfl,sq,hlen,fun q ms hq pm sm=>?_⟩;have em:=iM Ac pm (Sr (fun a b h=>by unfold ltI;rw[US];lia) sm);subst em;obtain⟨GN,GV⟩:=rel.newL hq (fG (K:=X.K) (G:=G) (f:=D.int) (g:=V.int) fun a _=>rep_int a);exact k _ _ G _ GV GN
    ·split at hl
     ·rename_i ls hls;cases hl;obtain⟨hy,hz⟩:=kI hls rs;subst hy;have hlen:ls.length<64:=by have:=rs.length;rw[Tr]at this;lia
      refine jQ hc pr s σ H _ us Q I rx ⟨p,ls,rfl,sq,hlen,fun q ms hq pm sm=>?_⟩;have em:=iM Ad pm (Sr (fun a b h=>by unfold Pd;rw[US];exact h) sm);obtain⟨GN,GV⟩:=rel.newL hq (fG (K:=X.K) (G:=G) (f:=D.str) (g:=fun l=>V.str (S l)) (l:=ms) fun a ha=>h9 (hz a (pm.mem_iff.mp ha)));rw[<-em]at k;exact k _ _ G _ GV GN
     ·split at hl
      ·rename_i kk JO hk;split at hl
       ·rename_i hsk;cases hl;obtain⟨al,h1,h2,h3,h4⟩:=kJ hk rs;obtain⟨top,t,JP⟩:=iN hsk;subst h1;have hlen:al.length<64:=by have:=rs.length;rw[Tr]at this;lia
        refine jR hc pr s σ H _ us Q I rx ⟨p,al,top,t,rfl,sq,fun a ha=>⟨SqT.of (rel.gh _ _ (h4 a ha).1),JP a.2 (by rw[h2];exact UJ.mpr ⟨a,ha,rfl⟩)⟩,hlen,fun q ms hq pm sm=>?_⟩;have em:ms.map (·.2)=jT eI (kk::JO):=by
         rw[h2];refine iM uK (pm.map _) ?_;rw[List.pairwise_map];exact sm
        obtain⟨GN,GV⟩:=rel.newL hq (fG (K:=X.K) (G:=G) (f:=fun a:Addr×List Key=>kT a.2) (g:=fun a=>V.ref a.1) (l:=ms) fun a ha=>(h4 a (pm.mem_iff.mp ha)).2);have ek:ms.map (fun a=>kT a.2)=(jT eI (kk::JO)).map kT:=by rw[<-em,TL];rfl
        rw[ek]at GN;exact k _ _ G _ GV GN
       ·cases hl
      ·cases hl
   ·cases e
  ·cases e
 ·rename_i ks vv;split at e
  ·rename_i Lz;obtain⟨v,ev,vt⟩:=oq vd;obtain⟨p,ys,o,ep,rd,dd,rs⟩:=vt;subst ev;subst ep;obtain⟨GJ,eo,ek,ex,K5⟩:=dd;subst eo;have ek:ks=(GJ.map (·.1)).map kT:=by rw[ek,TL];rfl
   have hlen:GJ.length<64:=by rw[ek,Tr,Tr]at Lz;exact Lz
   have go:∀(top:Bool) (t:List Bool),(∀kv∈GJ,kinds kv.1=top::t)->r=(.l .f,.lst ((jT eI (GJ.map (·.1))).map kT))->wpAny (model X.prog X.w) X.A (call (.builtin "sorted") us) (EP X pr σ Q) X.xe s:=fun top t JP er=>by
    subst er;refine lz hc pr s σ H _ us Q I rx ⟨p,GJ,top,t,rfl,rd,JP,hlen,fun q ms hq hm pm sm=>?_⟩;have em:ms.map (·.2)=jT eI (GJ.map (·.1)):=by
     refine iM uK pm ?_;rw[List.pairwise_map];exact sm
    obtain⟨G2,GN,GV,ht⟩:=rel.addT;have I0:∀a∈ms,Rep X.K G2 (kT a.2) (.ref a.1):=fun a ha=>by
     unfold kT;rw[Rep];refine⟨a.1,_,rfl,ht _ _ (hm a ha),?_⟩;refine fG (f:=kD) (g:=kV) fun key JQ=>yG ?_
     have:a.2∈GJ.map (·.1):=pm.mem_iff.mp (UJ.mpr ⟨a,ha,rfl⟩);obtain⟨kv,K4,e2⟩:=UJ.mp this;exact K5 kv K4 key (by rw[e2];exact JQ)
    obtain⟨Hu,Ho⟩:=GN.newL hq (fG (K:=X.K) (G:=G2) (f:=fun a:Addr×List Key=>kT a.2) (g:=fun a=>V.ref a.1) (l:=ms) I0);have ek:ms.map (fun a=>kT a.2)=(jT eI (GJ.map (·.1))).map kT:=by rw[<-em,TL];rfl
    rw[ek]at Hu;exact k _ _ G2 _ (GV.trans Ho) Hu
   rw[ek,lS]at e;split at e
   ·rename_i hnil;cases e;have:GJ=[]:=by
     cases GJ with
     |nil=>rfl
     |cons a b=>cases hnil
    subst this;exact go true [] (fun _ h=>nomatch h) rfl
   ·rename_i kk JO heq Kd;split at e
    ·rename_i hsk;cases e;obtain⟨top,t,JP⟩:=iN hsk;have heq:GJ.map (·.1)=kk::JO:=by
      injection heq
     refine go top t (fun kv K4=>JP kv.1 ?_) (by rw[heq]);rw[<-heq];exact UJ.mpr ⟨kv,K4,rfl⟩
    ·cases e
   ·cases e
  ·cases e
 ·cases e
def Kf(a b:D):Res R:=match fF a,fF b with
 |some ks,some js=>if kinds ks==kinds js then .ok (.f,.bl (eI ks js)) else .bad
 |_,_=>MH a b
def geO(a b:D):Res R:=match fF a,fF b with
 |some ks,some js=>if kinds ks==kinds js then .ok (.f,.bl (!eI ks js)) else .bad
 |_,_=>match a,b with
  | .str a,.str b=>.ok (.f,.bl (!decide (a<b)))
  |a,b=>geD a b
theorem kN(hu:X.A.units<cLine):HG X (compareOp .Lt) (rG X.K Kf):=by
 rintro pr s σ H x y v u Q I rx ry ⟨G,fp,es,vs,a,b,r,⟨rel,k⟩,va,vb,e⟩;unfold Kf at e;split at e
 ·rename_i ks js h1 h2;split at e
  ·rename_i hk;cases e;have ra:Rep X.K G a x:=by cases a <;> first|exact va|cases h1
   have rb:Rep X.K G b y:=by cases b <;> first|exact vb|cases h2
   obtain⟨p,e1,g1,_⟩:=dY h1 ra;obtain⟨p2,e2,g2,_⟩:=dY h2 rb;subst e1;subst e2;exact B4 hu pr s σ H _ _ v u Q I rx ry ⟨p,p2,ks,js,rfl,rfl,SqT.of (rel.gh _ _ g1),SqT.of (rel.gh _ _ g2),Ul.mp hk,k _ H G fp .refl (rel.push (cV _))⟩
  ·cases e
 ·exact En pr s σ H x y v u Q I rx ry ⟨G,fp,es,vs,a,b,r,⟨rel,k⟩,va,vb,e⟩
end
def eNewD(tk:Bool):FX:=fun env=>.ok ((.d,.dct tk [] []),env)
section
variable{md:Mode}{X:Cx}
theorem Rel.newD{K:W.Frag}{G H:Hp}{es:PV.Env}{vs:L2.St}{fp:List Addr}{p:Addr}{u:HO}{tk:Bool}(q:Rel K G H es vs fp)(hp:H p=none)(h:DictO u tk [] []):
  Rel K G (upd H p u) (some (.d,.dct tk [] [])::es) (some (.ref p)::vs) (p::fp)/\Step G H fp G (upd H p u) (p::fp):=by
 have gp:G p=none:=by
  cases e:G p with
  |none=>rfl
  |some o=>rw[q.gh p o e]at hp;cases hp
 have np:p∉fp:=fun z=>by
  obtain⟨u,e⟩:=q.rep.live p z;rw[hp]at e;cases e
 have sh:Same H (upd H p u):=fun b o e=>by rw[ak (aJ e hp)];exact e
 refine⟨⟨⟨some (.ref p),vs,rfl,.ref p,[p],fp,rfl,rfl,?_,q.rep.step (.refl _) fun z hz=>ak fun e=>np (e▸hz)⟩,Uu.mpr ⟨np,q.nd⟩,fun z hz=>?_,fun b o e=>?_⟩,
  ⟨.refl _,fun b o e _=>sh b o e,fun b hb=>?_,fun b o e=>.inl e,fun b o e=>⟨o,sh b o e⟩⟩⟩
 ·rw[RepO];exact⟨p,[],u,rfl,az,h,rfl,Reps.nil⟩
 ·rcases Tw.mp hz with rfl|hz
  ·exact gp
  ·exact q.gn z hz
 ·exact sh b o (q.gh b o e)
 ·rcases Tw.mp hb with rfl|hb
  ·exact .inr hp
  ·exact .inl hb
theorem uO{pos:Pos}:QE X (.Dict [] [] pos) (eNewD false):=bI xi fun σ H Q G0 p hp=>by
 obtain⟨G,env,fp,r,env',rel,e,k⟩:=G0;cases e;obtain⟨GN,GV⟩:=rel.newD (tk:=false) (u:=.dK []) hp ⟨[],rfl,rfl,rfl,fun _ h=>nomatch h⟩;exact k _ _ G _ GV GN
def uP(ks vs:List D)(k v:D):List D×List D:=if ks.any (GW k) then(ks,(ks.zip vs).map fun p=>if GW k p.1 then v else p.2) else(ks++[k],vs++[v])
def gm(tk:Bool)(k:D):Bool:=if tk then(fF k).isSome else(kG k).isSome
noncomputable def DE(i:Nat)(fk fv:FX):FS:=fun env=>(fv env).bind fun p=>(fk p.2).bind fun q=>match p.2[i]?,q.2[i]? with
 |some (some _),some (some (.d,.dct tk ks vs))=>if gm tk q.1.2&&decide (ks.length<sizeLine) then .ok (.nx (q.2.set i (some (.d,.dct tk (uP ks vs q.1.2 p.1.2).1 (uP ks vs q.1.2 p.1.2).2)))) else .bad
 |_,_=>.bad
theorem uQ(a b:Key):GW (kD a) (kD b)=decide (a=b):=by
 cases a with
 |inl i=>
  cases b with
  |inl j=>simp only[kD,GW];rw[UG];simp
  |inr y=>simp only[kD,GW];simp
 |inr x=>
  cases b with
  |inl j=>simp only[kD,GW];simp
  |inr y=>
   simp only[kD,GW];rw[UG];simp only[Ul,T7,Sum.inr.injEq];exact⟨fun h=>by rw[<-nP x,<-nP y,h],fun h=>by rw[h]⟩
theorem uR:∀a b:List Key,j4 (a.map kD) (b.map kD)=decide (a=b)
 |[],[]=>by simp[j4]
 |[],_::_=>by simp[j4]
 |_::_,[]=>by simp[j4]
 |a::r,b::t=>by
  rw[TU,TU,j4,uQ,uR r t,UG];simp
theorem yH(a b:List Key):GW (kT a) (kT b)=decide (a=b):=by
 unfold kT;rw[GW];exact uR a b
theorem oB{κ:Type}[DecidableEq κ]{K:W.Frag}{G:Hp}(f:κ->D)(hf:∀a b,GW (f a) (f b)=decide (a=b)){GJ:List (κ×V)}{vs:List D}{k:κ}{v:D}{y:V}(r:Reps K G vs (GJ.map (·.2)))(ry:Rep K G v y):
  (ly GJ k y).map (fun kv=>f kv.1)=(uP (GJ.map fun kv=>f kv.1) vs (f k) v).1/\Reps K G (uP (GJ.map fun kv=>f kv.1) vs (f k) v).2 ((ly GJ k y).map (·.2)):=by
 have e:(GJ.map fun kv=>f kv.1).any (GW (f k))=GJ.any fun kv=>decide (kv.1=k):=by
  rw[Xk];congr 1
  funext kv
  show GW (f k) (f kv.1)=_;rw[hf,UG];simp only[T7];exact⟨fun z=>z.symm,fun z=>z.symm⟩
 unfold uP ly;rw[e];split
 ·refine⟨?_,?_⟩
  ·rw[TL];refine TN fun kv _=>?_
   show f (if kv.1=k then(kv.1,y) else kv).1=f kv.1;split <;> rfl
  ·rename_i hany;clear e hany;induction GJ generalizing vs with
   |nil=>
    have:vs=[]:=Ue (by rw[<-r.length];rfl);subst this;exact Reps.nil
   |cons kv GJ ih=>
    cases vs with
    |nil=>have:=r.length;simp at this
    |cons d vs=>
     rw[TU,Reps.cons_iff]at r;rw[TU,UT,TU,TU,TU];refine .cons ?_ (ih r.2);show Rep K G (if GW (f k) (f kv.1)=true then v else d) (if kv.1=k then(kv.1,y) else kv).2;rw[hf];by_cases hk:kv.1=k
     ·rw[Tq (by simp[hk]),Tq hk];exact ry
     ·rw[Tv (by simp;exact fun z=>hk z.symm),Tv hk];exact r.1
 ·refine⟨?_,?_⟩
  ·rw[Uh];rfl
  ·rw[Uh];exact r.app (.one ry)
theorem Rel.chgD{K:W.Frag}{G H:Hp}{es:PV.Env}{vs:L2.St}{fp:List Addr}{i:Nat}{tk:Bool}{ks ws:List D}(q:Rel K G H es vs fp)(e:es[i]?=some (some (.d,.dct tk ks ws))):∃p xs u,vs[i]?=some (some (.ref p))/\H p=some u/\DictO u tk ks xs/\Reps K G ws xs/\
  ∀u' KW HQ PL,DictO u' tk KW HQ->Reps K G PL HQ->∃fq,Rel K G (upd H p u') (es.set i (some (.d,.dct tk KW PL))) vs fq/\Step G H fp G (upd H p u') fq:=by
 obtain⟨v,fq,ev,g,st,J2⟩:=q.out e;obtain⟨y,ys,e0,v',a,b,e1,e2,r1,r2⟩:=g.rep;cases e0;cases e1;rw[RepO]at r1;obtain⟨p,xs,u,e3,hp,dd,e4,rs⟩:=r1;subst e3;subst e4;subst e2;have nd:=Uu.mp (show(p::b).Nodup from g.nd);refine⟨p,xs,u,ev,hp,dd,rs,fun u' KW HQ PL O9 IQ=>?_⟩;have g2:Rel K G (upd H p u') (some (.d,.dct tk KW PL)::es.set i none) (some (.ref p)::vs) (p::b):=by
  refine⟨⟨some (.ref p),vs,rfl,.ref p,[p],b,rfl,rfl,?_,r2.step (.refl _) fun z hz=>ak fun e=>nd.1 (e▸hz)⟩,g.nd,g.gn,fun z o ez=>?_⟩
  ·rw[RepO];exact⟨p,HQ,u',rfl,az,O9,rfl,IQ⟩
  ·have:z≠p:=fun w=>by
    subst w;rw[g.gn z Tg]at ez;cases ez
   rw[ak this];exact g.gh z o ez
 have PN:Step G H (p::b) G (upd H p u') (p::b):=by
  refine⟨.refl _,fun z o ez nz=>?_,fun z hz=>.inl hz,fun z o ez=>.inl ez,fun z o ez=>?_⟩
  ·have:z≠p:=fun w=>nz (by rw[w];exact Tg)
   rw[ak this];exact ez
  ·by_cases w:z=p
   ·subst w;exact⟨_,az⟩
   ·exact⟨o,by rw[ak w];exact ez⟩
 obtain⟨fz,g3,Ho⟩:=g2.back (i:=i) (by rw[Up];exact(Tx.mp e).1) ev;rw[Vs]at g3;exact⟨fz,g3,st.trans (PN.trans Ho)⟩
theorem yI{K:W.Frag}{G:Hp}{d:D}{k:Key}{v:V}(e:kG d=some k)(r:Rep K G d v):fitK k:=by
 cases d with
 |int i=>cases e;trivial
 |str l=>
  cases e;show(S l).cps.toList.length<=sizeLine;rw[fW];exact(bw r).2
 |_=>cases e
theorem uS{K:W.Frag}{G:Hp}:∀{ds:List D}{ks:List Key}{xs:List V},fE ds=some ks->Reps K G ds xs->∀k∈ks,fitK k
 |[],_,_,e,_=>by
  cases e;exact fun _ h=>nomatch h
 |d::ds,_,_,e,r=>by
  rw[fE,VR]at e;obtain⟨k,e1,e⟩:=e;rw[UW]at e;obtain⟨ks,e2,e3⟩:=e;subst e3;rw[Reps]at r;obtain⟨y,ys,e4,r1,r2⟩:=r;intro z hz;rcases Tw.mp hz with rfl|hz
  ·exact yI e1 r1
  ·exact uS e2 r2 z hz
theorem qS{κ:Type}[DecidableEq κ]{P:κ->Prop}{GJ:List (κ×V)}{k:κ}{y:V}(h:∀kv∈GJ,P kv.1)(hk:P k):∀kv∈ly GJ k y,P kv.1:=by
 intro kv K4;unfold ly at K4;split at K4
 ·obtain⟨z,hz,e⟩:=UJ.mp K4;rw[<-e];split
  ·exact h z hz
  ·exact h z hz
 ·rcases Ub.mp K4 with K4|K4
  ·exact h kv K4
  ·rw[T9]at K4;rw[K4];exact hk
theorem yJ{i:Nat}{o ix value:Expr}{fk fv:FX}{pos pos':Pos}(hu:X.A.units+1<cLine)(ho:PE X o (rR i))(hi:QE X ix fk)(hv:QE X value fv)(hs:swapsWith value (some (.Subscript o ix pos')) pos.line X.env=pure false:=by rfl):
  QS (md:=md) X (.Assign [.Subscript o ix pos'] value pos) (DE i fk fv):=eW (zW hu ho hi hv hs) fun Dd σ H G0=>by
 obtain⟨G,env,fp,rel,k⟩:=G0;unfold DE at k;match q1:fv env,k with
 | .ok (r1,GL),k=>
  have k:OutOk X.K G H fp Dd ((fk GL).bind fun q=>match GL[i]?,q.2[i]? with
   |some (some _),some (some (.d,.dct tk ks vs))=>if gm tk q.1.2&&decide (ks.length<sizeLine) then .ok (.nx (q.2.set i (some (.d,.dct tk (uP ks vs q.1.2 r1.2).1 (uP ks vs q.1.2 r1.2).2)))) else .bad
   |_,_=>.bad):=k
  match q2:fk GL,k with
  | .ok (r2,GY),k=>
   have k:OutOk X.K G H fp Dd (match GL[i]?,GY[i]? with
    |some (some _),some (some (.d,.dct tk ks vs))=>if gm tk r2.2&&decide (ks.length<sizeLine) then .ok (.nx (GY.set i (some (.d,.dct tk (uP ks vs r2.2 r1.2).1 (uP ks vs r2.2 r1.2).2)))) else .bad
    |_,_=>.bad):=k
   split at k
   ·rename_i rr tk ks ws h1 h2;split at k
    ·rename_i hc;rw[TJ,T7]at hc;refine⟨G,env,fp,r1,GL,rel,q1,fun y H1 G1 Hi Hb GP=>?_⟩;obtain⟨G2,b,ry,GN,GV⟩:=GP.freeze;obtain⟨v0,Pe,_⟩:=GN.view h1;refine⟨v0,Pe,G2,GL,b,r2,GY,GN,q2,fun z H3 G3 IT Ho Hu=>?_⟩;obtain⟨G4,b4,rz,IA,Ia⟩:=Hu.freeze;obtain⟨p,xs,u,ep,hp,dd,rs,cg⟩:=IA.chgD h2;rw[Pe]at ep;cases ep;have Q0:Rep X.K G4 r1.2 y:=Rep.mono (Ho.gg.trans Ia.gg) ry;cases tk with
     |true=>
      obtain⟨GJ,eu,ek,ex,K5⟩:=dd;subst eu;subst ex;have hk:=hc.1;unfold gm at hk;rw[Tq rfl,Vl]at hk;obtain⟨kk,hk⟩:=hk;obtain⟨pz,ez,gz,dz⟩:=dY hk rz;subst ez;obtain⟨t1,t2⟩:=oB (K:=X.K) (G:=G4) kT yH (k:=kk) rs Q0;have ek:ks=GJ.map fun kv=>kT kv.1:=ek
      rw[<-ek,<-dz]at t1 t2;have Q1:∀key∈kk,fitK key:=by
       cases hd:r2.2 with
       |tup ds=>
        rw[hd]at hk rz;obtain⟨_,HQ,_,_,IQ⟩:=uG rz;exact uS hk IQ
       |_=>rw[hd]at hk;cases hk
      obtain⟨fq,IS,IV⟩:=cg (.dT (ly GJ kk y)) _ _ _ ⟨ly GJ kk y,rfl,t1.symm,rfl,qS (P:=fun ks=>∀k∈ks,fitK k) K5 Q1⟩ t2;have hlen:GJ.length<sizeLine:=by have:=hc.2;rw[ek,Tr]at this;exact this
      exact⟨p,_,rfl,DPut.t hp (IA.gh _ _ gz) hlen,k _ _ G4 fq (Hb.trans (GV.trans (Ho.trans (Ia.trans IV)))) IS⟩
     |false=>
      obtain⟨GJ,eu,ek,ex,K5⟩:=dd;subst eu;subst ex;have hk:=hc.1;unfold gm at hk;rw[Tv TC,Vl]at hk;obtain⟨kk,hk⟩:=hk;obtain⟨ez,dz⟩:=jn hk rz;subst ez;obtain⟨t1,t2⟩:=oB (K:=X.K) (G:=G4) kD uQ (k:=kk) rs Q0;rw[<-ek,<-dz]at t1 t2;obtain⟨fq,IS,IV⟩:=cg (.dK (ly GJ kk y)) _ _ _ ⟨ly GJ kk y,rfl,t1.symm,rfl,qS (P:=fitK) K5 (yI hk rz)⟩ t2;have hlen:GJ.length<sizeLine:=by have:=hc.2;rw[ek,Tr]at this;exact this
      exact⟨p,_,rfl,DPut.k hp hlen,k _ _ G4 fq (Hb.trans (GV.trans (Ho.trans (Ia.trans IV)))) IS⟩
    ·exact k.elim
   ·exact k.elim
end
end PV
namespace NX
open PySem PySem.Spec PyProof.Rows L2
section
variable{prog:Program}{w:World}{A:Around}{E:Value->Shared->Prop}{s:Shared}{d:Addr}{es:Array DictEntry}{ep:Nat}
theorem mH(nm:(d==sysModules)=false):MeetsIn prog w (Builtin.«dict.__len__» ⟨[.ref d],[]⟩) (fun _ R s=>RawD s.heap d es ep/\R (.ok (.ret (.int es.size s.toks))) {s with toks:=s.toks+1}):=
 .of_wp fun A R s G0=>by
  obtain⟨⟨o,g,_,dat⟩,h⟩:=G0;show wpAny _ _ (dictSize d >>= fun _=>_) _ _ s;unfold dictSize;refine Tf (Tf (WK g dat (Tu ?_)));show wpAny _ _ (Builtin.Dict.pendingCount d >>= fun _=>_) _ _ s;refine Tf (wpAny_pendingCount_other nm (wpAny_ret_mkInt ?_));rw[Nat.add_zero];exact h
theorem Ae{Q:Value->Shared->Prop}(nm:(d==sysModules)=false)(x:RawD s.heap d es ep)(hf:(es.size:Int)<2 ^ 63)(h:Q (.int es.size (s.toks+1)) {s with toks:=s.toks+1+1}):wpAny (model prog w) A (call (.builtin "len") [.ref d]) Q E s:=by
 have ty:=jZ x;refine Wj kind_len plain_len entry_len (args_len1 _) ?_;unfold Builtin.«len»;refine Tf (m:=oneArg "len" _) (Tu (Tf (m:=callSpecial? (.ref d) (Str.ofString "__len__")) (Uv (name:=Str.ofString "__len__") ty F.slot_dict_len
  (call_meetsIn F.slot_dict_len ty F.entry_dict_len (F.args_dict_len_1 _) (mH (es:=es) (ep:=ep) nm) ⟨x,?_⟩))))
 show wpAny _ _ _ _ _ {s with toks:=s.toks+1};refine Tf (VP (Tu (Tf (XF ?_))));show wpAny _ _ (if((es.size:Nat):Int)<0 then _ else _) _ _ _;rw[Tv (Int.not_lt.mpr (Int.natCast_nonneg _))];show wpAny _ _ (if((es.size:Nat):Int)>=2 ^ 63 then _ else _) _ _ _;rw[Tv (Int.not_le.mpr hf)];exact Tf (wpAny_mkInt (Tu ⟨_,rfl,h⟩))
end
end NX
namespace PV
open PySem PySem.Spec PyProof.Rows L2 NX
section
variable{X:Cx}
def cZ:List D->Res R
 |[.dct _ ks _]=>.ok (.f,.int ks.length)
 |ds=>Ep ds
theorem Cp{pr:List (Addr×Obj)}{σ:L2.St}{H:Hp}{s:Shared}(I:Inv X pr σ H s){p:Addr}{o:HO}{tk:Bool}{ks:List D}{xs:List V}(rd:Rd H p o)(dd:DictO o tk ks xs):(p==sysModules)=false/\∃es ep,RawD s.heap p es ep/\es.size=ks.length/\ks.length<=sizeLine:=by
 have ok:=rd.ok I.hok;cases tk with
 |true=>
  obtain⟨GJ,eo,ek,_⟩:=dd;subst eo;obtain⟨z,nm,ws,r,o2,es,ep,h1,h2,h3,h4,_⟩:=ok;refine⟨nm,es,ep,⟨o2,h1,h2,h3⟩,?_,by rw[ek,Tr];exact z⟩;have:=UQ List.length h4;rw[Tr,UZ,<-WY r]at this;rw[ek,Tr];exact this
 |false=>
  obtain⟨GJ,eo,ek,_⟩:=dd;subst eo;obtain⟨z,nm,ws,r,o2,es,ep,h1,h2,h3,h4,h5,_⟩:=ok;refine⟨nm,es,ep,⟨o2,h1,h2,h3⟩,?_,by rw[ek,Tr];exact z⟩;have l1:=h5.length;have l2:GJ.length=ws.length:=WY r;rw[ek,Tr];rw[UZ]at l1;lia
theorem bz:dB X (.builtin "len") (rC X.K cZ):=by
 rintro pr s σ H xs us Q I rx ⟨G,fp,es,vs,ds,r,⟨rel,k⟩,vd,e⟩;unfold cZ at e;split at e
 ·rename_i tk ks ws;cases e;obtain⟨v,ev,p,ys,o,ep,rd,dd,_⟩:=oq vd;subst ev;subst ep;obtain⟨u,rfl,ru⟩:=hJ rx;cases ru;obtain⟨nm,en,ep,raw,h1,h2⟩:=Cp I rd dd;refine Ae nm raw (by rw[h1];rw[UB]at h2;lia) ?_;refine⟨.int ks.length,H,I.tok _,⟨_,by rw[h1]⟩,k _ H G fp .refl (rel.push (rep_int _))⟩
 ·exact Cc pr s σ H xs us Q I rx ⟨G,fp,es,vs,_,r,⟨rel,k⟩,vd,e⟩
def GD(g:List Nat->List D->Res R)(fa:FO)(fs:FOs):FX:=fun env=>(fa env).bind fun p=>match Ji p.2 p.1 with
 | .ok (.str l)=>(fs p.2).bind fun q=>(sY q.2 q.1).bind fun ds=>(g l ds).bind fun r=>.ok (r,q.2)
 |_=>.bad
end
theorem fnok_of{P:Program}{w:World}{K:W.Frag}{mg:Str->Option Value}{base:Heap}{x:Str}{st:Stmt}{N ps:List Str}{k:Nat}{g:FS}{f:Addr}{fd:FuncData}(F:Fun K x x st f fd)(sc:FnScope N ps (defScope st))
  (body:∀(Hk:Value) (A:Around) (outer:List PySem.Env) (s:Shared) (H:Hp) (E:XK),Room k (A.deeper (envOfC x (defScope st) s.heap.objs.size f Hk))->LH (md:=.plain) (wW LM P w K mg base N x (defScope st) f Hk A outer s H E).nox (cX st) g):
  FnOk P w K mg base LM (k+1) f fd ps (spF K (fBody ps.length (N.length-ps.length) g)):=by
 refine F.ok sc (fun vs H Q E h=>?_) (fun Hk A outer s H vs Q E hr h=>?_)
 ·obtain⟨G,ds,r,_,rs,e,_⟩:=h;unfold fBody at e;split at e
  ·rename_i hl;rw[rs.length,hl]
  ·cases e
 ·obtain⟨G,ds,r,gh,rs,e,q⟩:=h;unfold fBody at e;split at e
  ·rename_i hl;refine⟨_,body Hk A outer s H E hr,G,ds.map (fun d=>some (O.f,d))++List.replicate (N.length-ps.length) none,[],⟨?_,VZ,(fun _ h=>nomatch h),gh⟩,?_⟩
   ·have:=iE (K:=K) (G:=G) (H:=H) (N.length-ps.length) rs;unfold L2.j8;rw[rs.length,hl];exact this
   ·obtain⟨o,eo,e⟩:=aj e;rw[eo];cases o with
    |rt r'=>
     cases e;exact fun v H' G' GR st rel=>q v H' G' GR st rel
    |nx env'=>
     cases e;exact fun σ' H' G' GR st rel=>q .non H' G' [] (st.trans (Step.cut fun _ h=>nomatch h)) (rel.nilF.push mx)
    |bk env'=>cases e
    |ct env'=>cases e
  ·cases e
def xv(K:W.Frag):Sp:=fun vs H Q _=>∃(a:Addr) (ns:List Int),vs=[.ref a]/\SqL K H a (ns.map V.int)/\ns.length<=63/\∀H',Q (.bl true) H'
theorem Cq{K:W.Frag}{F:List D->Res R}(h:∀ns:List Int,ns.length<=63->∃o,F [.lst (ns.map D.int)]=.ok (o,.bl true)):∀vs H Q E,xv K vs H Q E->spF K F vs H Q E:=by
 rintro vs H Q E ⟨a,ns,rfl,sq,hl,q⟩;obtain⟨o,e⟩:=h ns hl;refine⟨H,_,_,.refl _,?_,e,fun v H' G' GR st rel=>?_⟩
 ·refine .one ?_;rw[Rep];exact⟨a,_,rfl,sq,fG fun n _=>rep_int n⟩
 ·rw[cF rel.top];exact q H'
theorem _root_.L2.Room.u65{k:Nat}{A:Around}(r:Room k A):A.units+65<cLine:=by have:=r.un;lia
def GF(f:FX)(a:FG):FS:=fun env=>(f env).bind fun p=>(a p.1.2 p.2).bind fun e=>.ok (.nx e)
theorem Gk{l:PySem.W.OpenLaw}{q:Program}{loose:List Str}{XP:(Str->Option Value)->Heap->Prop}{YP:World->Heap->Prop}{d:DefRec}{K:Params->W.Frag}{k:Nat}{x:Str}(hn:l.most=some 63)(PB:d.params.defaults=[])(hr:Room k PySem.callerA)
  (hY:∀(w:World) (h:Heap),YP w h->(K w.params).In h)
  (F:∀(w:World) (mg:Str->Option Value) (fa:Addr) (h:Heap),(K w.params).In h->h.Ns mainGlobals mg->mg d.name=some (.ref fa)->
   ∃fd:FuncData,(∀(s:Shared) (u:Value),BindsTo s fd ⟨[u],[]⟩ [(x,u)])/\∀base:Heap,(K w.params).In base->base.Ns mainGlobals mg->FnOk l.prog w (K w.params) mg base LM k fa fd [x] (xv (K w.params))):
  PySem.W.WalkO q loose XP YP l.row.toRowW d [] (fun f vs=>PySem.call f vs):=
 L2.zy (n:=63) (k:=k) (x:=x) (CX:=fun _=>LM) (sp:=fun w=>xv (K w.params)) hn (by decide) PB hr hY F (fun _ _ a ns hl _ hS=>⟨a,ns,rfl,hS,hl,fun _=>rfl⟩) fun _ _ _ _ _ z=>z
theorem Cr:bootBuiltins "max" = some (.builtin "max"):=by decide +kernel
theorem uT:bootBuiltins "sum" = some (.builtin "sum"):=by decide +kernel
theorem uU:bootBuiltins "sorted" = some (.builtin "sorted"):=by decide +kernel
theorem Cu{K:W.Frag}{h:Heap}{mg:Str->Option Value}{x:Str}{st:Stmt}{f:Addr}{oc:Value}{od an:Option Addr}{Mu:Array (Option Value)}{kV doc pm Hk ct:Value}(X:K.In h)(G:h.Ns mainGlobals mg)
  (a:PySem.W.nsIn K mainGlobals x=some (some (.ref f))) (l:K.lookup f=some ⟨oc,od,.func (PySem.W.fnOf x x (fB st) (cX st) (defScope st) .none kV doc pm an Hk ct),Mu⟩)
  (c:PySem.W.codeIn K Hk x=true) (k:PySem.W.keepIn K (.ref f)=true):Def K mg x st:=⟨f,_,yt l c k,PySem.W.mg_of X G a⟩
inductive tQL(K:W.Frag)(f:FI)(σ:L2.St)(H:Hp)(R:It->Hp->Prop):Prop
 |mk:∀G env fp ds env',Rel K G H env σ fp->f env=.ok (ds,env')->(∀J H' G' GR,Step G H fp G' H' GR->Rel K G' H' env' σ GR->(∀G2,Same G' G2->(∀(i:Nat) (r:PV.R) (v:V),env'[i]?=some (some r)->σ[i]?=some (some v)->Rep K G2 r.2 v)->Walk K G2 J ds)->R J H')->tQL K f σ H R
def MO(X:Cx)(tg e:Expr)(f:FI):Prop:=PI X tg e (tQL X.K f)
theorem Walk.mono{K:W.Frag}{G G2:Hp}{J:It}{ds:List D}(w:Walk K G J ds)(gg:Same G G2):Walk K G2 J ds:=fun G' H' es vs fp g rel=>w G' H' es vs fp (gg.trans g) rel
theorem qT{K:W.Frag}{fi:FI}{ix:List (Option Nat)}{a:FG}{c:FT}{f:FX}{σ:L2.St}{H:Hp}{Q:VK}(h:tQ K (bT fi ix a c f) σ H Q):r6 (tQL K fi) ix (tQG K a) (tQT K c) (tQ K f) σ H Q:=by
 obtain⟨G,env,fp,r,env',rel,e,k⟩:=h;obtain⟨⟨ds,GL⟩,e1,e⟩:=aj e;obtain⟨rs,e2,e⟩:=aj e;refine⟨G,env,fp,ds,GL,rel,e1,fun J H1 G1 Hi Hb GP wk D hD=>?_⟩;dsimp only at e e2;split at e
 ·rename_i hz;have er:r=(.l .f,.lst rs):=by cases e;rfl
  have ee:env'=if flatDs rs then GL else GL.map frz:=by cases e;rfl
  subst er;obtain⟨G2,MJ,Of,I0,hrE,Io⟩:=GP.lend;have wk2:=wk G2 MJ I0;have GN:Rel K G2 H1 (cC ix GL) (gw ix σ) []:=⟨eZ I0 (fun i r er=>let⟨v,ev,_⟩:=GP.view er;⟨v,ev⟩) ix,VZ,(fun _ h=>nomatch h),Of⟩
  obtain⟨Hu,Ho⟩:=GN.newL (ds:=[]) (xs:=[]) hD .nil;refine⟨fun i m σ1 H2=>m=ds.length-i/\i<=ds.length/\∃G' es GR acc b7,Step G2 H1 [] G' H2 GR/\Rel K G' H2 (some (.l .f,.lst acc)::es) (some (.ref D)::σ1) GR/\compL a c f (ds.drop i) es=.ok b7/\acc++b7=rs,
   ⟨_,rfl,Ut _,G2,cC ix GL,_,[],rs,Ho,Hu,e2,rfl⟩,?_⟩
  rintro i m σ1 H2 ⟨rfl,hi,G3,es,IT,acc,b7,Ia,IA,e4,JR⟩;obtain⟨w1,w2⟩:=wk2 G3 H2 _ _ _ Ia.gg IA i;by_cases Hx:i<ds.length
  ·have hd:ds[i]?=some ds[i]:=Tj Hx;obtain⟨go,yl⟩:=w1 _ hd;rw[Ur Hx]at e4;unfold compL at e4;obtain⟨P2,h1,e4⟩:=aj e4;obtain⟨⟨b,Mb⟩,h2,e4⟩:=aj e4;dsimp only at e4;refine .inr ⟨go,fun x H3 y=>?_⟩;obtain⟨G4,rx,IS,IV⟩:=yl x H3 y;obtain⟨fa,fb,Oh,ra,Mc,bk⟩:=IS.frame;refine⟨G4,es,fb,ds[i],P2,Mc,rx,h1,fun σ2 G5 NH MP Kp=>?_⟩;refine⟨G5,P2,NH,b,Mb,Kp,h2,fun H6 G6 MA P4 K6=>?_⟩;have Md:=MP.trans P4;cases b with
   |false=>
    refine iteF ⟨ds.length-(i+1),by lia,rfl,Hx,?_⟩;obtain⟨Kq,Lj⟩:=bk G6 H6 Mb σ2 MA Md K6;rw[<-Oh]at Lj;exact⟨G6,Mb,_,acc,b7,Ia.trans (IV.trans Lj),Kq,e4,JR⟩
   |true=>
    have e4:((f Mb).bind fun q=>(compL a c f (ds.drop (i+1)) q.2).bind fun rs=>.ok (q.1.2::rs))=.ok b7:=e4;obtain⟨⟨r,Oi⟩,h3,e4⟩:=aj e4;obtain⟨Me,h4,e4⟩:=aj e4;cases e4;refine BP ⟨G6,Mb,MA,r,Oi,K6,h3,fun v H7 G7 fp7 RH Oj=>?_⟩;obtain⟨G8,RI,rv,Ol,RJ⟩:=Oj.freeze;obtain⟨Kq,Lj⟩:=bk G8 H7 Oi σ2 RI (Md.trans (RH.trans RJ)) Ol;rw[<-Oh]at Lj;obtain⟨p,xs,ep,hp,LI,cg⟩:=Kq.chg (i:=0) (ds:=acc) (ds':=acc++[r.2]) rfl;have ep:some (some (V.ref D))=some (some (V.ref p)):=ep;cases ep;obtain⟨fq,Om,RK⟩:=cg (xs++[v]) (LI.app (.one rv));refine⟨xs,hp,?_,ds.length-(i+1),by lia,rfl,Hx,G8,Oi,fq,acc++[r.2],Me,Ia.trans (IV.trans (Lj.trans RK)),Om,h4,?_⟩
    ·rw[LI.length];have:=UQ List.length JR;rw[Uz,TK]at this;lia
    ·rw[<-JR,UR];rfl
  ·have ei:i=ds.length:=by lia
   subst ei;rw[Wn]at e4;cases e4;rw[Uo]at JR;subst JR;refine .inl ⟨w2 rfl,?_⟩;obtain⟨fa,Mf,P5⟩:=IA.only;obtain⟨k1,k2⟩:=Io H2 G3 fa _ _ (Ia.trans P5) Mf;rw[ee]at k;by_cases hc:flatDs acc=true
   ·rw[Tq hc]at k;obtain⟨G5,NH,IV,IS⟩:=k1 (by rw[aT,iF];exact hc);exact k _ H2 G5 NH (Hb.trans IV) IS
   ·rw[Tv hc]at k;obtain⟨G5,NH,IV,IS⟩:=k2;exact k _ H2 G5 NH (Hb.trans IV) IS
 ·cases e
section
variable{md:Mode}{X:Cx}{scope:Scope}{N:List Str}{tg iter elt:Expr}{ifs:List Expr}{pos:Pos}{fi:FI}{a:FG}{c:FT}{f:FX}
variable{l e:Expr}{g fj:FI}
theorem a7(h:QI X tg e fi):MO X tg e fi:=jz h fun σ H R ⟨G,env,fp,ds,env',rel,e,k⟩=>⟨G,env,fp,ds,env',rel,e,fun J H' G' GR st Hy wk=>k J H' G' GR st Hy fun _ gg _=>wk.mono gg⟩
theorem bP(h:MO X tg e fi)(h2:MO X tg e fj):MO X tg e (HD fi fj):=fun pr s σ H R I G0=>by
 obtain⟨G,env,fp,ds,env',rel,ee,k⟩:=G0;rcases yF ee with z|z
 ·exact h pr s σ H R I ⟨G,env,fp,ds,env',rel,z,k⟩
 ·exact h2 pr s σ H R I ⟨G,env,fp,ds,env',rel,z,k⟩
def eE(i:Nat):FI:=fun env=>match env[i]? with
 |some (some (_,.lst ds))=>.ok (ds,env)
 |_=>.bad
theorem cH{i:Nat}(h:PE X l (rR i)):MO X tg l (eE i):=jz (tu h) fun σ H R G0=>by
 obtain⟨G,env,fp,ds,env',rel,e,k⟩:=G0;unfold eE at e;split at e
 ·rename_i o ds hr;cases e;obtain⟨v,ev,rv⟩:=rel.view hr;obtain⟨p,xs,Ss,sq,rs⟩:=bF rv;refine⟨v,ev,p,Ss,⟨xs,sq⟩,k _ H G fp .refl rel fun G2 gg I0=>?_⟩;obtain⟨p',HQ,P6,IB,IQ⟩:=bF (I0 i _ v hr ev);rw[Ss]at P6;cases P6;exact oj IB IQ
 ·cases e
theorem bo(ix:List (Option Nat))(N:List Str)(hc:X.calm=true)(hi:MO X tg iter fi)(hg:∀C s H fp pn,QG (bO X scope N C s H fp pn) tg a)(ht:∀C s H fp pn,Og (bO X scope N C s H fp pn) ifs c)(he:∀C s H fp pn,QE (bO X scope N C s H fp pn) elt f)
  (hf:dE scope X.env=true:=by rfl) (hk:scope.kind=.function:=by rfl) (Hd:∀y∈scope.names,y.2≠.cell:=by decide +kernel) (Hn:∀y∈scope.names,y.2=.local->scope.names.lookup y.1=some .local:=by decide +kernel) (HX:nS X scope N ix=true:=by rfl)
  (hs:∀x,foldedSetIterable iter X.env x=pure x:=by intro _;rfl):QE X (.ListComp elt [⟨tg,iter,ifs,0⟩] scope pos) (bT fi ix a c f):=
 bI (uc (g:=tQG X.K a) (tc:=tQT X.K c) (te:=tQ X.K f) ix N hc hi hg ht he hf hk Hd Hn HX hs) fun _ _ _=>qT
theorem iO{i:Nat}{y:Str}{py JM:Pos}(ix:List (Option Nat))(N:List Str)(hN:X.N.Nodup)(N6:X.N[i]?=some y)(hy:Loc X.env.scope y)(hc:X.calm=true)(hi:MO X tg iter fi)(hg:∀C s H fp pn,QG (bO X scope N C s H fp pn) tg a)(ht:∀C s H fp pn,Og (bO X scope N C s H fp pn) ifs c)
  (he:∀C s H fp pn,QE (bO X scope N C s H fp pn) elt f) (N7:swapsWith (.ListComp elt [⟨tg,iter,ifs,0⟩] scope pos) (some (.Name y py)) JM.line X.env=pure true:=by rfl)
  (hf:dE scope X.env=true:=by rfl) (hk:scope.kind=.function:=by rfl) (Hd:∀y∈scope.names,y.2≠.cell:=by decide +kernel) (Hn:∀y∈scope.names,y.2=.local->scope.names.lookup y.1=some .local:=by decide +kernel) (HX:nS X scope N ix=true:=by rfl)
  (hs:∀x,foldedSetIterable iter X.env x=pure x:=by intro _;rfl) (LS:X.fn y=true\/X.env.scope.names.lookup y=some .local:=by first|exact .inl rfl|exact .inr rfl):
  QS (md:=md) X (.Assign [.Name y py] (.ListComp elt [⟨tg,iter,ifs,0⟩] scope pos) JM) (cp i (bT fi ix a c f)):=
 eW (zM (i:=i) (g:=tQG X.K a) (tc:=tQT X.K c) (te:=tQ X.K f) ix N hN N6 hy hc hi hg ht he N7 hf hk Hd Hn HX hs LS) fun D σ H ⟨G,env,fp,rel,k⟩=>qT (pL rel k)
end
section
variable{X:Cx}{a:Expr}{pos:Pos}{fa:FO}
def eNeg(fa:FO):FX:=fun env=>(fa env).bind fun p=>(Ji p.2 p.1).bind fun d=>match d with
 | .int i=>.ok ((.f,.int (-i)),p.2)
 |_=>.bad
theorem gX(ha:QO X a fa):QE X (.UnaryOp .USub a pos) (eNeg fa):=bI (DY BD ha) fun σ H Q G0=>by
 obtain⟨G,env,fp,r,env',rel,e,k⟩:=G0;obtain⟨⟨o,e1⟩,h1,e⟩:=aj e;obtain⟨d,h2,e⟩:=aj e;dsimp only at e;split at e
 ·rename_i i;cases e;refine⟨G,env,fp,o,_,rel,h1,fun v H1 G1 Hi Hb GP Jw=>?_⟩;have:=bx (GP.vw Jw h2);exact⟨i,this,k _ H1 G1 Hi Hb (GP.push (rep_int _))⟩
 ·cases e
theorem uV{i:Int}(h:i.natAbs<2 ^ 1000):Builtin.Int.intBits i<=2 ^ 20:=by
 unfold Builtin.Int.intBits;split
 ·exact Ut _
 ·rename_i h0;have h1:i.natAbs≠0:=by
   intro e;rw[YS]at e;exact h0 (by rw[e];rfl)
  have:=(Nat.log2_lt h1).mpr h;have e:(2:Nat) ^ 20=1048576:=by decide
  lia
theorem Af:HG X (binaryOp .Mult) (rI (fun i j=>i.natAbs<2 ^ 1000/\j.natAbs<2 ^ 1000) fun i j=>.int (i*j)):=O6 fun _ _ _ _ _ _ _ hc q=>mul_int q (.of_bits (uV hc.1) (uV hc.2))
theorem oC{α:Type}:∀(ls:List (Array α)) (acc:Array α),(ls.foldl (·++·) acc).toList=acc.toList++(ls.map Array.toList).flatten
 |[],acc=>by simp
 |a::ls,acc=>by
  rw[Wy,oC ls,Array.toList_append,TU,Vg,UR]
theorem Es(l:List Nat)(n:Nat):(⟨(List.replicate n (S l).cps).foldl (·++·) #[]⟩:Str)=S (List.replicate n l).flatten:=by
 have h:((List.replicate n (S l).cps).foldl (·++·) #[]).toList=(List.replicate n l).flatten:=by
  rw[oC,Xl];simp only[fW,UX]
 show Str.mk _=Str.mk _;rw[<-h]
theorem Ag(a b:Int):Em (.int a) (.int b)=if iH a||iH b then .ok (.f,.int (a*b)) else .bad:=rfl
noncomputable def Cv:D->D->Res R
 | .int i,.int j=>if iH i||iH j then .ok (.f,.int (i*j)) else if i.natAbs<2 ^ 1000/\j.natAbs<2 ^ 1000 then .ok (.f,.int (i*j)) else .bad
 | .str l,.int k=>if 2<=k/\k<=1000/\1<=l.length/\l.length<=1000 then .ok (.f,.str (List.replicate k.toNat l).flatten) else .bad
 |_,_=>.bad
theorem Ah:HG X (binaryOp .Mult) (rG X.K Cv):=by
 rintro pr s σ H x y v u Q I rx ry ⟨G,fp,es,vs,a,b,r,⟨rel,k⟩,va,vb,e⟩;unfold Cv at e;split at e
 ·rename_i i j;split at e
  ·rename_i hc;exact Ca pr s σ H x y v u Q I rx ry ⟨G,fp,es,vs,.int i,.int j,r,⟨rel,k⟩,va,vb,by rw[Ag,Tq hc];exact e⟩
  ·split at e
   ·rename_i hc;cases e;cases bx va;cases bx vb;exact Af pr s σ H _ _ v u Q I rx ry ⟨i,j,rfl,rfl,hc,k _ H G fp .refl (rel.push (rep_int _))⟩
   ·cases e
 ·rename_i l j;split at e
  ·rename_i hc;cases e;obtain⟨ev,hl⟩:=jy va;subst ev;cases bx vb;obtain⟨t,rfl⟩:=rx;obtain⟨t',rfl⟩:=ry;have hlen:(S l).length=l.length:=nQ l;have hz:(List.replicate j.toNat l).flatten.length<=1000000:=by
    rw[hU];exact Nat.mul_le_mul (by lia:j.toNat<=1000) hc.2.2.2
   have LJ:(List.replicate j.toNat l).flatten.length<=sizeLine:=Ua hz (by decide);refine PySem.P.mul_str ?_ ?_ ?_ ?_
   ·rw[T5 (by lia),T5 (by lia)];rfl
   ·intro _ _;rw[hlen];have h1:1000<=(2 ^ 63-1) / j:=(Int.le_ediv_iff_mul_le (by lia)).mpr (by lia);lia
   ·intro _ _;unfold Builtin.Str.tooLong;rw[US,hlen,Zf,<-hU];lia
   ·rw[Tv (by lia),Tv (by rw[hlen,W8,Ul,Ul];lia),Es];refine⟨?_,?_⟩
    ·rw[nQ];exact LJ
    ·exact⟨.str (S (List.replicate j.toNat l).flatten),H,I.tok _,⟨_,rfl⟩,k _ H G fp .refl (rel.push (h9 LJ))⟩
  ·cases e
 ·cases e
end
end PV
namespace HT
open PySem PySem.Spec PyProof.Rows L2
variable{prog:Program}{w:World}{A:Around}{E:Value->Shared->Prop}{s:Shared}
theorem iP{t sl:Addr}{items:Array Value}{vl vu:Value}{lo hi:Option Int}{Q:Value->Shared->Prop}(ht:IsTup s.heap t items)(hs:s.heap.IsSliceOf sl vl vu .none)(pl:IsPart vl lo)(pu:IsPart vu hi)
  (hw:sIx items.size 0 lo=0/\sIx items.size items.size hi=items.size) (h:Q (.ref t) s):wpAny (model prog w) A (getItem (.ref t) (.ref sl)) Q E s:=by
 obtain⟨os,NY,NZ,LZ⟩:=id hs;have Rl:s.TypeIs (.ref sl) "slice":=⟨os,NY,NZ⟩
 unfold getItem;try with_reducible refine VP ?_
 first|refine Tf (Tu ?_)|skip
 refine Tf (wpAny_sequenceKey ht.typeIs (by decide) ?_);refine Tf (Uv (name:=Str.ofString "__getitem__") ht.typeIs Vf
  (UO Vf ht.typeIs entry_tuple_getitem ?_ (args_tuple_getitem _ _)))
 show wpAny _ _ (Builtin.Tuple.tupleItemsOf (.ref t) >>= _) _ _ s;refine Tf (tupleItemsOf_ ht ?_);refine Tf (V5 Rl ?_);rw[Tq (by decide)];refine Tf (fV hs pl pu ?_);have hyes:(((sIx items.size 0 lo:Nat):Int)==0&&(1:Int)==1&&(sIx items.size items.size hi-sIx items.size 0 lo)==items.size)=true:=by
  rw[hw.1,hw.2];simp
 show wpAny _ _ (if(((sIx items.size 0 lo:Nat):Int)==0&&(1:Int)==1&&(sIx items.size items.size hi-sIx items.size 0 lo)==items.size)=true then _ else _) _ _ s;rw[Tq hyes];refine Tf (m:=Builtin.Tuple.tupleIsExact _) ?_;unfold Builtin.Tuple.tupleIsExact;refine Tf (V5 ht.typeIs (Tu ?_));rw[Tq (by decide)];exact Tf (Y4 (Tu ⟨_,rfl,Tu h⟩))
end HT
namespace PV
open PySem PySem.Spec PyProof.Rows L2 NX
section
variable{X:Cx}{pos:Pos}{fa:FO}
theorem Ai:N2 X (fun x lo hi H Q=>∃a xs,x=.ref a/\SqT X.K H a xs/\(HT.sIx xs.length 0 lo=0/\HT.sIx xs.length xs.length hi=xs.length)/\Q x H):=by
 intro pr s σ H x v vl vu lo hi sl Q I rx hs pl pu h;obtain⟨a,xs,rfl,hx,hw,q⟩:=h;cases rx;obtain⟨GO,r,ht,hz⟩:=I.tuple hx;have hlen:GO.toArray.size=xs.length:=by rw[To];exact r.length.symm
 refine⟨"tuple",_,PyProof.Rows.slot_tuple_getitem.lookup,ht.typeIs,?_⟩;exact HT.iP ht hs pl pu (by rw[hlen];exact hw) ⟨.ref a,H,I,rfl,q⟩
def MQ(k:D)(lo hi:Option Int):Res R:=match k with
 | .tup ds=>if HT.sIx ds.length 0 lo=0/\HT.sIx ds.length ds.length hi=ds.length then .ok (.f,.tup ds) else Pb k lo hi
 |_=>Pb k lo hi
def Aj(fa:FO)(lo hi:FP):FX:=fun env=>(fa env).bind fun p=>(lo p.2).bind fun q=>(hi q.2).bind fun t=>(Ji t.2 p.1).bind fun d=>(MQ d q.1 t.1).bind fun r=>.ok (r,t.2)
inductive rSlW(K:W.Frag)(x:V)(lo:Option Int)(hi:Option Int)(H:Hp)(Q:VK):Prop
 |mk:∀G fp es vs d r,Goes K H G fp es vs r Q->Vw K G H d x->MQ d lo hi=.ok r->rSlW K x lo hi H Q
theorem Cw:N2 X (rSlW X.K):=by
 rintro pr s σ H x v vl vu lo hi sl Q I rx hs pl pu ⟨G,fp,es,vs,d,r,⟨rel,k⟩,vd,e⟩;unfold MQ at e;split at e
 ·rename_i ds;split at e
  ·rename_i hw;cases e;obtain⟨p,xs,ev,sq,rs⟩:=fY vd;subst ev;refine Ai pr s σ H _ v vl vu lo hi sl Q I rx hs pl pu ⟨p,xs,rfl,bH rel.gh sq,by rw[rs.length];exact hw,?_⟩;exact k _ H G fp .refl (rel.push vd)
  ·exact Cb pr s σ H x v vl vu lo hi sl Q I rx hs pl pu ⟨G,fp,es,vs,_,r,⟨rel,k⟩,vd,e⟩
 ·exact Cb pr s σ H x v vl vu lo hi sl Q I rx hs pl pu ⟨G,fp,es,vs,_,r,⟨rel,k⟩,vd,e⟩
theorem oD{e:Expr}{lo hi:Option Expr}{p2:Pos}{fl fh:FP}(he:QO X e fa)(hl:QP X lo fl)(hh:QP X hi fh):QE X (.Subscript e (.Slice lo hi none p2) pos) (Aj fa fl fh):=
 bI (wY Cw he hl hh) fun σ H Q G0=>by
  obtain⟨G,env,fp,r,env',rel,e,k⟩:=G0;obtain⟨⟨o,GL⟩,e1,e⟩:=aj e;obtain⟨⟨i,GY⟩,e2,e⟩:=aj e;obtain⟨⟨j,HC⟩,e3,e⟩:=aj e;obtain⟨d,e4,e⟩:=aj e;obtain⟨r',e5,e⟩:=aj e;cases e;exact⟨G,env,fp,o,GL,rel,e1,fun v H1 G1 Hi Hb GP Jw=>⟨G1,GL,Hi,i,GY,GP,e2,fun H2 G2 Ht GV GN=>⟨G2,GY,Ht,j,HC,GN,e3,fun H3 G3 IT Ho Hu=>
   ⟨G3,IT,HC,σ,d,r,⟨Hu,fun v H' G' GR st Hy=>k v H' G' GR (Hb.trans (GV.trans (Ho.trans st))) Hy⟩,Hu.vw ((Jw.mono GV.gg).mono Ho.gg) e4,e5⟩⟩⟩⟩
end
end PV
namespace L2
open PySem PySem.Spec PyProof.Rows
section
variable{X:Cx}{tg:Expr}
def uW(i j c:Int):Prop:=(-1048576<=i/\i<=1048576)/\(-1048576<=j/\j<=1048576)/\(c = -1\/1<=c)/\c<=1048576
instance (i j c:Int):Decidable (uW i j c):=by unfold uW;infer_instance
end
end L2
namespace PV
open PySem PySem.Spec PyProof.Rows L2 NX
section
variable{X:Cx}{tg:Expr}
def GH:List D->Res R
 |[d]=>match(ot d).bind fg with
  |some (n::ns)=>.ok (.f,.int (Ec (n::ns)))
  |_=>.bad
 |[.int i,.int j]=>.ok (.f,.int (if j<i then j else i))
 |_=>.bad
def Cy:List D->Res R
 |[.int i]=>.ok (.f,.int (if i<0 then -i else i))
 |_=>.bad
theorem yK:dB X (.builtin "abs") (rC X.K Cy):=by
 rintro pr s σ H xs us Q I rx ⟨G,fp,es,vs,ds,r,⟨rel,k⟩,vd,e⟩;unfold Cy at e;split at e
 ·cases e;obtain⟨v,ev,vt⟩:=oq vd;subst ev;cases bx vt;exact wV pr s σ H _ us Q I rx ⟨_,rfl,k _ H G fp .refl (rel.push (rep_int _))⟩
 ·cases e
noncomputable def Et(fs:FOs):FI:=fun env=>(fs env).bind fun p=>(sY p.2 p.1).bind fun d=>match d with
 |[.int i,.int j,.int c]=>if uW i j c then .ok ((List.range (Builtin.Range.rangeSize i j c).toNat).map fun(k:Nat)=>D.int (i+(k:Int)*c),p.2) else .bad
 |_=>.bad
end
end PV
namespace NX
open PySem PySem.Spec PyProof.Rows L2
section
open PySem.SeqAt
open PySem.AutoSeq1 (wpAny_loadPart')
end
end NX
namespace L2
open PySem PySem.Spec PyProof.Rows
section
variable{X:Cx}{o e:Expr}{es:List Expr}{to:TE}{t:TA}{name:Str}{apos Hs:Pos}{id:String}{r:V->List V->Hp->VK->Prop}
end
end L2
namespace PV
open PySem PySem.Spec PyProof.Rows L2 NX
section
variable{X:Cx}
noncomputable def GI(g:List D->List D->Res R)(fa:FO)(fs:FOs):FX:=fun env=>(fa env).bind fun p=>(Ji p.2 p.1).bind fun a=>match a with
 | .tup _=>(fs p.2).bind fun q=>(Ji q.2 p.1).bind fun a2=>match a2 with
  | .tup l=>(sY q.2 q.1).bind fun ds=>(g l ds).bind fun r=>.ok (r,q.2)
  |_=>.bad
 |_=>.bad
def Gm(l:List D):List D->Res R
 |[.str c]=>match lR l with
  |some bs=>if c∈bs then .ok (.f,.int (bs.idxOf c:Nat)) else .bad
  |none=>.bad
 |_=>.bad
def addO(a b:D):Res R:=match a,b with
 | .tup [],.tup l=>.ok (.f,.tup l)
 |a,b=>addD a b
theorem cI:HG X (binaryOp .Add) (rG X.K addO):=by
 rintro pr s σ H x y v u Q I rx ry ⟨G,fp,es,vs,a,b,r,⟨rel,k⟩,va,vb,e⟩;unfold addO at e;split at e
 ·rename_i l;cases e;obtain⟨p,xs,e1,h1,r1⟩:=fY va;obtain⟨p2,Pa,e2,h2,r2⟩:=fY vb;subst e1;subst e2;cases rx;cases ry;have hx:xs=[]:=Ue (by rw[r1.length];rfl);subst hx;obtain⟨GO,v1,⟨⟨cls,dd,data,sl⟩,ho,hc,n,hd⟩,_⟩:=I.tuple (bH rel.gh h1);obtain⟨Lu,v2,⟨⟨NW,Mv,data2,Mw⟩,IW,LY,n2,hd2⟩,_⟩:=I.tuple (bH rel.gh h2);dsimp only at hc hd LY hd2;subst hc hd LY hd2;cases v1;exact X5 ⟨_,ho,rfl⟩ ⟨_,IW,rfl⟩ XN YI WD Wx (Wr _ _) (tuple_addW0 p p2 _ _ n n2 dd Mv sl Mw rfl) ⟨ho,IW,⟨.ref p2,H,I,rfl,k _ H G fp .refl (rel.push vb)⟩⟩
 ·exact B9 pr s σ H _ _ v u Q I rx ry ⟨G,fp,es,vs,a,b,r,⟨rel,k⟩,va,vb,e⟩
def oE(fs:FOs):FI:=HD (su true true fs) (HD (su true false fs) (HD (su false true fs) (su false false fs)))
theorem mI{KC:List Expr}{kt:Nat}{pt:Pos}{e1 e2:Expr}{fs:FOs}{p pos:Pos}(hg:Gl X "zip")(hm:X.mg "zip" = none)(ha:LN X [e1,e2] fs)(he:starEach [e1,e2] X.env=(false,eval e1 X.env)::starEach [e2] X.env:=by rfl)(IM:(backTo pos (starEach [e2] X.env)).any (·.1)=false:=by rfl):
  QI X (.Tuple KC kt pt) (.Call (.Name "zip" p) [e1,e2] [] pos) (oE fs):=sy (qL true true hg hm ha he IM) (sy (qL true false hg hm ha he IM) (sy (qL false true hg hm ha he IM) (qL false false hg hm ha he IM)))
end
end PV
namespace NX
open PySem PySem.Spec PyProof.Rows L2
section
open PySem.AutoSeq1 (wpAny_loadPart')
theorem oF(l:Addr)(items:Array Value)(n:Nat)(dd:Option Addr)(sl:Array (Option Value))(x:Int)(u:Tok)(h1:¬ (!Builtin.List.listFitsIndex x)=true)(h2:¬ items.size*x.toNat>(2 ^ 63-1) / 8)(h3:¬ Builtin.List.listTooLong (items.size*x.toNat)=true)(h4:(List.foldl (fun x1 x2=>x1++x2) #[] (List.replicate (if items.isEmpty=true then 0 else x.toNat) items)).size<=sizeLine):
  Meets (Builtin.«list.__mul__» ⟨[.ref l,.int x u],[]⟩)
   (fun _ R s=>s.heap.get? l=some {cls:=.type "list",dict:=dd,data:=.seq items n,slots:=sl}/\R (.ok (.ret (.ref s.heap.objs.size))) {s with heap:=s.heap.push {cls:=.type "list",data:=.seq (List.foldl (fun x1 x2=>x1++x2) #[] (List.replicate (if items.isEmpty=true then 0 else x.toNat) items))}}):=
 .of_wp fun prog w A R s h=>by
  obtain⟨hp,g,d,tk,os⟩:=s;obtain⟨hl,h⟩:=h
  wp_walk using wpAny_loadPart' hl
  rw[Tv (by lia)]
  wp_walk
  exact⟨_,rfl,h⟩
theorem oG(a:Int)(t:Tok)(l:Addr)(T:String)(items:Array Value)(n:Nat)(dd:Option Addr)(sl:Array (Option Value)):
  Meets (Builtin.«int.__rmul__» ⟨[.int a t,.ref l],[]⟩)
   (fun _ R s=>s.heap.get? l=some {cls:=.type "list",dict:=dd,data:=.seq items n,slots:=sl}/\R (.ok (.ret .notImplemented)) s):=
 .of_wp fun prog w A R s h=>by
  obtain⟨hp,g,d,tk,os⟩:=s;obtain⟨hl,h⟩:=h
  wp_walk using wpAny_loadPart' hl
  exact⟨_,rfl,h⟩
end
end NX
namespace PV
open PySem PySem.Spec PyProof.Rows L2 NX
section
variable{md:Mode}{X:Cx}
inductive rRepS(K:W.Frag)(x:V)(y:V)(H:Hp)(Q:VK):Prop
 |mk:∀l k xs,x=.ref l->y=.int k->SqL K H l xs->-(2 ^ 62)<=k->k<2 ^ 62->xs.length*k.toNat<=sizeLine->(∀p,H p=none->Q (.ref p) (upd H p (.lst (List.replicate k.toNat xs).flatten)))->rRepS K x y H Q
theorem Ak:HG X (binaryOp .Mult) (rRepS X.K):=by
 intro pr s σ H x y v u Q I rx ry h;obtain⟨l,k,xs,rfl,rfl,hH,h1,h2,hz,q⟩:=h;cases rx;obtain⟨t,rfl⟩:=ry;obtain⟨GO,r,p1,_⟩:=I.list hH;have hl:=r.length;obtain⟨⟨cls,dd,data,sl⟩,ho,hc,n,hd⟩:=id p1.isList;simp only at hc hd;subst hc hd;have hlen:GO.toArray.size*k.toNat<=sizeLine:=by rw[To,<-hl];exact hz
 have hcap:¬ GO.toArray.size*k.toNat>(2 ^ 63-1) / 8:=by
  have:(sizeLine:Nat)<=(2 ^ 63-1) / 8:=by decide
  lia
 have K5:¬ (!Builtin.List.listFitsIndex k)=true:=by
  rw[fitsIndex_both (by lia) (by lia)];exact TC
 have P7:¬ Builtin.List.listTooLong (GO.toArray.size*k.toNat)=true:=by
  rw[w5 hlen];exact TC
 have Mg:List.foldl (fun x1 x2=>x1++x2) #[] (List.replicate (if GO.toArray.isEmpty=true then 0 else k.toNat) GO.toArray)=(List.replicate k.toNat GO).flatten.toArray:=by
  have f0:∀m:Nat,List.foldl (fun x1 x2=>x1++x2) #[] (List.replicate m GO.toArray)=(List.replicate m GO).flatten.toArray:=fun m=>by
   have:=ka GO m [];rw[UX]at this;exact this
  rw[f0];cases GO with
  |nil=>simp
  |cons a r'=>rw[Tv (by simp)]
 have hsz:(List.foldl (fun x1 x2=>x1++x2) #[] (List.replicate (if GO.toArray.isEmpty=true then 0 else k.toNat) GO.toArray)).size<=sizeLine:=by
  rw[Mg,To,hU,Zf];rw[To]at hlen;exact hlen
 refine Wl (T:="list") (U:="int") (by decide) ⟨_,ho,rfl⟩ (fun s'=>Ws s' k t) noFill_list_mul Yf Wb repeat_list F.slot_int_index.lookup
  (VY Wb (Ws s k t) XS (Xy _ _) (oG k t l "" GO.toArray n dd sl)
   ⟨ho,rfl,⟨_,ho,rfl⟩,VY F.slot_list_mul ⟨_,ho,rfl⟩ F.entry_list_mul (F.args_list_mul_2 _ _) (oF l GO.toArray n dd sl k t K5 hcap P7 hsz) ⟨ho,?_⟩⟩)
 rw[Mg];exact⟨.ref _,_,I.lnew (t':=s.toks) (r.rep k.toNat) (by rw[hU,Zf];exact hz),rfl,q _ I.fresh⟩
theorem mJ{K:W.Frag}{G:Hp}{ds:List D}{xs:List V}(r:Reps K G ds xs):∀n:Nat,Reps K G (List.replicate n ds).flatten (List.replicate n xs).flatten
 | 0=>.nil
 |n+1=>by
  rw[UN,UN,Vg,Vg];exact r.app (mJ r n)
def jg(a b:D):Res R:=match a,b with
 | .lst ds,.int k=>if 0<=k/\k<1000000/\ds.length*k.toNat<=sizeLine then .ok (.l .f,.lst (List.replicate k.toNat ds).flatten) else .bad
 |a,b=>Cv a b
theorem c7:HG X (binaryOp .Mult) (rG X.K jg):=by
 rintro pr s σ H x y v u Q I rx ry ⟨G,fp,es,vs,a,b,r,⟨rel,k⟩,va,vb,e⟩;unfold jg at e;split at e
 ·rename_i ds j;split at e
  ·rename_i hj;cases e;obtain⟨p,xs,e1,h1,r1⟩:=va;subst e1;cases bx vb;refine Ak pr s σ H _ _ v u Q I rx ry ⟨p,j,xs,rfl,rfl,h1,by lia,by lia,by rw[r1.length];exact hj.2.2,fun q hq=>?_⟩;obtain⟨GN,GV⟩:=rel.newL hq (mJ r1 j.toNat);exact k _ _ G _ GV GN
  ·cases e
 ·exact Ah pr s σ H _ _ v u Q I rx ry ⟨G,fp,es,vs,a,b,r,⟨rel,k⟩,va,vb,e⟩
def Eu(td ty tv:TE):TS:=fun Dd σ H=>tv σ H fun v H1=>td σ H1 fun x H2=>ty σ H2 fun y H3=>BK x y v H3 fun H4=>Dd.nx σ H4
theorem Al{o i value:Expr}{td ty tv:TE}{pos pos':Pos}(ho:PE X o td)(hi:PE X i ty)(hv:PE X value tv)(hs:swapsWith value (some (.Subscript o i pos')) pos.line X.env=pure false):
  PS X (.Assign [.Subscript o i pos'] value pos) (Eu td ty tv):=by
 intro pr s σ H Dd I h;refine wpAny_Assign_Subscript (Hf (hv pr s σ H _ I h) fun r s1 ⟨v,H1,I1,rv,q1⟩=>Hf (ho pr s1 σ H1 _ I1 q1) fun u s2 ⟨x,H2,I2,rx,q2⟩=>Hf (hi pr s2 σ H2 _ I2 q2) fun iv s3 ⟨y,H3,I3,ry,q3⟩=>?_) hs;exact Hf (wZ pr s3 σ H3 x y v u iv r _ I3 rx ry rv q3) fun _ s4 ⟨H4,I4,q4⟩=>⟨σ,H4,I4,q4⟩
noncomputable def oH(i:Nat)(fk fv:FX):FS:=fun env=>(fv env).bind fun p=>(fk p.2).bind fun q=>match p.2[i]?,q.2[i]? with
 |some (some _),some (some (.l .f,.lst ds))=>(match q.1.2 with
  | .int k=>(match ixN ds.length k with
   |some j=>.ok (.nx (q.2.set i (some (.l .f,.lst (ds.set j p.1.2)))))
   |none=>.bad)
  |_=>.bad)
 |_,_=>.bad
theorem kO{i:Nat}{o ix value:Expr}{fk fv:FX}{pos pos':Pos}(ho:PE X o (rR i))(hi:QE X ix fk)(hv:QE X value fv)(hs:swapsWith value (some (.Subscript o ix pos')) pos.line X.env=pure false:=by rfl):
  QS (md:=md) X (.Assign [.Subscript o ix pos'] value pos) (oH i fk fv):=eW (Al ho hi hv hs) fun Dd σ H G0=>by
 obtain⟨G,env,fp,rel,k⟩:=G0;unfold oH at k;match q1:fv env,k with
 | .ok (r1,GL),k=>
  have k:OutOk X.K G H fp Dd ((fk GL).bind fun q=>match GL[i]?,q.2[i]? with
   |some (some _),some (some (.l .f,.lst ds))=>(match q.1.2 with
    | .int k=>(match ixN ds.length k with
     |some j=>.ok (.nx (q.2.set i (some (.l .f,.lst (ds.set j r1.2)))))
     |none=>.bad)
    |_=>.bad)
   |_,_=>.bad):=k
  match q2:fk GL,k with
  | .ok (r2,GY),k=>
   have k:OutOk X.K G H fp Dd (match GL[i]?,GY[i]? with
    |some (some _),some (some (.l .f,.lst ds))=>(match r2.2 with
     | .int k=>(match ixN ds.length k with
      |some j=>.ok (.nx (GY.set i (some (.l .f,.lst (ds.set j r1.2)))))
      |none=>.bad)
     |_=>.bad)
    |_,_=>.bad):=k
   split at k
   ·rename_i rr ds h1 h2;split at k
    ·rename_i kk LG;split at k
     ·rename_i j hj;refine⟨G,env,fp,r1,GL,rel,q1,fun y H1 G1 Hi Hb GP=>?_⟩;obtain⟨G2,b,ry,GN,GV⟩:=GP.freeze;obtain⟨v0,Pe,_⟩:=GN.view h1;refine⟨v0,Pe,G2,GL,b,r2,GY,GN,q2,fun z H3 G3 IT Ho Hu=>?_⟩;obtain⟨G4,b4,rz,IA,Ia⟩:=Hu.freeze;have Q0:Rep X.K G4 r1.2 y:=Rep.mono (Ho.gg.trans Ia.gg) ry;obtain⟨p,xs,ep,hp,rs,cg⟩:=IA.chg (ds':=ds.set j r1.2) h2;rw[Pe]at ep;cases ep;rw[LG]at rz;have hz:=bJ rz;obtain⟨fq,IS,IV⟩:=cg _ (rs.set j Q0);exact⟨p,xs,kk,j,rfl,hz,hp,by rw[rs.length];exact hj,k _ _ G4 fq (Hb.trans (GV.trans (Ho.trans (Ia.trans IV)))) IS⟩
     ·exact k.elim
    ·exact k.elim
   ·exact k.elim
end
section
variable{X:Cx}
def Fs(fk fv:FX):FX:=fun env=>(fk env).bind fun p=>(fv p.2).bind fun q=>if gm false p.1.2 then .ok ((.d,.dct false [p.1.2] [q.1.2]),q.2) else .bad
def getD(ks vs:List D)(k:D):Option D:=((ks.zip vs).find? fun p=>GW k p.1).map (·.2)
theorem kP{κ:Type}[DecidableEq κ]{K:W.Frag}{G:Hp}(f:κ->D)(hf:∀a b,GW (f a) (f b)=decide (a=b)){k:κ}:∀{GJ:List (κ×V)}{vs:List D},Reps K G vs (GJ.map (·.2))->((getD (GJ.map fun kv=>f kv.1) vs (f k)).isSome=(nZ GJ k).isSome)/\∀d,getD (GJ.map fun kv=>f kv.1) vs (f k)=some d->∃v,nZ GJ k=some v/\Rep K G d v
 |[],vs,r=>⟨rfl,fun d h=>nomatch h⟩
 |kv::GJ,vs,r=>by
  cases vs with
  |nil=>have:=r.length;simp at this
  |cons d0 vs=>
   rw[TU,Reps.cons_iff]at r;obtain⟨h1,h2⟩:=kP f hf (k:=k) r.2;unfold getD nZ at h1 h2 ⊢;rw[TU,UT];have e:GW (f k) (f kv.1)=decide (kv.1=k):=by
    rw[hf,UG,T7,T7];exact⟨fun z=>z.symm,fun z=>z.symm⟩
   by_cases hk:kv.1=k
   ·rw[Vz (by show GW (f k) (f kv.1)=true;rw[e];exact T6 hk),Vz (by exact T6 hk)];refine⟨rfl,fun d h=>?_⟩;cases h;exact⟨_,rfl,r.1⟩
   ·rw[V1 (by show ¬ GW (f k) (f kv.1)=true;rw[e];simpa using hk),V1 (by simpa using hk)];exact⟨h1,h2⟩
theorem pS{K:W.Frag}{G H:Hp}(gh:Same G H){tk:Bool}{ks vs:List D}{xs:List V}{o:HO}{p:Addr}{b:D}{y:V}(rd:Rd H p o)(dd:DictO o tk ks xs)(rs:Reps K G vs xs)(hk:gm tk b=true)(ry:Rep K G b y):
  ∃ov,DGet H p y ov/\(getD ks vs b).isSome=ov.isSome/\∀d,getD ks vs b=some d->∃v,ov=some v/\Rep K G d v:=by
 unfold gm at hk;cases tk with
 |true=>
  rw[Tq rfl,Vl]at hk;obtain⟨kk,hk⟩:=hk;obtain⟨pz,ez,gz,dz⟩:=dY hk ry;obtain⟨GJ,eo,ek,ex,_⟩:=dd;subst eo ex ez dz;have ek:ks=GJ.map fun kv=>kT kv.1:=ek
  obtain⟨h1,h2⟩:=kP (K:=K) (G:=G) kT yH (k:=kk) rs;rw[<-ek]at h1 h2;exact⟨nZ GJ kk,.inr ⟨GJ,kk,pz,rd,rfl,gh _ _ gz,rfl⟩,h1,h2⟩
 |false=>
  rw[Tv TC,Vl]at hk;obtain⟨kk,hk⟩:=hk;obtain⟨ez,dz⟩:=jn hk ry;obtain⟨GJ,eo,ek,ex,_⟩:=dd;subst eo ex ez dz;obtain⟨h1,h2⟩:=kP (K:=K) (G:=G) kD uQ (k:=kk) rs;rw[<-ek]at h1 h2;exact⟨nZ GJ kk,.inl ⟨GJ,kk,rd,rfl,rfl⟩,h1,h2⟩
def MR(a b:D):Res R:=match a with
 | .dct tk ks vs=>if gm tk b then(match getD ks vs b with
  |some d=>.ok (.f,d)
  |none=>.bad) else .bad
 |_=>.bad
theorem uX{a b:Expr}{fa fb:FO}{pos:Pos}(hu:X.A.units+1<cLine)(ha:QO X a fa)(hb:QO X b fb)(hs:NoSl b:=by exact fun _ _=>rfl):QE X (.Subscript a b pos) (eBin MR fa fb):=
 bI (zV hu ha hb hs) fun σ H Q h=>by
  obtain⟨G,env,fp,r,env',rel,e,k⟩:=h;obtain⟨⟨oa,e1⟩,ha,e⟩:=aj e;obtain⟨⟨ob,e2⟩,hb,e⟩:=aj e;obtain⟨da,PU,e⟩:=aj e;obtain⟨db,JG,e⟩:=aj e;obtain⟨r',hr,e⟩:=aj e;cases e;refine⟨G,env,fp,oa,e1,rel,ha,fun x H1 G1 Hi Hb GP Jw=>⟨G1,e1,Hi,ob,e2,GP,hb,fun y H2 G2 Ht GV GN Oe=>?_⟩⟩;have va:=GN.vw (Jw.mono GV.gg) PU;have vb:=GN.vw Oe JG;unfold MR at hr;split at hr
  ·rename_i tk ks vs;split at hr
   ·rename_i JQ;split at hr
    ·rename_i d hd;cases hr;obtain⟨p,xs,o,ev,rd,dd,rs⟩:=va;subst ev;have vb':Rep X.K G2 db y:=by
      cases db with
      |lst l=>cases tk <;> simp[gm,fF,kG]at JQ
      |dct _ _ _=>cases tk <;> simp[gm,fF,kG]at JQ
      |_=>exact vb
     obtain⟨ov,g,_,h2⟩:=pS GN.gh rd dd rs JQ vb';obtain⟨v,ho,rv⟩:=h2 d hd;subst ho;exact⟨p,v,rfl,g,k _ H2 G2 Ht (Hb.trans GV) (GN.push rv)⟩
    ·cases hr
   ·cases hr
  ·cases hr
def Qa(a b:D):Res R:=match b with
 | .dct tk ks vs=>if gm tk a then .ok (.f,.bl (getD ks vs a).isSome) else .bad
 |_=>NF a b
def pB(a b:D):Res R:=match b with
 | .dct tk ks vs=>if gm tk a then .ok (.f,.bl (!(getD ks vs a).isSome)) else .bad
 |_=>Cg a b
theorem Cz(hu:X.A.units+65<cLine):HG X (compareOp .In) (rGA X.K Qa):=by
 rintro pr s σ H x y v u Q I rx ry ⟨G,fp,es,vs,a,b,r,⟨rel,k⟩,va,vb,e⟩;unfold Qa at e;split at e
 ·rename_i tk ks ws;split at e
  ·rename_i JQ;cases e;obtain⟨p,xs,o,ev,rd,dd,rs⟩:=vb;subst ev;cases ry;obtain⟨ov,g,h1,_⟩:=pS (K:=X.K) (G:=H) (fun _ _ z=>z) rd dd rs JQ va;exact Gg (by lia) I g rx fun s' I'=>⟨.bl ov.isSome,H,I',rfl,by rw[<-h1];exact k _ H G fp .refl (rel.push (cV _))⟩
  ·cases e
 ·exact Er hu pr s σ H x y v u Q I rx ry ⟨G,fp,es,vs,a,b,r,⟨rel,k⟩,va,vb,e⟩
theorem pT(hu:X.A.units+65<cLine):HG X (compareOp .NotIn) (rGA X.K pB):=by
 rintro pr s σ H x y v u Q I rx ry ⟨G,fp,es,vs,a,b,r,⟨rel,k⟩,va,vb,e⟩;unfold pB at e;split at e
 ·rename_i tk ks ws;split at e
  ·rename_i JQ;cases e;obtain⟨p,xs,o,ev,rd,dd,rs⟩:=vb;subst ev;cases ry;obtain⟨ov,g,h1,_⟩:=pS (K:=X.K) (G:=H) (fun _ _ z=>z) rd dd rs JQ va;exact zT (by lia) I g rx fun s' I'=>⟨.bl (!ov.isSome),H,I',rfl,by rw[<-h1];exact k _ H G fp .refl (rel.push (cV _))⟩
  ·cases e
 ·exact Ci hu pr s σ H x y v u Q I rx ry ⟨G,fp,es,vs,a,b,r,⟨rel,k⟩,va,vb,e⟩
end
def isLf:O->Bool
 | .l .f=>true
 | .pin _ (.l .f)=>true
 |_=>false
section
variable{K:W.Frag}{G G' H H':Hp}{es:PV.Env}{vs:L2.St}{fp:List Addr}
theorem CA{ow:O}{ds:List D}{v:V}{a:List Addr}(ho:isLf ow=true)(r:RepO K G H ow (.lst ds) v a):∃p xs,v=.ref p/\H p=some (.lst xs)/\a=[p]/\Reps K G ds xs/\∀(H':Hp) (ds':List D) (HQ:List V),H' p=some (.lst HQ)->Reps K G ds' HQ->RepO K G H' ow (.lst ds') (.ref p) [p]:=by
 unfold isLf at ho;split at ho
 ·obtain⟨p,xs,e,hp,ea,rs⟩:=dR.mp r;exact⟨p,xs,e,hp,ea,rs,fun H' ds' HQ h IQ=>dR.mpr ⟨p,HQ,rfl,h,rfl,IQ⟩⟩
 ·rename_i q;rw[RepO]at r;obtain⟨e0,r⟩:=r;obtain⟨p,xs,e,hp,ea,rs⟩:=dR.mp r;rw[e]at e0;cases e0;exact⟨_,xs,e,hp,ea,rs,fun H' ds' HQ h IQ=>by rw[RepO];exact⟨rfl,dR.mpr ⟨_,HQ,rfl,h,rfl,IQ⟩⟩⟩
 ·cases ho
theorem Rel.chgO{i:Nat}{ow:O}{ds ds':List D}(ho:isLf ow=true)(q:Rel K G H es vs fp)(e:es[i]?=some (some (ow,.lst ds))):∃p xs,vs[i]?=some (some (.ref p))/\H p=some (.lst xs)/\Reps K G ds xs/\
  ∀HQ,Reps K G ds' HQ->∃fq,Rel K G (upd H p (.lst HQ)) (es.set i (some (ow,.lst ds'))) vs fq/\Step G H fp G (upd H p (.lst HQ)) fq:=by
 obtain⟨v,fq,ev,g,st,J2⟩:=q.out e;obtain⟨y,ys,e0,v',a,b,e1,e2,r1,r2⟩:=g.rep;cases e0;cases e1;obtain⟨p,xs,e3,hp,e4,rs,mk⟩:=CA ho r1;subst e3;subst e4;subst e2;have nd:=Uu.mp (show(p::b).Nodup from g.nd);refine⟨p,xs,ev,hp,rs,fun HQ IQ=>?_⟩;have g2:Rel K G (upd H p (.lst HQ)) (some (ow,.lst ds')::es.set i none) (some (.ref p)::vs) (p::b):=by
  refine⟨⟨some (.ref p),vs,rfl,.ref p,[p],b,rfl,rfl,mk _ _ _ az IQ,r2.step (.refl _) fun z hz=>ak fun e=>nd.1 (e▸hz)⟩,g.nd,g.gn,fun z o ez=>?_⟩;have:z≠p:=fun w=>by
   subst w;rw[g.gn z Tg]at ez;cases ez
  rw[ak this];exact g.gh z o ez
 have PN:Step G H (p::b) G (upd H p (.lst HQ)) (p::b):=by
  refine⟨.refl _,fun z o ez nz=>?_,fun z hz=>.inl hz,fun z o ez=>.inl ez,fun z o ez=>?_⟩
  ·have:z≠p:=fun w=>nz (by rw[w];exact Tg)
   rw[ak this];exact ez
  ·by_cases w:z=p
   ·subst w;exact⟨_,az⟩
   ·exact⟨o,by rw[ak w];exact ez⟩
 obtain⟨fz,g3,Ho⟩:=g2.back (i:=i) (by rw[Up];exact(Tx.mp e).1) ev;rw[Vs]at g3;exact⟨fz,g3,st.trans (PN.trans Ho)⟩
theorem RepE.append:∀{es Ky:PV.Env}{vs Kw:L2.St}{a b:List Addr},RepE K G H es vs a->RepE K G H Ky Kw b->RepE K G H (es++Ky) (vs++Kw) (a++b)
 |[],Ky,vs,Kw,a,b,r,q=>by
  rw[r.1,r.2];exact q
 |none::es,Ky,vs,Kw,a,b,r,q=>by
  obtain⟨y,ys,e,r⟩:=r;subst e;exact⟨y,ys++Kw,rfl,RepE.append r q⟩
 |some x::es,Ky,vs,Kw,a,b,r,q=>by
  obtain⟨y,ys,e,v,a1,b1,e1,e2,r1,r2⟩:=r;subst e e2;exact⟨y,ys++Kw,rfl,v,a1,b1++b,e1,UR _ _ _,r1,RepE.append r2 q⟩
theorem RepE.clean{G2 G3:Hp}(h:∀p u,isT u=true->G2 p=some u->G3 p=some u):∀{es:PV.Env}{vs:L2.St}{a:List Addr},(∀r,some r∈es->aT r.1 r.2=true)->RepE K G2 H es vs a->RepE K G3 H es vs a
 |[],_,_,_,r=>r
 |none::es,vs,a,hc,r=>by
  obtain⟨y,ys,e,r⟩:=r;exact⟨y,ys,e,RepE.clean h (fun r hr=>hc r (Tn _ hr)) r⟩
 |some x::es,vs,a,hc,r=>by
  obtain⟨y,ys,e,v,a1,b1,e1,e2,r1,r2⟩:=r;exact⟨y,ys,e,v,a1,b1,e1,e2,r1.clean h (hc x Tg),RepE.clean h (fun r hr=>hc r (Tn _ hr)) r2⟩
theorem Rel.lendM(q:Rel K G H es vs fp)(a:List Addr)(ha:∀z∈a,z∉fp)(RL:∀z∈a,G z=none):∃G1,Same G G1/\Same G1 H/\(∀z∈a,G1 z=none)/\(∀(i:Nat) (r:R) (v:V),es[i]?=some (some r)->vs[i]?=some (some v)->Rep K G1 r.2 v)/\
  ∀(H2 G2:Hp) (Ht:List Addr) (rs:PV.Env) (ws:L2.St),Step G1 H a G2 H2 Ht->Rel K G2 H2 rs ws Ht->(∀r,some r∈rs->aT r.1 r.2=true)->∃G3 IT,Step G H (a++fp) G3 H2 IT/\Rel K G3 H2 (rs++es) (ws++vs) IT:=by
 have hg:Same G (fun p=>if p∈fp then H p else G p):=fun p u e=>by
  show(if p∈fp then H p else G p)=some u;by_cases hp:p∈fp
  ·rw[Tq hp];exact q.gh p u e
  ·rw[Tv hp];exact e
 have hh:Same (fun p=>if p∈fp then H p else G p) H:=fun p u e=>by
  have e:(if p∈fp then H p else G p)=some u:=e;by_cases hp:p∈fp
  ·rw[Tq hp]at e;exact e
  ·rw[Tv hp]at e;exact q.gh p u e
 have hk:∀p∈fp,∀u,H p=some u->(fun p=>if p∈fp then H p else G p) p=some u:=fun p hp u e=>by
  show(if p∈fp then H p else G p)=some u;rw[Tq hp];exact e
 refine⟨fun p=>if p∈fp then H p else G p,hg,hh,fun z hz=>?_,fun i r v e ev=>q.rep.rep hg hk e ev,fun H2 G2 Ht rs ws st k cl=>?_⟩
 ·show(if z∈fp then H z else G z)=none;rw[Tv (ha z hz)];exact RL z hz
 have kept:∀p∈fp,H2 p=H p:=fun p hp=>by
  obtain⟨u,hu⟩:=q.rep.live p hp;rw[hu];exact st.keep p u hu fun z=>ha p z hp
 have apart:∀p∈Ht,p∉fp:=fun p hp hf=>by
  rcases st.fpn p hp with z|z
  ·exact ha p z hf
  ·obtain⟨u,hu⟩:=q.rep.live p hf;rw[z]at hu;cases hu
 have g3:Same G (fun p=>if p∈fp then none else G2 p):=fun p u e=>by
  show(if p∈fp then none else G2 p)=some u;rw[Tv (fun z=>by rw[q.gn p z]at e;cases e)];exact st.gg p u (hg p u e)
 refine⟨fun p=>if p∈fp then none else G2 p,Ht++fp,⟨g3,fun p u e n=>?_,fun p hp=>?_,fun p u e=>?_,st.there⟩,⟨RepE.append (RepE.clean (fun p u t e=>?_) cl k.rep) (q.rep.step g3 kept),?_,fun p hp=>?_,fun p u e=>?_⟩⟩
 ·exact st.keep p u e fun z=>n (TB _ z)
 ·rcases Ub.mp hp with hp|hp
  ·exact(st.fpn p hp).imp_left (TB _)
  ·exact .inl (Tp _ hp)
 ·have e:(if p∈fp then none else G2 p)=some u:=e;by_cases hp:p∈fp
  ·rw[Tq hp]at e;cases e
  ·rw[Tv hp]at e;rcases st.gnew p u e with z|z|z
   ·have z:(if p∈fp then H p else G p)=some u:=z;rw[Tv hp]at z;exact .inl z
   ·exact .inr (.inl (TB _ z))
   ·exact .inr (.inr z)
 ·show(if p∈fp then none else G2 p)=some u;by_cases hp:p∈fp
  ·exfalso;obtain⟨u',hu,hm⟩:=q.rep.mut p hp;have:=st.gg p u' (hk p hp u' hu);rw[e]at this;cases this;cases u with
   |lst _=>cases t
   |dK _=>cases t
   |dT _=>cases t
   |_=>cases hm
  ·rw[Tv hp];exact e
 ·rw[Ui];exact⟨k.nd,q.nd,fun p hp z hz e=>apart p hp (e▸hz)⟩
 ·show(if p∈fp then none else G2 p)=none;by_cases hf:p∈fp
  ·rw[Tq hf]
  ·rw[Tv hf];rcases Ub.mp hp with hp|hp
   ·exact k.gn p hp
   ·exact absurd hp hf
 ·have e:(if p∈fp then none else G2 p)=some u:=e;by_cases hp:p∈fp
  ·rw[Tq hp]at e;cases e
  ·rw[Tv hp]at e;exact k.gh p u e
end
section
variable{X:Cx}
def ePop(i:Nat):FX:=fun env=>match env[i]? with
 |some (some (ow,.lst ds))=>if isLf ow then(match ds.getLast? with
  |some d=>.ok ((.f,d),env.set i (some (ow,.lst ds.dropLast)))
  |none=>.bad) else .bad
 |_=>.bad
theorem Reps.dropLast{K:W.Frag}{G:Hp}:∀{ds:List D}{xs:List V},Reps K G ds xs->Reps K G ds.dropLast xs.dropLast
 |[],xs,r=>by rw[Reps]at r;subst r;exact .nil
 |[d],xs,r=>by
  rw[Reps]at r;obtain⟨y,ys,e,r1,r2⟩:=r;rw[Reps]at r2;subst e r2;exact .nil
 |d::d2::ds,xs,r=>by
  rw[Reps]at r;obtain⟨y,ys,e,r1,r2⟩:=r;subst e;have h:=Reps.dropLast r2;cases ys with
  |nil=>have:=r2.length;simp at this
  |cons z zs=>
   rw[W3 (List.cons_ne_nil _ _),W3 (List.cons_ne_nil _ _)];exact .cons r1 h
theorem CB{i:Nat}{o:Expr}{apos Hs:Pos}(ho:PE X o (rR i))(IY:attributeBase o "pop" X.env (eval o X.env)=eval o X.env:=by rfl)(IZ:(apos.endLine==Hs.line)=true:=by rfl):
  QE X (.Call (.Attribute o "pop" apos) [] [] Hs) (ePop i):=by
 refine bI (BM WB PySem.F.slot_list_pop PySem.F.type_list_pop BO ho IY IZ) fun σ H Q Hc=>?_
 obtain⟨G,env,fp,r,env',rel,e,k⟩:=Hc;unfold ePop at e;split at e
 ·rename_i ow ds LZ;split at e
  ·rename_i hlf;split at e
   ·rename_i d hd;cases e;obtain⟨p,xs,ev,hp,rs,cg⟩:=rel.chgO (ds':=ds.dropLast) hlf LZ;rw[List.getLast?_eq_getElem?]at hd;obtain⟨y,hy,ry⟩:=rs.get hd;obtain⟨fq,GN,GV⟩:=cg xs.dropLast rs.dropLast;exact⟨.ref p,ev,.inl ⟨rfl,xs,SqL.of hp⟩,p,xs,y,rfl,rfl,hp,by rw[rs.length];exact hy,k y _ G fq GV (GN.push ry)⟩
   ·cases e
  ·cases e
 ·cases e
def oJ(i:Nat)(f:FX):FS:=fun env=>(f env).bind fun p=>match p.2[i]? with
 |some (some (.pin q c,d0))=>.ok (.rt (.t [p.1.1,.pin q c],.tup [p.1.2,d0]))
 |_=>.bad
theorem mK{i:Nat}{e:Expr}{f:FX}{pos:Pos}(he:QE X e f):QS (md:=.mut) X (.Return (some e) pos) (oJ i f):=eW (yo he) fun Dd σ H G0=>by
 obtain⟨G,env,fp,rel,k⟩:=G0;unfold oJ at k;match q:f env,k with
 | .ok (r,GL),k=>
  have k:OutOk (md:=.mut) X.K G H fp Dd (match GL[i]? with
   |some (some (.pin q c,d0))=>.ok (.rt (.t [r.1,.pin q c],.tup [r.2,d0]))
   |_=>.bad):=k
  split at k
  ·rename_i z c d0 hz;refine⟨G,env,fp,r,GL,rel,q,fun v H1 G1 Hi Hb GP=>?_⟩;obtain⟨y,ys,ey,v',a,b,e1,e2,r1,r2⟩:=GP.rep;cases ey;cases e1;subst e2;obtain⟨v0,a0,b0,Pe,ro,_,pm⟩:=r2.take hz;have hv0:v0=.ref z:=by
    have:=ro;rw[RepO]at this;exact this.1
   subst hv0;have sub:∀w∈a++a0,w∈a++b:=fun w hw=>by
    rcases Ub.mp hw with hw|hw
    ·exact TB _ hw
    ·exact Tp _ (pm.mem_iff.mpr (TB _ hw))
   have nd:=Ui.mp GP.nd;have nd2:=Ui.mp (pm.nodup_iff.mp nd.2.1);refine k v H1 G1 (a++a0) (Hb.trans (Step.cut sub)) ⟨r.1,r.2,z,c,d0,rfl,⟨⟨some v,[some (.ref z)],rfl,v,a,a0,rfl,rfl,r1,some (.ref z),[],rfl,.ref z,a0,[],rfl,(Uo _).symm,ro,rfl,rfl⟩,?_,fun p hp=>GP.gn p (sub p hp),GP.gh⟩⟩;rw[Ui];exact⟨nd.1,nd2.1,fun p hp w hw e=>nd.2.2 p hp w (pm.mem_iff.mpr (TB _ hw)) e⟩
  ·exact k.elim
def jE(np nn:Nat)(c:O)(g:FS)(p:Addr):List D->Res R
 |d0::ds=>if ds.length+1=np then(g (some (.pin p c,d0)::(ds.map (fun d=>some (O.f,d))++List.replicate nn none))).bind fun o=>match o with
  | .rt r=>.ok r
  |_=>.bad
  else .bad
 |[]=>.bad
inductive spM(K:W.Frag)(c:O)(F:Addr->List D->Res R)(vs:List V)(H:Hp)(Q:VK)(zz:XK):Prop
 |mk:∀G p Kw d0 ds r NI,Same G H->vs=.ref p::Kw->RepO K G H c d0 (.ref p) NI->NI.Nodup->(∀z∈NI,G z=none)->Reps K G ds Kw->F p (d0::ds)=.ok r->(∀v H' G' GR,Step G H NI G' H' GR->Fp .mut K G' H' r v GR->Q v H')->spM K c F vs H Q zz
theorem uY{P:Program}{w:World}{K:W.Frag}{mg:Str->Option Value}{base:Heap}{x:Str}{st:Stmt}{N ps:List Str}{k:Nat}{c:O}{g:FS}(Df:Def K mg x st)(sc:FnScope N ps (defScope st))
  (hb:∀(kV doc pm:Value) (an:Option Addr) (Hk ct:Value) (us:List Value),us.length=ps.length->bindArgs (PySem.W.fnOf x x (fB st) (cX st) (defScope st) .none kV doc pm an Hk ct) ⟨us,[]⟩=pure (ps.zip us))
  (body:∀(f:Addr) (Hk:Value) (A:Around) (outer:List PySem.Env) (s:Shared) (H:Hp) (E:XK),Room k (A.deeper (envOfC x (defScope st) s.heap.objs.size f Hk))->LH (md:=.mut) (wW LM P w K mg base N x (defScope st) f Hk A outer s H E).nox (cX st) g):
  Ct P w K mg base x (k+1) (spM K c (jE ps.length (N.length-ps.length) c g)):=by
 obtain⟨f,fd,F,m⟩:=Df;refine⟨f,fd,ps,F.ok sc (fun vs H Q E h=>?_) (fun Hk A outer s H vs Q E hr h=>?_),m,F.kp,F.binds hb⟩
 ·obtain⟨G,p,Kw,d0,ds,r,NI,_,ev,_,_,_,rs,e,_⟩:=h;unfold jE at e;split at e
  ·rename_i Su ds' heq;cases heq;split at e
   ·rename_i hl;rw[ev,TK,rs.length,hl]
   ·cases e
  ·cases e
 ·obtain⟨G,p,Kw,d0,ds,r,NI,gh,ev,r0,nd,gn,rs,e,q⟩:=h;unfold jE at e;split at e
  ·rename_i Su ds' heq;cases heq;split at e
   ·rename_i hl;refine⟨_,body f Hk A outer s H E hr,G,some (.pin p c,d0)::(ds.map (fun d=>some (O.f,d))++List.replicate (N.length-ps.length) none),NI,⟨?_,nd,gn,gh⟩,?_⟩
    ·have:=iE (K:=K) (G:=G) (H:=H) (N.length-ps.length) rs;unfold L2.j8;rw[ev,TK,rs.length,hl];exact⟨some (.ref p),_,rfl,.ref p,NI,[],rfl,(Uo _).symm,by rw[RepO];exact⟨rfl,r0⟩,this⟩
    ·obtain⟨o,eo,e⟩:=aj e;rw[eo];cases o with
     |rt r'=>
      cases e;exact fun v H' G' GR st rel=>q v H' G' GR st rel
     |nx env'=>cases e
     |bk env'=>cases e
     |ct env'=>cases e
   ·cases e
  ·cases e
def mL:O->O->Bool
 | .l .f,.l .f=>true
 | .l .f,.pin _ (.l .f)=>true
 | .d,.d=>true
 | .d,.pin _ .d=>true
 |_,_=>false
theorem CF{K:W.Frag}{G H:Hp}{c ow:O}{d:D}{v:V}{a:List Addr}(h:mL c ow=true)(r:RepO K G H ow d v a):(∃p,v=.ref p)/\RepO K G H c d v a/\∀(G' H':Hp) (d':D) (a':List Addr),RepO K G' H' c d' v a'->RepO K G' H' ow d' v a':=by
 have Oo:∀{d:D},RepO K G H (.l .f) d v a->∃p,v=.ref p:=fun{d} r=>by
  cases d with
  |lst ds=>obtain⟨p,_,e,_⟩:=dR.mp r;exact⟨p,e⟩
  |_=>simp only[RepO]at r
 have Oq:∀{d:D},RepO K G H .d d v a->∃p,v=.ref p:=fun{d} r=>by
  cases d with
  |dct tk ks ws=>rw[RepO]at r;obtain⟨p,_,_,e,_⟩:=r;exact⟨p,e⟩
  |_=>simp only[RepO]at r
 unfold mL at h;split at h
 ·exact⟨Oo r,r,fun _ _ _ _ z=>z⟩
 ·rw[RepO]at r;exact⟨⟨_,r.1⟩,r.2,fun _ _ _ _ z=>by rw[RepO];exact⟨r.1,z⟩⟩
 ·exact⟨Oq r,r,fun _ _ _ _ z=>z⟩
 ·rw[RepO]at r;exact⟨⟨_,r.1⟩,r.2,fun _ _ _ _ z=>by rw[RepO];exact⟨r.1,z⟩⟩
 ·cases h
open Classical in
def oK(F:Addr->List D->Res R)(c:O)(d0:D)(ds:List D):Res (R×D):=
 if h:∃x:R×D,∀p,F p (d0::ds)=.ok (.t [x.1.1,.pin p c],.tup [x.1.2,x.2]) then .ok (Classical.choose h) else .bad
theorem mM{F:Addr->List D->Res R}{c:O}{d0:D}{ds:List D}{r:R}{d':D}(h:∀p,F p (d0::ds)=.ok (.t [r.1,.pin p c],.tup [r.2,d'])):oK F c d0 ds=.ok (r,d'):=by
 have h':∃x:R×D,∀p,F p (d0::ds)=.ok (.t [x.1.1,.pin p c],.tup [x.1.2,x.2]):=⟨(r,d'),h⟩
 unfold oK;rw[dif_pos h'];have e:=(Yg h' 0).symm.trans (h 0);generalize Classical.choose h'=x at e;obtain⟨⟨o,d⟩,d2⟩:=x;cases e;rfl
theorem xw{F:Addr->List D->Res R}{c:O}{d0:D}{ds:List D}{x:R×D}(h:oK F c d0 ds=.ok x)(p:Addr):F p (d0::ds)=.ok (.t [x.1.1,.pin p c],.tup [x.1.2,x.2]):=by
 unfold oK at h;split at h
 ·rename_i h';cases h;exact Yg h' p
 ·cases h
end
section
variable{X:Cx}{x:Str}{p pos:Pos}{e:Expr}{es:List Expr}{fs:FOs}
end
section
variable{K:W.Frag}{G G' H H':Hp}
end
section
variable{X:Cx}{md:Mode}
end
end PV
namespace NX
open PySem PySem.Spec PyProof.Rows L2
theorem Ew{P:Program}{w:World}{k:Key}{u:Value}(h:(mixKind P w).is k u=true):RelV (kV k) u:=by
 rw[rQ]at h;cases k with
 |inl i=>
  have h:Value.isInt i u=true:=h;cases u with
  |int j t=>
   have e:(j==i)=true:=h;rw[Ul]at e;exact⟨t,by rw[e]⟩
  |_=>cases h
 |inr x=>
  obtain⟨t,e⟩:=Value.isStrOf_shape h;exact⟨t,e⟩
theorem Ex{κ:Type}{GJ:List (κ×V)}{vs:List (κ×Value)}(r:KV GJ vs):∀{i:Nat}{k:κ}{v:V},GJ[i]?=some (k,v)->∃u,vs[i]?=some (k,u)/\RelV v u:=by
 induction r with
 |nil=>intro i k v e;simp at e
 | @cons p q ps qs hq _ ih=>
  intro i k v e;cases i with
  |zero=>
   simp at e;subst e;obtain⟨qk,qv⟩:=q;obtain⟨e1,e2⟩:=hq;cases e1;exact⟨qv,rfl,e2⟩
  |succ i=>exact ih (by simpa using e)
theorem qU{X:Cx}{pr:List (Addr×Obj)}{σ:L2.St}{H:Hp}{s:Shared}{a:Addr}{o:Obj}{ep:Nat}{es:Array DictEntry}{GJ:List (Key×V)}(I:Inv X pr σ H s)(hd:o.data=.dict es ep)(ha:H a=some (.frz o (.dK GJ))):
  s.heap.get? a=some o/\∃vs,KV GJ vs/\s.heap.DictAt (mixKind X.prog X.w) a vs ep:=by
 obtain⟨ho,z,nm,vs,r,o',Ky,NR,g1,ex,dat,b7⟩:=(show ObjOk X.prog X.w H s.heap a (.frz o (.dK GJ)) from I.hok a _ ha)
 have e:=g1.symm.trans ho;cases e;have e2:=dat.symm.trans hd;cases e2;exact⟨ho,vs,r,o,es,ho,ex,hd,b7⟩
theorem xx{X:Cx}{pr:List (Addr×Obj)}{σ:L2.St}{H:Hp}{s:Shared}{a:Addr}{o:Obj}{GJ:List (Key×V)}(I:Inv X pr σ H s)(ha:H a=some (.dK GJ))(ho:s.heap.get? a=some o):Inv X pr σ (upd H a (.frz o (.dK GJ))) s:=by
 have ok:=(show ObjOk X.prog X.w H s.heap a (.dK GJ) from I.hok a _ ha)
 have nt:∀c xs,H c=some (.tup xs)->c≠a:=fun c xs e z=>by rw[z,ha]at e;cases e
 have nf:∀c q u,H c=some (.frz q u)->c≠a:=fun c q u e z=>by rw[z,ha]at e;cases e
 have nb:∀c ps,H c=some (.tbl ps)->c≠a:=fun c ps e z=>by rw[z,ha]at e;cases e
 have no:∀c b,H c=some (.own b)->c≠a:=fun c b e z=>by rw[z,ha]at e;cases e
 have S0:Inv X pr σ (upd H a (.frz o (.dK GJ))) {s with heap:=s.heap,gens:=s.gens,drawn:=s.drawn,toks:=s.toks}:=by
  refine I.step (ch:=[]) (fun c hc=>nomatch hc) (fun c q _ _ _ e _=>e) (fun c q _ _ _ e _=>⟨q.slots,e⟩) (fun c q _ e n=>?_) (fun c q _ e=>⟨q,e⟩)
   (fun c l e=>by rw[ak (nt c l e)];exact e) (fun c q u e=>by rw[ak (nf c q u e)];exact e) (fun c ps e=>⟨#[],by rw[ak (nb c ps e),e];simp⟩) (fun m hm=>hm) (fun c ob e=>?_) I.bare
  ·have:c≠a:=fun z=>by rw[z,ha]at n;cases n
   rw[ak this];exact n
  ·by_cases ec:c=a
   ·subst ec;rw[az]at e;cases e;exact⟨ho,ok.stay (fun _ _ _ q=>q) (fun d q=>by rw[ak (no d _ q)];exact q) fun d l q=>by rw[ak (nt d l q)];exact q⟩
   ·rw[ak ec]at e;exact(I.hok c ob e).stay (fun _ _ _ q=>q) (fun d q=>by rw[ak (no d _ q)];exact q) fun d l q=>by rw[ak (nt d l q)];exact q
 exact S0
end NX
namespace PV
open PySem PySem.Spec PyProof.Rows L2 NX
section
variable{X:Cx}
theorem u0:∀{xs:List V}{us:List Value},xs.length=us.length->(∀(i:Nat) (a:V) (b:Value),xs[i]?=some a->us[i]?=some b->RelV a b)->Vals xs us
 |[],[],_,_=>.nil
 |x::xs,u::us,hl,h=>.cons (h 0 x u rfl rfl) (u0 (by simpa using hl) fun i a b ha hb=>h (i+1) a b (by simpa using ha) (by simpa using hb))
 |[],_::_,hl,_=>by simp at hl
 |_::_,[],hl,_=>by simp at hl
end
end PV
namespace NX
open PySem PySem.Spec PyProof.Rows L2
section
variable{prog:Program}{w:World}{A:Around}{E:Value->Shared->Prop}{s:Shared}
theorem Am:typeLookup (.type "list_reverseiterator") "__len__" = pure none:=by rw[typeLookup_type,builtinLookup_eq_fast];kernel_rfl
theorem xy:typeLookup (.type "list_reverseiterator") "__length_hint__" = pure (some (.builtin "list_reverseiterator.__length_hint__")):=by rw[typeLookup_type,builtinLookup_eq_fast];kernel_rfl
theorem xA{r:Addr}{Q:Bool->Shared->Prop}(hT:s.TypeIs (.ref r) "list_reverseiterator")(h:Q false s):wpAny (model prog w) A (Builtin.List.listLengthHint (.ref r)) Q E s:=by
 unfold Builtin.List.listLengthHint;refine Tf (X9 hT Am ?_);show wpAny _ _ (specialOf (Value.ref r) (Str.ofString "__length_hint__") >>= _) _ _ _;refine Tf (X9 hT xy ?_);generalize hid:("list_reverseiterator.__length_hint__" : String)=id0
 wp_delta
 rw[show splitId id0=some ("list_reverseiterator","__length_hint__") from by subst hid;decide +kernel];subst hid;refine Tf (XQ (T:="list_reverseiterator") (b:=true) hT (by rw[isSubtype_type];kernel_rfl) ?_);refine Xc (fun Ke=>absurd Ke (by decide)) (fun _=>?_);refine Xc (fun _=>?_) (fun Ke=>absurd (by decide +kernel) Ke);refine Xc (fun Ke=>absurd Ke (by decide +kernel)) (fun _=>?_);exact Tu h
end
section
variable{prog:Program}{w:World}{A:Around}{E:Value->Shared->Prop}{s:Shared}
theorem An{R:Result->Shared->Prop}{I l:Addr}{items:Array Value}(hh:A.handled=none)(Kd:l≠I)(S:Addr)(Sv:S≠I)(hSl:S≠l)(c0:Nat)(hI:s.heap.IsRevIter I l ((items.size:Int)-1))(hl:s.heap.IsList l items)(hS:s.heap.get? S=some {cls:=.type "list",data:=.seq #[] c0})(hn:items.size<=sizeLine)
  (hR:∀h' tk Jy c',(∀b o,b≠S->b≠I->s.heap.get? b=some o->h'.get? b=some o)->h'.get? S=some {cls:=.type "list",dict:=none,data:=.seq Jy c',slots:=#[]}->ItemsOf (fun i v=>items[items.size-1-i]?=some v) Jy items.size->R (.ok (.ret .none)) {s with heap:=h',toks:=tk}):
  wpAny (model prog w) A.in1 (Builtin.List.listExtendWith (.ref S) (.ref I) .none)
   (fun fin s'=>match fin with | .done f=>R (.ok f) s' | .again c'=>c'.quiet=true/\codeAny (model prog w) A c' R s') (fun e s'=>R (.error e) s') s:=by
 have W:Walks prog w A.in1 I [I,l] [I] items.size (fun i v=>items[items.size-1-i]?=some v) (fun i h=>i<=items.size/\h.IsRevIter I l ((items.size:Int)-1-(i:Int))/\h.IsList l items):=Walks.listRev (A:=A.in1) (show A.in1.handled=none from hh) I l Kd items;have st:(fun(i:Nat) (h:Heap)=>i<=items.size/\h.IsRevIter I l ((items.size:Int)-1-(i:Int))/\h.IsList l items) 0 s.heap:=⟨Ut _,by rw[show(items.size:Int)-1-((0:Nat):Int)=(items.size:Int)-1 by lia];exact hI,hl⟩
 have hT:=hI.typeIs;have hSf:S∉[I,l]:=by simp only[Tw,UP,W0,not_or];exact⟨Sv,hSl⟩
 unfold Builtin.List.listExtendWith;refine Tf (V5 hT ?_);have h1:Builtin.List.listSameRef (.ref S) (.ref I)=false:=by simp[Builtin.List.listSameRef,Sv]
 have h2:(Value.type "list_reverseiterator" == Value.type "list")=false:=by decide
 have h3:(Value.type "list_reverseiterator" == Value.type "tuple")=false:=by decide
 simp only[h1,h2,h3,Bool.or_false,Vm,Wm];refine Tf (wpAny_pyIter_revIter hI ?_);refine Tf (VP (xA hT ?_));refine Xc (fun Ke=>absurd Ke (by decide)) (fun _=>Tu ⟨plainId_quiet PySem.F.plain_extend_loop _,?_⟩);refine codeAny_extend_loopS W.toS hn S hSf .none items.size 0 _ #[] c0 rfl (Ut _) st hS (ItemsOf.nil _) fun s' Jy c' hm RN IP=>?_
 rw[Moved.eq_with hm];refine hR s'.heap s'.toks Jy c' (fun b o hb hb2 e=>hm.heap b o (fun Ot=>?_) e) RN IP;rcases Tw.mp Ot with e'|Ot
 ·exact hb e'
 ·exact hb2 (T9.mp Ot)
theorem xB{Q:Value->Shared->Prop}{I l:Addr}{items:Array Value}(hh:A.handled=none)(Kd:l≠I)(hI:s.heap.IsRevIter I l ((items.size:Int)-1))(hl:s.heap.IsList l items)(hn:items.size<=sizeLine)
  (hQ:∀h' tk Jy c',(∀b o,b≠I->s.heap.get? b=some o->h'.get? b=some o)->h'.get? s.heap.objs.size=some {cls:=.type "list",dict:=none,data:=.seq Jy c',slots:=#[]}->ItemsOf (fun i v=>items[items.size-1-i]?=some v) Jy items.size->Q (.ref s.heap.objs.size) {s with heap:=h',toks:=tk}):
  wpAny (model prog w) A (call (.type "list") [.ref I]) Q E s:=by
 refine callType_codes (Q₁:=fun obj s₁=>obj=.ref s.heap.objs.size/\s₁={s with heap:=s.heap.push {cls:=.type "list",data:=.seq #[]}}) PySem.F.called_list (PySem.F.typeCall_list_1 _) PySem.F.entry_list_init
  (code_list_new _ ⟨rfl,rfl⟩) fun obj s₁ h₁=>?_
 obtain⟨rfl,rfl⟩:=h₁;have hS:(s.heap.push {cls:=.type "list",data:=.seq #[]}).get? s.heap.objs.size=some {cls:=.type "list",data:=.seq #[]}:=TF _ rfl;obtain⟨oI,gI,_⟩:=id hI;obtain⟨ol,gl,_⟩:=id hl;have nI:s.heap.objs.size≠I:=V4 (Tt gI);have nl:s.heap.objs.size≠l:=V4 (Tt gl);refine⟨⟨_,hS,rfl⟩,PySem.F.args_list_init_2 _ _,?_⟩;show wpAny _ A.in1.in1 (do let old <-Builtin.List.listItems (.ref s.heap.objs.size);Builtin.List.listUpdate (.ref s.heap.objs.size) (fun _=>#[]);letGo old.toList.reverse;Builtin.List.listExtendWith (.ref s.heap.objs.size) (.ref I) .none) _ _ _;refine Tf ?_;unfold Builtin.List.listItems;refine Tf (Vr hS rfl (Tu ?_));show wpAny _ _ (updateSeq s.heap.objs.size (fun _=>#[]) >>= fun _=>letGo (#[]:Array Value).toList.reverse >>= fun _=>Builtin.List.listExtendWith (.ref s.heap.objs.size) (.ref I) .none) _ _ _;refine Tf (wpAny_updateSeq hS rfl ?_);have hS2:=V6 (Obj.mapSeq (fun _=>(#[]:Array Value))) hS rfl;have RO:∀b o,b≠s.heap.objs.size->s.heap.get? b=some o->((s.heap.push {cls:=.type "list",data:=.seq #[]}).update s.heap.objs.size (Obj.mapSeq (fun _=>(#[]:Array Value)))).get? b=some o:=
  fun b o hb e=>(Vc _ _ (Vd hb)).trans (Th _ e)
 refine Tf (XF ?_);refine An (A:=A.in1) hh Kd _ nI nl _ (hI.at fun o e=>RO I o (Vd nI) e) (hl.at fun o e=>RO l o (Vd nl) e) hS2 hn fun h' tk Jy c' hk RN IP=>?_
 exact⟨rfl,hQ h' tk Jy c' (fun b o hb e=>hk b o (TH (Tt e)) hb (RO b o (TH (Tt e)) e)) RN IP⟩
end
section
variable{X:Cx}{e:Expr}{ta:TA}{p p2 pos Jz:Pos}
def Gn(K:W.Frag)(ta:TA):TE:=fun σ H Q=>ta σ H fun vs H1=>∃a xs,vs=[.ref a]/\SqL K H1 a xs/\∀l,H1 l=none->Q (.ref l) (upd H1 l (.lst xs.reverse))
theorem CG(hc:X.calm=true)(hg:Gl X "list")(hm:X.mg "list" = none)(P0:Gl X "reversed")(P1:X.mg "reversed" = none)(ha:PA X [e] ta)
  (he:starEach [.Call (.Name "reversed" p2) [e] [] Jz] X.env=(false,eval (.Call (.Name "reversed" p2) [e] [] Jz) X.env)::starEach [] X.env:=by rfl) (IM:(backTo pos (starEach [] X.env)).any (·.1)=false:=by rfl)
  (RP:starEach [e] X.env=(false,eval e X.env)::starEach [] X.env:=by rfl) (Ou:(backTo Jz (starEach [] X.env)).any (·.1)=false:=by rfl):
  PE X (.Call (.Name "list" p) [.Call (.Name "reversed" p2) [e] [] Jz] [] pos) (Gn X.K ta):=by
 intro pr s σ H Q I h;refine Vk (jt I hg hm (by decide +kernel:bootBuiltins "list" = some (.type "list")) ?_ (by decide) (by decide));refine UM ?_ he IM;rw[he];show wpAny _ _ (spliced ((false,eval (.Call (.Name "reversed" p2) [e] [] Jz) X.env)::backTo pos (starEach [] X.env))) _ _ s;refine Calls.spliced_cons ?_;refine Vk (jt I P0 P1 (by decide +kernel:bootBuiltins "reversed" = some (.type "reversed")) ?_ (by decide) (by decide));refine UM (Hf (ha Jz pr s σ H _ I h) fun us s1 ⟨vs,H1,I1,r1,a,xs,ev,sq,q⟩=>?_) RP Ou;subst ev;obtain⟨u,rfl,ra⟩:=hJ r1;cases ra;obtain⟨GO,r',pl,hz⟩:=I1.list sq;have hl:=pl.isList;have hlen:=r'.length;refine call_reversed_list hl ?_;refine Calls.spliced_nil ?_;obtain⟨ol,gl,_⟩:=id hl;refine xB (I1.ok.hd hc) (TH (Tt gl)) ⟨_,TF _ rfl,rfl,rfl⟩ (hl.at fun o e=>Th _ e) (by simp only[To];lia) fun h' tk Jy c' hk hS IP=>?_
 refine⟨.ref _,_,I1.laid (o:=.lst xs.reverse) (t':=tk) (fun b o e=>hk b o (TH (Tt e)) (Th _ e)) (by rw[UA];exact Vh _) ⟨by rw[Wq];exact hz,Jy.toList,c',?_,by rw[Array.toArray_toList];exact hS⟩,rfl,q _ (I1.hok.fresh (by rw[UA];exact Vh _))⟩;have hs:GO.toArray.size=xs.length:=by rw[To];exact hlen.symm
 refine PV.u0 (by rw[Wq];exact(hs.symm.trans (IP.1.symm.trans (UZ (xs:=Jy)).symm))) fun i x y hx hy=>?_
 rw[V7]at hy;have hb:=IP.2 i y hy;have hi:i<xs.length:=by have:=(Tx.mp hx).1;rw[Wq]at this;exact this
 rw[List.getElem?_reverse hi]at hx;rw[hs,List.getElem?_toArray]at hb;obtain⟨u,hu,ru⟩:=r'.get hx;rw[hb]at hu;cases hu;exact ru
end
end NX
namespace PV
open PySem PySem.Spec PyProof.Rows L2 NX
theorem Reps.rev{K:W.Frag}{G:Hp}:∀{ds:List D}{xs:List V},Reps K G ds xs->Reps K G ds.reverse xs.reverse
 |[],xs,r=>by rw[Reps]at r;rw[r];exact .nil
 |d::ds,xs,r=>by
  rw[Reps]at r;obtain⟨y,ys,e,r1,r2⟩:=r;subst e;rw[List.reverse_cons,List.reverse_cons];exact(Reps.rev r2).app (.one r1)
def DF:List D->Res R
 |[.lst ds]=>.ok (.l .f,.lst ds.reverse)
 |_=>.bad
section
variable{X:Cx}{e:Expr}{fs:FOs}{p p2 pos Jz:Pos}
theorem xC{K:W.Frag}{σ:L2.St}{H:Hp}{Q Q':List V->Hp->Prop}(h:tOs K fs σ H Q)(k:∀vs H,Q vs H->Q' vs H):tOs K fs σ H Q':=by
 obtain⟨G,env,fp,o,env',rel,e,q⟩:=h;exact⟨G,env,fp,o,env',rel,e,fun vs H' G' GR st Hy ok=>k _ _ (q vs H' G' GR st Hy ok)⟩
theorem CH(hc:X.calm=true)(hg:Gl X "list")(hm:X.mg "list" = none)(P0:Gl X "reversed")(P1:X.mg "reversed" = none)(ha:LN X [e] fs)
  (he:starEach [.Call (.Name "reversed" p2) [e] [] Jz] X.env=(false,eval (.Call (.Name "reversed" p2) [e] [] Jz) X.env)::starEach [] X.env:=by rfl) (IM:(backTo pos (starEach [] X.env)).any (·.1)=false:=by rfl)
  (RP:starEach [e] X.env=(false,eval e X.env)::starEach [] X.env:=by rfl) (Ou:(backTo Jz (starEach [] X.env)).any (·.1)=false:=by rfl):
  QE X (.Call (.Name "list" p) [.Call (.Name "reversed" p2) [e] [] Jz] [] pos) (aZ DF fs):=
 bI (CG hc hg hm P0 P1 ha he IM RP Ou) fun σ H Q h=>by
  refine xC (pK h) fun xs H1 Hc=>?_
  obtain⟨G,fp,es,vs,ds,r,⟨rel,k⟩,vd,e⟩:=Hc;unfold DF at e;split at e
  ·rename_i ds;cases e;obtain⟨v,ev,p,ys,ep,sq,rs⟩:=oq vd;subst ev ep;refine⟨p,ys,rfl,sq,fun q hq=>?_⟩;obtain⟨GN,GV⟩:=rel.newL hq rs.rev;exact k _ _ G _ GV GN
  ·cases e
end
noncomputable def compLE(a:FG)(c:FT)(f:FX):List D->PV.Env->Res (List D×PV.Env)
 |[],env=>.ok ([],env)
 |d::ds,env=>(a d env).bind fun e=>(c e).bind fun p=>if p.1 then(f p.2).bind fun q=>(compLE a c f ds q.2).bind fun rs=>.ok (q.1.2::rs.1,rs.2) else compLE a c f ds p.2
end PV
namespace NX
open PySem PySem.Spec PyProof.Rows L2
section
open PySem.AutoSeq1 (wpAny_loadPart')
theorem f6:fillsNumberSlot (.type "tuple") "mul" = pure false:=
 PySem.fillsNumberSlot_seq (id:="tuple.__mul__") (r:=some (.builtin "tuple.__rmul__")) F.slot_tuple_mul.lookup (by decide +kernel) F.slot_tuple_rmul.lookup (by decide +kernel)
theorem jF:seqRepeat? (.type "tuple")=pure (some (.builtin "tuple.__mul__")):=by
 unfold seqRepeat?;rw[PySem.seqSlot_of (T:="tuple") (name:="__mul__") (id:="tuple.__mul__") F.slot_tuple_mul.lookup (by decide +kernel),PySem.seqSlot_of (T:="tuple") (name:="__rmul__") (id:="tuple.__rmul__") F.slot_tuple_rmul.lookup (by decide +kernel)];rfl
theorem jG(a:Int)(t:Tok)(l:Addr)(items:Array Value)(n:Nat)(dd:Option Addr)(sl:Array (Option Value)):
  Meets (Builtin.«int.__rmul__» ⟨[.int a t,.ref l],[]⟩)
   (fun _ R s=>s.heap.get? l=some {cls:=.type "tuple",dict:=dd,data:=.seq items n,slots:=sl}/\R (.ok (.ret .notImplemented)) s):=
 .of_wp fun prog w A R s h=>by
  obtain⟨hp,g,d,tk,os⟩:=s;obtain⟨hl,h⟩:=h
  wp_walk using wpAny_loadPart' hl
  exact⟨_,rfl,h⟩
theorem u9(l:Addr)(items:Array Value)(n:Nat)(dd:Option Addr)(sl:Array (Option Value))(x:Int)(u:Tok)(Kd:items.isEmpty=false)(h0:x=0):
  Meets (Builtin.«tuple.__mul__» ⟨[.ref l,.int x u],[]⟩)
   (fun _ R s=>s.heap.get? l=some {cls:=.type "tuple",dict:=dd,data:=.seq items n,slots:=sl}/\R (.ok (.ret (.ref s.heap.objs.size))) {s with heap:=s.heap.push {cls:=.type "tuple",data:=.seq #[]}}):=
 .of_wp fun prog w A R s h=>by
  obtain⟨hp,g,d,tk,os⟩:=s;obtain⟨hl,h⟩:=h;subst h0
  wp_walk using wpAny_loadPart' hl
  exact⟨_,rfl,h⟩
theorem ve(l:Addr)(items:Array Value)(n:Nat)(dd:Option Addr)(sl:Array (Option Value))(u:Tok):
  Meets (Builtin.«tuple.__mul__» ⟨[.ref l,.int 1 u],[]⟩)
   (fun _ R s=>s.heap.get? l=some {cls:=.type "tuple",dict:=dd,data:=.seq items n,slots:=sl}/\R (.ok (.ret (.ref l))) s):=
 .of_wp fun prog w A R s h=>by
  obtain⟨hp,g,d,tk,os⟩:=s;obtain⟨hl,h⟩:=h
  wp_walk using wpAny_loadPart' hl
  exact⟨_,rfl,h⟩
theorem vf(l:Addr)(items:Array Value)(n:Nat)(dd:Option Addr)(sl:Array (Option Value))(x:Int)(u:Tok)(Kd:items.isEmpty=false)(h2:(x==1)=false)(h3:¬ x<=0)(h4:x<2 ^ 63)(h5:¬ (items.size:Int)*x>(2 ^ 63-1) / 8)(h6:((List.replicate x.toNat items).foldl (fun a b=>a++b) #[]).size<=sizeLine)(h7:(items.size:Int)*x<=10000):
  Meets (Builtin.«tuple.__mul__» ⟨[.ref l,.int x u],[]⟩)
   (fun _ R s=>s.heap.get? l=some {cls:=.type "tuple",dict:=dd,data:=.seq items n,slots:=sl}/\R (.ok (.ret (.ref s.heap.objs.size))) {s with heap:=s.heap.push {cls:=.type "tuple",data:=.seq ((List.replicate x.toNat items).foldl (fun a b=>a++b) #[])}}):=
 .of_wp fun prog w A R s h=>by
  obtain⟨hp,g,d,tk,os⟩:=s;obtain⟨hl,h⟩:=h
  wp_walk using wpAny_loadPart' hl
  rw[Tv (by rw[W8,T7,T7];lia)]
  wp_walk using wpAny_loadPart' hl
  rw[Tv h5]
  wp_walk
  rw[Tv (by unfold Builtin.Tuple.tupleTooMany;rw[T7,UB];lia)]
  wp_walk
  exact⟨_,rfl,h⟩
end
end NX
namespace PV
open PySem PySem.Spec PyProof.Rows L2 NX
section
variable{X:Cx}
inductive rRepU(K:W.Frag)(x:V)(y:V)(H:Hp)(Q:VK):Prop
 |mk:∀l k xs,x=.ref l->y=.int k->SqT K H l xs->xs≠[]->0<=k->k<1000->xs.length<=10->((k=1->Q (.ref l) H))->((k≠1->∀p,H p=none->Q (.ref p) (upd H p (.tup (List.replicate k.toNat xs).flatten))))->rRepU K x y H Q
theorem Ao:HG X (binaryOp .Mult) (rRepU X.K):=by
 intro pr s σ H x y v u Q I rx ry h;obtain⟨l,k,xs,rfl,rfl,hH,Kd,h1,h2,hz,q1,q2⟩:=h;cases rx;obtain⟨t,rfl⟩:=ry;obtain⟨GO,r,p1,_⟩:=I.tuple hH;have hl:=r.length;obtain⟨⟨cls,dd,data,sl⟩,ho,hc,n,hd⟩:=id p1;simp only at hc hd;subst hc hd;have MS:GO.toArray.isEmpty=false:=by
  cases GO with
  |nil=>exact absurd (Ue hl) Kd
  |cons a r'=>rfl
 refine Wl (T:="tuple") (U:="int") (by decide) ⟨_,ho,rfl⟩ (fun s'=>Ws s' k t) f6 Yf Wb jF F.slot_int_index.lookup
  (VY Wb (Ws s k t) XS (Xy _ _) (jG k t l GO.toArray n dd sl) ⟨ho,rfl,⟨_,ho,rfl⟩,?_⟩)
 by_cases k0:k=0
 ·subst k0;refine VY WU ⟨_,ho,rfl⟩ WL (WC _ _) (u9 l GO.toArray n dd sl 0 t MS rfl) ⟨ho,?_⟩;exact⟨.ref _,_,I.laid (o:=.tup []) (t':=s.toks) (fun b o e=>Th _ e) (Tz _) ⟨Ut _,[],.nil,IsTupN.new _ _⟩,rfl,q2 (by decide) _ (I.hok.fresh (Tz _))⟩
 ·by_cases k1:k=1
  ·subst k1;refine VY WU ⟨_,ho,rfl⟩ WL (WC _ _) (ve l GO.toArray n dd sl t) ⟨ho,?_⟩;exact⟨.ref l,H,I,rfl,q1 rfl⟩
  ·have Mg:List.foldl (fun x1 x2=>x1++x2) #[] (List.replicate k.toNat GO.toArray)=(List.replicate k.toNat GO).flatten.toArray:=by
    have:=ka GO k.toNat []
    rw[UX]at this;exact this
   have hb:(GO.length:Int)*k<=10*1000:=Int.mul_le_mul (by lia) (by lia) h1 (by decide);have hlen:(List.replicate k.toNat GO).flatten.length<=10000:=by
    rw[hU];have:((k.toNat*GO.length:Nat):Int)<=10000:=by
     rw[Int.natCast_mul,Int.toNat_of_nonneg h1,Yi];lia
    lia
   refine VY WU ⟨_,ho,rfl⟩ WL (WC _ _) (vf l GO.toArray n dd sl k t MS (by simpa using k1) (by lia) (by lia) (by rw[To];lia) (by rw[Mg,To,UB];lia) (by rw[To];lia)) ⟨ho,?_⟩;rw[Mg];exact⟨.ref _,_,I.laid (o:=.tup (List.replicate k.toNat xs).flatten) (t':=s.toks) (fun b o e=>Th _ e) (Tz _) ⟨by rw[hU,hl,<-hU,UB];lia,_,r.rep k.toNat,IsTupN.new _ _⟩,rfl,q2 k1 _ (I.hok.fresh (Tz _))⟩
def sI(a b:D):Res R:=match a,b with
 | .tup ds,.int k=>if ds≠[]/\ds.length<=10/\0<=k/\k<1000 then .ok (.f,.tup (List.replicate k.toNat ds).flatten) else .bad
 |_,_=>.bad
theorem kQ:HG X (binaryOp .Mult) (rG X.K sI):=by
 rintro pr s σ H x y v u Q I rx ry ⟨G,fp,es,vs,a,b,r,⟨rel,k⟩,va,vb,e⟩;unfold sI at e;split at e
 ·rename_i ds j;split at e
  ·rename_i hj;cases e;obtain⟨p,xs,e1,h1,r1⟩:=fY va;subst e1;cases bx vb;refine Ao pr s σ H _ _ v u Q I rx ry ⟨p,j,xs,rfl,rfl,bH rel.gh h1,?_,hj.2.2.1,hj.2.2.2,by rw[r1.length];exact hj.2.1,fun e=>?_,fun e q hq=>?_⟩
   ·intro z;have:=r1.length;rw[z]at this;exact hj.1 (Ue this.symm)
   ·subst e;refine k _ H G fp .refl (rel.push ?_);have e3:(List.replicate (1:Int).toNat ds).flatten=ds:=by simp
    rw[e3];exact va
   ·obtain⟨GN,GV⟩:=rel.newF (u:=.tup (List.replicate j.toNat xs).flatten) hq;refine k _ _ _ fp GV (GN.push ?_);rw[Rep];exact⟨q,_,rfl,az,Reps.mono GV.gg (mJ r1 j.toNat)⟩
  ·cases e
 ·cases e
end
section
variable{md:Mode}{X:Cx}{scope:Scope}{N:List Str}{tg iter elt:Expr}{ifs:List Expr}{pos:Pos}{fi:FI}{a:FG}{c:FT}{f:FX}{j k0:Nat}
end
section
variable{X:Cx}{x:Str}{p pos:Pos}{e:Expr}{es:List Expr}{f0:FX}{fs:FOs}
end
section
variable{X:Cx}
end
end PV
namespace NX
open PySem PySem.Spec PyProof.Rows L2
section
variable{prog:Program}{w:World}{A:Around}{R:Result->Shared->Prop}{it:Addr}{fp wr:List Addr}{n:Nat}{Pv:Nat->Value->Prop}{Sx:Nat->Heap->Prop}{kw:List (Str×Value)}
end
section
variable{X:Cx}{e k:Expr}{te tk:TE}{p pos Pw:Pos}
end
end NX
namespace PV
open PySem PySem.Spec PyProof.Rows L2 NX
section
variable{X:Cx}
end
section
variable{X:Cx}
end
section
variable{K:W.Frag}{G G' H H':Hp}{es:PV.Env}{vs:L2.St}{fp:List Addr}
theorem Rel.lendM2(q:Rel K G H es vs fp)(a:List Addr)(ha:∀z∈a,z∉fp)(RL:∀z∈a,G z=none):∃G1,Same G G1/\Same G1 H/\(∀z∈a,G1 z=none)/\(∀(i:Nat) (r:R) (v:V),es[i]?=some (some r)->vs[i]?=some (some v)->Rep K G1 r.2 v)/\
  ∀(H2 G2:Hp) (Ht:List Addr) (rs:PV.Env) (ws:L2.St),Step G1 H a G2 H2 Ht->Rel K G2 H2 rs ws Ht->((∀r,some r∈rs->aT r.1 r.2=true)->∃G3 IT,Step G H (a++fp) G3 H2 IT/\Rel K G3 H2 (rs++es) (ws++vs) IT)/\∃G3 IT,Step G H (a++fp) G3 H2 IT/\Rel K G3 H2 (rs++es.map PV.frz) (ws++vs) IT:=by
 have hg:Same G (fun p=>if p∈fp then H p else G p):=fun p u e=>by
  show(if p∈fp then H p else G p)=some u;by_cases hp:p∈fp
  ·rw[Tq hp];exact q.gh p u e
  ·rw[Tv hp];exact e
 have hh:Same (fun p=>if p∈fp then H p else G p) H:=fun p u e=>by
  have e:(if p∈fp then H p else G p)=some u:=e;by_cases hp:p∈fp
  ·rw[Tq hp]at e;exact e
  ·rw[Tv hp]at e;exact q.gh p u e
 have hk:∀p∈fp,∀u,H p=some u->(fun p=>if p∈fp then H p else G p) p=some u:=fun p hp u e=>by
  show(if p∈fp then H p else G p)=some u;rw[Tq hp];exact e
 refine⟨fun p=>if p∈fp then H p else G p,hg,hh,fun z hz=>?_,fun i r v e ev=>q.rep.rep hg hk e ev,fun H2 G2 Ht rs ws st k=>⟨fun cl=>?_,?_⟩⟩
 ·show(if z∈fp then H z else G z)=none;rw[Tv (ha z hz)];exact RL z hz
 ·have kept:∀p∈fp,H2 p=H p:=fun p hp=>by
   obtain⟨u,hu⟩:=q.rep.live p hp;rw[hu];exact st.keep p u hu fun z=>ha p z hp
  have apart:∀p∈Ht,p∉fp:=fun p hp hf=>by
   rcases st.fpn p hp with z|z
   ·exact ha p z hf
   ·obtain⟨u,hu⟩:=q.rep.live p hf;rw[z]at hu;cases hu
  have g3:Same G (fun p=>if p∈fp then none else G2 p):=fun p u e=>by
   show(if p∈fp then none else G2 p)=some u;rw[Tv (fun z=>by rw[q.gn p z]at e;cases e)];exact st.gg p u (hg p u e)
  refine⟨fun p=>if p∈fp then none else G2 p,Ht++fp,⟨g3,fun p u e n=>?_,fun p hp=>?_,fun p u e=>?_,st.there⟩,⟨RepE.append (RepE.clean (fun p u t e=>?_) cl k.rep) (q.rep.step g3 kept),?_,fun p hp=>?_,fun p u e=>?_⟩⟩
  ·exact st.keep p u e fun z=>n (TB _ z)
  ·rcases Ub.mp hp with hp|hp
   ·exact(st.fpn p hp).imp_left (TB _)
   ·exact .inl (Tp _ hp)
  ·have e:(if p∈fp then none else G2 p)=some u:=e;by_cases hp:p∈fp
   ·rw[Tq hp]at e;cases e
   ·rw[Tv hp]at e;rcases st.gnew p u e with z|z|z
    ·have z:(if p∈fp then H p else G p)=some u:=z;rw[Tv hp]at z;exact .inl z
    ·exact .inr (.inl (TB _ z))
    ·exact .inr (.inr z)
  ·show(if p∈fp then none else G2 p)=some u;by_cases hp:p∈fp
   ·exfalso;obtain⟨u',hu,hm⟩:=q.rep.mut p hp;have:=st.gg p u' (hk p hp u' hu);rw[e]at this;cases this;cases u with
    |lst _=>cases t
    |dK _=>cases t
    |dT _=>cases t
    |_=>cases hm
   ·rw[Tv hp];exact e
  ·rw[Ui];exact⟨k.nd,q.nd,fun p hp z hz e=>apart p hp (e▸hz)⟩
  ·show(if p∈fp then none else G2 p)=none;by_cases hf:p∈fp
   ·rw[Tq hf]
   ·rw[Tv hf];rcases Ub.mp hp with hp|hp
    ·exact k.gn p hp
    ·exact absurd hp hf
  ·have e:(if p∈fp then none else G2 p)=some u:=e;by_cases hp:p∈fp
   ·rw[Tq hp]at e;cases e
   ·rw[Tv hp]at e;exact k.gh p u e
 ·have Sw:=hg.trans st.gg;have rf:RepE K G2 H2 (es.map PV.frz) vs []:=q.rep.frz Sw fun p hp u e=>st.gg p u (hk p hp u e)
  have ra:=RepE.append k.rep rf;rw[Uo]at ra;refine⟨G2,Ht,⟨Sw,fun p u e n=>st.keep p u e fun z=>n (TB _ z),fun p hp=>(st.fpn p hp).imp_left (TB _),fun p u e=>?_,st.there⟩,⟨ra,k.nd,k.gn,k.gh⟩⟩;rcases st.gnew p u e with z|z|z
  ·have z:(if p∈fp then H p else G p)=some u:=z;by_cases hp:p∈fp
   ·exact .inr (.inl (Tp _ hp))
   ·rw[Tv hp]at z;exact .inl z
  ·exact .inr (.inl (TB _ z))
  ·exact .inr (.inr z)
end
noncomputable def eFunW(c:O)(F:Addr->List D->Res R)(i:Nat)(fs:FOs):FX:=fun env=>(fs env).bind fun p=>match p.1 with
 | .var j::os=>if j=i then(match p.2[i]? with
  |some (some (ow,d0))=>if mL c ow then(lA (p.2.set i none) os).bind fun ds=>(oK F c d0 ds).bind fun x=>if aT x.1.1 x.1.2&&aT c x.2 then .ok (x.1,(p.2.set i none).set i (some (ow,x.2))) else .ok (x.1,((p.2.set i none).map frz).set i (some (ow,x.2))) else .bad
  |_=>.bad) else .bad
 |_=>.bad
section
variable{X:Cx}{x:Str}{p pos:Pos}{e:Expr}{es:List Expr}{f0:FX}{fs:FOs}
theorem dZ{F:Addr->List D->Res R}{c:O}{i k:Nat}(C:Ct X.prog X.w X.K X.mg X.base x k (spM X.K c F))(hr:Room k X.A)(hg:Gl X x)(ha:LN X (e::es) fs)(JG:(x==("__debug__" : Str))=false:=by decide)
  (he:starEach (e::es) X.env=(false,eval e X.env)::starEach es X.env:=by rfl) (IM:(backTo pos (starEach es X.env)).any (·.1)=false:=by rfl):QE X (.Call (.Name x p) (e::es) [] pos) (eFunW c F i fs):=
 bI (BU C hr hg ha JG he IM) fun σ H Q G0=>by
  obtain⟨G,env,fp,r,env',rel,e,k⟩:=G0;obtain⟨⟨os,e1⟩,ha,e⟩:=aj e;dsimp only at e;split at e
  ·rename_i j Sg;split at e
   ·rename_i hj;subst hj;split at e
    ·rename_i ow d0 hi;split at e
     ·rename_i how;obtain⟨ds,hd,e⟩:=aj e;obtain⟨z,hz,e⟩:=aj e;refine⟨G,env,fp,_,e1,rel,ha,fun vs H1 G1 Hi Hb GP Jw=>?_⟩;show spM X.K c F (vs++[]) H1 Q _;rw[Uo];obtain⟨y,ys,ey,k1,k2⟩:=Jw;obtain⟨v0,a,b,ev,r0,r2,pm⟩:=GP.rep.take hi;have k1:σ[j]?=some (some y):=k1;rw[k1]at ev;cases ev;obtain⟨⟨q,hq⟩,rc,back⟩:=CF how r0;subst hq;have nd:=Ui.mp (pm.nodup_iff.mp GP.nd);have MT:Rel X.K G1 H1 (e1.set j none) σ b:=⟨r2,nd.2.1,fun w hw=>GP.gn w (pm.mem_iff.mpr (Tp _ hw)),GP.gh⟩
      obtain⟨G2,MJ,Of,RQ,I0,Io⟩:=MT.lendM2 a (fun w hw hb=>nd.2.2 w hw w hb rfl) (fun w hw=>GP.gn w (pm.mem_iff.mpr (TB _ hw)));refine⟨G2,q,ys,d0,ds,_,a,Of,ey,rc.step MJ (fun _ _=>rfl),nd.1,RQ,ko MJ I0 k2 hd,xw hz q,fun v H' G' GR st rt=>?_⟩;obtain⟨o',d',p',c',Su,er,rl⟩:=rt;cases er;have fin:∀(ee:PV.Env),ee.length=e1.length->(∃G3 IT,Step G1 H1 (a++b) G3 H' IT/\Rel X.K G3 H' (some z.1::some (.pin q c,z.2)::ee) (some v::some (.ref q)::σ) IT)->(z.1,ee.set j (some (ow,z.2)))=(r,env')->Q v H':=by
       rintro ee hel ⟨G3,IT,Ho,Hu⟩ eee;cases eee;obtain⟨a1,b1,ef,ro,Iy,comb⟩:=Rel.frame Hu;have Ov:Rel X.K G3 H' (some (ow,z.2)::ee) (some (.ref q)::σ) b1:=by
        obtain⟨y2,ys2,ey2,v2,a2,b2,RS,Sy,Ow,Sz⟩:=Iy.rep;cases ey2;cases RS;rw[RepO]at Ow;exact⟨⟨_,_,rfl,_,a2,b2,rfl,Sy,back _ _ _ _ Ow.2,Sz⟩,Iy.nd,Iy.gn,Iy.gh⟩
       obtain⟨fq,MU,RT⟩:=Ov.back (i:=j) (by rw[hel];exact(Tx.mp hi).1) k1;obtain⟨MV,Qb⟩:=comb G3 H' _ _ fq RT MU;rw[<-ef]at Qb;exact k v H' G3 _ (Hb.trans ((Ho.perm (fun w=>pm.mem_iff.symm) (fun w hw=>hw)).trans Qb)) MV
      obtain⟨b1,b2⟩:=Io H' G' GR _ _ st rl;split at e
      ·rename_i Jj;rw[TJ]at Jj;have e:=Res.ok.inj e;refine fin (e1.set j none) (by rw[Up]) (b1 fun w hw=>?_) e;rcases Tw.mp hw with hw|hw
       ·cases hw;exact Jj.1
       ·rw[T9]at hw;cases hw;simp only[aT];exact Jj.2
      ·have e:=Res.ok.inj e;exact fin ((e1.set j none).map frz) (by rw[Tr,Up]) b2 e
     ·cases e
    ·cases e
   ·cases e
  ·cases e
end
theorem vals_pick{xs:List V}{us:List Value}(r:Vals xs us):∀ix:List Nat,Vals (ix.filterMap fun i=>xs[i]?) (ix.filterMap fun i=>us[i]?)
 |[]=>.nil
 |i::ix=>by
  have ih:=vals_pick r ix;cases e:xs[i]? with
  |none=>
   rw[Xz e,Xz (r.none_of e)];exact ih
  |some d=>
   obtain⟨v,e2,rv⟩:=r.get e;rw[XA e,XA e2];exact .cons rv ih
section
variable{X:Cx}{pos:Pos}{fa:FO}
end
section
variable{X:Cx}
end
section
variable{X:Cx}{scope:Scope}{N:List Str}{tg iter elt:Expr}{ifs:List Expr}{pos:Pos}{fi:FI}{a:FG}{c:FT}{f:FX}
theorem vg(ix:List (Option Nat))(N:List Str)(hc:X.calm=true)(hi:MO X tg iter fi)(hg:∀C s H fp pn,QG (bq X scope N C s H fp pn) tg a)(ht:∀C s H fp pn,Og (bq X scope N C s H fp pn) ifs c)(he:∀C s H fp pn,QE (bq X scope N C s H fp pn) elt f)
  (hf:dE scope X.env=true:=by rfl) (hk:scope.kind=.function:=by rfl) (Hd:∀y∈scope.names,y.2=.cell->scope.names.lookup y.1=some .cell:=by decide +kernel) (Hn:∀y∈scope.names,y.2=.local->scope.names.lookup y.1=some .local:=by decide +kernel) (HX:nS X scope N ix=true:=by rfl)
  (hs:∀x,foldedSetIterable iter X.env x=pure x:=by intro _;rfl):QE X (.ListComp elt [⟨tg,iter,ifs,0⟩] scope pos) (bT fi ix a c f):=
 bI (xn (g:=tQG X.K a) (tc:=tQT X.K c) (te:=tQ X.K f) ix N hc hi hg ht he hf hk Hd Hn HX hs) fun _ _ _=>qT
end
end PV
namespace L2
open PySem PySem.Spec PyProof.Rows NX
section
variable{X:Cx}{tg:Expr}
end
end L2
namespace PV
open PySem PySem.Spec PyProof.Rows L2 NX
section
variable{X:Cx}{tg:Expr}
end
abbrev FB:=PV.Env->Bool
section
variable{X:Cx}{st:Stmt}{RC:List Stmt}{g:FS}{x:FB}{Ww:Hp->Prop}{c:FT}{pos np Hs:Pos}{e:Expr}{es:List Expr}{fs:FOs}{C:Addr}{y:Str}
end
abbrev FXE:=PV.Env->Option PV.Env
section
variable{md:Mode}{X:Cx}{x:Str}{p pos:Pos}{e a b:Expr}{es:List Expr}{C:Addr}{F:List D->Bool}{fs:FOs}{k:Nat}{xe:FXE}{b7:List Stmt}
end
section
variable{X:Cx}{x:Str}{p pos:Pos}{e:Expr}{es:List Expr}{fs:FOs}
end
section
variable{X:Cx}{x:Str}{p pos:Pos}{e:Expr}{es:List Expr}{f0:FX}{fs:FOs}
end
end PV
namespace NX
open PySem PySem.Spec PyProof.Rows L2
noncomputable def Pf(o:Obj)(n:Nat)(a:Addr):It:=
 ⟨fun i H=>∃GJ k v,H a=some (.frz o (.dK GJ))/\GJ.length=n/\GJ[i]?=some (k,v),
  fun i H x H'=>H'=H/\∀GJ k v,H a=some (.frz o (.dK GJ))->GJ[i]?=some (k,v)->x=kV k,
  fun i H=>∃GJ,H a=some (.frz o (.dK GJ))/\GJ.length=n/\GJ.length<=i⟩
theorem vh{P:Program}{w:World}{K:W.Frag}{tg:Expr}(o:Obj)(es:Array DictEntry)(ep n:Nat)(a it:Addr)(hd:o.data=.dict es ep):
  Turn P w K tg (Pf o n a) [it] it (fun i h=>h.IsKeyIter it a i n ep) where
 mem:=by simp
 obj:=fun i h st b hb=>by
  have e:b=it:=by simpa using hb
  subst e;obtain⟨o,e,c,d⟩:=st;exact⟨o,e,fun v z=>by rw[d]at z;cases z⟩
 keep:=fun i h h' st k=>by
  obtain⟨o,e,c,d⟩:=st;exact⟨o,k it (by simp) o e,c,d⟩
 item:=by
  intro X hP hw hK hc i pr s σ H E I hf st hg;subst hP hw hK;obtain⟨GJ,k,v,ha,hn,hx⟩:=hg;obtain⟨ho,vs,r,hm⟩:=qU I hd ha;have hl:vs.length=n:=by rw[<-hn];exact r.length.symm
  subst hl;obtain⟨u,hu,ru⟩:=Ex r hx;obtain⟨f0,f1,f2,f3,f4,f5⟩:=hf it (by simp);refine wpAny_pyNext_dict_item st hm hu fun key h' JQ J2 sb=>?_
  have I1:Inv X pr σ H {s with heap:=h'}:=I.turned (t':=s.toks) (fun b o hb e=>(sb.2 b hb).trans e) f0 f1 f3 f4 f5;obtain⟨o',e,c,d⟩:=id J2;exact⟨key,rfl,tm (s:={s with heap:=h'}) e c d (by decide) ⟨kV k,H,I1,Ew JQ,⟨rfl,fun kvs' k' v' h1 h2=>by
   rw[ha]at h1;cases h1;rw[hx]at h2;cases h2;rfl⟩,J2,fun b hb=>(hf b hb).1⟩⟩
 done:=by
  intro X hP hw hK hc i pr s σ H E I hf st hg;subst hP hw hK;obtain⟨GJ,ha,hn,hi⟩:=hg;obtain⟨ho,vs,r,hm⟩:=qU I hd ha;have hl:vs.length=n:=by rw[<-hn];exact r.length.symm
  subst hl;obtain⟨f0,f1,f2,f3,f4,f5⟩:=hf it (by simp);exact wpAny_pyNext_dict_end (I.ok.hd hc) st hm (VE (by lia)) fun h' eb=>⟨rfl,I.turned (t':=s.toks) (fun b o hb e=>eb b o hb e) f0 f1 f3 f4 f5⟩
 self:=fun _ _ _ _ _ st h=>wpAny_pyIter_keyiter st h
def Gp(td:TE):TI:=fun σ H R=>td σ H fun v H1=>∃a o GJ,v=.ref a/\H1 a=some (.frz o (.dK GJ))/\R (Pf o GJ.length a) H1
theorem vm{X:Cx}{l tg:Expr}{td:TE}(hl:PE X l td):PI X tg l (Gp td):=by
 intro pr s σ H R I h;refine Hf (hl pr s σ H _ I h) fun v s1 Hc=>?_
 obtain⟨x,H1,I1,r1,a,o,GJ,ex,ha,q⟩:=Hc;subst ex;cases r1;obtain⟨ho,z,nm,vs,r,o',Ky,NR,g1,ex,dat,b7⟩:=(show ObjOk X.prog X.w H1 s1.heap a (.frz o (.dK GJ)) from I1.hok a _ ha)
 have e:=g1.symm.trans ho;cases e;have Ja:s1.heap.DictAt (mixKind X.prog X.w) a vs NR:=⟨_,Ky,g1,ex,dat,b7⟩
 refine wpAny_pyIter_dict nm Ja ?_;refine⟨s1.heap.objs.size,[s1.heap.objs.size],_,Pf _ GJ.length a,H1,rfl,I1.kept (t':=s1.toks) fun b o e=>Th _ e,vh _ Ky NR GJ.length a _ dat,⟨_,TF _ rfl,rfl,?_⟩,fun b hb=>?_,q⟩
 ·rw[r.length];rfl
 ·have e:b=s1.heap.objs.size:=by simpa using hb
  subst e;exact I1.fpOk (Tz _) (I1.hok.fresh (Tz _))
theorem gQ{X:Cx}{pr:List (Addr×Obj)}{σ:L2.St}{H:Hp}{s:Shared}{a:Addr}{o:Obj}{GJ:List (Key×V)}(I:Inv X pr σ H s)(ha:H a=some (.frz o (.dK GJ)))(h0:∀q u,X.H₀ a≠some (.frz q u)):Inv X pr σ (upd H a (.dK GJ)) s:=by
 have ok:=(show ObjOk X.prog X.w H s.heap a (.frz o (.dK GJ)) from I.hok a _ ha)
 have nn:∀c,H c=none->c≠a:=fun c e z=>by rw[z,ha]at e;cases e
 have nt:∀c xs,H c=some (.tup xs)->c≠a:=fun c xs e z=>by rw[z,ha]at e;cases e
 have nb:∀c ps,H c=some (.tbl ps)->c≠a:=fun c ps e z=>by rw[z,ha]at e;cases e
 have no:∀c b,H c=some (.own b)->c≠a:=fun c b e z=>by rw[z,ha]at e;cases e
 have nf:∀c,H c=none->upd H a (.dK GJ) c=none:=fun c e=>by rw[ak (nn c e)];exact e
 refine⟨I.ok,I.os,I.bare,⟨I.base.keep,I.base.slot,fun b q e n x=>nf b (I.base.free b q e n x),I.base.there,fun b xs e=>?_,fun b q u e=>?_,fun b ps e=>?_⟩,I.loc,I.cell,nf _ I.free,fun x c e=>nf _ (I.freeC x c e),fun p hp=>?_,fun c ob e=>?_,I.len⟩
 ·have h:=I.base.tups b xs e;rw[ak (nt b xs h)];exact h
 ·have:b≠a:=fun z=>h0 q u (z▸e)
  rw[ak this];exact I.base.frzs b q u e
 ·obtain⟨m,h⟩:=I.base.tbls b ps e;exact⟨m,by rw[ak (nb b _ h)];exact h⟩
 ·obtain⟨h1,h2,h3⟩:=I.pin p hp;exact⟨h1,nf _ h2,h3⟩
 ·by_cases ec:c=a
  ·subst ec;rw[az]at e;cases e;exact(show ObjOk X.prog X.w H s.heap c (.dK GJ) from ok.2).stay (fun _ _ _ q=>q) (fun d q=>by rw[ak (no d _ q)];exact q) fun d l q=>by rw[ak (nt d l q)];exact q
  ·rw[ak ec]at e;exact(I.hok c ob e).stay (fun _ _ _ q=>q) (fun d q=>by rw[ak (no d _ q)];exact q) fun d l q=>by rw[ak (nt d l q)];exact q
noncomputable def MW(a:Addr)(o:Obj)(GJ:List (Key×V))(D:Ends):Ends:=
 ⟨fun σ H=>H a=some (.frz o (.dK GJ))/\D.nx σ (upd H a (.dK GJ)),fun v H=>H a=some (.frz o (.dK GJ))/\D.rt v (upd H a (.dK GJ)),fun σ H=>H a=some (.frz o (.dK GJ))/\D.bk σ (upd H a (.dK GJ)),fun σ H=>H a=some (.frz o (.dK GJ))/\D.ct σ (upd H a (.dK GJ))⟩
def Ey(t:TS):TS:=fun D σ H=>∃a GJ,H a=some (.dK GJ)/\∀o,t (MW a o GJ D) σ (upd H a (.frz o (.dK GJ)))
theorem vn{X:Cx}{st:Stmt}{t:TS}(h:PS X st t):PS X st (Ey t):=by
 rintro pr s σ H D I ⟨a,GJ,ha,k⟩;obtain⟨z,nm,vs,r,o,es,ep,g1,b7⟩:=(show ObjOk X.prog X.w H s.heap a (.dK GJ) from I.hok a _ ha)
 have h0:∀q u,X.H₀ a≠some (.frz q u):=fun q u e=>by
  have:=I.base.frzs a q u e;rw[ha]at this;cases this
 refine Hf (h pr s σ _ _ (xx I ha g1) (k o)) fun f s' sp=>?_
 cases f with
 |next=>obtain⟨σ',H',I',e,q⟩:=sp;exact⟨σ',_,gQ I' e h0,q⟩
 |brk=>obtain⟨σ',H',I',e,q⟩:=sp;exact⟨σ',_,gQ I' e h0,q⟩
 |cont=>obtain⟨σ',H',I',e,q⟩:=sp;exact⟨σ',_,gQ I' e h0,q⟩
 |ret u=>obtain⟨v,σ',H',I',rv,e,q⟩:=sp;exact⟨v,σ',_,gQ I' e h0,rv,q⟩
end NX
namespace PV
open PySem PySem.Spec PyProof.Rows L2 NX
section
variable{K:W.Frag}{G H:Hp}{es:PV.Env}{vs:L2.St}{fp:List Addr}
end
noncomputable def sPutP(i:Nat)(fk fv:FX):FS:=fun env=>(fv env).bind fun p=>(fk p.2).bind fun q=>match p.2[i]?,q.2[i]? with
 |some (some _),some (some (.pin pp .d,.dct tk ks vs))=>if gm tk q.1.2&&decide (ks.length<sizeLine) then .ok (.nx (q.2.set i (some (.pin pp .d,.dct tk (uP ks vs q.1.2 p.1.2).1 (uP ks vs q.1.2 p.1.2).2)))) else .bad
 |_,_=>.bad
section
variable{md:Mode}{X:Cx}
end
def cleanE(i:Nat)(env:PV.Env):Bool:=(env.set i none).all fun r=>match r with
 |some r=>aT r.1 r.2
 |none=>true
def oM(i:Nat)(p:Addr)(env:PV.Env):Bool:=match env[i]? with
 |some (some (.pin q .f,_))=>decide (q=p)
 |_=>false
noncomputable def vo(i:Nat)(p:Addr)(d:D):Out->Res Out
 | .nx env=>if oM i p env&&cleanE i env then .ok (.nx (env.set i (some (.pin p .d,d)))) else .bad
 | .rt (.t [o,.pin q .f],.tup [r,_])=>if decide (q=p)&&aT o r then .ok (.rt (.t [o,.pin p .d],.tup [r,d])) else .bad
 |_=>.bad
def pU(i:Nat)(a:FG)(g:FS):FS:=fun env=>match env[i]? with
 |some (some (.pin p .d,.dct false ks vs))=>(eD a g ks (env.set i (some (.pin p .f,.dct false ks vs)))).bind (vo i p (.dct false ks vs))
 |_=>.bad
def off(G:Hp)(p:Addr):Hp:=fun z=>if z=p then none else G z
theorem oN{K:W.Frag}{G H G' H':Hp}{fp Hi GR:List Addr}{p:Addr}{GJ:List (Key×V)}{o:Obj}{es:PV.Env}{σ:L2.St}{i:Nat}{d':D}{vs:List D}(gp:G p=none)(pf:p∈fp)(f1:∀z∈Hi,z∈fp)
  (st:Step (upd G p (.frz o (.dK GJ))) (upd H p (.frz o (.dK GJ))) Hi G' H' GR) (rel:Rel K G' H' es σ GR) (hi:es[i]?=some (some (.pin p .f,d'))) (cl:cleanE i es=true) (hf:∀kv∈GJ,fitK kv.1) (rs:Reps K G vs (GJ.map (·.2))):
  H' p=some (.frz o (.dK GJ))/\∃G2 fz,Step G H fp G2 (upd H' p (.dK GJ)) fz/\Rel K G2 (upd H' p (.dK GJ)) (es.set i (some (.pin p .d,.dct false (GJ.map fun kv=>kD kv.1) vs))) σ fz:=by
 have Ox:G' p=some (.frz o (.dK GJ)):=st.gg p _ az;refine⟨rel.gh p _ Ox,?_⟩;obtain⟨v,fq,ev,g,Hb,_⟩:=rel.out hi;have GV:=st.trans Hb;obtain⟨y,ys,e0,v',a,b,e1,e2,r1,r2⟩:=g.rep;cases e0;cases e1;rw[RepO]at r1;obtain⟨ep,r1⟩:=r1;obtain⟨_,ea⟩:=eU.mp r1;subst ea;subst ep;have e2:fq=b:=e2;subst e2;have np:∀z∈fq,z≠p:=fun z hz e=>by
  have:=g.gn z hz;rw[e,Ox]at this;cases this
 have Oy:(off G' p) p=none:=Tq rfl;have Mh:∀z,z≠p->(off G' p) z=G' z:=fun z h=>Tv h
 have gg:Same G (off G' p):=fun z u e=>by
  have hz:z≠p:=fun h=>by rw[h,gp]at e;cases e
  rw[Mh z hz];exact st.gg z u (by rw[ak hz];exact e)
 have rc:RepE K (off G' p) H' (es.set i none) σ fq:=by
  refine RepE.clean (fun z u t e=>?_) (fun r hr=>?_) r2
  ·have hz:z≠p:=fun h=>by rw[h,Ox]at e;cases e;cases t
   rw[Mh z hz];exact e
  ·have:=Us.mp cl _ hr;exact this
 have GN:Rel K (off G' p) (upd H' p (.dK GJ)) (some (.pin p .d,.dct false (GJ.map fun kv=>kD kv.1) vs)::es.set i none) (some (.ref p)::σ) (p::fq):=by
  refine⟨⟨some (.ref p),σ,rfl,.ref p,[p],fq,rfl,rfl,?_,rc.step (.refl _) fun z hz=>ak (np z hz)⟩,Uu.mpr ⟨fun h=>np p h rfl,g.nd⟩,fun z hz=>?_,fun z u e=>?_⟩
  ·rw[RepO];refine⟨rfl,?_⟩;rw[RepO];exact⟨p,GJ.map (·.2),.dK GJ,rfl,az,⟨GJ,rfl,rfl,rfl,hf⟩,rfl,Reps.mono gg rs⟩
  ·rcases Tw.mp hz with h|h
   ·rw[h];exact Oy
   ·rw[Mh z (np z h)];exact g.gn z h
  ·by_cases hz:z=p
   ·rw[hz,Oy]at e;cases e
   ·rw[Mh z hz]at e;rw[ak hz];exact rel.gh z u e
 have RU:Step G H fp (off G' p) (upd H' p (.dK GJ)) (p::fq):=by
  refine⟨gg,fun z u e n=>?_,fun z hz=>?_,fun z u e=>?_,fun z u e=>?_⟩
  ·have hz:z≠p:=fun h=>n (h▸pf)
   rw[ak hz];exact GV.keep z u (by rw[ak hz];exact e) fun h=>n (f1 z h)
  ·rcases Tw.mp hz with h|h
   ·exact .inl (h▸pf)
   ·rcases GV.fpn z h with h2|h2
    ·exact .inl (f1 z h2)
    ·rw[ak (np z h)]at h2;exact .inr h2
  ·by_cases hz:z=p
   ·rw[hz,Oy]at e;cases e
   ·rw[Mh z hz]at e;rcases GV.gnew z u e with h|h|h|⟨t,h⟩
    ·rw[ak hz]at h;exact .inl h
    ·exact .inr (.inl (f1 z h))
    ·rw[ak hz]at h;exact .inr (.inr (.inl h))
    ·rw[ak hz]at h;exact .inr (.inr (.inr ⟨t,h⟩))
  ·by_cases hz:z=p
   ·exact⟨_,by rw[hz,az]⟩
   ·obtain⟨u',h⟩:=GV.there z u (by rw[ak hz];exact e);exact⟨u',by rw[ak hz];exact h⟩
 obtain⟨fz,g3,Ho⟩:=GN.back (i:=i) (by rw[Up];exact(Tx.mp hi).1) ev;rw[Vs]at g3;exact⟨_,fz,RU.trans Ho,g3⟩
theorem xD{K:W.Frag}{G H:Hp}{fp f1 b0:List Addr}{p:Addr}{GJ:List (Key×V)}{o:Obj}{i:Nat}{vs:List D}{D0:Ends}{r:Res Out}(gp:G p=none)(MB:Step G H fp G H (p::b0))(NJ:∀z∈f1,z∈p::b0)(hf:∀kv∈GJ,fitK kv.1)(rs:Reps K G vs (GJ.map (·.2)))
  (k:OutOk (md:=.mut) K G H fp D0 (r.bind (vo i p (.dct false (GJ.map fun kv=>kD kv.1) vs)))):OutOk (md:=.mut) K (upd G p (.frz o (.dK GJ))) (upd H p (.frz o (.dK GJ))) f1 (MW p o GJ D0) r:=by
 cases r with
 |bad=>exact k
 |exc c=>exact k
 |ok out=>
  have k:OutOk (md:=.mut) K G H fp D0 (vo i p (.dct false (GJ.map fun kv=>kD kv.1) vs) out):=k;unfold vo at k;split at k
  ·rename_i e';split at k
   ·rename_i Jj;rw[TJ]at Jj;obtain⟨h1,h2⟩:=Jj;unfold oM at h1;split at h1
    ·rename_i q' d' hq';rw[T7]at h1;subst h1;intro σ' H' G' GR st rl;obtain⟨z,G2,fz,GV,Qc⟩:=oN (G:=G) (H:=H) (fp:=q'::b0) gp Tg NJ st rl hq' h2 hf rs;exact⟨z,k σ' _ G2 fz (MB.trans GV) Qc⟩
    ·cases h1
   ·exact k.elim
  ·rename_i o' q' r d0 _;split at k
   ·rename_i Jj;rw[TJ,T7]at Jj;obtain⟨h1,h2⟩:=Jj;subst h1;rintro v H' G' GR st ⟨o2,d2,p2,c2,d02,er,rl⟩;cases er;obtain⟨z,G2,fz,GV,Qc⟩:=oN (G:=G) (H:=H) (fp:=q'::b0) (i:=1) gp Tg NJ st rl rfl (by show(List.all [some (o',r),none] _)=true;simp only[VQ,Yj,h2,Ug]) hf rs;exact⟨z,k v _ G2 fz (MB.trans GV) ⟨_,_,_,_,_,rfl,Qc⟩⟩
   ·exact k.elim
  ·exact k.elim
theorem oO{K:W.Frag}{G:Hp}{a:Addr}{o:Obj}{GJ:List (Key×V)}(h:G a=some (.frz o (.dK GJ)))(hf:∀kv∈GJ,fitK kv.1):Walk K G (Pf o GJ.length a) (GJ.map fun kv=>kD kv.1):=by
 intro G' H' es vs fp gg rel i;have h':H' a=some (.frz o (.dK GJ)):=rel.gh _ _ (gg _ _ h);refine⟨fun d hd=>?_,fun e=>⟨GJ,h',rfl,by rw[Tr]at e;lia⟩⟩;rw[TV]at hd;cases hk:GJ[i]? with
 |none=>rw[hk]at hd;cases hd
 |some kv=>
  rw[hk]at hd;cases hd;refine⟨⟨GJ,kv.1,kv.2,h',rfl,hk⟩,fun y H2 ⟨e,hy⟩=>?_⟩;subst e;have:=hy GJ kv.1 kv.2 h' hk;subst this;exact⟨G',yG (hf _ (U7 hk)),rel,.refl⟩
section
variable{X:Cx}
theorem pV{i:Nat}{tg iter:Expr}{body:List Stmt}{a:FG}{g:FS}{pos:Pos}(hp:PassesOwn (model X.prog X.w) X.A X.env X.xe)(hc:X.calm=true)(hn:PE X iter (rR i))(hg:QG X tg a)(hb:LH (md:=.mut) X body g)(hs:∀x,foldedSetIterable iter X.env x=pure x:=by intro _;rfl):
  QS (md:=.mut) X (.For tg iter body [] pos) (pU i a g):=
 eW (vn (tG hp hc (vm hn) hg hb hs)) fun D0 σ H G0=>by
  obtain⟨G,env,fp,rel,k⟩:=G0;unfold pU at k;split at k
  ·rename_i p ks vs hi;obtain⟨v,fq,ev,g1,MB,_⟩:=rel.out hi;obtain⟨y,ys,e0,v',a0,b0,e1,e2,r1,r2⟩:=g1.rep;cases e0;cases e1;rw[RepO]at r1;obtain⟨ep,r1⟩:=r1;subst ep;rw[RepO]at r1;obtain⟨p',xs,o0,Q2,hH,dd,ea,rs⟩:=r1;cases Q2;subst ea;subst e2;obtain⟨GJ,eo,ek,ex,hf⟩:=(show ∃GJ:List (Key×V),o0=.dK GJ/\ks=GJ.map (fun kv=>kD kv.1)/\xs=GJ.map (·.2)/\∀kv∈GJ,fitK kv.1 from dd)
   subst eo ex ek;have nd:=Uu.mp (show(p::b0).Nodup from g1.nd);have gp:G p=none:=g1.gn p Tg;have Qd:∀z∈b0,z≠p:=fun z hz e=>nd.1 (e▸hz)
   refine⟨p,GJ,hH,fun o=>?_⟩;have Qe:Same G (upd G p (.frz o (.dK GJ))):=fun z u e=>by rw[ak (aJ e gp)];exact e
   have Oz:Rel X.K (upd G p (.frz o (.dK GJ))) (upd H p (.frz o (.dK GJ))) (some (.pin p .f,.dct false (GJ.map fun kv=>kD kv.1) vs)::env.set i none) (some (.ref p)::σ) b0:=by
    refine⟨⟨_,_,rfl,.ref p,[],b0,rfl,rfl,?_,r2.step Qe fun z hz=>ak (Qd z hz)⟩,nd.2,fun z hz=>?_,fun z u e=>?_⟩
    ·rw[RepO];refine⟨rfl,eU.mpr ⟨?_,rfl⟩⟩;rw[Rep];exact⟨p,GJ.map (·.2),.dK GJ,rfl,.inr ⟨o,az⟩,⟨GJ,rfl,rfl,rfl,hf⟩,Reps.mono Qe rs⟩
    ·rw[ak (Qd z hz)];exact g1.gn z (Tn _ hz)
    ·by_cases hz:z=p
     ·subst hz;rw[az]at e ⊢;exact e
     ·rw[ak hz]at e ⊢;exact g1.gh z u e
   obtain⟨f1,GP,Hb⟩:=Oz.back (i:=i) (by rw[Up];exact(Tx.mp hi).1) ev;rw[Vs]at GP;have NJ:∀z∈f1,z∈p::b0:=fun z hz=>by
    rcases Hb.fpn z hz with h|h
    ·exact Tn _ h
    ·exfalso;obtain⟨u,hu⟩:=GP.rep.live z hz;rw[h]at hu;cases hu
   refine⟨.ref p,ev,p,o,GJ,rfl,az,?_⟩;have k1:=xD (o:=o) (G:=G) (H:=H) (fp:=fp) gp MB NJ hf rs k;have wk:Walk X.K (upd G p (.frz o (.dK GJ))) (Pf o GJ.length p) (GJ.map fun kv=>kD kv.1):=oO az hf;generalize (GJ.map fun kv=>kD kv.1)=ds at k1 wk GP;refine⟨fun j m σ' H'=>m=ds.length-j/\j<=ds.length/\∃G' env' GR,Same (upd G p (.frz o (.dK GJ))) G'/\Rel X.K G' H' env' σ' GR/\OutOk (md:=.mut) X.K G' H' GR (MW p o GJ D0) (eD a g (ds.drop j) env'),⟨_,rfl,Ut _,_,_,f1,.refl _,GP,k1⟩,?_⟩;rintro j m σ2 H2 ⟨rfl,hj,G2,GY,Ht,gg,GN,k2⟩;obtain⟨w1,w2⟩:=wk G2 H2 _ _ _ gg GN j;by_cases Hx:j<ds.length
   ·have hd:ds[j]?=some ds[j]:=Tj Hx;obtain⟨go,yl⟩:=w1 _ hd;rw[Ur Hx]at k2;refine .inr ⟨go,fun σ' H'=>∃G' env' GR,Same (upd G p (.frz o (.dK GJ))) G'/\Rel X.K G' H' env' σ' GR/\OutOk (md:=.mut) X.K G' H' GR (MW p o GJ D0) (eD a g (ds.drop (j+1)) env'),fun σ' H' z=>⟨ds.length-(j+1),by lia,rfl,Hx,z⟩,fun x H3 y=>?_⟩;obtain⟨G3,rx,Hu,Ho⟩:=yl x H3 y;unfold eD at k2;match q3:a ds[j] GY,k2 with
    | .ok HC,k2=>
     refine⟨G3,GY,Ht,ds[j],HC,Hu,rx,q3,fun σ4 G4 PX Ia IA=>⟨G4,HC,PX,IA,?_⟩⟩;have k3:OutOk (md:=.mut) X.K G2 H2 Ht (MW p o GJ D0) ((g HC).bind fun o=>match o with | .nx e=>eD a g (ds.drop (j+1)) e | .ct e=>eD a g (ds.drop (j+1)) e | .bk e=>.ok (.nx e) | .rt r=>.ok (.rt r)):=k2;match q4:g HC,k3 with
     | .ok (.nx e),k3=>exact fun σ' H' G' GR st rel=>⟨G',e,GR,gg.trans (Ho.gg.trans (Ia.gg.trans st.gg)),rel,OutOk.after (Ho.trans (Ia.trans st)) k3⟩
     | .ok (.ct e),k3=>exact fun σ' H' G' GR st rel=>⟨G',e,GR,gg.trans (Ho.gg.trans (Ia.gg.trans st.gg)),rel,OutOk.after (Ho.trans (Ia.trans st)) k3⟩
     | .ok (.bk e),k3=>exact fun σ' H' G' GR st rel=>k3 σ' H' G' GR (Ho.trans (Ia.trans st)) rel
     | .ok (.rt r),k3=>exact fun v H' G' GR st rel=>k3 v H' G' GR (Ho.trans (Ia.trans st)) rel
   ·have e:j=ds.length:=by lia
    subst e;rw[Wn]at k2;exact .inl ⟨w2 rfl,k2 σ2 H2 G2 Ht .refl GN⟩
  ·exact k.elim
end
end PV
namespace NX
open PySem PySem.Spec PyProof.Rows L2
section
variable{X:Cx}
def Ap:V->List V->Hp->VK->Prop:=fun x vs H Q=>∃l xs y k,x=.ref l/\vs=[.int k,y]/\H l=some (.lst xs)/\xs.length<sizeLine/\(0<=k/\k.toNat<=xs.length)/\Q .non (upd H l (.lst (xs.take k.toNat++y::xs.drop k.toNat)))
theorem jo:∀{vs:List V}{us:List Value},Vals vs us->∀k:Nat,Vals (vs.take k) (us.take k)/\Vals (vs.drop k) (us.drop k)
 |_,_,.nil,k=>⟨by rw[XI,XI];exact .nil,by rw[YT,YT];exact .nil⟩
 |_,_,.cons h r,0=>⟨.nil,.cons h r⟩
 |_,_,.cons h r,k+1=>⟨.cons h (jo r k).1,(jo r k).2⟩
theorem vp:MtM X "list.insert" Ap:=by
 intro pr s σ H x vs v us Q I rx rv h;obtain⟨l,xs,y,k,rfl,rfl,hH,hz,hk,q⟩:=h;cases rx;obtain⟨u1,u,rfl,r1,ru⟩:=rv.two;obtain⟨t,rfl⟩:=r1;obtain⟨z,GO,n,r,hl,e⟩:=I.lstM hH;have Kr:GO.length=xs.length:=by have:=r.length;lia
 have hf:¬ (!Builtin.List.listFitsIndex k)=true:=by
  have Li:k.toNat<9223372036854775808:=U5 hk.2 (Ts hz (by rw[UB];decide));have:Builtin.List.listFitsIndex k=true:=by
   unfold Builtin.List.listFitsIndex;rw[TJ,T7,T7];lia
  rw[this];exact TC
 have hsz:GO.toArray.size<=sizeLine:=by rw[To];lia
 refine VY F.slot_list_insert ⟨_,e,rfl⟩ F.entry_list_insert (F.args_list_insert_3 _ _ _) (PySem.AutoSeq1.list_insert_list_int_val_1 l GO.toArray n k t u hf hsz) ⟨e,?_⟩;obtain⟨t1,t2⟩:=jo r k.toNat
 refine⟨.non,_,I.lset (its':=GO.take k.toNat++u::GO.drop k.toNat) hH e ?_ (t1.append (.cons ru t2)) ?_,rfl,q⟩
 ·dsimp only;rw[Tv (by lia),To,Yk (by lia)];apply Array.ext';simp;exact Ux (by rw[UY];lia)
 ·rw[Uz,TK,UC,UY];lia
end
end NX
namespace PV
open PySem PySem.Spec PyProof.Rows L2 NX
noncomputable def eIns(i:Nat)(f g:FX):FX:=fun env=>if isLst env i then(f env).bind fun p=>(g p.2).bind fun q=>match q.2[i]?,p.1.2 with
 |some (some (.l .f,.lst ds)),.int k=>if ds.length<sizeLine/\0<=k/\k.toNat<=ds.length then .ok ((.f,.non),q.2.set i (some (.l .f,.lst (ds.take k.toNat++q.1.2::ds.drop k.toNat)))) else .bad
 |_,_=>.bad
 else .bad
section
variable{X:Cx}
theorem vx{i:Nat}{o a e:Expr}{f g:FX}{apos Hs:Pos}(ho:PE X o (rR i))(ha:QE X a f)(he:QE X e g)
  (IY:attributeBase o "insert" X.env (eval o X.env)=eval o X.env:=by rfl)
  (L0:((backTo Hs (starEach [a,e] X.env)).all (fun x=>!x.1)&&(backToKw Hs (keywordEach [] X.env)).all (fun x=>x.1.isSome)&&decide ([a,e].length+([]:List Keyword).length+(if([]:List Keyword).isEmpty then 0 else 1)<30))=true:=by rfl)
  (IZ:(apos.endLine==Hs.line)=true:=by rfl) (hs:starEach [a,e] X.env=(false,eval a X.env)::starEach [e] X.env:=by rfl) (Pc:starEach [e] X.env=(false,eval e X.env)::starEach [] X.env:=by rfl) (JI:(backTo Hs (starEach [e] X.env)).any (·.1)=false:=by rfl):
  QE X (.Call (.Attribute o "insert" apos) [a,e] [] Hs) (eIns i f g):=by
 refine bI (BN WB PySem.F.slot_list_insert PySem.F.type_list_insert vp ho (aH ha (aH he aQ Pc) hs) IY L0 IZ hs JI) fun σ H Q Hc=>?_
 obtain⟨G,env,fp,r,env',rel,e,k⟩:=Hc;unfold eIns at e;split at e
 ·rename_i hil;obtain⟨v,ev,ty⟩:=qQ rel hil;obtain⟨⟨r1,GL⟩,e1,e⟩:=aj e;obtain⟨⟨r2,GY⟩,e2,e⟩:=aj e;dsimp only at e e2;split at e
  ·rename_i ds kk LZ LG;split at e
   ·rename_i hl;cases e;refine⟨v,ev,ty,G,env,fp,[r1.2,r2.2],GY,rel,by show(f env).bind _=_;rw[e1];show((g GL).bind _).bind _=_;rw[e2];rfl,fun vs H1 G1 Hi Hb GP rs=>?_⟩;rw[Reps]at rs;obtain⟨y1,ys1,eys1,SA,rs⟩:=rs;rw[Reps]at rs;obtain⟨y,ys,RG,ry,rn⟩:=rs;rw[Reps]at rn;subst rn RG;rw[LG]at SA;have hz:=bJ SA;obtain⟨p,xs,ep,hp,LI,cg⟩:=GP.chg (ds':=ds.take kk.toNat++r2.2::ds.drop kk.toNat) LZ;rw[ev]at ep;cases ep;obtain⟨fq,GN,GV⟩:=cg (xs.take kk.toNat++y::xs.drop kk.toNat) ((LI.take _).app (.cons ry (LI.drop _)));exact⟨p,xs,y,kk,rfl,by rw[eys1,hz],hp,by rw[LI.length];exact hl.1,⟨hl.2.1,by rw[LI.length];exact hl.2.2⟩,k _ _ G1 fq (Hb.trans GV) (GN.push mx)⟩
   ·cases e
  ·cases e
 ·cases e
end
inductive BExp where
 |con (b:Bool)|var (j:Nat)|not (x:BExp)|and (x y:BExp)
section
variable{X:Cx}{a:Addr}{o:Obj}{i:Nat}{e b:Expr}{b7:List Expr}{x y:BExp}{pos p q:Pos}{n:Str}
inductive Cls(mg:Str->Option Value):List Expr->List Addr->Prop
 |nil:Cls mg [] []
 |cons {x:Str}{p:Pos}{es:List Expr}{c:Addr}{cs:List Addr}:mg x=some (.ref c)->Cls mg es cs->Cls mg (.Name x p::es) (c::cs)
variable{C:Addr}{vs:Array Value}
end
section
variable{md:Mode}{X:Cx}{x:Str}{pos:Pos}{C:Addr}{xe:FXE}
end
end PV
namespace PV
open PySem PySem.Spec L2 NX
section
variable{X:Cx}
def sJ(ds:List D):List D:=ds.zipIdx.map fun z=>D.tup [.int (z.2:Int),z.1]
def qV(k:Bool)(fs:FOs):FI:=fun env=>(fs env).bind fun p=>match p.1 with
 |[.val d]=>(iC k d).bind fun a=>.ok (sJ a,p.2)
 |_=>.bad
theorem vy{K:W.Frag}{G:Hp}{k:Bool}{p1:Addr}{xs:List V}{as:List D}(s1:if k then SqL K G p1 xs else SqT K G p1 xs)(r1:Reps K G as xs):Walk K G (RB K k p1) (sJ as):=by
 intro G' H' es vs fp gg rel i;have g1:=jm (gg.trans rel.gh) s1;refine⟨fun d hd=>?_,fun e=>⟨xs,g1,?_⟩⟩
 ·unfold sJ at hd;rw[TV,List.getElem?_zipIdx]at hd;cases hz:as[i]? with
  |none=>rw[hz]at hd;cases hd
  |some z=>
   rw[hz]at hd;have hd:D.tup [.int ((0+i:Nat):Int),z]=d:=Ud hd;rw[Yl]at hd;subst hd;obtain⟨x,hx,rx⟩:=r1.get hz;refine⟨⟨xs,x,g1,hx⟩,fun v H2 ⟨T,hT,ev,hh⟩=>?_⟩;have e2:=hh xs x g1 hx;subst e2;obtain⟨GN,GV⟩:=rel.newF (u:=.tup [.int (i:Int),x]) hT;refine⟨_,?_,GN,GV⟩;rw[Rep];exact⟨T,[.int (i:Int),x],ev,az,.cons (by rw[Rep]) (.one (Rep.mono (gg.trans GV.gg) rx))⟩
 ·unfold sJ at e;rw[Tr,YU]at e;rw[r1.length];exact e
theorem vz(k:Bool){KC:List Expr}{kt:Nat}{pt:Pos}{e1:Expr}{fs:FOs}{p pos:Pos}(hg:Gl X "enumerate")(hm:X.mg "enumerate" = none)(ha:LN X [e1] fs)(he:starEach [e1] X.env=[(false,eval e1 X.env)]:=by rfl):
  QI X (.Tuple KC kt pt) (.Call (.Name "enumerate" p) [e1] [] pos) (qV k fs):=
 jz (z6 k hg hm ha he) fun σ H R G0=>by
  obtain⟨G,env,fp,ds,env',rel,e,kk⟩:=G0;obtain⟨⟨o,GL⟩,e1,e⟩:=aj e;dsimp only at e;split at e
  ·rename_i d1;obtain⟨a,ea,e⟩:=aj e;cases e;refine⟨G,env,fp,_,_,rel,e1,fun vs H1 G1 Hi Hb GP Jw=>?_⟩;obtain⟨y,ys,ev,v1,e3⟩:=Jw;have e3:ys=[]:=e3;subst e3;obtain⟨p1,RE,RF,q1,r1⟩:=my ea v1;subst RF;exact⟨p1,RE,ev,jm GP.gh q1,kk _ H1 G1 Hi Hb GP (vy q1 r1)⟩
  ·cases e
def jH(fs:FOs):FI:=HD (qV true fs) (qV false fs)
theorem mN{KC:List Expr}{kt:Nat}{pt:Pos}{e1:Expr}{fs:FOs}{p pos:Pos}(hg:Gl X "enumerate")(hm:X.mg "enumerate" = none)(ha:LN X [e1] fs)(he:starEach [e1] X.env=[(false,eval e1 X.env)]:=by rfl):
  QI X (.Tuple KC kt pt) (.Call (.Name "enumerate" p) [e1] [] pos) (jH fs):=sy (vz true hg hm ha he) (vz false hg hm ha he)
end
end PV
namespace PV
open PySem PySem.Spec PyProof.Rows L2 NX
section
variable{K:W.Frag}{G H:Hp}
theorem AllO.length{P:D->V->List Addr->Prop}:∀{ds:List D}{xs:List V}{fp:List Addr},AllO P ds xs fp->xs.length=ds.length
 |[],xs,fp,r=>by
  rw[r.1];rfl
 |d'::ds,xs,fp,r=>by
  obtain⟨y,ys,a1,b1,e1,e2,p,r⟩:=r;subst e1;rw[TK,TK,r.length]
end
section
variable{md:Mode}{X:Cx}{scope:Scope}{N:List Str}{tg iter elt:Expr}{ifs:List Expr}{pos:Pos}{fi:FI}{a:FG}{c:FT}{f:FX}
end
section
variable{X:Cx}{x:Str}{p pos NV:Pos}{e1 e2 e3:Expr}{fo:FO}{fb:FX}
end
section
variable{X:Cx}{x:Str}{p pos p1 p2 q1 q2:Pos}{o o':Expr}{j1 j2:_}
end
section
variable{K:W.Frag}{G H:Hp}
end
section
variable{X:Cx}{a b:Expr}{fa fb:FX}{pos:Pos}
end
section
variable{K:W.Frag}{G H:Hp}
end
section
variable{X:Cx}
end
section
variable{X:Cx}
def Ez(f:FX):FX:=fun env=>(f (env.map frz)).bind fun p=>.ok (p.1,if aT p.1.1 p.1.2 then env else env.map frz)
def Aq(f:FT):FT:=fun env=>(f (env.map frz)).bind fun p=>.ok (p.1,env)
theorem EA{e:Expr}{f:FX}(h:QE X e f):QE X e (Ez f):=bI h fun σ H Q G0=>by
 obtain⟨G,env,fp,r,env',rel,e,k⟩:=G0;obtain⟨⟨r1,GL⟩,e1,e⟩:=aj e;obtain⟨G1,g1,RV,I0,hE,Io⟩:=rel.lend;refine⟨G1,env.map frz,[],r1,GL,⟨hE,VZ,(fun _ h=>nomatch h),RV⟩,e1,fun v H' G' GR st Hy=>?_⟩;obtain⟨a,Mf,P5⟩:=Hy.only;obtain⟨k1,k2⟩:=Io H' G' a r1 v (st.trans P5) Mf;have e:Res.ok (r1,if aT r1.1 r1.2 then env else env.map frz)=.ok (r,env'):=e;by_cases hc:aT r1.1 r1.2=true
 ·rw[Tq hc]at e;cases e;obtain⟨G6,MA,MP,Kp⟩:=k1 hc;exact k v H' G6 MA MP Kp
 ·rw[Tv hc]at e;cases e;obtain⟨G6,MA,MP,Kp⟩:=k2;exact k v H' G6 MA MP Kp
theorem Ar{e:Expr}{f:FT}(h:QT X e f):QT X e (Aq f):=oh h fun σ H Q G0=>by
 obtain⟨G,env,fp,b,env',rel,e,k⟩:=G0;obtain⟨⟨b1,GL⟩,e1,e⟩:=aj e;cases e;obtain⟨G1,g1,RV,I0,hE,Io⟩:=rel.lend;refine⟨G1,env.map frz,[],b1,GL,⟨hE,VZ,(fun _ h=>nomatch h),RV⟩,e1,fun H' G' GR st Hy=>?_⟩;have rl:Rel X.K G' H' [some (.f,.bl b1)] [some (.bl b1)] []:=(Hy.nilF).push (by rw[Rep]);obtain⟨k1,_⟩:=Io H' G' [] (.f,.bl b1) (.bl b1) (st.trans (Step.cut fun _ h=>nomatch h)) rl;obtain⟨G6,MA,MP,Kp⟩:=k1 rfl;obtain⟨bb,K6,P4⟩:=Kp.drop;exact k H' G6 bb (MP.trans P4) K6
end
section
variable{K:W.Frag}{G H:Hp}
end
section
variable{X:Cx}{a b:Expr}{fa fb:FX}{pos:Pos}
end
section
variable{md:Mode}{X:Cx}{pos NV:Pos}
end
section
variable{X:Cx}{C:Addr}{pos:Pos}{b7 a b:List Stmt}{ct:Expr}
end
section
variable{X:Cx}{x y:Str}{p pos pos' Hs:Pos}{e:Expr}{es:List Expr}{C:Addr}{F:List D->Bool}{fs:FOs}{k:Nat}{b7:List Stmt}{Ww:Hp->Prop}
end
section
variable{X:Cx}{a:Addr}{i j jc:Nat}{x1 x2:BExp}{e1 e2 vc:Expr}{n nc:Str}{pos pos1 Jz pos' pos'' bp p:Pos}
end
section
variable{md:Mode}{X:Cx}{x:Str}{pos:Pos}{C:Addr}{xe:FXE}
end
section
variable{X:Cx}
end
section
variable{K:W.Frag}{G H:Hp}
end
section
variable{X:Cx}{pos:Pos}
end
section
variable{X:Cx}
theorem CI{i:Int}(h:i.natAbs<2 ^ 1000):i.natAbs.log2<=1000:=by
 rcases YV i.natAbs with e|e
 ·rw[e];decide
 ·exact Xi ((Nat.log2_lt (V4 e)).mpr h)
theorem CJ{i j:Int}(h:j.natAbs<2 ^ 1000):Builtin.divisionGoesByPylong i j=false:=PyProof.noPylong_of_log2 (by have:=CI h;lia)
theorem xE:HG X (binaryOp .FloorDiv) (rI (fun _ j=>j≠0/\j.natAbs<2 ^ 1000) fun i j=>.int (i.fdiv j)):=O6 fun _ _ _ _ _ _ _ hc q=>floordiv_int hc.1 q (.inl (CJ hc.2))
def mO:D->D->Res R
 | .int i,.int j=>if j≠0/\j.natAbs<2 ^ 1000 then .ok (.f,.int (i.fdiv j)) else .bad
 |_,_=>.bad
theorem mP:HG X (binaryOp .FloorDiv) (rG X.K mO):=by
 rintro pr s σ H x y v u Q I rx ry ⟨G,fp,es,vs,a,b,r,⟨rel,k⟩,va,vb,e⟩;unfold mO at e;split at e
 ·rename_i i j;split at e
  ·rename_i hc;cases e;cases bx va;cases bx vb;exact xE pr s σ H _ _ v u Q I rx ry ⟨i,j,rfl,rfl,hc,k _ H G fp .refl (rel.push (rep_int _))⟩
  ·cases e
 ·cases e
def CK:D->D->Res R
 | .int i,.int j=>if j≠0 then .ok (.f,.int (i.fmod j)) else .bad
 |_,_=>.bad
theorem As:HG X (binaryOp .Mod) (rG X.K CK):=by
 rintro pr s σ H x y v u Q I rx ry ⟨G,fp,es,vs,a,b,r,⟨rel,k⟩,va,vb,e⟩;unfold CK at e;split at e
 ·rename_i i j;split at e
  ·rename_i hc;cases e;cases bx va;cases bx vb;exact zk pr s σ H _ _ v u Q I rx ry ⟨i,j,rfl,rfl,hc,k _ H G fp .refl (rel.push (rep_int _))⟩
  ·cases e
 ·cases e
end
section
variable{md:Mode}{X:Cx}{scope:Scope}{N:List Str}{tg iter elt:Expr}{ifs:List Expr}{pos:Pos}{fi:FI}{a:FG}{c:FT}{f:FX}
variable{l e:Expr}{g fj:FI}
theorem vA{i:Nat}{y:Str}{py JM:Pos}(ix:List (Option Nat))(N:List Str)(hN:X.N.Nodup)(N6:X.N[i]?=some y)(hy:Loc X.env.scope y)(hc:X.calm=true)(hi:MO X tg iter fi)(hg:∀C s H fp pn,QG (bq X scope N C s H fp pn) tg a)(ht:∀C s H fp pn,Og (bq X scope N C s H fp pn) ifs c)
  (he:∀C s H fp pn,QE (bq X scope N C s H fp pn) elt f) (N7:swapsWith (.ListComp elt [⟨tg,iter,ifs,0⟩] scope pos) (some (.Name y py)) JM.line X.env=pure true:=by rfl)
  (hf:dE scope X.env=true:=by rfl) (hk:scope.kind=.function:=by rfl) (Hd:∀y∈scope.names,y.2=.cell->scope.names.lookup y.1=some .cell:=by decide +kernel) (Hn:∀y∈scope.names,y.2=.local->scope.names.lookup y.1=some .local:=by decide +kernel) (HX:nS X scope N ix=true:=by rfl)
  (hs:∀x,foldedSetIterable iter X.env x=pure x:=by intro _;rfl) (LS:X.fn y=true\/X.env.scope.names.lookup y=some .local:=by first|exact .inl rfl|exact .inr rfl):
  QS (md:=md) X (.Assign [.Name y py] (.ListComp elt [⟨tg,iter,ifs,0⟩] scope pos) JM) (cp i (bT fi ix a c f)):=
 eW (xo (i:=i) (g:=tQG X.K a) (tc:=tQT X.K c) (te:=tQ X.K f) ix N hN N6 hy hc hi hg ht he N7 hf hk Hd Hn HX hs LS) fun D σ H ⟨G,env,fp,rel,k⟩=>qT (pL rel k)
end
open Classical in
def Au(f:Addr->Res Out):Res Out:=if h:∃r,∀p,f p=r then h.choose else .bad
theorem Av{f:Addr->Res Out}{r:Res Out}(h:∀p,f p=r):Au f=r:=by
 have ex:∃r,∀p,f p=r:=⟨r,h⟩
 unfold Au;rw[dif_pos ex];exact(ex.choose_spec 0).symm.trans (h 0)
theorem Aw(f:Addr->Res Out):Au f=.bad\/∀p,Au f=f p:=by
 by_cases ex:∃r,∀p,f p=r
 ·right;intro p;unfold Au;rw[dif_pos ex];exact(ex.choose_spec p).symm
 ·left;unfold Au;rw[dif_neg ex]
mutual
noncomputable def noD:D->Bool
 | .tup ds=>vB ds
 | .lst ds=>vB ds
 | .dct _ _ _=>false
 |_=>true
noncomputable def vB:List D->Bool
 |[]=>true
 |d::ds=>noD d&&vB ds
end
def noFD:HO->Bool
 | .frz _ (.dK _)=>false
 |_=>true
def okO(o:O)(d:D):Bool:=match o,d with
 | .f,d=>noD d
 | .l .f,.lst ds=>vB ds
 | .d,.dct _ _ vs=>vB vs
 |_,_=>false
def oP(i:Nat)(env:PV.Env):Bool:=(env.set i none).all fun r=>match r with
 |some r=>okO r.1 r.2
 |none=>true
section
variable{K:W.Frag}{H G2 G3:Hp}
theorem Rd.noFD{a:Addr}{u:HO}(h:∀p u,PV.noFD u=true->G2 p=some u->G3 p=some u)(hu:∀o,PV.noFD (.frz o u)=true)(KZ:PV.noFD u=true)(r:Rd G2 a u):Rd G3 a u:=by
 rcases r with r|⟨o,r⟩
 ·exact .inl (h _ _ KZ r)
 ·exact .inr ⟨o,h _ _ (hu o) r⟩
mutual
theorem Rep.noD(h:∀p u,PV.noFD u=true->G2 p=some u->G3 p=some u):∀{d:D}{v:V},PV.noD d=true->Rep K G2 d v->Rep K G3 d v
 | .non,_,_,r=>by simpa only[Rep] using r
 | .bl _,_,_,r=>by simpa only[Rep] using r
 | .int _,_,_,r=>by simpa only[Rep] using r
 | .str _,_,_,r=>by simpa only[Rep] using r
 | .tup ds,_,e,r=>by
  simp only[Rep]at r ⊢;rw[PV.noD]at e;obtain⟨p,xs,ev,hp,rs⟩:=r;exact⟨p,xs,ev,h _ _ rfl hp,Reps.noD h e rs⟩
 | .lst ds,_,e,r=>by
  simp only[Rep]at r ⊢;rw[PV.noD]at e;obtain⟨p,xs,ev,hp,rs⟩:=r;refine⟨p,xs,ev,?_,Reps.noD h e rs⟩;rcases hp with hp|hp
  ·exact .inl (Rd.noFD h (fun _=>rfl) rfl hp)
  ·exact .inr hp
 | .dct _ _ _,_,e,_=>by
  rw[PV.noD]at e;cases e
theorem Reps.noD(h:∀p u,PV.noFD u=true->G2 p=some u->G3 p=some u):∀{ds:List D}{xs:List V},PV.vB ds=true->Reps K G2 ds xs->Reps K G3 ds xs
 |[],_,_,r=>by simpa only[Reps] using r
 |d::ds,_,e,r=>by
  simp only[Reps]at r ⊢;rw[PV.vB,TJ]at e;obtain⟨y,ys,ev,r1,r2⟩:=r;exact⟨y,ys,ev,Rep.noD h e.1 r1,Reps.noD h e.2 r2⟩
end
theorem RepO.okO(h:∀p u,PV.noFD u=true->G2 p=some u->G3 p=some u){o:O}{d:D}{v:V}{a:List Addr}(e:PV.okO o d=true)(r:RepO K G2 H o d v a):RepO K G3 H o d v a:=by
 unfold PV.okO at e;split at e
 ·obtain⟨r1,r2⟩:=eU.mp r;exact eU.mpr ⟨Rep.noD h e r1,r2⟩
 ·obtain⟨p,xs,ev,hp,ea,rs⟩:=dR.mp r;exact dR.mpr ⟨p,xs,ev,hp,ea,Reps.noD h e rs⟩
 ·rw[RepO]at r ⊢;obtain⟨p,xs,o,ev,hp,dd,ea,rs⟩:=r;exact⟨p,xs,o,ev,hp,dd,ea,Reps.noD h e rs⟩
 ·cases e
theorem RepE.okO(h:∀p u,PV.noFD u=true->G2 p=some u->G3 p=some u):∀{es:PV.Env}{vs:L2.St}{a:List Addr},(∀r,some r∈es->PV.okO r.1 r.2=true)->RepE K G2 H es vs a->RepE K G3 H es vs a
 |[],_,_,_,r=>r
 |none::es,vs,a,hc,r=>by
  obtain⟨y,ys,e,r⟩:=r;exact⟨y,ys,e,RepE.okO h (fun r hr=>hc r (Tn _ hr)) r⟩
 |some x::es,vs,a,hc,r=>by
  obtain⟨y,ys,e,v,a1,b1,e1,e2,r1,r2⟩:=r;exact⟨y,ys,e,v,a1,b1,e1,e2,r1.okO h (hc x Tg),RepE.okO h (fun r hr=>hc r (Tn _ hr)) r2⟩
end
theorem loan_backO{K:W.Frag}{G H G' H':Hp}{fp Hi GR:List Addr}{p:Addr}{GJ:List (Key×V)}{o:Obj}{es:PV.Env}{σ:L2.St}{i:Nat}{d':D}{vs:List D}(gp:G p=none)(pf:p∈fp)(f1:∀z∈Hi,z∈fp)
  (st:Step (upd G p (.frz o (.dK GJ))) (upd H p (.frz o (.dK GJ))) Hi G' H' GR) (rel:Rel K G' H' es σ GR) (hi:es[i]?=some (some (.pin p .f,d'))) (cl:oP i es=true) (hf:∀kv∈GJ,fitK kv.1) (rs:Reps K G vs (GJ.map (·.2))):
  H' p=some (.frz o (.dK GJ))/\∃G2 fz,Step G H fp G2 (upd H' p (.dK GJ)) fz/\Rel K G2 (upd H' p (.dK GJ)) (es.set i (some (.pin p .d,.dct false (GJ.map fun kv=>kD kv.1) vs))) σ fz:=by
 have Ox:G' p=some (.frz o (.dK GJ)):=st.gg p _ az;refine⟨rel.gh p _ Ox,?_⟩;obtain⟨v,fq,ev,g,Hb,_⟩:=rel.out hi;have GV:=st.trans Hb;obtain⟨y,ys,e0,v',a,b,e1,e2,r1,r2⟩:=g.rep;cases e0;cases e1;rw[RepO]at r1;obtain⟨ep,r1⟩:=r1;obtain⟨_,ea⟩:=eU.mp r1;subst ea;subst ep;have e2:fq=b:=e2;subst e2;have np:∀z∈fq,z≠p:=fun z hz e=>by
  have:=g.gn z hz;rw[e,Ox]at this;cases this
 have Oy:(off G' p) p=none:=Tq rfl;have Mh:∀z,z≠p->(off G' p) z=G' z:=fun z h=>Tv h
 have gg:Same G (off G' p):=fun z u e=>by
  have hz:z≠p:=fun h=>by rw[h,gp]at e;cases e
  rw[Mh z hz];exact st.gg z u (by rw[ak hz];exact e)
 have rc:RepE K (off G' p) H' (es.set i none) σ fq:=by
  refine RepE.okO (fun z u t e=>?_) (fun r hr=>?_) r2
  ·have hz:z≠p:=fun h=>by rw[h,Ox]at e;cases e;cases t
   rw[Mh z hz];exact e
  ·have:=Us.mp cl _ hr;exact this
 have GN:Rel K (off G' p) (upd H' p (.dK GJ)) (some (.pin p .d,.dct false (GJ.map fun kv=>kD kv.1) vs)::es.set i none) (some (.ref p)::σ) (p::fq):=by
  refine⟨⟨some (.ref p),σ,rfl,.ref p,[p],fq,rfl,rfl,?_,rc.step (.refl _) fun z hz=>ak (np z hz)⟩,Uu.mpr ⟨fun h=>np p h rfl,g.nd⟩,fun z hz=>?_,fun z u e=>?_⟩
  ·rw[RepO];refine⟨rfl,?_⟩;rw[RepO];exact⟨p,GJ.map (·.2),.dK GJ,rfl,az,⟨GJ,rfl,rfl,rfl,hf⟩,rfl,Reps.mono gg rs⟩
  ·rcases Tw.mp hz with h|h
   ·rw[h];exact Oy
   ·rw[Mh z (np z h)];exact g.gn z h
  ·by_cases hz:z=p
   ·rw[hz,Oy]at e;cases e
   ·rw[Mh z hz]at e;rw[ak hz];exact rel.gh z u e
 have RU:Step G H fp (off G' p) (upd H' p (.dK GJ)) (p::fq):=by
  refine⟨gg,fun z u e n=>?_,fun z hz=>?_,fun z u e=>?_,fun z u e=>?_⟩
  ·have hz:z≠p:=fun h=>n (h▸pf)
   rw[ak hz];exact GV.keep z u (by rw[ak hz];exact e) fun h=>n (f1 z h)
  ·rcases Tw.mp hz with h|h
   ·exact .inl (h▸pf)
   ·rcases GV.fpn z h with h2|h2
    ·exact .inl (f1 z h2)
    ·rw[ak (np z h)]at h2;exact .inr h2
  ·by_cases hz:z=p
   ·rw[hz,Oy]at e;cases e
   ·rw[Mh z hz]at e;rcases GV.gnew z u e with h|h|h|⟨t,h⟩
    ·rw[ak hz]at h;exact .inl h
    ·exact .inr (.inl (f1 z h))
    ·rw[ak hz]at h;exact .inr (.inr (.inl h))
    ·rw[ak hz]at h;exact .inr (.inr (.inr ⟨t,h⟩))
  ·by_cases hz:z=p
   ·exact⟨_,by rw[hz,az]⟩
   ·obtain⟨u',h⟩:=GV.there z u (by rw[ak hz];exact e);exact⟨u',by rw[ak hz];exact h⟩
 obtain⟨fz,g3,Ho⟩:=GN.back (i:=i) (by rw[Up];exact(Tx.mp hi).1) ev;rw[Vs]at g3;exact⟨_,fz,RU.trans Ho,g3⟩
def vC(i:Nat)(p:Addr)(d:D):Out->Res Out
 | .nx env=>if oM i p env&&oP i env then .ok (.nx (env.set i (some (.d,d)))) else .bad
 |_=>.bad
def vD(i:Nat)(a:FG)(g:FS):FS:=fun env=>match env[i]? with
 |some (some (.d,.dct false ks vs))=>Au fun p=>(eD a g ks (env.set i (some (.pin p .f,.dct false ks vs)))).bind (vC i p (.dct false ks vs))
 |_=>.bad
section
variable{K:W.Frag}{G H:Hp}
theorem RepE.unpin:∀{es:PV.Env}{vs:List (Option V)}{fp:List Addr}{i:Nat}{p:Addr}{c:O}{d:D},RepE K G H es vs fp->es[i]?=some (some (.pin p c,d))->RepE K G H (es.set i (some (c,d))) vs fp
 |[],_,_,_,_,_,_,_,e=>by simp at e
 |none::es,vs,fp,i,p,c,d,q,e=>by
  cases i with
  |zero=>simp at e
  |succ i=>
   obtain⟨y,ys,ev,q⟩:=q;exact⟨y,ys,ev,RepE.unpin q (by simpa using e)⟩
 |some r::es,vs,fp,i,p,c,d,q,e=>by
  obtain⟨y,ys,ev,v,a,b,e1,e2,r1,r2⟩:=q;cases i with
  |zero=>
   have e:r=(.pin p c,d):=by simpa using e
   subst e;have r1:RepO K G H (.pin p c) d v a:=r1;rw[RepO]at r1;exact⟨y,ys,ev,v,a,b,e1,e2,r1.2,r2⟩
  |succ i=>exact⟨y,ys,ev,v,a,b,e1,e2,r1,RepE.unpin r2 (by simpa using e)⟩
theorem Rel.unpin{es:PV.Env}{vs:List (Option V)}{fp:List Addr}{i:Nat}{p:Addr}{c:O}{d:D}(q:Rel K G H es vs fp)(e:es[i]?=some (some (.pin p c,d))):Rel K G H (es.set i (some (c,d))) vs fp:=⟨q.rep.unpin e,q.nd,q.gn,q.gh⟩
end
theorem loan_outO{md:Mode}{K:W.Frag}{G H:Hp}{fp f1 b0:List Addr}{p:Addr}{GJ:List (Key×V)}{o:Obj}{i:Nat}{vs:List D}{D0:Ends}{r:Res Out}(gp:G p=none)(MB:Step G H fp G H (p::b0))(NJ:∀z∈f1,z∈p::b0)(hf:∀kv∈GJ,fitK kv.1)(rs:Reps K G vs (GJ.map (·.2)))
  (k:OutOk (md:=md) K G H fp D0 (r.bind (vC i p (.dct false (GJ.map fun kv=>kD kv.1) vs)))):OutOk (md:=md) K (upd G p (.frz o (.dK GJ))) (upd H p (.frz o (.dK GJ))) f1 (MW p o GJ D0) r:=by
 cases r with
 |bad=>exact k
 |exc c=>exact k
 |ok out=>
  have k:OutOk (md:=md) K G H fp D0 (vC i p (.dct false (GJ.map fun kv=>kD kv.1) vs) out):=k;unfold vC at k;split at k
  ·rename_i e';split at k
   ·rename_i Jj;rw[TJ]at Jj;obtain⟨h1,h2⟩:=Jj;unfold oM at h1;split at h1
    ·rename_i q' d' hq';rw[T7]at h1;subst h1;intro σ' H' G' GR st rl;obtain⟨z,G2,fz,GV,Qc⟩:=loan_backO (G:=G) (H:=H) (fp:=q'::b0) gp Tg NJ st rl hq' h2 hf rs;have Hx:=(Tx.mp hq').1;have SD:=Qc.unpin (i:=i) (c:=.d) (by rw[Vb Hx]);rw[Vs]at SD;exact⟨z,k σ' _ G2 fz (MB.trans GV) SD⟩
    ·cases h1
   ·exact k.elim
  ·exact k.elim
section
variable{X:Cx}{md:Mode}
theorem Ax{i:Nat}{tg iter:Expr}{body:List Stmt}{a:FG}{g:FS}{pos:Pos}(hp:PassesOwn (model X.prog X.w) X.A X.env X.xe)(hc:X.calm=true)(hn:PE X iter (rR i))(hg:QG X tg a)(hb:LH (md:=md) X body g)(hs:∀x,foldedSetIterable iter X.env x=pure x:=by intro _;rfl):
  QS (md:=md) X (.For tg iter body [] pos) (vD i a g):=
 eW (vn (tG hp hc (vm hn) hg hb hs)) fun D0 σ H G0=>by
  obtain⟨G,env,fp,rel,k⟩:=G0;unfold vD at k;split at k
  ·rename_i ks vs hi;obtain⟨v,fq,ev,g1,MB,_⟩:=rel.out hi;obtain⟨y,ys,e0,v',a0,b0,e1,e2,r1,r2⟩:=g1.rep;cases e0;cases e1;rw[RepO]at r1;obtain⟨p,xs,o0,Q2,hH,dd,ea,rs⟩:=r1;subst Q2;subst ea;subst e2;rcases Aw (fun p=>(eD a g ks (env.set i (some (.pin p .f,.dct false ks vs)))).bind (vC i p (.dct false ks vs))) with eb|eb
   ·rw[eb]at k;exact k.elim
   rw[eb p]at k;clear eb;obtain⟨GJ,eo,ek,ex,hf⟩:=(show ∃GJ:List (Key×V),o0=.dK GJ/\ks=GJ.map (fun kv=>kD kv.1)/\xs=GJ.map (·.2)/\∀kv∈GJ,fitK kv.1 from dd)
   subst eo ex ek;have nd:=Uu.mp (show(p::b0).Nodup from g1.nd);have gp:G p=none:=g1.gn p Tg;have Qd:∀z∈b0,z≠p:=fun z hz e=>nd.1 (e▸hz)
   refine⟨p,GJ,hH,fun o=>?_⟩;have Qe:Same G (upd G p (.frz o (.dK GJ))):=fun z u e=>by rw[ak (aJ e gp)];exact e
   have Oz:Rel X.K (upd G p (.frz o (.dK GJ))) (upd H p (.frz o (.dK GJ))) (some (.pin p .f,.dct false (GJ.map fun kv=>kD kv.1) vs)::env.set i none) (some (.ref p)::σ) b0:=by
    refine⟨⟨_,_,rfl,.ref p,[],b0,rfl,rfl,?_,r2.step Qe fun z hz=>ak (Qd z hz)⟩,nd.2,fun z hz=>?_,fun z u e=>?_⟩
    ·rw[RepO];refine⟨rfl,eU.mpr ⟨?_,rfl⟩⟩;rw[Rep];exact⟨p,GJ.map (·.2),.dK GJ,rfl,.inr ⟨o,az⟩,⟨GJ,rfl,rfl,rfl,hf⟩,Reps.mono Qe rs⟩
    ·rw[ak (Qd z hz)];exact g1.gn z (Tn _ hz)
    ·by_cases hz:z=p
     ·subst hz;rw[az]at e ⊢;exact e
     ·rw[ak hz]at e ⊢;exact g1.gh z u e
   obtain⟨f1,GP,Hb⟩:=Oz.back (i:=i) (by rw[Up];exact(Tx.mp hi).1) ev;rw[Vs]at GP;have NJ:∀z∈f1,z∈p::b0:=fun z hz=>by
    rcases Hb.fpn z hz with h|h
    ·exact Tn _ h
    ·exfalso;obtain⟨u,hu⟩:=GP.rep.live z hz;rw[h]at hu;cases hu
   refine⟨.ref p,ev,p,o,GJ,rfl,az,?_⟩;have k1:=loan_outO (o:=o) (G:=G) (H:=H) (fp:=fp) gp MB NJ hf rs k;have wk:Walk X.K (upd G p (.frz o (.dK GJ))) (Pf o GJ.length p) (GJ.map fun kv=>kD kv.1):=oO az hf;generalize (GJ.map fun kv=>kD kv.1)=ds at k1 wk GP;refine⟨fun j m σ' H'=>m=ds.length-j/\j<=ds.length/\∃G' env' GR,Same (upd G p (.frz o (.dK GJ))) G'/\Rel X.K G' H' env' σ' GR/\OutOk (md:=md) X.K G' H' GR (MW p o GJ D0) (eD a g (ds.drop j) env'),⟨_,rfl,Ut _,_,_,f1,.refl _,GP,k1⟩,?_⟩;rintro j m σ2 H2 ⟨rfl,hj,G2,GY,Ht,gg,GN,k2⟩;obtain⟨w1,w2⟩:=wk G2 H2 _ _ _ gg GN j;by_cases Hx:j<ds.length
   ·have hd:ds[j]?=some ds[j]:=Tj Hx;obtain⟨go,yl⟩:=w1 _ hd;rw[Ur Hx]at k2;refine .inr ⟨go,fun σ' H'=>∃G' env' GR,Same (upd G p (.frz o (.dK GJ))) G'/\Rel X.K G' H' env' σ' GR/\OutOk (md:=md) X.K G' H' GR (MW p o GJ D0) (eD a g (ds.drop (j+1)) env'),fun σ' H' z=>⟨ds.length-(j+1),by lia,rfl,Hx,z⟩,fun x H3 y=>?_⟩;obtain⟨G3,rx,Hu,Ho⟩:=yl x H3 y;unfold eD at k2;match q3:a ds[j] GY,k2 with
    | .ok HC,k2=>
     refine⟨G3,GY,Ht,ds[j],HC,Hu,rx,q3,fun σ4 G4 PX Ia IA=>⟨G4,HC,PX,IA,?_⟩⟩;have k3:OutOk (md:=md) X.K G2 H2 Ht (MW p o GJ D0) ((g HC).bind fun o=>match o with | .nx e=>eD a g (ds.drop (j+1)) e | .ct e=>eD a g (ds.drop (j+1)) e | .bk e=>.ok (.nx e) | .rt r=>.ok (.rt r)):=k2;match q4:g HC,k3 with
     | .ok (.nx e),k3=>exact fun σ' H' G' GR st rel=>⟨G',e,GR,gg.trans (Ho.gg.trans (Ia.gg.trans st.gg)),rel,OutOk.after (Ho.trans (Ia.trans st)) k3⟩
     | .ok (.ct e),k3=>exact fun σ' H' G' GR st rel=>⟨G',e,GR,gg.trans (Ho.gg.trans (Ia.gg.trans st.gg)),rel,OutOk.after (Ho.trans (Ia.trans st)) k3⟩
     | .ok (.bk e),k3=>exact fun σ' H' G' GR st rel=>k3 σ' H' G' GR (Ho.trans (Ia.trans st)) rel
     | .ok (.rt r),k3=>exact fun v H' G' GR st rel=>k3 v H' G' GR (Ho.trans (Ia.trans st)) rel
   ·have e:j=ds.length:=by lia
    subst e;rw[Wn]at k2;exact .inl ⟨w2 rfl,k2 σ2 H2 G2 Ht .refl GN⟩
  ·exact k.elim
end
theorem bt_abs:bootBuiltins "abs" = some (.builtin "abs"):=by decide +kernel
def DG(a:FG)(c:FT)(f:FX)(ds:List D)(E:Addr->PV.Env)(k0:Nat)(d0:D)(x:List D):Prop:=∀q,∃GY,compLE a c f ds (E q)=.ok (x,GY)/\GY[k0]?=some (some (.pin q .d,d0))
open Classical in
def pW(a:FG)(c:FT)(f:FX)(ds:List D)(E:Addr->PV.Env)(k0:Nat)(d0:D):Res (List D):=if h:∃x,DG a c f ds E k0 d0 x then .ok h.choose else .bad
theorem xF{a:FG}{c:FT}{f:FX}{ds:List D}{E:Addr->PV.Env}{k0:Nat}{d0:D}{x:List D}(h:DG a c f ds E k0 d0 x):pW a c f ds E k0 d0=.ok x:=by
 have ex:∃x,DG a c f ds E k0 d0 x:=⟨x,h⟩
 unfold pW;rw[dif_pos ex];obtain⟨e1,h1,_⟩:=ex.choose_spec 0;obtain⟨e2,h3,_⟩:=h 0;rw[h1]at h3;exact UQ Res.ok (UQ Prod.fst (Res.ok.inj h3))
theorem xG{a:FG}{c:FT}{f:FX}{ds:List D}{E:Addr->PV.Env}{k0:Nat}{d0:D}{x:List D}(h:pW a c f ds E k0 d0=.ok x):DG a c f ds E k0 d0 x:=by
 unfold pW at h;split at h
 ·rename_i ex;cases h;exact ex.choose_spec
 ·cases h
noncomputable def lT(fi:FI)(ix:List (Option Nat))(j k0:Nat)(a:FG)(c:FT)(f:FX):FX:=fun env=>(fi env).bind fun p=>match p.2[j]? with
 |some (some (.d,.dct false ks vs))=>(pW a c f p.1 (fun q=>(cC ix (p.2.set j none)).set k0 (some (.pin q .d,.dct false ks vs))) k0 (.dct false ks vs)).bind fun x=>if x.length<=sizeLine/\flatDs x=true/\flatDs vs=true then .ok ((.l .f,.lst x),p.2) else .bad
 |_=>.bad
theorem CM{K:W.Frag}{fi:FI}{ix:List (Option Nat)}{j k0:Nat}{a:FG}{c:FT}{f:FX}{σ:L2.St}{H:Hp}{Q:VK}(hk:ix[k0]?=some (some j))(h:tQ K (lT fi ix j k0 a c f) σ H Q):r6 (tQI K fi) ix (tQG K a) (tQT K c) (tQ K f) σ H Q:=by
 obtain⟨G,env,fp,r,env',rel,e,k⟩:=h;obtain⟨⟨ds,GL⟩,e1,e⟩:=aj e;refine⟨G,env,fp,ds,GL,rel,e1,fun J H1 G1 Hi Hb GP wk D hD=>?_⟩;dsimp only at e;split at e
 ·rename_i ks vs hj
  ·obtain⟨rs,e2,e⟩:=aj e;split at e
   ·rename_i hz;injection e with e;injection e with e5 e6;subst e5;subst e6;obtain⟨v0,aa,b,ev,r0,r2,pm⟩:=GP.rep.take hj;have r0:RepO K G1 H1 .d (.dct false ks vs) v0 aa:=r0;have r00:=r0;rw[RepO]at r0;obtain⟨q,xs0,o0,eq,hq,dd0,ea,rs0⟩:=r0;subst eq ea;have nd:=Ui.mp (pm.nodup_iff.mp GP.nd);have MT:Rel K G1 H1 (GL.set j none) σ b:=⟨r2,nd.2.1,fun w hw=>GP.gn w (pm.mem_iff.mpr (Tp _ hw)),GP.gh⟩
    obtain⟨G2,MJ,Of,RQ,I0,Io⟩:=MT.lendM [q] (fun w hw hb=>nd.2.2 w hw w hb rfl) (fun w hw=>GP.gn w (pm.mem_iff.mpr (TB _ hw)));have rE:=eZ (H:=H1) I0 (fun i r er=>let⟨v,ev,_⟩:=MT.view er;⟨v,ev⟩) ix;have RA:(cC ix (GL.set j none))[k0]?=some none:=by
     unfold cC;rw[TV,hk];show some (match(GL.set j none)[j]? with|some (some r)=>some (O.f,r.2)|_=>none)=_;rw[Vb (Tx.mp hj).1]
    have Li:(gw ix σ)[k0]?=some (some (.ref q)):=by
     unfold gw;rw[TV,hk];show some ((σ[j]?).bind id)=_;rw[ev];rfl
    have rP:RepO K G2 H1 (.pin q .d) (.dct false ks vs) (.ref q) [q]:=by
     rw[RepO];refine⟨rfl,?_⟩;rw[RepO];exact⟨q,xs0,o0,rfl,hq,dd0,rfl,rs0.mono MJ⟩
    obtain⟨SE,SF,RW⟩:=rE.put (i:=k0) (r:=(.pin q .d,.dct false ks vs)) (v:=.ref q) RA rP;rw[iz Li]at SF;have GN:Rel K G2 H1 ((cC ix (GL.set j none)).set k0 (some (.pin q .d,.dct false ks vs))) (gw ix σ) SE:=⟨SF,RW.symm.nodup_iff.mp (Uu.mpr ⟨UP,VZ⟩),(fun w hw=>RQ w (by have:=RW.mem_iff.mp hw;simpa using this)),Of⟩
    have MB:Step G2 H1 [q] G2 H1 SE:=Step.cut fun w hw=>by have:=RW.mem_iff.mp hw;simpa using this
    obtain⟨Hu,Ho⟩:=GN.newL (ds:=[]) (xs:=[]) hD .nil;obtain⟨Qf,eL,eK⟩:=xG e2 q;dsimp only at eL eK;refine⟨fun i m σ1 H2=>m=ds.length-i/\i<=ds.length/\∃G' es GR acc b7,Step G2 H1 [q] G' H2 GR/\Rel K G' H2 (some (.l .f,.lst acc)::es) (some (.ref D)::σ1) GR/\compLE a c f (ds.drop i) es=.ok (b7,Qf)/\acc++b7=rs,
     ⟨_,rfl,Ut _,G2,_,_,[],rs,MB.trans Ho,Hu,eL,rfl⟩,?_⟩
    rintro i m σ1 H2 ⟨rfl,hi,G3,es,IT,acc,b7,Ia,IA,e4,JR⟩;obtain⟨w1,w2⟩:=wk G3 H2 _ _ _ (MJ.trans Ia.gg) IA i;by_cases Hx:i<ds.length
    ·have hd:ds[i]?=some ds[i]:=Tj Hx;obtain⟨go,yl⟩:=w1 _ hd;rw[Ur Hx]at e4;unfold compLE at e4;obtain⟨P2,h1,e4⟩:=aj e4;obtain⟨⟨b',Mb⟩,h2,e4⟩:=aj e4;dsimp only at e4;refine .inr ⟨go,fun x H3 y=>?_⟩;obtain⟨G4,rx,IS,IV⟩:=yl x H3 y;obtain⟨fa,fb,Oh,ra,Mc,bk⟩:=IS.frame;refine⟨G4,es,fb,ds[i],P2,Mc,rx,h1,fun σ2 G5 NH MP Kp=>?_⟩;refine⟨G5,P2,NH,b',Mb,Kp,h2,fun H6 G6 MA P4 K6=>?_⟩;have Md:=MP.trans P4;cases b' with
     |false=>
      refine iteF ⟨ds.length-(i+1),by lia,rfl,Hx,?_⟩;obtain⟨Kq,Lj⟩:=bk G6 H6 Mb σ2 MA Md K6;rw[<-Oh]at Lj;exact⟨G6,Mb,_,acc,b7,Ia.trans (IV.trans Lj),Kq,e4,JR⟩
     |true=>
      have e4:((f Mb).bind fun q=>(compLE a c f (ds.drop (i+1)) q.2).bind fun rs=>.ok (q.1.2::rs.1,rs.2))=.ok (b7,Qf):=e4;obtain⟨⟨r,Oi⟩,h3,e4⟩:=aj e4;obtain⟨⟨Me,envE'⟩,h4,e4⟩:=aj e4;cases e4;refine BP ⟨G6,Mb,MA,r,Oi,K6,h3,fun v H7 G7 fp7 RH Oj=>?_⟩;obtain⟨G8,RI,rv,Ol,RJ⟩:=Oj.freeze;obtain⟨Kq,Lj⟩:=bk G8 H7 Oi σ2 RI (Md.trans (RH.trans RJ)) Ol;rw[<-Oh]at Lj;obtain⟨p,xs,ep,hp,LI,cg⟩:=Kq.chg (i:=0) (ds:=acc) (ds':=acc++[r.2]) rfl;have ep:some (some (V.ref D))=some (some (V.ref p)):=ep;cases ep;obtain⟨fq,Om,RK⟩:=cg (xs++[v]) (LI.app (.one rv));refine⟨xs,hp,?_,ds.length-(i+1),by lia,rfl,Hx,G8,Oi,fq,acc++[r.2],Me,Ia.trans (IV.trans (Lj.trans RK)),Om,h4,?_⟩
      ·rw[LI.length];have:=UQ List.length JR;rw[Uz,TK]at this;have:=hz.1;lia
      ·rw[<-JR,UR];rfl
    ·have ei:i=ds.length:=by lia
     subst ei;rw[Wn]at e4;cases e4;rw[Uo]at JR;subst JR;refine .inl ⟨w2 rfl,?_⟩;obtain⟨fa,fb,Oh,ra,Mc,bk⟩:=IA.frame;obtain⟨v1,fq1,Q2,Mf,P5,_⟩:=Mc.out eK;obtain⟨fx,Qg,stx⟩:=Mf.only;have RD:v1=.ref q:=by
      obtain⟨y,ys,ey,v2,a2,b2,RS,Sy,Ow,Sz⟩:=Qg.rep;cases ey;cases RS;have Ow:RepO K G3 H2 (.pin q .d) (.dct false ks vs) v1 a2:=Ow;rw[RepO]at Ow;exact Ow.1
     subst RD;obtain⟨Kq,Lj⟩:=bk G3 H2 _ _ fx (P5.trans stx) Qg;rw[<-Oh]at Lj;obtain⟨G5,NH,IV,IS⟩:=Io H2 G3 _ _ _ (Ia.trans Lj) Kq (fun w hw=>by
      rcases Tw.mp hw with hw|hw
      ·cases hw;rw[aT,iF];exact hz.2.1
      ·rw[T9]at hw;cases hw;rw[aT,aT];exact hz.2.2)
     obtain⟨a1,b1,ef,ro,Iy,comb⟩:=Rel.frame IS;have Ov:Rel K G5 H2 (some (.d,.dct false ks vs)::GL.set j none) (some (.ref q)::σ) b1:=Iy.unpin (i:=0) rfl;obtain⟨fq,MU,RT⟩:=Ov.back (i:=j) (by rw[Up];exact(Tx.mp hj).1) ev;rw[Vs]at MU;obtain⟨MV,Qb⟩:=comb G5 H2 _ _ fq RT MU;rw[<-ef]at Qb;rw[iz hj]at MV;exact k _ H2 G5 _ (Hb.trans ((IV.perm (fun w=>pm.mem_iff.symm) (fun w hw=>hw)).trans Qb)) MV
   ·cases e
 ·cases e
section
variable{md:Mode}{X:Cx}{scope:Scope}{N:List Str}{tg iter elt:Expr}{ifs:List Expr}{pos:Pos}{fi:FI}{a:FG}{c:FT}{f:FX}{j k0:Nat}
theorem xH(ix:List (Option Nat))(N:List Str)(hc:X.calm=true)(hi:QI X tg iter fi)(hg:∀C s H fp pn,QG (bO X scope N C s H fp pn) tg a)(ht:∀C s H fp pn,Og (bO X scope N C s H fp pn) ifs c)(he:∀C s H fp pn,QE (bO X scope N C s H fp pn) elt f)
  (hkj:ix[k0]?=some (some j):=by rfl)
  (hf:dE scope X.env=true:=by rfl) (hk:scope.kind=.function:=by rfl) (Hd:∀y∈scope.names,y.2≠.cell:=by decide +kernel) (Hn:∀y∈scope.names,y.2=.local->scope.names.lookup y.1=some .local:=by decide +kernel) (HX:nS X scope N ix=true:=by rfl)
  (hs:∀x,foldedSetIterable iter X.env x=pure x:=by intro _;rfl):QE X (.ListComp elt [⟨tg,iter,ifs,0⟩] scope pos) (lT fi ix j k0 a c f):=
 bI (uc (g:=tQG X.K a) (tc:=tQT X.K c) (te:=tQ X.K f) ix N hc hi hg ht he hf hk Hd Hn HX hs) fun _ _ _=>CM hkj
end
end PV
namespace NX
open PySem PySem.Spec PyProof.Rows L2
section
open PySem.AutoSeq1 (wpAny_loadPart')
theorem sL(l:Addr)(items:Array Value)(n:Nat)(dd:Option Addr)(sl:Array (Option Value))(x:Int)(u:Tok)(Kd:items.isEmpty=false)(h0:x = -1):
  Meets (Builtin.«tuple.__mul__» ⟨[.ref l,.int x u],[]⟩)
   (fun _ R s=>s.heap.get? l=some {cls:=.type "tuple",dict:=dd,data:=.seq items n,slots:=sl}/\R (.ok (.ret (.ref s.heap.objs.size))) {s with heap:=s.heap.push {cls:=.type "tuple",data:=.seq #[]}}):=
 .of_wp fun prog w A R s h=>by
  obtain⟨hp,g,d,tk,os⟩:=s;obtain⟨hl,h⟩:=h;subst h0
  wp_walk using wpAny_loadPart' hl
  exact⟨_,rfl,h⟩
end
end NX
namespace PV
open PySem PySem.Spec PyProof.Rows L2 NX
section
variable{X:Cx}
inductive rRepM(K:W.Frag)(x:V)(y:V)(H:Hp)(Q:VK):Prop
 |mk:∀l xs,x=.ref l->y=.int (-1)->SqT K H l xs->xs≠[]->(∀p,H p=none->Q (.ref p) (upd H p (.tup [])))->rRepM K x y H Q
theorem Ay:HG X (binaryOp .Mult) (rRepM X.K):=by
 intro pr s σ H x y v u Q I rx ry h;obtain⟨l,xs,rfl,rfl,hH,Kd,q2⟩:=h;cases rx;obtain⟨t,rfl⟩:=ry;obtain⟨GO,r,p1,_⟩:=I.tuple hH;have hl:=r.length;obtain⟨⟨cls,dd,data,sl⟩,ho,hc,n,hd⟩:=id p1;simp only at hc hd;subst hc hd;have MS:GO.toArray.isEmpty=false:=by
  cases GO with
  |nil=>exact absurd (Ue hl) Kd
  |cons a r'=>rfl
 refine Wl (T:="tuple") (U:="int") (by decide) ⟨_,ho,rfl⟩ (fun s'=>Ws s' (-1) t) f6 Yf Wb jF F.slot_int_index.lookup
  (VY Wb (Ws s (-1) t) XS (Xy _ _) (jG (-1) t l GO.toArray n dd sl) ⟨ho,rfl,⟨_,ho,rfl⟩,?_⟩)
 refine VY WU ⟨_,ho,rfl⟩ WL (WC _ _) (sL l GO.toArray n dd sl (-1) t MS rfl) ⟨ho,?_⟩;exact⟨.ref _,_,I.laid (o:=.tup []) (t':=s.toks) (fun b o e=>Th _ e) (Tz _) ⟨Ut _,[],.nil,IsTupN.new _ _⟩,rfl,q2 _ (I.hok.fresh (Tz _))⟩
def yL(a b:D):Res R:=match a,b with
 | .tup ds,.int (-1)=>if ds≠[] then .ok (.f,.tup []) else .bad
 |a,b=>sI a b
theorem vE:HG X (binaryOp .Mult) (rG X.K yL):=by
 rintro pr s σ H x y v u Q I rx ry ⟨G,fp,es,vs,a,b,r,⟨rel,k⟩,va,vb,e⟩;unfold yL at e;split at e
 ·rename_i ds;split at e
  ·rename_i hj;cases e;obtain⟨p,xs,e1,h1,r1⟩:=fY va;subst e1;cases bx vb;refine Ay pr s σ H _ _ v u Q I rx ry ⟨p,xs,rfl,rfl,bH rel.gh h1,?_,fun q hq=>?_⟩
   ·intro z;have:=r1.length;rw[z]at this;exact hj (Ue this.symm)
   ·obtain⟨GN,GV⟩:=rel.newF (u:=.tup []) hq;refine k _ _ _ fp GV (GN.push ?_);rw[Rep];exact⟨q,_,rfl,az,.nil⟩
  ·cases e
 ·exact kQ pr s σ H x y v u Q I rx ry ⟨G,fp,es,vs,_,_,r,⟨rel,k⟩,va,vb,e⟩
end
end PV
namespace LW
open PySem L2 NX PV
abbrev xI(f:FX):FI:=HD (B8 f) (HD (dH f) (dI f))
def oQ:FS:=(dG (aZ yE (ag (oVal (bT (oE (ag (oVal (ax 0)) (ag (oVal (ax 1)) au))) [none,none] (iA 2 (aD (aName 0) (aD (aName 1) cU))) cYes (eBin jg (oVar 0) (oVar 1)))) au)))
def cf:List D->Res R:=fBody 2 0 oQ
noncomputable def qW:FS:=(dG (aZ iJ (ag (oVal (bT (b5 (oVar 2)) [none,some 0,some 1] (aName 0) cYes (aZ yE (ag (oVal (bT (oE (ag (oVal (ax 1)) (ag (oVal (ax 2)) au))) [none,none,some 0] (iA 2 (aD (aName 0) (aD (aName 1) cU))) cYes (eBin jg (oVal (eBin Ha (oVar 0) (oVar 2))) (oVar 1)))) au)))) au)))
def fH:List D->Res R:=fBody 3 0 qW
def aX:FS:=(sSeq (cp 2 (eBin CK (oVar 0) (oVar 1)))
  (sSeq (cp 0 (ax 1))
  (cp 1 (ax 2))))
def eF:FS:=(cz (GX (aB Hz (oVar 1) (oVal (eCon (.int 0)))))
  aX 100000)
def d8:FS:=(dG (aZ Cy (ag (oVar 0) au)))
def f7:FS:=(sSeq eF
  d8)
def aV:List D->Res R:=fBody 2 1 f7
def fI:FS:=(cp 1 (cx aV (ag (oVar 1) (ag (oVar 2) au))))
def lU:FS:=(so (xI (ax 0)) (aName 2)
  fI)
def kR:FS:=(sSeq (HU (GX (aB Il (oVar 1) (oVal (eCon (.int 0)))))
  (dG (kq 0))
  bQ)
  (dG (aZ iJ (ag (oVal (bT (HD (eE 0) (HD (dH (ax 0)) (dI (ax 0)))) [none,some 1] (aName 0) cYes (eBin mO (oVar 0) (oVar 1)))) au))))
def qX:FS:=(sSeq (cp 1 (eCon (.int 0)))
  (sSeq lU
  kR))
def cJ:List D->Res R:=fBody 1 2 qX
noncomputable def oR:FS:=(sSeq (HU (GX (aB Il (oVal (eBin Ha (oVar 0) (oVar 1))) (oVal (eCon (.int 0)))))
  (dG (kq 0))
  bQ)
  (dG (cx fH (ag (oVal (jA (dsCons (ax 0) (dsCons (ax 2) dsNil)))) (ag (oVal (jA (dsCons (eBin Ha (oVar 2) (oVar 1)) (dsCons (eNeg (oVal (eBin Ha (oVar 0) (oVar 1)))) dsNil)))) (ag (oVal (aZ cZ (ag (oVar 0) au))) au))))))
def dw:List D->Res R:=fBody 3 0 oR
def jU:FS:=(DE 3 (ax 4) (cx cJ (ag (oVal (cx dw (ag (oVal (eBin MR (oVar 0) (oVar 4))) (ag (oVar 1) (ag (oVar 2) au))))) au)))
def d9:FS:=(pU 0 (aName 4)
  jU)
def f9:FS:=(sSeq (DE 3 (ax 1) (ax 2))
  (oJ 0 (kq 3)))
def iQ:FS:=(sSeq (cp 3 (eNewD false))
  (sSeq d9
  f9))
def bU:Addr->List D->Res R:=jE 3 2 (.d) iQ
def cK:FS:=(cp 3 (cx dw (ag (oVar 3) (ag (oVar 4) (ag (oVal (eBin MR (oVar 1) (oVar 4))) au)))))
def cA:FS:=(vD 1 (aName 4)
  cK)
noncomputable def cj:FS:=(sSeq (cp 5 (bT (jH (ag (oVal (ax 3)) au)) [none,none] (iA 2 (aD (aName 0) (aD (aName 1) cU))) (GX (aB Hz (oVar 1) (oVal (eCon (.int 0))))) (ax 0)))
  (HU (GX (eBin KY (oVal (aZ cZ (ag (oVar 5) au))) (oVal (eCon (.int 0)))))
  (cp 1 (eFunW (.d) bU 1 (ag (oVar 1) (ag (oVal (eBin Ha (oVar 5) (oVal (eCon (.int 0))))) (ag (oVal (cx cJ (ag (oVar 3) au))) au)))))
  bQ))
def a9:FS:=(sSeq (cp 3 (ax 2))
  (sSeq cA
  cj))
def gY:FS:=(so (xI (ax 0)) (aName 2)
  a9)
def gA:FS:=(dG (kq 1))
def jI:FS:=(sSeq (cp 1 (eNewD false))
  (sSeq gY
  gA))
def bR:List D->Res R:=fBody 1 5 jI
def cM:FS:=(oH 6 (ax 4) (eBin jg (oVal (eNeg (oVal (eBin Ha (oVal (eBin MR (oVar 0) (oVar 4))) (oVar 1))))) (oVal (eBin mO (oVar 3) (oVal (eBin Ha (oVal (eBin MR (oVar 0) (oVar 4))) (oVar 4)))))))
def eJ:FS:=(pU 0 (aName 4)
  cM)
def gB:FS:=(oJ 0 (cx cJ (ag (oVal (aZ iJ (ag (oVar 6) au))) au)))
def cN:FS:=(sSeq (cp 5 (eBin Ha (oVal (eBin MR (oVar 0) (oVar 4))) (oVar 4)))
  (cp 3 (eBin mO (oVal (aZ Cy (ag (oVal (eBin jg (oVar 3) (oVar 5))) au))) (oVal (cx aV (ag (oVar 3) (ag (oVar 5) au)))))))
def eM:FS:=(pU 0 (aName 4)
  cN)
def gC:FS:=(sSeq (cp 6 (eBin jg (oVal (jA (dsCons (eCon (.int 0)) dsNil))) (oVar 2)))
  (sSeq (oH 6 (ax 1) (ax 3))
  (sSeq eJ
  gB)))
def jJ:FS:=(sSeq (cp 3 (eCon (.int 1)))
  (sSeq eM
  gC))
def aE:Addr->List D->Res R:=jE 3 4 (.d) jJ
def qY:FS:=(sSeq (cp 2 (cx bR (ag (oVar 0) au)))
  (dG (lT (b5 (oVar 1)) [none,some 2,some 1] 2 1 (aName 0) (GX (aB pB (oVar 0) (oVar 1))) (eFunW (.d) aE 1 (ag (oVar 1) (ag (oVar 0) (ag (oVar 2) au)))))))
def dk:List D->Res R:=fBody 2 1 qY
noncomputable def iR:FS:=(sSeq (cp 2 (cx bR (ag (oVar 0) au)))
  (sSeq (HU (GX (aB Qa (oVal (eBin om (oVar 1) (oVal (eCon (.int 1))))) (oVar 2)))
  (dG (eCon .non))
  bQ)
  (dG (eFunW (.d) aE 2 (ag (oVar 2) (ag (oVal (eBin om (oVar 1) (oVal (eCon (.int 1))))) (ag (oVar 1) au)))))))
def bA:List D->Res R:=fBody 2 1 iR
noncomputable def kS:FS:=(sSeq (cp 2 (eBin addO (oVal (aZ pP (ag (oVar 0) au))) (oVal (jA (dsCons (ax 1) dsNil)))))
  (sSeq (cp 3 (bT (b5 (oVal (aZ cZ (ag (oVar 1) au)))) [none,some 2] (aName 0) cYes (aZ iJ (ag (oVal (bT (HD (eE 1) (HD (dH (ax 1)) (dI (ax 1)))) [none,some 0] (aName 0) cYes (eBin Ha (oVar 0) (oVar 1)))) au))))
  (sSeq (cp 4 (cx bA (ag (oVar 3) (ag (oVal (aZ cZ (ag (oVar 2) au))) au))))
  (sSeq (HU (GX (aB Mz (oVar 4) (oVal (eCon .non))))
  (dG (eTup (dsCons (eCon (.str [114,111,119])) (dsCons (eBin Ha (oVal (bT (xI (cx dk (ag (oVar 0) (ag (oVal (aZ cZ (ag (oVar 1) au))) au)))) [none,some 1] (aName 0) (GX (aB Hz (oVal (cx cf (ag (oVar 0) (ag (oVar 1) au)))) (oVal (eCon (.int 0))))) (ax 0))) (oVal (eCon (.int 0)))) dsNil))))
  bQ)
  (dG (eTup (dsCons (eCon (.str [115,117,109])) (dsCons (eBin Ha (oVar 4) (oVal (eNeg (oVal (eCon (.int 1)))))) (dsCons (bT (xI (Aj (oVar 4) pN (pO (eNeg (oVal (eCon (.int 1))))))) [none] (aName 0) cYes (eNeg (oVar 0))) dsNil)))))))))
def aM:List D->Res R:=fBody 2 3 kS
noncomputable def bX:FS:=(HU (Aq (GX (aB Il (oVal (eBin Ha (oVal (cx aM (ag (oVal (bT (HD (eE 1) (HD (dH (ax 1)) (dI (ax 1)))) [none,some 0] (aName 0) cYes (eBin Ha (oVar 1) (oVar 0)))) (ag (oVar 3) au)))) (oVal (eCon (.int 0))))) (oVal (eCon (.str [114,111,119]))))))
  (kx (yD 1 (ax 2)))
  bQ)
def gD:FS:=(so (jH (ag (oVal (ax 0)) au)) (iA 2 (aD (aName 2) (aD (aName 3) cU)))
  bX)
def gc:FS:=(dG (kq 1))
def iS:FS:=(sSeq (cp 1 (jA dsNil))
  (sSeq gD
  gc))
def bV:List D->Res R:=fBody 1 3 iS
noncomputable def kU:FS:=(dG (cx bA (ag (oVal (bT (HD (eE 0) (HD (dH (ax 0)) (dI (ax 0)))) [none] (aName 0) cYes (eBin addO (oVar 0) (oVal (eTup (dsCons (eNeg (oVal (eCon (.int 1)))) dsNil)))))) (ag (oVal (eBin addO (oVar 1) (oVal (eCon (.int 1))))) au))))
def bt:List D->Res R:=fBody 2 0 kU
def bu:FS:=(HU (GX (eBin Kf (oVal (cx cf (ag (oVar 3) (ag (oVal (Aj (oVar 1) pN (pO (eNeg (oVal (eCon (.int 1))))))) au)))) (oVal (eBin Ha (oVar 1) (oVal (eNeg (oVal (eCon (.int 1)))))))))
  (dG (kq 2))
  bQ)
def eh:FS:=(so (jH (ag (oVal (ax 0)) au)) (iA 2 (aD (aName 2) (aD (aName 3) cU)))
  bu)
def jV:FS:=(dG (eCon .non))
def iT:FS:=(sSeq eh
  jV)
def bB:List D->Res R:=fBody 2 2 iT
def dP:FS:=(oH 6 (ax 7) (eNeg (oVar 8)))
def oS:FS:=(so (oE (ag (oVal (ax 2)) (ag (oVal (eBin Ha (oVar 5) (oVal (eCon (.int 2))))) au))) (iA 2 (aD (aName 7) (aD (aName 8) cU)))
  dP)
noncomputable def lV:FS:=(sSeq (cp 9 (bT (HD (eE 2) (HD (dH (ax 2)) (dI (ax 2)))) [none,some 6] (aName 0) (GX (eBin Kf (oVal (eBin Ha (oVar 1) (oVar 0))) (oVal (eCon (.int 0))))) (ax 0)))
  (sSeq (HU (GX (aB Il (oVal (aZ cZ (ag (oVar 9) au))) (oVal (eCon (.int 0)))))
  (dG (eTup (dsCons (eCon (.str [115,117,109])) (dsCons (ax 6) dsNil))))
  bQ)
  (cp 2 (aZ pR (ag (oVal (eBin addO (oVal (bT (HD (eE 2) (HD (dH (ax 2)) (dI (ax 2)))) [none,some 9] (aName 0) (GX (aB Hz (oVar 0) (oVal (eBin Ha (oVar 1) (oVal (eCon (.int 0))))))) (ax 0))) (oVal (jA (dsCons (ax 4) dsNil))))) au)))))
noncomputable def dQ:FS:=(sSeq (cp 3 (cx bt (ag (oVal (bT (HD (eE 2) (HD (dH (ax 2)) (dI (ax 2)))) [none,some 0] (aName 0) cYes (eBin Ha (oVar 1) (oVar 0)))) (ag (oVar 1) au))))
  (sSeq (cp 4 (cx bB (ag (oVar 0) (ag (oVar 3) au))))
  (sSeq (HU (GX (aB Mz (oVar 4) (oVal (eCon .non))))
  (dG (eTup (dsCons (eCon (.str [114,111,119])) (dsCons (Aj (oVar 3) pN (pO (eNeg (oVal (eCon (.int 1)))))) dsNil))))
  bQ)
  (sSeq (cp 5 (cx aM (ag (oVal (bT (HD (eE 2) (HD (dH (ax 2)) (dI (ax 2)))) [none,some 0] (aName 0) cYes (eBin Ha (oVar 1) (oVar 0)))) (ag (oVal (eBin Ha (oVar 0) (oVar 4))) au))))
  (sSeq (cp 6 (eBin jg (oVal (jA (dsCons (eCon (.int 0)) dsNil))) (oVal (aZ cZ (ag (oVar 0) au)))))
  (sSeq (oH 6 (ax 4) (eBin Ha (oVar 5) (oVal (eCon (.int 1)))))
  (sSeq oS
  lV)))))))
def oT:FS:=(cz (GX (eCon (.bl true)))
  dQ 100000)
def vF:FS:=(sSeq (cp 2 (cx bV (ag (oVar 0) au)))
  oT)
def fJ:List D->Res R:=fBody 2 8 vF
noncomputable def c9:FS:=(sSeq (cp 3 (eBin wI (oVal (eBin addO (oVal (eBin addO (oVal (eBin jg (oVar 3) (oVar 3))) (oVal (eBin jg (oVal (eCon (.int 48271))) (oVar 3))))) (oVal (aZ cZ (ag (oVar 2) au))))) (oVal (eCon (.int 2147483647)))))
  (kx (yD 2 (ax 3))))
def gf:FS:=(cz (GX (eBin Kf (oVal (aZ cZ (ag (oVar 2) au))) (oVar 1)))
  c9 100000)
def ft:FS:=(dG (aZ DF (ag (oVar 2) au)))
noncomputable def gZ:FS:=(sSeq (cp 2 (bT (xI (Aj (oVar 0) pN (pO (ax 1)))) [none] (aName 0) cYes (eBin wI (oVar 0) (oVal (eBin sv (oVal (eCon (.int 10))) (oVal (eCon (.int 59))))))))
  (sSeq (cp 3 (eBin addO (oVal (eCon (.int 48271))) (oVal (eBin wI (oVal (aZ yE (ag (oVar 2) au))) (oVal (eCon (.int 2147483647)))))))
  (sSeq gf
  ft)))
def bY:List D->Res R:=fBody 2 2 gZ
def kW:FS:=(sSeq (HU (GX (aB Il (oVar 0) (oVal (jA dsNil))))
  (oJ 0 (eCon (.int 0)))
  bQ)
  (oJ 0 (eBin wI (oVal (ePop 0)) (oVar 1))))
def aY:Addr->List D->Res R:=jE 2 0 (.l .f) kW
def de:FS:=(cp 2 (eBin addO (oVar 2) (oVal (eBin jg (oVal (eBin Ha (oVar 0) (oVar 3))) (oVal (eBin Ha (oVar 1) (oVar 3)))))))
def gj:FS:=(so (b5 (oVal (aZ cZ (ag (oVar 0) au)))) (aName 3)
  de)
def fu:FS:=(dG (kq 2))
def g0:FS:=(sSeq (cp 2 (eCon (.int 0)))
  (sSeq gj
  fu))
def bf:List D->Res R:=fBody 2 2 g0
def fK:FS:=(oH 3 (ax 6) (eBin addO (oVal (eBin Ha (oVar 3) (oVar 6))) (oVal (eBin jg (oVal (eBin Ha (oVar 4) (oVar 6))) (oVar 5)))))
def gE:FS:=(so (b5 (oVar 2)) (aName 6)
  fK)
def iU:FS:=gE
def jK:FS:=(so (oE (ag (oVal (ax 0)) (ag (oVal (ax 1)) au))) (iA 2 (aD (aName 4) (aD (aName 5) cU)))
  iU)
def iV:FS:=(dG (aZ iJ (ag (oVar 3) au)))
def lW:FS:=(sSeq (cp 3 (eBin jg (oVal (jA (dsCons (eCon (.int 0)) dsNil))) (oVar 2)))
  (sSeq jK
  iV))
def bZ:List D->Res R:=fBody 3 4 lW
def jL:FS:=(dG (DB (Ma "int" (oVar 0)) (Ej (Ma "bool" (oVar 0)))))
def a8:List D->Res R:=fBody 1 0 jL
noncomputable def iW:FS:=(sSeq (HU (KA (oi (GX (Ma "tuple" (oVar 0)))) (GX (aB Hz (oVal (aZ cZ (ag (oVar 0) au))) (oVar 1))))
  (dG (eCon (.bl false)))
  bQ)
  (dG (aB pB (oVal (eCon (.bl false))) (oVal (bT (HD (eE 0) (HD (dH (ax 0)) (dI (ax 0)))) [none] (aName 0) cYes (cx a8 (ag (oVar 0) au)))))))
def bg:List D->Res R:=fBody 2 0 iW
noncomputable def eG:FS:=(sSeq (HU (KA (oi (GX (Ma "list" (oVar 0)))) (GX (aB Hz (oVal (aZ cZ (ag (oVar 0) au))) (oVar 1))))
  (dG (eCon (.bl false)))
  bQ)
  (dG (aB pB (oVal (eCon (.bl false))) (oVal (bT (HD (eE 0) (HD (dH (ax 0)) (dI (ax 0)))) [none] (aName 0) cYes (cx a8 (ag (oVar 0) au)))))))
def aS:List D->Res R:=fBody 2 0 eG
noncomputable def cB:FS:=(sSeq (cp 7 (bT (b5 (oVal (aZ cZ (ag (oVar 6) au)))) [none,some 6,some 3,some 4] (aName 0) cYes (eBin om (oVal (eBin jg (oVal (eBin Ha (oVar 1) (oVar 0))) (oVal (eBin Ha (oVar 2) (oVar 3))))) (oVal (eBin jg (oVal (eBin Ha (oVar 2) (oVar 0))) (oVal (eBin Ha (oVar 1) (oVar 3))))))))
  (HU (GX (aB Hz (oVal (bT (HD (eE 7) (HD (dH (ax 7)) (dI (ax 7)))) [none] (aName 0) (GX (aB Hz (oVar 0) (oVal (eCon (.int 0))))) (ax 0))) (oVal (jA dsNil))))
  (kx (yD 5 (ax 7)))
  bQ))
def iX:FS:=(so (xI (Aj (oVar 1) (pO (eCon (.int 1))) pN)) (aName 6)
  cB)
def g5:FS:=(sSeq (cp 1 (ax 5))
  (cp 2 (eBin addO (oVar 2) (oVal (eCon (.int 1))))))
noncomputable def dm:FS:=(sSeq (cp 3 (eBin Ha (oVar 1) (oVal (eCon (.int 0)))))
  (sSeq (cp 4 (eBin Ha (oVal (bT (b5 (oVal (aZ cZ (ag (oVar 3) au)))) [none,some 3] (aName 0) (GX (aB Hz (oVal (eBin Ha (oVar 1) (oVar 0))) (oVal (eCon (.int 0))))) (ax 0))) (oVal (eCon (.int 0)))))
  (sSeq (cp 5 (jA dsNil))
  (sSeq iX
  g5))))
def iY:FS:=(cz (GX (aB Hz (oVar 1) (oVal (jA dsNil))))
  dm 100000)
def g6:FS:=(dG (kq 2))
noncomputable def kX:FS:=(sSeq (cp 1 (bT (HD (eE 0) (HD (dH (ax 0)) (dI (ax 0)))) [none] (aName 0) (GX (aB Hz (oVal (bT (HD (eE 0) (HD (dH (ax 0)) (dI (ax 0)))) [none] (aName 0) (GX (aB Hz (oVar 0) (oVal (eCon (.int 0))))) (ax 0))) (oVal (jA dsNil)))) (ax 0)))
  (sSeq (cp 2 (eCon (.int 0)))
  (sSeq iY
  g6)))
def cD:List D->Res R:=fBody 1 7 kX
noncomputable def fL:FS:=(sSeq (HU (KA (oi (GX (Ma "tuple" (oVar 0)))) (GX (aB Hz (oVal (aZ cZ (ag (oVar 0) au))) (oVal (eCon (.int 2))))))
  (dG (eCon (.str [])))
  bQ)
  (sSeq (HU (uF (GX (aB Il (oVal (eBin Ha (oVar 0) (oVal (eCon (.int 0))))) (oVal (eCon (.str [114,111,119]))))) (GX (cx bg (ag (oVal (eBin Ha (oVar 0) (oVal (eCon (.int 1))))) (ag (oVar 2) au)))))
  (HU (GX (aB Il (oVal (bT (HD (eE 1) (HD (dH (ax 1)) (dI (ax 1)))) [none,some 0] (aName 0) (GX (eBin Kf (oVal (cx bf (ag (oVar 0) (ag (oVal (eBin Ha (oVar 1) (oVal (eCon (.int 1))))) au)))) (oVal (eCon (.int 1))))) (ax 0))) (oVal (jA dsNil))))
  (dG (eCon (.str [114,111,119])))
  bQ)
  bQ)
  (sSeq (HU (uF (GX (aB Il (oVal (eBin Ha (oVar 0) (oVal (eCon (.int 0))))) (oVal (eCon (.str [115,117,109]))))) (GX (cx aS (ag (oVal (eBin Ha (oVar 0) (oVal (eCon (.int 1))))) (ag (oVal (aZ cZ (ag (oVar 1) au))) au)))))
  (HU (uF (GX (aB Il (oVal (bT (xI (eBin Ha (oVar 0) (oVal (eCon (.int 1))))) [none] (aName 0) (GX (eBin Kf (oVar 0) (oVal (eCon (.int 0))))) (ax 0))) (oVal (jA dsNil)))) (GX (aB Hz (oVal (bT (xI (eBin Ha (oVar 0) (oVal (eCon (.int 1))))) [none] (aName 0) (GX (eBin KY (oVar 0) (oVal (eCon (.int 0))))) (ax 0))) (oVal (jA dsNil)))))
  (HU (GX (aB Il (oVal (cx bZ (ag (oVar 1) (ag (oVal (eBin Ha (oVar 0) (oVal (eCon (.int 1))))) (ag (oVar 2) au))))) (oVal (eBin sI (oVal (eTup (dsCons (eCon (.int 0)) dsNil))) (oVar 2)))))
  (dG (eCon (.str [115,117,109])))
  bQ)
  bQ)
  bQ)
  (dG (eCon (.str []))))))
def bC:List D->Res R:=fBody 3 0 fL
noncomputable def kY:FS:=(dG (eBin addO (oVal (eBin addO (oVal (eBin yL (oVal (eTup (dsCons (eCon (.int 0)) dsNil))) (oVar 1))) (oVal (eTup (dsCons (ax 2) dsNil))))) (oVal (eBin yL (oVal (eTup (dsCons (eCon (.int 0)) dsNil))) (oVal (eBin om (oVal (eBin om (oVar 0) (oVar 1))) (oVal (eCon (.int 1)))))))))
def bG:List D->Res R:=fBody 3 0 kY
noncomputable def fw:FS:=(sSeq (HU (KA (oi (GX (Ma "tuple" (oVar 0)))) (KA (GX (aB Hz (oVal (aZ cZ (ag (oVar 0) au))) (oVal (eCon (.int 3))))) (KA (GX (aB Hz (oVal (eBin Ha (oVar 0) (oVal (eCon (.int 0))))) (oVal (eCon (.str [115,117,109]))))) (KA (oi (GX (cx a8 (ag (oVal (eBin Ha (oVar 0) (oVal (eCon (.int 1))))) au)))) (GX (eBin Kf (oVal (eBin Ha (oVar 0) (oVal (eCon (.int 1))))) (oVal (eCon (.int 1)))))))))
  (dG (eCon (.bl false)))
  bQ)
  (sSeq (HU (oi (GX (cx aS (ag (oVal (eBin Ha (oVar 0) (oVal (eCon (.int 2))))) (ag (oVal (aZ cZ (ag (oVar 1) au))) au)))))
  (dG (eCon (.bl false)))
  bQ)
  (dG (aB Il (oVal (cx bZ (ag (oVar 1) (ag (oVal (eBin Ha (oVar 0) (oVal (eCon (.int 2))))) (ag (oVal (aZ cZ (ag (oVar 2) au))) au))))) (oVal (cx bZ (ag (oVal (jA (dsCons (ax 2) dsNil))) (ag (oVal (jA (dsCons (eBin Ha (oVar 0) (oVal (eCon (.int 1)))) dsNil))) (ag (oVal (aZ cZ (ag (oVar 2) au))) au)))))))))
def aK:List D->Res R:=fBody 3 0 fw
noncomputable def dy:FS:=(sSeq (HU (KA (oi (GX (Ma "tuple" (oVar 0)))) (KA (GX (aB Hz (oVal (aZ cZ (ag (oVar 0) au))) (oVal (eCon (.int 2))))) (KA (GX (aB Hz (oVal (eBin Ha (oVar 0) (oVal (eCon (.int 0))))) (oVal (eCon (.str [114,111,119]))))) (oi (GX (cx bg (ag (oVal (eBin Ha (oVar 0) (oVal (eCon (.int 1))))) (ag (oVar 3) au))))))))
  (dG (eCon (.bl false)))
  bQ)
  (dG (DB (aB Hz (oVal (eBin Ha (oVal (eBin Ha (oVar 0) (oVal (eCon (.int 1))))) (oVar 1))) (oVal (eCon (.int 0)))) (aB Hz (oVar 2) (oVal (eCon (.int 0)))))))
def aP:List D->Res R:=fBody 4 0 dy
def iZ:FS:=(HU (KA (oi (GX (cx bg (ag (oVar 10) (ag (oVar 2) au))))) (uF (GX (eBin KY (oVar 7) (oVal (eCon (.int 0))))) (GX (aB Hz (oVal (eBin Ha (oVar 10) (oVar 5))) (oVal (eCon (.int 0)))))))
  (dG (eCon (.bl false)))
  bQ)
def pX:FS:=(so (xI (ax 9)) (aName 10)
  iZ)
noncomputable def j5:FS:=(sSeq (cp 11 (eBin om (oVal (eFunW (.l .f) aY 1 (ag (oVar 1) (ag (oVal (eBin sv (oVal (eCon (.int 10))) (oVal (eCon (.int 9))))) au)))) (oVal (eBin sv (oVal (eCon (.int 10))) (oVal (eCon (.int 8)))))))
  (sSeq (cp 10 (cx bG (ag (oVar 2) (ag (oVar 5) (ag (oVar 11) au)))))
  (sSeq (HU (uF (GX (eBin KY (oVar 7) (oVal (eCon (.int 0))))) (oi (GX (cx aK (ag (oVal (cx aM (ag (oVar 3) (ag (oVar 10) au)))) (ag (oVar 3) (ag (oVar 10) au)))))))
  (dG (eCon (.bl false)))
  bQ)
  (sSeq (HU (oi (GX (cx aK (ag (oVal (cx aM (ag (oVar 3) (ag (oVal (eBin sI (oVal (eTup (dsCons (eCon (.int 0)) dsNil))) (oVar 2))) au)))) (ag (oVar 3) (ag (oVal (eBin sI (oVal (eTup (dsCons (eCon (.int 0)) dsNil))) (oVar 2))) au))))))
  (dG (eCon (.bl false)))
  bQ)
  (sSeq (cp 10 (cx bG (ag (oVar 2) (ag (oVar 5) (ag (oVar 6) au)))))
  (sSeq (HU (uF (GX (aB Il (oVar 7) (oVal (eCon (.int 0))))) (uF (GX (eBin KY (oVar 2) (oVal (eCon (.int 0))))) (oi (GX (cx aP (ag (oVal (cx aM (ag (oVar 3) (ag (oVar 10) au)))) (ag (oVar 5) (ag (oVar 6) (ag (oVar 2) au)))))))))
  (dG (eCon (.bl false)))
  bQ)
  (sSeq (cp 12 (eCon (.str [115,117,109])))
  (sSeq (HU (uF (GX (ax 4)) (GX (eBin Kf (oVar 7) (oVal (eCon (.int 2))))))
  (cp 12 (eCon (.str [114,111,119])))
  bQ)
  (dG (aB Il (oVal (cx bC (ag (oVal (cx fJ (ag (oVar 3) (ag (oVar 2) au)))) (ag (oVar 3) (ag (oVar 2) au))))) (oVar 12)))))))))))
noncomputable def CN:FS:=(sSeq (cp 1 (cx bY (ag (oVar 0) (ag (oVal (eCon (.int 20))) au))))
  (sSeq (cp 2 (eFunW (.l .f) aY 1 (ag (oVar 1) (ag (oVal (eCon (.int 6))) au))))
  (sSeq (cp 3 (bT (b5 (oVal (eFunW (.l .f) aY 1 (ag (oVar 1) (ag (oVal (eCon (.int 10))) au))))) [none,some 2] (aName 0) cYes (eBin sI (oVal (eTup (dsCons (eCon (.int 0)) dsNil))) (oVar 1))))
  (sSeq (cp 4 (aB Il (oVar 3) (oVal (jA dsNil))))
  (sSeq (cp 5 (eFunW (.l .f) aY 1 (ag (oVar 1) (ag (oVal (aZ maxD (ag (oVal (eCon (.int 1))) (ag (oVar 2) au)))) au))))
  (sSeq (cp 6 (eBin addO (oVal (eCon (.int 1))) (oVal (eFunW (.l .f) aY 1 (ag (oVar 1) (ag (oVal (eBin sv (oVal (eCon (.int 10))) (oVal (eCon (.int 50))))) au))))))
  (sSeq (HU (GX (aB Il (oVal (eFunW (.l .f) aY 1 (ag (oVar 1) (ag (oVal (eCon (.int 2))) au)))) (oVal (eCon (.int 1)))))
  (cp 6 (eBin om (oVal (eCon (.int 0))) (oVar 6)))
  bQ)
  (sSeq (cp 7 (eFunW (.l .f) aY 1 (ag (oVar 1) (ag (oVal (eCon (.int 3))) au))))
  (sSeq (HU (GX (aB Il (oVar 2) (oVal (eCon (.int 0)))))
  (cp 7 (eCon (.int 0)))
  bQ)
  (sSeq (cp 8 (eFunW (.l .f) aY 1 (ag (oVar 1) (ag (oVal (eBin addO (oVal (aZ cZ (ag (oVar 3) au))) (oVal (eCon (.int 1))))) au))))
  (sSeq (HU (GX (eBin KY (oVar 7) (oVal (eCon (.int 0)))))
  (kx (eIns 3 (ax 8) (cx bG (ag (oVar 2) (ag (oVar 5) (ag (oVar 6) au))))))
  bQ)
  (sSeq (HU (GX (aB Il (oVar 7) (oVal (eCon (.int 2)))))
  (kx (yD 3 (cx bG (ag (oVar 2) (ag (oVar 5) (ag (oVal (eBin om (oVal (eCon (.int 0))) (oVar 6))) au))))))
  bQ)
  (sSeq (cp 9 (cx dk (ag (oVal (aZ pP (ag (oVar 3) au))) (ag (oVar 2) au))))
  (sSeq (HU (KA (oi (GX (Ma "list" (oVar 9)))) (KA (GX (aB Hz (oVal (aZ cZ (ag (oVar 9) au))) (oVal (eBin om (oVar 2) (oVal (aZ A8 (ag (oVal (eBin KY (oVar 7) (oVal (eCon (.int 0))))) au))))))) (GX (aB Hz (oVal (cx cD (ag (oVar 9) au))) (oVal (aZ cZ (ag (oVar 9) au)))))))
  (dG (eCon (.bl false)))
  bQ)
  (sSeq pX
  j5)))))))))))))))
def m_law:List D->Res R:=fBody 1 12 CN
end LW
namespace LW
open PySem PySem.Spec PyProof.Rows L2 NX PV
theorem CO{α:Type}{Q:List α->Prop}(h:∀a,Q [a]):∀us,us.length=1->Q us
 |[a],_=>h a
theorem sM{α:Type}{Q:List α->Prop}(h:∀a b,Q [a,b]):∀us,us.length=2->Q us
 |[a,b],_=>h a b
theorem yM{α:Type}{Q:List α->Prop}(h:∀a b c,Q [a,b,c]):∀us,us.length=3->Q us
 |[a,b,c],_=>h a b c
theorem Gq{α:Type}{Q:List α->Prop}(h:∀a b c d,Q [a,b,c,d]):∀us,us.length=4->Q us
 |[a,b,c,d],_=>h a b c d
theorem i5{X:Cx}{tg e:Expr}{f:FX}(h:QE X e f):QI X tg e (HD (B8 f) (HD (dH f) (dI f))):=sy (z8 h) (sy (dU h) (dW h))
def top(i:Nat):Stmt:=PySem.Challenge.pw_netfinder_k45_rows_of_no_width.main.body.getD i (.Pass ⟨0,0,0,0⟩)
theorem A9:Str.ofString "sum" = S [115,117,109]:=by decide +kernel
theorem Az:Str.ofString "row" = S [114,111,119]:=by decide +kernel
theorem Ft:Str.ofString "" = S []:=by decide +kernel
section
variable{P:Program}{w:World}{K:W.Frag}{mg:Str->Option Value}{base:Heap}
abbrev kZ:Stmt:=top 1
theorem sN:FnScope ["one","other"] ["one","other"] (defScope kZ):=fs
theorem sO(Df:Def K mg "product" kZ)(Jq:mg "sum" = none)(ID:mg "zip" = none):Ct P w K mg base "product" 1 (spF K cf):=
 dJ Df sN (fun _ _ _ _ _ _=>sM fun _ _=>rfl) fun f Hk A outer s H E hr=>
  (ar (aR (aG (uJ rfl) (by rfl) Jq uT (ab (ae (bo [none,none] ["number","factor"] rfl (a7 (mI (by rfl) ID (ab (ae (aq (pv 0))) (ab (ae (aq (pv 1))) ai)))) (fun _ _ _ _ _=>(have h:=(show List.Nodup (["number","factor"]:List Str) from by decide +kernel);(kz rfl (cb (ay (i:=0) h rfl (lo rfl)) (cb (ay (i:=1) h rfl (lo rfl)) ia))))) (fun _ _ _ _ _=>cw) (fun _ _ _ _ _=>(bc c7 (af (pv 0)) (af (pv 1)))))) ai))))
abbrev mQ:Stmt:=top 2
theorem vG:FnScope ["rows","numbers","width"] ["rows","numbers","width"] (defScope mQ):=fs
theorem vH(Df:Def K mg "summed" mQ)(He:mg "range" = none)(Jq:mg "sum" = none)(G9:mg "tuple" = none)(ID:mg "zip" = none):Ct P w K mg base "summed" 1 (spF K fH):=
 dJ Df vG (fun _ _ _ _ _ _=>yM fun _ _ _=>rfl) fun f Hk A outer s H E hr=>
  (ar (aR (du iK (by rfl) G9 dF (ab (ae (vg [none,some 0,some 1] ["at","rows","numbers"] rfl (a7 (dv (by rfl) He (af (pv 2)))) (fun _ _ _ _ _=>(ay (i:=0) (show List.Nodup (["at","rows","numbers"]:List Str) from by decide +kernel) rfl (lo rfl))) (fun _ _ _ _ _=>cw) (fun _ _ _ _ _=>(aG (uJ rfl) (by rfl) Jq uT (ab (ae (bo [none,none,some 0] ["row","number","at"] rfl (a7 (mI (by rfl) ID (ab (ae (aq (pv 1))) (ab (ae (aq (pv 2))) ai)))) (fun _ _ _ _ _=>(have h:=(show List.Nodup (["row","number","at"]:List Str) from by decide +kernel);(kz rfl (cb (ay (i:=0) h rfl (lo rfl)) (cb (ay (i:=1) h rfl (lo rfl)) ia))))) (fun _ _ _ _ _=>cw) (fun _ _ _ _ _=>(bc c7 (ae (br (af (pv 0)) (af (pv 2)))) (af (pv 1)))))) ai))))) ai))))
abbrev dD:Stmt:=top 3
theorem cq:FnScope ["one","other","rest"] ["one","other"] (defScope dD):=fs
theorem jq(Df:Def K mg "common_divisor" dD)(Kg:mg "abs" = none):Ct P w K mg base "common_divisor" 1 (spF K aV):=
 dJ Df cq (fun _ _ _ _ _ _=>sM fun _ _=>rfl) fun f Hk A outer s H E hr=>
  (ah (j3 100000 Uj (aF (dX hr.units) (af (pv 1)) (ae ao) (aA _))
  (ah (aI (i:=2) cq.nd rfl (lo rfl) (bc As (af (pv 0)) (af (pv 1))))
  (ah (aI (i:=0) cq.nd rfl (lo rfl) (aq (pv 1)))
  (ar (aI (i:=1) cq.nd rfl (lo rfl) (aq (pv 2)))))))
  (ar (aR (aG yK (by rfl) Kg bt_abs (ab (af (pv 0)) ai)))))
abbrev mR:Stmt:=top 4
theorem i6:FnScope ["row","divisor","number"] ["row"] (defScope mR):=fs
theorem vI(Df:Def K mg "lowest" mR)(HE:Ct P w K mg base "common_divisor" 1 (spF K aV))(G9:mg "tuple" = none):Ct P w K mg base "lowest" 2 (spF K cJ):=
 dJ Df i6 (fun _ _ _ _ _ _=>CO fun _=>rfl) fun f Hk A outer s H E hr=>
  (ah (aI (i:=1) i6.nd rfl (lo rfl) ao)
  (ah (gW Uj rfl (i5 (aq (pv 0))) (ay (i:=2) i6.nd rfl (lo rfl))
  (ar (aI (i:=1) i6.nd rfl (lo rfl) (aO HE hr.m (by rfl) (ab (af (pv 1)) (ab (af (pv 2)) ai))))))
  (ah (cy (aF (gy hr.units) (af (pv 1)) (ae ao) (aA _))
  (ar (aR (gx (pv 0))))
  aU)
  (ar (aR (du iK (by rfl) G9 dF (ab (ae (bo [none,some 1] ["number","divisor"] rfl (bP (cH (pv 0)) (bP (a7 (dU (aq (pv 0)))) (a7 (dW (aq (pv 0)))))) (fun _ _ _ _ _=>(ay (i:=0) (show List.Nodup (["number","divisor"]:List Str) from by decide +kernel) rfl (lo rfl))) (fun _ _ _ _ _=>cw) (fun _ _ _ _ _=>(bc mP (af (pv 0)) (af (pv 1)))))) ai)))))))
abbrev k7:Stmt:=top 6
theorem sP:FnScope ["row","column","by"] ["row","column","by"] (defScope k7):=fs
theorem sQ(Df:Def K mg "cleared" k7)(Mi:Ct P w K mg base "summed" 1 (spF K fH))(GZ:mg "len" = none):Ct P w K mg base "cleared" 2 (spF K dw):=
 dJ Df sP (fun _ _ _ _ _ _=>yM fun _ _ _=>rfl) fun f Hk A outer s H E hr=>
  (ah (cy (aF (gy hr.units) (ae (br (af (pv 0)) (af (pv 1)))) (ae ao) (aA _))
  (ar (aR (gx (pv 0))))
  aU)
  (ar (aR (aO Mi hr.m (by rfl) (ab (ae (cG (aH (aq (pv 0)) (aH (aq (pv 2)) aQ)))) (ab (ae (cG (aH (br (af (pv 2)) (af (pv 1))) (aH (gX (ae (br (af (pv 0)) (af (pv 1))))) aQ)))) (ab (ae (aG bz (by rfl) GZ bt_len (ab (af (pv 0)) ai))) ai)))))))
abbrev fM:Stmt:=top 7
theorem eN:FnScope ["leaders","column","leader","joined","other"] ["leaders","column","leader"] (defScope fM):=fs
theorem lB(Df:Def K mg "with_leader" fM)(Jm:Ct P w K mg base "cleared" 2 (spF K dw))(Ip:Ct P w K mg base "lowest" 2 (spF K cJ)):Ct P w K mg base "with_leader" 3 (spM K (.d) bU):=
 uY Df eN (fun _ _ _ _ _ _=>yM fun _ _ _=>rfl) fun f Hk A outer s H E hr=>
  (ah (aI (i:=3) eN.nd rfl (lo rfl) uO)
  (ah (pV Uj rfl (pv 0) (ay (i:=4) eN.nd rfl (lo rfl))
  (ar (yJ (hu_of hr) (pv 3) (aq (pv 4)) (aO Ip hr.m (by rfl) (ab (ae (aO Jm hr.m (by rfl) (ab (ae (uX (hu_of hr) (af (pv 0)) (af (pv 4)))) (ab (af (pv 1)) (ab (af (pv 2)) ai))))) ai)))))
  (ah (yJ (hu_of hr) (pv 3) (aq (pv 1)) (aq (pv 2)))
  (ar (mK (i:=0) (gx (pv 3)))))))
abbrev gF:Stmt:=top 8
theorem bN:FnScope ["rows","leaders","row","rest","column","filled"] ["rows"] (defScope gF):=fs
theorem mS(Df:Def K mg "leaders_of" gF)(Jm:Ct P w K mg base "cleared" 2 (spF K dw))(Ip:Ct P w K mg base "lowest" 2 (spF K cJ))(J3:Ct P w K mg base "with_leader" 3 (spM K (.d) bU))(Hg:mg "enumerate" = none)(GZ:mg "len" = none):Ct P w K mg base "leaders_of" 4 (spF K bR):=
 dJ Df bN (fun _ _ _ _ _ _=>CO fun _=>rfl) fun f Hk A outer s H E hr=>
  (ah (aI (i:=1) bN.nd rfl (lo rfl) uO)
  (ah (gW Uj rfl (i5 (aq (pv 0))) (ay (i:=2) bN.nd rfl (lo rfl))
  (ah (aI (i:=3) bN.nd rfl (lo rfl) (aq (pv 2)))
  (ah (Ax Uj rfl (pv 1) (ay (i:=4) bN.nd rfl (lo rfl))
  (ar (aI (i:=3) bN.nd rfl (lo rfl) (aO Jm hr.m (by rfl) (ab (af (pv 3)) (ab (af (pv 4)) (ab (ae (uX (hu_of hr) (af (pv 1)) (af (pv 4)))) ai)))))))
  (ah (iO (i:=5) [none,none] ["column","number"] bN.nd rfl (lo rfl) rfl (a7 (mN (by rfl) Hg (ab (ae (aq (pv 3))) ai))) (fun _ _ _ _ _=>(have h:=(show List.Nodup (["column","number"]:List Str) from by decide +kernel);(kz rfl (cb (ay (i:=0) h rfl (lo rfl)) (cb (ay (i:=1) h rfl (lo rfl)) ia))))) (fun _ _ _ _ _=>(dC (aF (dX hr.units) (af (pv 1)) (ae ao) (aA _)))) (fun _ _ _ _ _=>(aq (pv 0))))
  (ar (cy (eX pM (ae (aG bz (by rfl) GZ bt_len (ab (af (pv 5)) ai))) (ae ao) (aA _))
  (ar (aI (i:=1) bN.nd rfl (lo rfl) (dZ (i:=1) J3 hr.m (by rfl) (ab (af (pv 1)) (ab (ae (br (af (pv 5)) (ae ao))) (ab (ae (aO Ip hr.m (by rfl) (ab (af (pv 3)) ai))) ai))))))
  aU))))))
  (ar (aR (gx (pv 1))))))
abbrev gG:Stmt:=top 9
theorem bW:FnScope ["leaders","column","width","scale","at","leading","told"] ["leaders","column","width"] (defScope gG):=fs
theorem mT(Df:Def K mg "kernel_row" gG)(HE:Ct P w K mg base "common_divisor" 1 (spF K aV))(Ip:Ct P w K mg base "lowest" 2 (spF K cJ))(Kg:mg "abs" = none)(G9:mg "tuple" = none):Ct P w K mg base "kernel_row" 3 (spM K (.d) aE):=
 uY Df bW (fun _ _ _ _ _ _=>yM fun _ _ _=>rfl) fun f Hk A outer s H E hr=>
  (ah (aI (i:=3) bW.nd rfl (lo rfl) ao)
  (ah (pV Uj rfl (pv 0) (ay (i:=4) bW.nd rfl (lo rfl))
  (ah (aI (i:=5) bW.nd rfl (lo rfl) (br (ae (uX (hu_of hr) (af (pv 0)) (af (pv 4)))) (af (pv 4))))
  (ar (aI (i:=3) bW.nd rfl (lo rfl) (bc mP (ae (aG yK (by rfl) Kg bt_abs (ab (ae (bc c7 (af (pv 3)) (af (pv 5)))) ai))) (ae (aO HE hr.m (by rfl) (ab (af (pv 3)) (ab (af (pv 5)) ai)))))))))
  (ah (aI (i:=6) bW.nd rfl (lo rfl) (bc c7 (ae (cG (aH ao aQ))) (af (pv 2))))
  (ah (kO (pv 6) (aq (pv 1)) (aq (pv 3)))
  (ah (pV Uj rfl (pv 0) (ay (i:=4) bW.nd rfl (lo rfl))
  (ar (kO (pv 6) (aq (pv 4)) (bc c7 (ae (gX (ae (br (ae (uX (hu_of hr) (af (pv 0)) (af (pv 4)))) (af (pv 1)))))) (ae (bc mP (af (pv 3)) (ae (br (ae (uX (hu_of hr) (af (pv 0)) (af (pv 4)))) (af (pv 4))))))))))
  (ar (mK (i:=0) (aO Ip hr.m (by rfl) (ab (ae (du iK (by rfl) G9 dF (ab (af (pv 6)) ai))) ai)))))))))
abbrev mU:Stmt:=top 10
theorem oU:FnScope ["rows","width","leaders"] ["rows","width"] (defScope mU):=fs
theorem vJ(Df:Def K mg "kernel" mU)(Ib:Ct P w K mg base "kernel_row" 3 (spM K (.d) aE))(Ic:Ct P w K mg base "leaders_of" 4 (spF K bR))(He:mg "range" = none):Ct P w K mg base "kernel" 5 (spF K dk):=
 dJ Df oU (fun _ _ _ _ _ _=>sM fun _ _=>rfl) fun f Hk A outer s H E hr=>
  (ah (aI (i:=2) oU.nd rfl (lo rfl) (aO Ic hr.m (by rfl) (ab (af (pv 0)) ai)))
  (ar (aR (xH (j:=2) (k0:=1) [none,some 2,some 1] ["column","leaders","width"] rfl (dv (by rfl) He (af (pv 1))) (fun _ _ _ _ _=>(ay (i:=0) (show List.Nodup (["column","leaders","width"]:List Str) from by decide +kernel) rfl (lo rfl))) (fun _ _ _ _ _=>(dC (aF (pT hr.u65) (af (pv 0)) (af (pv 1)) (by with_unfolding_all rfl)))) (fun _ _ _ _ _=>(dZ (i:=1) Ib hr.m (by rfl) (ab (af (pv 1)) (ab (af (pv 0)) (ab (af (pv 2)) ai)))))))))
abbrev fN:Stmt:=top 11
theorem g7:FnScope ["rows","width","leaders"] ["rows","width"] (defScope fN):=fs
theorem lC(Df:Def K mg "closing_row" fN)(Ib:Ct P w K mg base "kernel_row" 3 (spM K (.d) aE))(Ic:Ct P w K mg base "leaders_of" 4 (spF K bR)):Ct P w K mg base "closing_row" 5 (spF K bA):=
 dJ Df g7 (fun _ _ _ _ _ _=>sM fun _ _=>rfl) fun f Hk A outer s H E hr=>
  (ah (aI (i:=2) g7.nd rfl (lo rfl) (aO Ic hr.m (by rfl) (ab (af (pv 0)) ai)))
  (ah (cy (aF (Cz hr.u65) (ae (bc iG (af (pv 1)) (ae ao))) (af (pv 2)) (by with_unfolding_all rfl))
  (ar (aR qJ))
  aU)
  (ar (aR (dZ (i:=2) Ib hr.m (by rfl) (ab (af (pv 2)) (ab (ae (bc iG (af (pv 1)) (ae ao))) (ab (af (pv 1)) ai))))))))
abbrev k8:Stmt:=top 13
theorem gR:FnScope ["rows","row","joined","columns","closing"] ["rows","row"] (defScope k8):=fs
theorem sR(Df:Def K mg "spanned" k8)(HV:Ct P w K mg base "closing_row" 5 (spF K bA))(JS:Ct P w K mg base "kernel" 5 (spF K dk))(Jn:Ct P w K mg base "product" 1 (spF K cf))(GZ:mg "len" = none)(HL:mg "list" = none)(He:mg "range" = none)(G9:mg "tuple" = none):Ct P w K mg base "spanned" 6 (spF K aM):=
 dJ Df gR (fun _ _ _ _ _ _=>sM fun _ _=>rfl) fun f Hk A outer s H E hr=>
  (ah (aI (i:=2) gR.nd rfl (lo rfl) (bc cI (ae (du uI (by rfl) HL l9 (ab (af (pv 0)) ai))) (ae (cG (aH (aq (pv 1)) aQ)))))
  (ah (vA (i:=3) [none,some 2] ["at","joined"] gR.nd rfl (lo rfl) rfl (a7 (dv (by rfl) He (ae (aG bz (by rfl) GZ bt_len (ab (af (pv 1)) ai))))) (fun _ _ _ _ _=>(ay (i:=0) (show List.Nodup (["at","joined"]:List Str) from by decide +kernel) rfl (lo rfl))) (fun _ _ _ _ _=>cw) (fun _ _ _ _ _=>(du iK (by rfl) G9 dF (ab (ae (bo [none,some 0] ["one","at"] rfl (bP (cH (pv 1)) (bP (a7 (dU (aq (pv 1)))) (a7 (dW (aq (pv 1)))))) (fun _ _ _ _ _=>(ay (i:=0) (show List.Nodup (["one","at"]:List Str) from by decide +kernel) rfl (lo rfl))) (fun _ _ _ _ _=>cw) (fun _ _ _ _ _=>(br (af (pv 0)) (af (pv 1)))))) ai))))
  (ah (aI (i:=4) gR.nd rfl (lo rfl) (aO HV hr.m (by rfl) (ab (af (pv 3)) (ab (ae (aG bz (by rfl) GZ bt_len (ab (af (pv 2)) ai))) ai))))
  (ah (cy (aF Cj (af (pv 4)) (ae qJ) (aA _))
  (ar (aR (fZ (aH (dS Az (by decide)) (aH (br (ae (bo [none,some 1] ["other","row"] rfl (a7 (i5 (aO JS hr.m (by rfl) (ab (af (pv 0)) (ab (ae (aG bz (by rfl) GZ bt_len (ab (af (pv 1)) ai))) ai))))) (fun _ _ _ _ _=>(ay (i:=0) (show List.Nodup (["other","row"]:List Str) from by decide +kernel) rfl (lo rfl))) (fun _ _ _ _ _=>(dC (aF (dX hr.units) (ae (aO Jn hr.m (by rfl) (ab (af (pv 0)) (ab (af (pv 1)) ai)))) (ae ao) (aA _)))) (fun _ _ _ _ _=>(aq (pv 0))))) (ae ao)) aQ)))))
  aU)
  (ar (aR (fZ (aH (dS A9 (by decide)) (aH (br (af (pv 4)) (ae (gX (ae ao)))) (aH (bo [none] ["number"] rfl (a7 (i5 (oD (af (pv 4)) kA (kB (gX (ae ao)))))) (fun _ _ _ _ _=>(ay (i:=0) (show List.Nodup (["number"]:List Str) from by decide +kernel) rfl (lo rfl))) (fun _ _ _ _ _=>cw) (fun _ _ _ _ _=>(gX (af (pv 0))))) aQ))))))))))
abbrev fO:Stmt:=top 15
theorem dn:FnScope ["rows","chosen","at","row"] ["rows"] (defScope fO):=fs
theorem lD(Df:Def K mg "independent" fO)(HF:Ct P w K mg base "spanned" 6 (spF K aM))(Hg:mg "enumerate" = none):Ct P w K mg base "independent" 7 (spF K bV):=
 dJ Df dn (fun _ _ _ _ _ _=>CO fun _=>rfl) fun f Hk A outer s H E hr=>
  (ah (aI (i:=1) dn.nd rfl (lo rfl) (cG aQ))
  (ah (gW Uj rfl (mN (by rfl) Hg (ab (ae (aq (pv 0))) ai)) (kz rfl (cb (ay (i:=2) dn.nd rfl (lo rfl)) (cb (ay (i:=3) dn.nd rfl (lo rfl)) ia)))
  (ar (cy (Ar (aF (gy hr.units) (ae (br (ae (aO HF hr.m (by rfl) (ab (ae (bo [none,some 0] ["other","rows"] rfl (bP (cH (pv 1)) (bP (a7 (dU (aq (pv 1)))) (a7 (dW (aq (pv 1)))))) (fun _ _ _ _ _=>(ay (i:=0) (show List.Nodup (["other","rows"]:List Str) from by decide +kernel) rfl (lo rfl))) (fun _ _ _ _ _=>cw) (fun _ _ _ _ _=>(br (af (pv 1)) (af (pv 0)))))) (ab (af (pv 3)) ai)))) (ae ao))) (ae (dS Az (by decide))) (aA _)))
  (ar (ky (iI (pv 1) (aq (pv 2)))))
  aU)))
  (ar (aR (gx (pv 1))))))
abbrev ic:Stmt:=top 16
theorem oV:FnScope ["rows","width"] ["rows","width"] (defScope ic):=fs
theorem oW(Df:Def K mg "level_row" ic)(HV:Ct P w K mg base "closing_row" 5 (spF K bA)):Ct P w K mg base "level_row" 6 (spF K bt):=
 dJ Df oV (fun _ _ _ _ _ _=>sM fun _ _=>rfl) fun f Hk A outer s H E hr=>
  (ar (aR (aO HV hr.m (by rfl) (ab (ae (bo [none] ["row"] rfl (bP (cH (pv 0)) (bP (a7 (dU (aq (pv 0)))) (a7 (dW (aq (pv 0)))))) (fun _ _ _ _ _=>(ay (i:=0) (show List.Nodup (["row"]:List Str) from by decide +kernel) rfl (lo rfl))) (fun _ _ _ _ _=>cw) (fun _ _ _ _ _=>(bc cI (af (pv 0)) (ae (fZ (aH (gX (ae ao)) aQ))))))) (ab (ae (bc cI (af (pv 1)) (ae ao))) ai)))))
abbrev fP:Stmt:=top 17
theorem eO:FnScope ["rows","level","at","row"] ["rows","level"] (defScope fP):=fs
theorem lE(Df:Def K mg "first_below" fP)(Jn:Ct P w K mg base "product" 1 (spF K cf))(Hg:mg "enumerate" = none):Ct P w K mg base "first_below" 2 (spF K bB):=
 dJ Df eO (fun _ _ _ _ _ _=>sM fun _ _=>rfl) fun f Hk A outer s H E hr=>
  (ah (gW Uj rfl (mN (by rfl) Hg (ab (ae (aq (pv 0))) ai)) (kz rfl (cb (ay (i:=2) eO.nd rfl (lo rfl)) (cb (ay (i:=3) eO.nd rfl (lo rfl)) ia)))
  (ar (cy (eX (kN hr.units0) (ae (aO Jn hr.m (by rfl) (ab (af (pv 3)) (ab (ae (oD (af (pv 1)) kA (kB (gX (ae ao))))) ai)))) (ae (br (af (pv 1)) (ae (gX (ae ao))))) (aA _))
  (ar (aR (gx (pv 2))))
  aU)))
  (ar (aR qJ)))
abbrev pY:Stmt:=top 18
theorem dq:FnScope ["rows","width","chosen","level","low","answer","numbers","at","number","leaving"] ["rows","width"] (defScope pY):=fs
theorem xJ(Df:Def K mg "above" pY)(J4:Ct P w K mg base "first_below" 2 (spF K bB))(J5:Ct P w K mg base "independent" 7 (spF K bV))(KG:Ct P w K mg base "level_row" 6 (spF K bt))(HF:Ct P w K mg base "spanned" 6 (spF K aM))(GZ:mg "len" = none)(Jb:mg "sorted" = none)(ID:mg "zip" = none):Ct P w K mg base "above" 8 (spF K fJ):=
 dJ Df dq (fun _ _ _ _ _ _=>sM fun _ _=>rfl) fun f Hk A outer s H E hr=>
  (ah (aI (i:=2) dq.nd rfl (lo rfl) (aO J5 hr.m (by rfl) (ab (af (pv 0)) ai)))
  (ar (j3 100000 Uj (dt jk)
  (ah (aI (i:=3) dq.nd rfl (lo rfl) (aO KG hr.m (by rfl) (ab (ae (bo [none,some 0] ["at","rows"] rfl (bP (cH (pv 2)) (bP (a7 (dU (aq (pv 2)))) (a7 (dW (aq (pv 2)))))) (fun _ _ _ _ _=>(ay (i:=0) (show List.Nodup (["at","rows"]:List Str) from by decide +kernel) rfl (lo rfl))) (fun _ _ _ _ _=>cw) (fun _ _ _ _ _=>(br (af (pv 1)) (af (pv 0)))))) (ab (af (pv 1)) ai))))
  (ah (aI (i:=4) dq.nd rfl (lo rfl) (aO J4 hr.m (by rfl) (ab (af (pv 0)) (ab (af (pv 3)) ai))))
  (ah (cy (aF Cj (af (pv 4)) (ae qJ) (aA _))
  (ar (aR (fZ (aH (dS Az (by decide)) (aH (oD (af (pv 3)) kA (kB (gX (ae ao)))) aQ)))))
  aU)
  (ah (aI (i:=5) dq.nd rfl (lo rfl) (aO HF hr.m (by rfl) (ab (ae (bo [none,some 0] ["at","rows"] rfl (bP (cH (pv 2)) (bP (a7 (dU (aq (pv 2)))) (a7 (dW (aq (pv 2)))))) (fun _ _ _ _ _=>(ay (i:=0) (show List.Nodup (["at","rows"]:List Str) from by decide +kernel) rfl (lo rfl))) (fun _ _ _ _ _=>cw) (fun _ _ _ _ _=>(br (af (pv 1)) (af (pv 0)))))) (ab (ae (br (af (pv 0)) (af (pv 4)))) ai))))
  (ah (aI (i:=6) dq.nd rfl (lo rfl) (bc c7 (ae (cG (aH ao aQ))) (ae (aG bz (by rfl) GZ bt_len (ab (af (pv 0)) ai)))))
  (ah (kO (pv 6) (aq (pv 4)) (br (af (pv 5)) (ae ao)))
  (ah (gW Uj rfl (mI (by rfl) ID (ab (ae (aq (pv 2))) (ab (ae (br (af (pv 5)) (ae ao))) ai))) (kz rfl (cb (ay (i:=7) dq.nd rfl (lo rfl)) (cb (ay (i:=8) dq.nd rfl (lo rfl)) ia)))
  (ar (kO (pv 6) (aq (pv 7)) (gX (af (pv 8))))))
  (ah (aI (i:=9) dq.nd rfl (lo rfl) (bo [none,some 6] ["at","numbers"] rfl (bP (cH (pv 2)) (bP (a7 (dU (aq (pv 2)))) (a7 (dW (aq (pv 2)))))) (fun _ _ _ _ _=>(ay (i:=0) (show List.Nodup (["at","numbers"]:List Str) from by decide +kernel) rfl (lo rfl))) (fun _ _ _ _ _=>(dC (eX (kN hr.units0) (ae (br (af (pv 1)) (af (pv 0)))) (ae ao) (aA _)))) (fun _ _ _ _ _=>(aq (pv 0)))))
  (ah (cy (aF (gy hr.units) (ae (aG bz (by rfl) GZ bt_len (ab (af (pv 9)) ai))) (ae ao) (aA _))
  (ar (aR (fZ (aH (dS A9 (by decide)) (aH (aq (pv 6)) aQ)))))
  aU)
  (ar (aI (i:=2) dq.nd rfl (lo rfl) (aG (uN rfl) (by rfl) Jb uU (ab (ae (bc cI (ae (bo [none,some 9] ["at","leaving"] rfl (bP (cH (pv 2)) (bP (a7 (dU (aq (pv 2)))) (a7 (dW (aq (pv 2)))))) (fun _ _ _ _ _=>(ay (i:=0) (show List.Nodup (["at","leaving"]:List Str) from by decide +kernel) rfl (lo rfl))) (fun _ _ _ _ _=>(dC (aF (dX hr.units) (af (pv 0)) (ae (br (af (pv 1)) (ae ao))) (aA _)))) (fun _ _ _ _ _=>(aq (pv 0))))) (ae (cG (aH (aq (pv 4)) aQ))))) ai))))))))))))))))
abbrev eP:Stmt:=top 20
theorem cO:FnScope ["_law_script","_law_most","_law_deck","_law_last"] ["_law_script","_law_most"] (defScope eP):=fs
theorem k9(Df:Def K mg "_law_numbers" eP)(GZ:mg "len" = none)(HL:mg "list" = none)(Ie:mg "reversed" = none)(Jq:mg "sum" = none):Ct P w K mg base "_law_numbers" 1 (spF K bY):=
 dJ Df cO (fun _ _ _ _ _ _=>sM fun _ _=>rfl) fun f Hk A outer s H E hr=>
  (ah (iO (i:=2) [none] ["_law_cell"] cO.nd rfl (lo rfl) rfl (a7 (i5 (oD (af (pv 0)) kA (kB (aq (pv 1)))))) (fun _ _ _ _ _=>(ay (i:=0) (show List.Nodup (["_law_cell"]:List Str) from by decide +kernel) rfl (lo rfl))) (fun _ _ _ _ _=>cw) (fun _ _ _ _ _=>(bc qM (af (pv 0)) (ae (bc qN (ae ao) (ae ao))))))
  (ah (aI (i:=3) cO.nd rfl (lo rfl) (bc cI (ae ao) (ae (bc qM (ae (aG (uJ rfl) (by rfl) Jq uT (ab (af (pv 2)) ai))) (ae ao)))))
  (ah (j3 100000 Uj (eX (kN hr.units0) (ae (aG bz (by rfl) GZ bt_len (ab (af (pv 2)) ai))) (af (pv 1)) (aA _))
  (ah (aI (i:=3) cO.nd rfl (lo rfl) (bc qM (ae (bc cI (ae (bc cI (ae (bc c7 (af (pv 3)) (af (pv 3)))) (ae (bc c7 (ae ao) (af (pv 3)))))) (ae (aG bz (by rfl) GZ bt_len (ab (af (pv 2)) ai))))) (ae ao)))
  (ar (ky (iI (pv 2) (aq (pv 3)))))))
  (ar (aR (CH rfl (by rfl) HL (by rfl) Ie (ab (af (pv 2)) ai)))))))
abbrev ie:Stmt:=top 21
theorem oX:FnScope ["_law_deck","_law_most"] ["_law_deck","_law_most"] (defScope ie):=fs
theorem oY(Df:Def K mg "_law_draw" ie):Ct P w K mg base "_law_draw" 1 (spM K (.l .f) aY):=
 uY Df oX (fun _ _ _ _ _ _=>sM fun _ _=>rfl) fun f Hk A outer s H E hr=>
  (ah (cy (aF (gy hr.units) (af (pv 0)) (ae (cG aQ)) (aA _))
  (ar (mK (i:=0) ao))
  aU)
  (ar (mK (i:=0) (bc qM (ae (CB (pv 0))) (af (pv 1))))))
abbrev eQ:Stmt:=top 22
theorem cP:FnScope ["_law_one","_law_other","_law_total","_law_k"] ["_law_one","_law_other"] (defScope eQ):=fs
theorem lb(Df:Def K mg "_law_product" eQ)(GZ:mg "len" = none)(He:mg "range" = none):Ct P w K mg base "_law_product" 1 (spF K bf):=
 dJ Df cP (fun _ _ _ _ _ _=>sM fun _ _=>rfl) fun f Hk A outer s H E hr=>
  (ah (aI (i:=2) cP.nd rfl (lo rfl) ao)
  (ah (gW Uj rfl (dv (by rfl) He (ae (aG bz (by rfl) GZ bt_len (ab (af (pv 0)) ai)))) (ay (i:=3) cP.nd rfl (lo rfl))
  (ar (aI (i:=2) cP.nd rfl (lo rfl) (bc cI (af (pv 2)) (ae (bc c7 (ae (br (af (pv 0)) (af (pv 3)))) (ae (br (af (pv 1)) (af (pv 3))))))))))
  (ar (aR (gx (pv 2))))))
abbrev jr:Stmt:=top 23
theorem eA:FnScope ["_law_rows","_law_numbers_here","_law_width","_law_due","_law_row","_law_number","_law_k"] ["_law_rows","_law_numbers_here","_law_width"] (defScope jr):=fs
theorem pZ(Df:Def K mg "_law_sum" jr)(He:mg "range" = none)(G9:mg "tuple" = none)(ID:mg "zip" = none):Ct P w K mg base "_law_sum" 1 (spF K bZ):=
 dJ Df eA (fun _ _ _ _ _ _=>yM fun _ _ _=>rfl) fun f Hk A outer s H E hr=>
  (ah (aI (i:=3) eA.nd rfl (lo rfl) (bc c7 (ae (cG (aH ao aQ))) (af (pv 2))))
  (ah (gW Uj rfl (mI (by rfl) ID (ab (ae (aq (pv 0))) (ab (ae (aq (pv 1))) ai))) (kz rfl (cb (ay (i:=4) eA.nd rfl (lo rfl)) (cb (ay (i:=5) eA.nd rfl (lo rfl)) ia)))
  (ar (gW Uj rfl (dv (by rfl) He (af (pv 2))) (ay (i:=6) eA.nd rfl (lo rfl))
  (ar (kO (pv 3) (aq (pv 6)) (bc cI (ae (br (af (pv 3)) (af (pv 6)))) (ae (bc c7 (ae (br (af (pv 4)) (af (pv 6)))) (af (pv 5))))))))))
  (ar (aR (du iK (by rfl) G9 dF (ab (af (pv 3)) ai))))))
abbrev gH:Stmt:=top 24
theorem mV:FnScope ["_law_found"] ["_law_found"] (defScope gH):=fs
theorem mW(Df:Def K mg "_law_whole" gH)(Ks:mg "bool" = none)(Kh:mg "int" = none)(GS:mg "isinstance" = none):Ct P w K mg base "_law_whole" 1 (spF K a8):=
 dJ Df mV (fun _ _ _ _ _ _=>CO fun _=>rfl) fun f Hk A outer s H E hr=>
  (ar (aR (yA (oz (T:="int") (by decide) (af (pv 0)) (by rfl) GS (by rfl) Kh yv) (yz (B7 (oz (T:="bool") (by decide) (af (pv 0)) (by rfl) GS (by rfl) Ks zI))))))
abbrev fQ:Stmt:=top 25
theorem lF:FnScope ["_law_told","_law_width"] ["_law_told","_law_width"] (defScope fQ):=fs
theorem lG(Df:Def K mg "_law_is_row" fQ)(Hv:Ct P w K mg base "_law_whole" 1 (spF K a8))(GS:mg "isinstance" = none)(GZ:mg "len" = none)(G9:mg "tuple" = none):Ct P w K mg base "_law_is_row" 2 (spF K bg):=
 dJ Df lF (fun _ _ _ _ _ _=>sM fun _ _=>rfl) fun f Hk A outer s H E hr=>
  (ah (cy (QW.qt (jl (eY (dt (oz (T:="tuple") (by decide) (af (pv 0)) (by rfl) GS (by rfl) G9 dF))) (ku (aF (dX hr.units) (ae (aG bz (by rfl) GZ bt_len (ab (af (pv 0)) ai))) (af (pv 1)) (aA _)))))
  (ar (aR jk))
  aU)
  (ar (aR (hZ (pT hr.u65) (ae jk) (ae (bo [none] ["_law_number"] rfl (bP (cH (pv 0)) (bP (a7 (dU (aq (pv 0)))) (a7 (dW (aq (pv 0)))))) (fun _ _ _ _ _=>(ay (i:=0) (show List.Nodup (["_law_number"]:List Str) from by decide +kernel) rfl (lo rfl))) (fun _ _ _ _ _=>cw) (fun _ _ _ _ _=>(aO Hv hr.m (by rfl) (ab (af (pv 0)) ai))))) (by with_unfolding_all rfl)))))
abbrev cQ:Stmt:=top 26
theorem ig:FnScope ["_law_told","_law_count"] ["_law_told","_law_count"] (defScope cQ):=fs
theorem ij(Df:Def K mg "_law_are_numbers" cQ)(Hv:Ct P w K mg base "_law_whole" 1 (spF K a8))(GS:mg "isinstance" = none)(GZ:mg "len" = none)(HL:mg "list" = none):Ct P w K mg base "_law_are_numbers" 2 (spF K aS):=
 dJ Df ig (fun _ _ _ _ _ _=>sM fun _ _=>rfl) fun f Hk A outer s H E hr=>
  (ah (cy (QW.qt (jl (eY (dt (oz (T:="list") (by decide) (af (pv 0)) (by rfl) GS (by rfl) HL l9))) (ku (aF (dX hr.units) (ae (aG bz (by rfl) GZ bt_len (ab (af (pv 0)) ai))) (af (pv 1)) (aA _)))))
  (ar (aR jk))
  aU)
  (ar (aR (hZ (pT hr.u65) (ae jk) (ae (bo [none] ["_law_number"] rfl (bP (cH (pv 0)) (bP (a7 (dU (aq (pv 0)))) (a7 (dW (aq (pv 0)))))) (fun _ _ _ _ _=>(ay (i:=0) (show List.Nodup (["_law_number"]:List Str) from by decide +kernel) rfl (lo rfl))) (fun _ _ _ _ _=>cw) (fun _ _ _ _ _=>(aO Hv hr.m (by rfl) (ab (af (pv 0)) ai))))) (by with_unfolding_all rfl)))))
abbrev ik:Stmt:=top 27
theorem bD:FnScope ["_law_rows","_law_left","_law_rank_here","_law_top","_law_place","_law_further","_law_row","_law_lower"] ["_law_rows"] (defScope ik):=fs
theorem oZ(Df:Def K mg "_law_rank" ik)(GZ:mg "len" = none)(He:mg "range" = none):Ct P w K mg base "_law_rank" 1 (spF K cD):=
 dJ Df bD (fun _ _ _ _ _ _=>CO fun _=>rfl) fun f Hk A outer s H E hr=>
  (ah (iO (i:=1) [none] ["_law_row"] bD.nd rfl (lo rfl) rfl (bP (cH (pv 0)) (bP (a7 (dU (aq (pv 0)))) (a7 (dW (aq (pv 0)))))) (fun _ _ _ _ _=>(ay (i:=0) (show List.Nodup (["_law_row"]:List Str) from by decide +kernel) rfl (lo rfl))) (fun _ _ _ _ _=>(dC (aF (dX hr.units) (ae (bo [none] ["_law_number"] rfl (bP (cH (pv 0)) (bP (a7 (dU (aq (pv 0)))) (a7 (dW (aq (pv 0)))))) (fun _ _ _ _ _=>(ay (i:=0) (show List.Nodup (["_law_number"]:List Str) from by decide +kernel) rfl (lo rfl))) (fun _ _ _ _ _=>(dC (aF (dX hr.units) (af (pv 0)) (ae ao) (aA _)))) (fun _ _ _ _ _=>(aq (pv 0))))) (ae (cG aQ)) (aA _)))) (fun _ _ _ _ _=>(aq (pv 0))))
  (ah (aI (i:=2) bD.nd rfl (lo rfl) ao)
  (ah (j3 100000 Uj (aF (dX hr.units) (af (pv 1)) (ae (cG aQ)) (aA _))
  (ah (aI (i:=3) bD.nd rfl (lo rfl) (br (af (pv 1)) (ae ao)))
  (ah (aI (i:=4) bD.nd rfl (lo rfl) (br (ae (bo [none,some 3] ["_law_k","_law_top"] rfl (a7 (dv (by rfl) He (ae (aG bz (by rfl) GZ bt_len (ab (af (pv 3)) ai))))) (fun _ _ _ _ _=>(ay (i:=0) (show List.Nodup (["_law_k","_law_top"]:List Str) from by decide +kernel) rfl (lo rfl))) (fun _ _ _ _ _=>(dC (aF (dX hr.units) (ae (br (af (pv 1)) (af (pv 0)))) (ae ao) (aA _)))) (fun _ _ _ _ _=>(aq (pv 0))))) (ae ao)))
  (ah (aI (i:=5) bD.nd rfl (lo rfl) (cG aQ))
  (ah (gW Uj rfl (i5 (oD (af (pv 1)) (kB ao) kA)) (ay (i:=6) bD.nd rfl (lo rfl))
  (ah (iO (i:=7) [none,some 6,some 3,some 4] ["_law_k","_law_row","_law_top","_law_place"] bD.nd rfl (lo rfl) rfl (a7 (dv (by rfl) He (ae (aG bz (by rfl) GZ bt_len (ab (af (pv 6)) ai))))) (fun _ _ _ _ _=>(ay (i:=0) (show List.Nodup (["_law_k","_law_row","_law_top","_law_place"]:List Str) from by decide +kernel) rfl (lo rfl))) (fun _ _ _ _ _=>cw) (fun _ _ _ _ _=>(bc iG (ae (bc c7 (ae (br (af (pv 1)) (af (pv 0)))) (ae (br (af (pv 2)) (af (pv 3)))))) (ae (bc c7 (ae (br (af (pv 2)) (af (pv 0)))) (ae (br (af (pv 1)) (af (pv 3)))))))))
  (ar (cy (aF (dX hr.units) (ae (bo [none] ["_law_number"] rfl (bP (cH (pv 7)) (bP (a7 (dU (aq (pv 7)))) (a7 (dW (aq (pv 7)))))) (fun _ _ _ _ _=>(ay (i:=0) (show List.Nodup (["_law_number"]:List Str) from by decide +kernel) rfl (lo rfl))) (fun _ _ _ _ _=>(dC (aF (dX hr.units) (af (pv 0)) (ae ao) (aA _)))) (fun _ _ _ _ _=>(aq (pv 0))))) (ae (cG aQ)) (aA _))
  (ar (ky (iI (pv 5) (aq (pv 7)))))
  aU))))
  (ah (aI (i:=1) bD.nd rfl (lo rfl) (aq (pv 5)))
  (ar (aI (i:=2) bD.nd rfl (lo rfl) (bc cI (af (pv 2)) (ae ao))))))))))
  (ar (aR (gx (pv 2)))))))
abbrev fR:Stmt:=top 28
theorem lH:FnScope ["_law_told","_law_rows","_law_width"] ["_law_told","_law_rows","_law_width"] (defScope fR):=fs
theorem lI(Df:Def K mg "_law_walked" fR)(Hr:Ct P w K mg base "_law_are_numbers" 2 (spF K aS))(Hq:Ct P w K mg base "_law_is_row" 2 (spF K bg))(JT:Ct P w K mg base "_law_product" 1 (spF K bf))(Ig:Ct P w K mg base "_law_sum" 1 (spF K bZ))(GS:mg "isinstance" = none)(GZ:mg "len" = none)(G9:mg "tuple" = none):Ct P w K mg base "_law_walked" 3 (spF K bC):=
 dJ Df lH (fun _ _ _ _ _ _=>yM fun _ _ _=>rfl) fun f Hk A outer s H E hr=>
  (ah (cy (QW.qt (jl (eY (dt (oz (T:="tuple") (by decide) (af (pv 0)) (by rfl) GS (by rfl) G9 dF))) (ku (aF (dX hr.units) (ae (aG bz (by rfl) GZ bt_len (ab (af (pv 0)) ai))) (ae ao) (aA _)))))
  (ar (aR (dS Ft (by decide))))
  aU)
  (ah (cy (QW.qt (jx (aF (gy hr.units) (ae (br (af (pv 0)) (ae ao))) (ae (dS Az (by decide))) (aA _)) (h8 (dt (aO Hq hr.m (by rfl) (ab (ae (br (af (pv 0)) (ae ao))) (ab (af (pv 2)) ai)))))))
  (ar (cy (aF (gy hr.units) (ae (bo [none,some 0] ["_law_row","_law_told"] rfl (bP (cH (pv 1)) (bP (a7 (dU (aq (pv 1)))) (a7 (dW (aq (pv 1)))))) (fun _ _ _ _ _=>(ay (i:=0) (show List.Nodup (["_law_row","_law_told"]:List Str) from by decide +kernel) rfl (lo rfl))) (fun _ _ _ _ _=>(dC (eX (kN hr.units0) (ae (aO JT hr.m (by rfl) (ab (af (pv 0)) (ab (ae (br (af (pv 1)) (ae ao))) ai)))) (ae ao) (aA _)))) (fun _ _ _ _ _=>(aq (pv 0))))) (ae (cG aQ)) (aA _))
  (ar (aR (dS Az (by decide))))
  aU))
  aU)
  (ah (cy (QW.qt (jx (aF (gy hr.units) (ae (br (af (pv 0)) (ae ao))) (ae (dS A9 (by decide))) (aA _)) (h8 (dt (aO Hr hr.m (by rfl) (ab (ae (br (af (pv 0)) (ae ao))) (ab (ae (aG bz (by rfl) GZ bt_len (ab (af (pv 1)) ai))) ai)))))))
  (ar (cy (QW.qt (jx (aF (gy hr.units) (ae (bo [none] ["_law_number"] rfl (a7 (i5 (br (af (pv 0)) (ae ao)))) (fun _ _ _ _ _=>(ay (i:=0) (show List.Nodup (["_law_number"]:List Str) from by decide +kernel) rfl (lo rfl))) (fun _ _ _ _ _=>(dC (eX (kN hr.units0) (af (pv 0)) (ae ao) (aA _)))) (fun _ _ _ _ _=>(aq (pv 0))))) (ae (cG aQ)) (aA _)) (h8 (aF (dX hr.units) (ae (bo [none] ["_law_number"] rfl (a7 (i5 (br (af (pv 0)) (ae ao)))) (fun _ _ _ _ _=>(ay (i:=0) (show List.Nodup (["_law_number"]:List Str) from by decide +kernel) rfl (lo rfl))) (fun _ _ _ _ _=>(dC (eX pM (af (pv 0)) (ae ao) (aA _)))) (fun _ _ _ _ _=>(aq (pv 0))))) (ae (cG aQ)) (aA _)))))
  (ar (cy (aF (gy hr.units) (ae (aO Ig hr.m (by rfl) (ab (af (pv 1)) (ab (ae (br (af (pv 0)) (ae ao))) (ab (af (pv 2)) ai))))) (ae (bc kQ (ae (fZ (aH ao aQ))) (af (pv 2)))) (aA _))
  (ar (aR (dS A9 (by decide))))
  aU))
  aU))
  aU)
  (ar (aR (dS Ft (by decide)))))))
abbrev lg:Stmt:=top 29
theorem sS:FnScope ["_law_width","_law_place","_law_number"] ["_law_width","_law_place","_law_number"] (defScope lg):=fs
theorem sT(Df:Def K mg "_law_at" lg):Ct P w K mg base "_law_at" 1 (spF K bG):=
 dJ Df sS (fun _ _ _ _ _ _=>yM fun _ _ _=>rfl) fun f Hk A outer s H E hr=>
  (ar (aR (bc cI (ae (bc cI (ae (bc vE (ae (fZ (aH ao aQ))) (af (pv 1)))) (ae (fZ (aH (aq (pv 2)) aQ))))) (ae (bc vE (ae (fZ (aH ao aQ))) (ae (bc iG (ae (bc iG (af (pv 0)) (af (pv 1)))) (ae ao))))))))
abbrev df:Stmt:=top 30
theorem i7:FnScope ["_law_told","_law_rows","_law_row"] ["_law_told","_law_rows","_law_row"] (defScope df):=fs
theorem i8(Df:Def K mg "_law_is_spanned" df)(Hr:Ct P w K mg base "_law_are_numbers" 2 (spF K aS))(Ig:Ct P w K mg base "_law_sum" 1 (spF K bZ))(Hv:Ct P w K mg base "_law_whole" 1 (spF K a8))(GS:mg "isinstance" = none)(GZ:mg "len" = none)(G9:mg "tuple" = none):Ct P w K mg base "_law_is_spanned" 3 (spF K aK):=
 dJ Df i7 (fun _ _ _ _ _ _=>yM fun _ _ _=>rfl) fun f Hk A outer s H E hr=>
  (ah (cy (QW.qt (jl (eY (dt (oz (T:="tuple") (by decide) (af (pv 0)) (by rfl) GS (by rfl) G9 dF))) (jl (aF (dX hr.units) (ae (aG bz (by rfl) GZ bt_len (ab (af (pv 0)) ai))) (ae ao) (aA _)) (jl (aF (dX hr.units) (ae (br (af (pv 0)) (ae ao))) (ae (dS A9 (by decide))) (aA _)) (jl (eY (dt (aO Hv hr.m (by rfl) (ab (ae (br (af (pv 0)) (ae ao))) ai)))) (ku (eX (kN hr.units0) (ae (br (af (pv 0)) (ae ao))) (ae ao) (aA _))))))))
  (ar (aR jk))
  aU)
  (ah (cy (eY (dt (aO Hr hr.m (by rfl) (ab (ae (br (af (pv 0)) (ae ao))) (ab (ae (aG bz (by rfl) GZ bt_len (ab (af (pv 1)) ai))) ai)))))
  (ar (aR jk))
  aU)
  (ar (aR (hZ (gy hr.units) (ae (aO Ig hr.m (by rfl) (ab (af (pv 1)) (ab (ae (br (af (pv 0)) (ae ao))) (ab (ae (aG bz (by rfl) GZ bt_len (ab (af (pv 2)) ai))) ai))))) (ae (aO Ig hr.m (by rfl) (ab (ae (cG (aH (aq (pv 2)) aQ))) (ab (ae (cG (aH (br (af (pv 0)) (ae ao)) aQ))) (ab (ae (aG bz (by rfl) GZ bt_len (ab (af (pv 2)) ai))) ai))))) (aA _))))))
abbrev ck:Stmt:=top 31
theorem gq:FnScope ["_law_told","_law_place","_law_number","_law_width"] ["_law_told","_law_place","_law_number","_law_width"] (defScope ck):=fs
theorem gr(Df:Def K mg "_law_is_not_spanned" ck)(Hq:Ct P w K mg base "_law_is_row" 2 (spF K bg))(GS:mg "isinstance" = none)(GZ:mg "len" = none)(G9:mg "tuple" = none):Ct P w K mg base "_law_is_not_spanned" 3 (spF K aP):=
 dJ Df gq (fun _ _ _ _ _ _=>Gq fun _ _ _ _=>rfl) fun f Hk A outer s H E hr=>
  (ah (cy (QW.qt (jl (eY (dt (oz (T:="tuple") (by decide) (af (pv 0)) (by rfl) GS (by rfl) G9 dF))) (jl (aF (dX hr.units) (ae (aG bz (by rfl) GZ bt_len (ab (af (pv 0)) ai))) (ae ao) (aA _)) (jl (aF (dX hr.units) (ae (br (af (pv 0)) (ae ao))) (ae (dS Az (by decide))) (aA _)) (ku (eY (dt (aO Hq hr.m (by rfl) (ab (ae (br (af (pv 0)) (ae ao))) (ab (af (pv 3)) ai))))))))))
  (ar (aR jk))
  aU)
  (ar (aR (yA (hZ (dX hr.units) (ae (br (ae (br (af (pv 0)) (ae ao))) (af (pv 1)))) (ae ao) (aA _)) (yz (hZ (dX hr.units) (af (pv 2)) (ae ao) (aA _)))))))
abbrev mX:Stmt:=top 32
theorem cW:FnScope ["_law_script","_law_deck","_law_width","_law_rows","_law_bare","_law_place","_law_number","_law_way","_law_at_here","_law_basis","_law_row","_law_times","_law_due"] ["_law_script"] (defScope mX):=fs
theorem CP{f:Addr}{fd:FuncData}(F:Fun K "law" "law" mX f fd)(Iz:Ct P w K mg base "_law_at" 1 (spF K bG))(Hh:Ct P w K mg base "_law_draw" 1 (spM K (.l .f) aY))(Ij:Ct P w K mg base "_law_is_not_spanned" 3 (spF K aP))(Hq:Ct P w K mg base "_law_is_row" 2 (spF K bg))(HR:Ct P w K mg base "_law_is_spanned" 3 (spF K aK))(JU:Ct P w K mg base "_law_numbers" 1 (spF K bY))(KH:Ct P w K mg base "_law_rank" 1 (spF K cD))(J6:Ct P w K mg base "_law_walked" 3 (spF K bC))(MX:Ct P w K mg base "above" 8 (spF K fJ))(JS:Ct P w K mg base "kernel" 5 (spF K dk))(HF:Ct P w K mg base "spanned" 6 (spF K aM))(Kh:mg "int" = none)(GS:mg "isinstance" = none)(GZ:mg "len" = none)(HL:mg "list" = none)(Lk:mg "max" = none)(He:mg "range" = none):FnOk P w K mg base LM 9 f fd ["_law_script"] (spF K m_law):=
 fnok_of F cW fun Hk A outer s H E hr=>
  (ah (aI (i:=1) cW.nd rfl (lo rfl) (aO JU hr.m (by rfl) (ab (af (pv 0)) (ab (ae ao) ai))))
  (ah (aI (i:=2) cW.nd rfl (lo rfl) (dZ (i:=1) Hh hr.m (by rfl) (ab (af (pv 1)) (ab (ae ao) ai))))
  (ah (iO (i:=3) [none,some 2] ["_law_k","_law_width"] cW.nd rfl (lo rfl) rfl (a7 (dv (by rfl) He (ae (dZ (i:=1) Hh hr.m (by rfl) (ab (af (pv 1)) (ab (ae ao) ai)))))) (fun _ _ _ _ _=>(ay (i:=0) (show List.Nodup (["_law_k","_law_width"]:List Str) from by decide +kernel) rfl (lo rfl))) (fun _ _ _ _ _=>cw) (fun _ _ _ _ _=>(bc kQ (ae (fZ (aH ao aQ))) (af (pv 1)))))
  (ah (aI (i:=4) cW.nd rfl (lo rfl) (hZ (gy hr.units) (af (pv 3)) (ae (cG aQ)) (aA _)))
  (ah (aI (i:=5) cW.nd rfl (lo rfl) (dZ (i:=1) Hh hr.m (by rfl) (ab (af (pv 1)) (ab (ae (aG (Ck rfl) (by rfl) Lk Cr (ab (ae ao) (ab (af (pv 2)) ai)))) ai))))
  (ah (aI (i:=6) cW.nd rfl (lo rfl) (bc cI (ae ao) (ae (dZ (i:=1) Hh hr.m (by rfl) (ab (af (pv 1)) (ab (ae (bc qN (ae ao) (ae ao))) ai))))))
  (ah (cy (aF (gy hr.units) (ae (dZ (i:=1) Hh hr.m (by rfl) (ab (af (pv 1)) (ab (ae ao) ai)))) (ae ao) (aA _))
  (ar (aI (i:=6) cW.nd rfl (lo rfl) (bc iG (ae ao) (af (pv 6)))))
  aU)
  (ah (aI (i:=7) cW.nd rfl (lo rfl) (dZ (i:=1) Hh hr.m (by rfl) (ab (af (pv 1)) (ab (ae ao) ai))))
  (ah (cy (aF (gy hr.units) (af (pv 2)) (ae ao) (aA _))
  (ar (aI (i:=7) cW.nd rfl (lo rfl) ao))
  aU)
  (ah (aI (i:=8) cW.nd rfl (lo rfl) (dZ (i:=1) Hh hr.m (by rfl) (ab (af (pv 1)) (ab (ae (bc cI (ae (aG bz (by rfl) GZ bt_len (ab (af (pv 3)) ai))) (ae ao))) ai))))
  (ah (cy (eX pM (af (pv 7)) (ae ao) (aA _))
  (ar (ky (vx (pv 3) (aq (pv 8)) (aO Iz hr.m (by rfl) (ab (af (pv 2)) (ab (af (pv 5)) (ab (af (pv 6)) ai)))))))
  aU)
  (ah (cy (aF (gy hr.units) (af (pv 7)) (ae ao) (aA _))
  (ar (ky (iI (pv 3) (aO Iz hr.m (by rfl) (ab (af (pv 2)) (ab (af (pv 5)) (ab (ae (bc iG (ae ao) (af (pv 6)))) ai)))))))
  aU)
  (ah (aI (i:=9) cW.nd rfl (lo rfl) (aO JS hr.m (by rfl) (ab (ae (du uI (by rfl) HL l9 (ab (af (pv 3)) ai))) (ab (af (pv 2)) ai))))
  (ah (cy (QW.qt (jl (eY (dt (oz (T:="list") (by decide) (af (pv 9)) (by rfl) GS (by rfl) HL l9))) (jl (aF (dX hr.units) (ae (aG bz (by rfl) GZ bt_len (ab (af (pv 9)) ai))) (ae (bc iG (af (pv 2)) (ae (du Cm (by rfl) Kh yv (ab (ae (B6 pM (af (pv 7)) (ae ao) (aA _))) ai))))) (aA _)) (ku (aF (dX hr.units) (ae (aO KH hr.m (by rfl) (ab (af (pv 9)) ai))) (ae (aG bz (by rfl) GZ bt_len (ab (af (pv 9)) ai))) (aA _))))))
  (ar (aR jk))
  aU)
  (ah (gW Uj rfl (i5 (aq (pv 9))) (ay (i:=10) cW.nd rfl (lo rfl))
  (ar (cy (QW.qt (jl (eY (dt (aO Hq hr.m (by rfl) (ab (af (pv 10)) (ab (af (pv 2)) ai))))) (ku (QW.qt (jx (eX pM (af (pv 7)) (ae ao) (aA _)) (h8 (aF (dX hr.units) (ae (br (af (pv 10)) (af (pv 5)))) (ae ao) (aA _))))))))
  (ar (aR jk))
  aU)))
  (ah (aI (i:=11) cW.nd rfl (lo rfl) (bc iG (ae (dZ (i:=1) Hh hr.m (by rfl) (ab (af (pv 1)) (ab (ae (bc qN (ae ao) (ae ao))) ai)))) (ae (bc qN (ae ao) (ae ao)))))
  (ah (aI (i:=10) cW.nd rfl (lo rfl) (aO Iz hr.m (by rfl) (ab (af (pv 2)) (ab (af (pv 5)) (ab (af (pv 11)) ai)))))
  (ah (cy (QW.qt (jx (eX pM (af (pv 7)) (ae ao) (aA _)) (h8 (eY (dt (aO HR hr.m (by rfl) (ab (ae (aO HF hr.m (by rfl) (ab (af (pv 3)) (ab (af (pv 10)) ai)))) (ab (af (pv 3)) (ab (af (pv 10)) ai)))))))))
  (ar (aR jk))
  aU)
  (ah (cy (eY (dt (aO HR hr.m (by rfl) (ab (ae (aO HF hr.m (by rfl) (ab (af (pv 3)) (ab (ae (bc kQ (ae (fZ (aH ao aQ))) (af (pv 2)))) ai)))) (ab (af (pv 3)) (ab (ae (bc kQ (ae (fZ (aH ao aQ))) (af (pv 2)))) ai))))))
  (ar (aR jk))
  aU)
  (ah (aI (i:=10) cW.nd rfl (lo rfl) (aO Iz hr.m (by rfl) (ab (af (pv 2)) (ab (af (pv 5)) (ab (af (pv 6)) ai)))))
  (ah (cy (QW.qt (jx (aF (gy hr.units) (af (pv 7)) (ae ao) (aA _)) (jx (eX pM (af (pv 2)) (ae ao) (aA _)) (h8 (eY (dt (aO Ij hr.m (by rfl) (ab (ae (aO HF hr.m (by rfl) (ab (af (pv 3)) (ab (af (pv 10)) ai)))) (ab (af (pv 5)) (ab (af (pv 6)) (ab (af (pv 2)) ai)))))))))))
  (ar (aR jk))
  aU)
  (ah (aI (i:=12) cW.nd rfl (lo rfl) (dS A9 (by decide)))
  (ah (cy (QW.qt (jx (dt (aq (pv 4))) (h8 (eX (kN hr.units0) (af (pv 7)) (ae ao) (aA _)))))
  (ar (aI (i:=12) cW.nd rfl (lo rfl) (dS Az (by decide))))
  aU)
  (ar (aR (hZ (gy hr.units) (ae (aO J6 hr.m (by rfl) (ab (ae (aO MX hr.m (by rfl) (ab (af (pv 3)) (ab (af (pv 2)) ai)))) (ab (af (pv 3)) (ab (af (pv 2)) ai))))) (af (pv 12)) (aA _)))))))))))))))))))))))))))
end
end LW
namespace PV
open PySem L2 NX
class Cont (α β:Type) where
 run:α->Res β
def Res.bnd{α β:Type}[f:Cont α β](x:Res α):Res β:=x.bind f.run
theorem Hw{α β:Type}(a:α)(f:α->Res β):Res.bnd (Res.ok a) (f:=⟨f⟩)=f a:=id rfl
section
variable(env:PV.Env)(i n:Nat)(d:D)(f g:FX)(c c':FT)(fo Q3 fo'':FO)(fs:FOs)(fd:FDs)(s t:FS)(op op':D->D->Res R)(F:List D->Res R)(a:FG)(as:MK)(fi fj:FI)(fp GR:FP)(T:String)
theorem OA:eCon d env=.ok ((.f,d),env):=id rfl
theorem Ll:ax i env=match env[i]? with|some (some r)=>.ok ((.f,r.2),env.set i (some (fz r.1,r.2)))|_=>.bad:=id rfl
theorem Qh:fz .f=.f:=id rfl
theorem Qi(c:O):fz (.l c)=.f:=id rfl
theorem MY(p:Addr):wH (.pin p .f)=true:=id rfl
theorem Mj(p:Addr):wH (.pin p .d)=true:=id rfl
theorem MZ:kq i env=match env[i]? with|some (some r)=>.ok (r,env.set i none)|_=>.bad:=id rfl
theorem OB:oVal f env=Res.bnd (f env) (f:=⟨fun p=>.ok (.val p.1.2,p.2)⟩):=id rfl
theorem OC:oVar i env=match env[i]? with|some (some _)=>.ok (.var i,env)|_=>.bad:=id rfl
theorem M0:au env=.ok ([],env):=id rfl
theorem Mk:ag fo fs env=Res.bnd (fo env) (f:=⟨fun p=>Res.bnd (fs p.2) (f:=⟨fun q=>.ok (p.1::q.1,q.2)⟩)⟩):=id rfl
theorem M1:dsNil env=.ok ([],env):=id rfl
theorem Ml:dsCons f fd env=Res.bnd (f env) (f:=⟨fun p=>Res.bnd (fd p.2) (f:=⟨fun q=>.ok (p.1.2::q.1,q.2)⟩)⟩):=id rfl
theorem OD:Ji env (.val d)=.ok d:=id rfl
theorem OE:Ji env (.var i)=match env[i]? with|some (some r)=>if wH r.1 then .ok r.2 else .bad|_=>.bad:=id rfl
theorem Hl:sj env (.val d)=.ok d:=id rfl
theorem Hm:sj env (.var i)=match env[i]? with|some (some r)=>.ok r.2|_=>.bad:=id rfl
theorem M3:sY env []=.ok []:=id rfl
theorem M4(o:Opd)(os:List Opd):sY env (o::os)=Res.bnd (Ji env o) (f:=⟨fun d=>Res.bnd (sY env os) (f:=⟨fun ds=>.ok (d::ds)⟩)⟩):=id rfl
theorem Mm:lA env []=.ok []:=id rfl
theorem Mn(o:Opd)(os:List Opd):lA env (o::os)=Res.bnd (sj env o) (f:=⟨fun d=>Res.bnd (lA env os) (f:=⟨fun ds=>.ok (d::ds)⟩)⟩):=id rfl
theorem M5:wH .f=true:=id rfl
theorem M6:wH (.l .f)=true:=id rfl
theorem OF:eBin op fo Q3 env=Res.bnd (fo env) (f:=⟨fun p=>Res.bnd (Q3 p.2) (f:=⟨fun q=>Res.bnd (Ji q.2 p.1) (f:=⟨fun a=>Res.bnd (Ji q.2 q.1) (f:=⟨fun b=>Res.bnd (op a b) (f:=⟨fun r=>.ok (r,q.2)⟩)⟩)⟩)⟩)⟩):=id rfl
theorem M7:aB op fo Q3 env=Res.bnd (fo env) (f:=⟨fun p=>Res.bnd (Q3 p.2) (f:=⟨fun q=>Res.bnd (sj q.2 p.1) (f:=⟨fun a=>Res.bnd (sj q.2 q.1) (f:=⟨fun b=>Res.bnd (op a b) (f:=⟨fun r=>.ok (r,q.2)⟩)⟩)⟩)⟩)⟩):=id rfl
theorem Qj:GX f env=Res.bnd (f env) (f:=⟨fun p=>match p.1.2 with | .bl k=>.ok (k,p.2)|_=>.bad⟩):=id rfl
theorem OG:uF c c' env=Res.bnd (c env) (f:=⟨fun p=>if p.1 then c' p.2 else .ok (false,p.2)⟩):=id rfl
theorem Qk:KA c c' env=Res.bnd (c env) (f:=⟨fun p=>if p.1 then .ok (true,p.2) else c' p.2⟩):=id rfl
theorem OH:oi c env=Res.bnd (c env) (f:=⟨fun p=>.ok (!p.1,p.2)⟩):=id rfl
theorem OI:DB f g env=Res.bnd (f env) (f:=⟨fun p=>match p.1.2 with | .bl true=>g p.2 | .bl false=>.ok ((.f,.bl false),p.2)|_=>.bad⟩):=id rfl
theorem OJ:Ej f env=Res.bnd (f env) (f:=⟨fun p=>match p.1.2 with | .bl k=>.ok ((.f,.bl (!k)),p.2)|_=>.bad⟩):=id rfl
theorem M8:aZ F fs env=Res.bnd (fs env) (f:=⟨fun p=>Res.bnd (sY p.2 p.1) (f:=⟨fun ds=>Res.bnd (F ds) (f:=⟨fun r=>.ok (r,p.2)⟩)⟩)⟩):=id rfl
theorem OK:cx F fs env=Res.bnd (fs env) (f:=⟨fun p=>Res.bnd (lA p.2 p.1) (f:=⟨fun ds=>Res.bnd (F ds) (f:=⟨fun r=>.ok (r,if aT r.1 r.2 then p.2 else p.2.map frz)⟩)⟩)⟩):=id rfl
theorem OL:eTup fd env=Res.bnd (fd env) (f:=⟨fun p=>if p.1.length<=1000 then .ok ((.f,.tup p.1),p.2) else .bad⟩):=id rfl
theorem ON:jA fd env=Res.bnd (fd env) (f:=⟨fun p=>if p.1.length<=1000 then .ok ((.l .f,.lst p.1),p.2) else .bad⟩):=id rfl
theorem M9:pN env=.ok (none,env):=id rfl
theorem Na:pO f env=Res.bnd (f env) (f:=⟨fun p=>match p.1.2 with | .int i=>.ok (some i,p.2)|_=>.bad⟩):=id rfl
theorem OO:yD i f env=if isLst env i then(Res.bnd (f env) (f:=⟨fun(p:R×PV.Env)=>match p.2[i]? with
 |some (some (.l .f,.lst ds))=>if ds.length<sizeLine then .ok ((.f,.non),p.2.set i (some (.l .f,.lst (ds++[p.1.2])))) else .bad
 |_=>.bad⟩)) else .bad:=id rfl
theorem Nb:isLst env i=match env[i]? with|some (some (_,.lst _))=>true|_=>false:=id rfl
theorem Ql:Ma T fo env=Res.bnd (fo env) (f:=⟨fun p=>Res.bnd (sj p.2 p.1) (f:=⟨fun d=>.ok ((.f,.bl (pA T d)),p.2)⟩)⟩):=id rfl
theorem Nc(tk:Bool):eNewD tk env=.ok ((.d,.dct tk [] []),env):=id rfl
theorem Nd(ix:List (Option Nat)):bT fi ix a c f env=Res.bnd (fi env) (f:=⟨fun p=>Res.bnd (compL a c f p.1 (cC ix p.2)) (f:=⟨fun ds=>if ds.length<=sizeLine then .ok ((.l .f,.lst ds),if flatDs ds then p.2 else p.2.map frz) else .bad⟩)⟩):=id rfl
theorem K7:cC [] env=[]:=id rfl
theorem K8(ix:List (Option Nat)):cC (none::ix) env=none::cC ix env:=id rfl
theorem K9(ix:List (Option Nat)):cC (some i::ix) env=(match env[i]? with|some (some r)=>some (O.f,r.2)|_=>none)::cC ix env:=id rfl
theorem CS:cYes env=.ok (true,env):=id rfl
theorem qZ(ds:List D):compL a c f (d::ds) env=Res.bnd (a d env) (f:=⟨fun e=>Res.bnd (c e) (f:=⟨fun p=>if p.1 then(Res.bnd (f p.2) (f:=⟨fun q=>Res.bnd (compL a c f ds q.2) (f:=⟨fun rs=>.ok (q.1.2::rs)⟩)⟩)) else compL a c f ds p.2⟩)⟩):=id rfl
theorem CT:B8 f env=Res.bnd (f env) (f:=⟨fun p=>match p.1.2 with | .lst ds=>.ok (ds,p.2)|_=>.bad⟩):=id rfl
theorem vK:dH f env=Res.bnd (f env) (f:=⟨fun p=>match p.1.2 with | .tup ds=>.ok (ds,p.2)|_=>.bad⟩):=id rfl
theorem vL:dI f env=Res.bnd (f env) (f:=⟨fun p=>match p.1.2 with | .str l=>.ok (l.map fun c=>.str [c],p.2)|_=>.bad⟩):=id rfl
theorem p0:HD fi fj env=match fi env with | .ok a=>.ok a|_=>fj env:=by
 unfold HD;cases fi env <;> rfl
theorem OP:HD (B8 f) (HD (dH f) (dI f)) env=Res.bnd (f env) (f:=⟨fun p=>match p.1.2 with
 | .lst ds=>.ok (ds,p.2)
 | .tup ds=>.ok (ds,p.2)
 | .str l=>.ok (l.map fun c=>.str [c],p.2)
 |_=>.bad⟩):=by
 rw[p0,p0,CT,vK,vL];cases f env with
 |ok p=>
  obtain⟨⟨o,d⟩,e⟩:=p;cases d <;> rfl
 |exc c=>rfl
 |bad=>rfl
theorem Nf:HD (eE i) (HD (dH (ax i)) (dI (ax i))) env=match env[i]? with
 |some (some (_,.lst ds))=>.ok (ds,env)
 |some (some (o,.tup ds))=>.ok (ds,env.set i (some (fz o,.tup ds)))
 |some (some (o,.str l))=>.ok (l.map fun c=>.str [c],env.set i (some (fz o,.str l)))
 |_=>.bad:=by
 rw[p0,p0,vK,vL,Ll];unfold eE;cases env[i]? with
 |none=>rfl
 |some r=>
  cases r with
  |none=>rfl
  |some r=>
   obtain⟨o,d⟩:=r;cases d <;> rfl
theorem Ki:b5 fo env=Res.bnd (fo env) (f:=⟨fun p=>Res.bnd (Ji p.2 p.1) (f:=⟨fun d=>match d with
 | .int j=>if -4611686018427387904<=j/\j<4611686018427387904 then .ok ((List.range j.toNat).map fun(k:Nat)=>D.int (k:Int),p.2) else .bad
 |_=>.bad⟩)⟩):=id rfl
theorem mY(k1 k2:Bool):su k1 k2 fs env=Res.bnd (fs env) (f:=⟨fun p=>match p.1 with
 |[.val d1,.val d2]=>Res.bnd (iC k1 d1) (f:=⟨fun a=>Res.bnd (iC k2 d2) (f:=⟨fun b=>.ok ((a.zip b).map fun z=>D.tup [z.1,z.2],p.2)⟩)⟩)
 |_=>.bad⟩):=id rfl
theorem Jc:aName i d env=if i<env.length then .ok (env.set i (some (.f,d))) else .bad:=id rfl
theorem Ng:cU [] env=.ok env:=id rfl
theorem Iq(ds:List D):aD a as (d::ds) env=Res.bnd (a d env) (f:=⟨fun e=>as ds e⟩):=id rfl
theorem La(ds:List D):iA n as (.tup ds) env=if ds.length=n then as ds env else .bad:=id rfl
theorem HM:sSeq s t env=Res.bnd (s env) (f:=⟨fun o=>match o with | .nx e=>t e|o=>.ok o⟩):=id rfl
theorem Nh:bQ env=.ok (.nx env):=id rfl
theorem OQ:cp i f env=Res.bnd (f env) (f:=⟨fun p=>if i<p.2.length then .ok (.nx (p.2.set i (some p.1))) else .bad⟩):=id rfl
theorem Ni:kx f env=Res.bnd (f env) (f:=⟨fun p=>.ok (.nx p.2)⟩):=id rfl
theorem OR:dG f env=Res.bnd (f env) (f:=⟨fun p=>.ok (.rt p.1)⟩):=id rfl
theorem Mo:HU c s t env=Res.bnd (c env) (f:=⟨fun p=>if p.1 then s p.2 else t p.2⟩):=id rfl
theorem Kt:so fi a s env=Res.bnd (fi env) (f:=⟨fun p=>eD a s p.1 p.2⟩):=id rfl
theorem dg(ds:List D):eD a s (d::ds) env=Res.bnd (a d env) (f:=⟨fun e=>Res.bnd (s e) (f:=⟨fun o=>match o with
 | .nx e=>eD a s ds e
 | .ct e=>eD a s ds e
 | .bk e=>.ok (.nx e)
 | .rt r=>.ok (.rt r)⟩)⟩):=id rfl
theorem fS:cz c s (n+1) env=Res.bnd (c env) (f:=⟨fun p=>if p.1 then(Res.bnd (s p.2) (f:=⟨fun o=>match o with
  | .nx e=>cz c s n e
  | .ct e=>cz c s n e
  | .bk e=>.ok (.nx e)
  | .rt r=>.ok (.rt r)⟩)) else .ok (.nx p.2)⟩):=id rfl
theorem ba(ds:List D)(nn:Nat)(h:ds.length=n):fBody n nn s ds=Res.bnd (s (ds.map (fun d=>some (O.f,d))++List.replicate nn none)) (f:=⟨fun o=>match o with
 | .rt r=>.ok r
 | .nx _=>.ok (.f,.non)
 |_=>.bad⟩):=by
 unfold fBody;rw[Tq h];all_goals cases s (ds.map (fun d=>some (O.f,d))++List.replicate nn none) with
 |ok o=>cases o <;> rfl
 |exc c=>rfl
 |bad=>rfl
end
theorem line_le{n:Nat}(h:n<=16777216):n<=sizeLine:=by rw[line_eq];exact h
section
variable(a b:Int)(x y:List Nat)(p q:Bool)(ds es:List D)
theorem EF:Il (.int a) (.int b)=.ok (.f,.bl (a==b)):=by simp only[Il,plainD,GW,Ug,Va]
theorem EG:Il (.str x) (.str y)=.ok (.f,.bl (x==y)):=by simp only[Il,plainD,GW,Ug,Va]
theorem EH:Hz (.int a) (.int b)=.ok (.f,.bl (!(a==b))):=by simp only[Hz,plainD,GW,Ug,Va]
theorem EI:Hz (.str x) (.str y)=.ok (.f,.bl (!(x==y))):=by simp only[Hz,plainD,GW,Ug,Va]
theorem CU:om (.int a) (.int b)=.ok (.f,.int (a-b)):=id rfl
theorem CV:wI (.int a) (.int b)=if 0<b then .ok (.f,.int (a%b)) else .bad:=id rfl
theorem CW:sv (.int a) (.int b)=if 0<=b/\b<=1000000/\a.natAbs<2 ^ 64 then .ok (.f,.int (a ^ b.toNat)) else .bad:=id rfl
theorem EJ:Kf (.int a) (.int b)=.ok (.f,.bl (decide (a<b))):=id rfl
theorem EM:KY (.int a) (.int b)=.ok (.f,.bl (decide (b<a))):=id rfl
theorem CY:cZ [.lst ds]=.ok (.f,.int ds.length):=id rfl
theorem CZ:cZ [.tup ds]=.ok (.f,.int ds.length):=id rfl
theorem AB:pP [.lst ds]=.ok (.l .f,.lst ds):=id rfl
theorem xK:iJ [.lst ds]=.ok (.f,.tup ds):=id rfl
theorem yN:A8 [.bl p]=.ok (.f,.int (if p then 1 else 0)):=id rfl
theorem C0:Ha (.lst ds) (.int a)=match Jv ds a with|some d=>.ok (.f,d)|none=>.bad:=id rfl
theorem AD:Ha (.tup ds) (.int a)=match Jv ds a with|some d=>.ok (.f,d)|none=>.bad:=id rfl
theorem C3:maxD [.int a,.int b]=.ok (.f,.int (if a<b then b else a)):=id rfl
end
theorem GQ(l:List Int):flatDs (l.map D.int)=true:=by
 rw[cY,Wt,Us];intro b _;rfl
theorem flat_strs(l:List (List Nat)):flatDs (l.map D.str)=true:=by
 rw[cY,Wt,Us];intro b _;rfl
theorem dh(d:D):aT .f d=cv d:=by rw[aT]
theorem cR(ds:List D):aT (.l .f) (.lst ds)=flatDs ds:=by rw[aT,iF]
theorem cS(i:Int):cv (.int i)=true:=by rw[cv];all_goals simp
theorem JD(i:Bool):cv (.bl i)=true:=by rw[cv];all_goals simp
theorem xM(i:List Nat):cv (.str i)=true:=by rw[cv];all_goals simp
theorem fT(ds:List D):cv (.tup ds)=flatDs ds:=by rw[cv]
theorem cE(n:Nat)(l:List Int):plainDs n (l.map D.int)=true:=by
 induction l with
 |nil=>rfl
 |cons a l ih=>rw[TU,plainDs,ih,plainD];all_goals simp
theorem Ba(n:Nat)(l:List (List Nat)):plainDs n (l.map D.str)=true:=by
 induction l with
 |nil=>rfl
 |cons a l ih=>rw[TU,plainDs,ih,plainD];all_goals simp
theorem lh:∀a b:List Int,j4 (a.map D.int) (b.map D.int)=(a==b)
 |[],[]=>by simp[j4]
 |[],_::_=>by simp[j4]
 |_::_,[]=>by simp[j4]
 |a::r,b::t=>by
  rw[TU,TU,j4,GW,lh r t,UG];simp
theorem xN(a:Int)(l:List Int):wJ (.int a) (l.map D.int)=decide (a∈l):=by
 unfold wJ;rw[Xk,UG,WT,T7];constructor
 ·rintro⟨x,hx,e⟩;have e:GW (.int x) (.int a)=true:=e;rw[GW,Ul]at e;rw[<-e];exact hx
 ·intro h;refine⟨a,h,?_⟩;show GW (.int a) (.int a)=true;rw[GW,T8]
theorem DH(a:List Nat)(l:List (List Nat)):wJ (.str a) (l.map D.str)=decide (a∈l):=by
 unfold wJ;rw[Xk,UG,WT,T7];constructor
 ·rintro⟨x,hx,e⟩;have e:GW (.str x) (.str a)=true:=e;rw[GW,Ul]at e;rw[<-e];exact hx
 ·intro h;refine⟨a,h,?_⟩;show GW (.str a) (.str a)=true;rw[GW,T8]
theorem Fu(a:Int)(l:List Int):NF (.int a) (.lst (l.map D.int))=.ok (.f,.bl (decide (a∈l))):=by
 unfold NF;dsimp only;rw[cE,xN,plainD];all_goals simp
theorem dM{α:Type}{a:FG}{c:FT}{f:FX}{e:α->D}{p:α->Bool}{r:α->D}(I:PV.Env->Prop)(l:List α)
  (h:∀x∈l,∀env,I env->∃GL,a (e x) env=.ok GL/\∃GY,c GL=.ok (p x,GY)/\if p x then ∃o HC,f GY=.ok ((o,r x),HC)/\I HC else I GY):∀env,I env->compL a c f (l.map e) env=.ok ((l.filter p).map r):=by
 induction l with
 |nil=>intro env _;rfl
 |cons x l ih=>
  intro env hI;obtain⟨GL,h1,GY,h2,h3⟩:=h x Tg env hI;have ih:=ih fun y hy=>h y (Tn _ hy)
  rw[TU,qZ,h1,Hw,h2,Hw];cases hp:p x with
  |true=>
   rw[hp]at h3;obtain⟨o,HC,h4,h5⟩:=h3;rw[Tq rfl,h4,Hw,ih HC h5,Hw,VS hp];rfl
  |false=>
   rw[hp]at h3;rw[Tv TC,ih GY h3,VT (by rw[hp];exact TC)]
theorem cu{α:Type}{a:FG}{f:FX}{e:α->D}{r:α->D}(I:PV.Env->Prop)(l:List α)
  (h:∀x∈l,∀env,I env->∃GL,a (e x) env=.ok GL/\∃o HC,f GL=.ok ((o,r x),HC)/\I HC):∀env,I env->compL a cYes f (l.map e) env=.ok (l.map r):=by
 induction l with
 |nil=>intro env _;rfl
 |cons x l ih=>
  intro env hI;obtain⟨GL,h1,o,HC,h4,h5⟩:=h x Tg env hI;have ih:=ih fun y hy=>h y (Tn _ hy)
  rw[TU,qZ,h1,Hw,CS,Hw,Tq rfl,h4,Hw,ih HC h5];rfl
theorem AE{a:FG}{g:FS}(P:Nat->PV.Env->Prop)(ds:List D)(h:∀i d env,ds[i]?=some d->P i env->∃GL,a d env=.ok GL/\∃GY,(g GL=.ok (.nx GY)\/g GL=.ok (.ct GY))/\P (i+1) GY):
  ∀env,P 0 env->∃env',eD a g ds env=.ok (.nx env')/\P ds.length env':=by
 have key:∀(l:List D) (k:Nat) (env:PV.Env),(∀i d,l[i]?=some d->ds[k+i]?=some d)->P k env->∃env',eD a g l env=.ok (.nx env')/\P (k+l.length) env':=by
  intro l;induction l with
  |nil=>exact fun k env _ hp=>⟨env,rfl,hp⟩
  |cons d l ih=>
   intro k env hd hp;obtain⟨GL,h1,GY,h2,h3⟩:=h k d env (hd 0 d rfl) hp;obtain⟨env',h4,h5⟩:=ih (k+1) GY (fun i d e=>by have:=hd (i+1) d (by simpa using e);rw[show k+1+i=k+(i+1) by lia];exact this) h3;refine⟨env',?_,by rw[TK,show k+(l.length+1)=k+1+l.length by lia];exact h5⟩;rw[dg,h1,Hw];rcases h2 with h2|h2
   ·rw[h2,Hw];exact h4
   ·rw[h2,Hw];exact h4
 intro env hp;obtain⟨env',h1,h2⟩:=key ds 0 env (fun i d e=>by rw[Yl];exact e) hp;exact⟨env',h1,by rw[Yl]at h2;exact h2⟩
section
variable(env:PV.Env)(fo:FO)(fp GR:FP)(a b:Int)(ds:List D)(x:List Nat)
theorem OS:Aj fo fp GR env=Res.bnd (fo env) (f:=⟨fun p=>Res.bnd (fp p.2) (f:=⟨fun q=>Res.bnd (GR q.2) (f:=⟨fun t=>Res.bnd (Ji t.2 p.1) (f:=⟨fun d=>Res.bnd (MQ d q.1 t.1) (f:=⟨fun r=>.ok (r,t.2)⟩)⟩)⟩)⟩)⟩):=id rfl
theorem OT:eNeg fo env=Res.bnd (fo env) (f:=⟨fun p=>Res.bnd (Ji p.2 p.1) (f:=⟨fun d=>match d with
 | .int i=>.ok ((.f,.int (-i)),p.2)
 |_=>.bad⟩)⟩):=id rfl
theorem C4(lo hi:Option Int):MQ (.lst ds) lo hi=.ok (.l .f,.lst (jS ds lo hi)):=id rfl
theorem vM(lo hi:Option Int)(h:HT.sIx ds.length 0 lo=0/\HT.sIx ds.length ds.length hi=ds.length):jS ds lo hi=ds:=by
 unfold jS;rw[h.1,h.2,Wi,Zg,Ux (Tz _)]
theorem yO(lo hi:Option Int):MQ (.tup ds) lo hi=.ok (.f,.tup (jS ds lo hi)):=by
 unfold MQ;dsimp only;split
 ·rename_i h;rw[vM ds lo hi h]
 ·rename_i h;unfold Pb;dsimp only;rw[Tq h]
theorem vN:Cv (.int a) (.int b)=if iH a||iH b then .ok (.f,.int (a*b)) else if a.natAbs<2 ^ 1000/\b.natAbs<2 ^ 1000 then .ok (.f,.int (a*b)) else .bad:=id rfl
end
section
variable(env:PV.Env)(fo:FO)(fs:FOs)(f g:FX)(a b c:Int)(ds es:List D)(x y:List Nat)
theorem Fv(d:D):(∃l,iC true d=.ok l/\iC false d=.bad/\ot d=some l)\/(∃l,iC true d=.bad/\iC false d=.ok l/\ot d=some l)\/(iC true d=.bad/\iC false d=.bad/\ot d=none):=by
 cases d with
 |lst l=>exact .inl ⟨l,rfl,rfl,rfl⟩
 |tup l=>exact .inr (.inl ⟨l,rfl,rfl,rfl⟩)
 |_=>exact .inr (.inr ⟨rfl,rfl,rfl⟩)
def xO(k1 k2:Bool)(e:PV.Env)(d1 d2:D):Res (List D×PV.Env):=(iC k1 d1).bind fun a=>(iC k2 d2).bind fun b=>.ok ((a.zip b).map fun z=>D.tup [z.1,z.2],e)
def ET(e:PV.Env)(d1 d2:D):Res (List D×PV.Env):=match ot d1,ot d2 with|some a,some b=>.ok ((a.zip b).map fun z=>D.tup [z.1,z.2],e)|_,_=>.bad
def NK(a b:Res (List D×PV.Env)):Res (List D×PV.Env):=match a with | .ok a=>.ok a|_=>b
def wK(g:D->D->Res (List D×PV.Env))(os:List Opd):Res (List D×PV.Env):=match os with|[.val d1,.val d2]=>g d1 d2|_=>.bad
theorem p3(g h:D->D->Res (List D×PV.Env))(os:List Opd):NK (wK g os) (wK h os)=wK (fun a b=>NK (g a b) (h a b)) os:=by
 unfold wK;split <;> rfl
theorem AF(e:PV.Env)(a b:D):NK (xO true true e a b) (NK (xO true false e a b) (NK (xO false true e a b) (xO false false e a b)))=ET e a b:=by
 unfold xO ET;rcases Fv a with⟨l,h1,h2,h3⟩|⟨l,h1,h2,h3⟩|⟨h1,h2,h3⟩ <;> rcases Fv b with⟨m,i1,i2,i3⟩|⟨m,i1,i2,i3⟩|⟨i1,i2,i3⟩ <;> rw[h1,h2,h3,i1,i2,i3] <;> rfl
theorem Nj:oE fs env=Res.bnd (fs env) (f:=⟨fun p=>match p.1 with
 |[.val d1,.val d2]=>(match ot d1,ot d2 with|some a,some b=>.ok ((a.zip b).map fun z=>D.tup [z.1,z.2],p.2)|_,_=>.bad)
 |_=>.bad⟩):=by
 unfold oE;rw[p0,p0,p0,mY,mY,mY,mY];cases fs env with
 |ok p=>
  show NK (wK (xO true true p.2) p.1) (NK (wK (xO true false p.2) p.1) (NK (wK (xO false true p.2) p.1) (wK (xO false false p.2) p.1)))=wK (ET p.2) p.1;rw[p3,p3,p3];exact UQ (fun g=>wK g p.1) (funext fun a=>funext fun b=>AF p.2 a b)
 |_=>rfl
theorem Nk:ot (.lst ds)=some ds:=id rfl
theorem Nl:ot (.tup ds)=some ds:=id rfl
theorem Nm(i:Nat):oH i f g env=Res.bnd (g env) (f:=⟨fun(p:R×PV.Env)=>Res.bnd (f p.2) (f:=⟨fun(q:R×PV.Env)=>match p.2[i]?,q.2[i]? with
 |some (some _),some (some (.l .f,.lst ds))=>(match q.1.2 with
  | .int k=>(match ixN ds.length k with
   |some j=>.ok (.nx (q.2.set i (some (.l .f,.lst (ds.set j p.1.2)))))
   |none=>.bad)
  |_=>.bad)
 |_,_=>.bad⟩)⟩):=id rfl
theorem vO:jg (.int a) (.int b)=Cv (.int a) (.int b):=id rfl
theorem vP:jg (.lst ds) (.int b)=if 0<=b/\b<1000000/\ds.length*b.toNat<=sizeLine then .ok (.l .f,.lst (List.replicate b.toNat ds).flatten) else .bad:=id rfl
theorem C5:gm false (.str x)=true:=id rfl
theorem AG:addO (.int a) (.int b)=.ok (.f,.int (a+b)):=id rfl
theorem AH:addO (.lst ds) (.lst es)=if ds.length+es.length<=sizeLine then .ok (.l .f,.lst (ds++es)) else .bad:=id rfl
theorem lj:addO (.tup ds) (.tup es)=if ds.length+es.length<=sizeLine\/ds=[] then .ok (.f,.tup (ds++es)) else .bad:=by
 unfold addO;cases ds with
 |nil=>rw[Tq (.inr rfl)];rfl
 |cons d ds=>
  dsimp only;unfold addD;dsimp only;by_cases h:(d::ds).length+es.length<=sizeLine
  ·rw[Tq ⟨nofun,h⟩,Tq (.inl h)]
  ·rw[Tv (fun z=>h z.2),Tv (fun z=>z.elim h nofun)]
end
section
variable(env:PV.Env)(f g:FX)(ds ks:List D)(i:Nat)
end
section
variable(env:PV.Env)(f:FX)(fs:FOs)(ds:List D)(i:Nat)
theorem C6:ePop i env=match env[i]? with
 |some (some (ow,.lst ds))=>if isLf ow then(match ds.getLast? with
  |some d=>.ok ((.f,d),env.set i (some (ow,.lst ds.dropLast)))
  |none=>.bad) else .bad
 |_=>.bad:=id rfl
theorem g8:mL (.l .f) (.l .f)=true:=id rfl
theorem g9(p:Addr):mL (.l .f) (.pin p (.l .f))=true:=id rfl
theorem di:oJ i f env=Res.bnd (f env) (f:=⟨fun(p:R×PV.Env)=>match p.2[i]? with
 |some (some (.pin q c,d))=>.ok (.rt (.t [p.1.1,.pin q c],.tup [p.1.2,d]))
 |_=>.bad⟩):=by
 first
  |exact id rfl
  |(unfold oJ;rfl)
theorem EW:DF [.lst ds]=.ok (.l .f,.lst ds.reverse):=id rfl
theorem C7(k:Int):sI (.tup ds) (.int k)=if ds≠[]/\ds.length<=10/\0<=k/\k<1000 then .ok (.f,.tup (List.replicate k.toNat ds).flatten) else .bad:=id rfl
theorem mZ(np nn:Nat)(c:O)(g:FS)(p:Addr)(d0:D)(h:ds.length+1=np):jE np nn c g p (d0::ds)=Res.bnd (g (some (.pin p c,d0)::(ds.map (fun d=>some (O.f,d))++List.replicate nn none))) (f:=⟨fun o=>match o with
  | .rt r=>.ok r
  |_=>.bad⟩):=by
 unfold jE;dsimp only;rw[Tq h];rfl
end
noncomputable def pv:=(Zz @Hw (Zz @OA (Zz @Ll (Zz @MZ (Zz @OB (Zz @OC (Zz @M0 (Zz @Mk (Zz @M1 (Zz @Ml (Zz @OD (Zz @OE (Zz @Hl (Zz @Hm (Zz @M3 (Zz @M4 (Zz @Mm (Zz @Mn (Zz @M5 (Zz @M6 (Zz @OF (Zz @M7 (Zz @Qj (Zz @OG (Zz @Qk (Zz @OH (Zz @OI (Zz @OJ (Zz @M8 (Zz @OK (Zz @OL (Zz @ON (Zz @OS (Zz @OT (Zz @M9 (Zz @Na (Zz @OO (Zz @Nb (Zz @Ql (Zz @Nc (Zz @Nd (Zz @K7 (Zz @K8 (Zz @K9 (Zz @OP (Zz @Nf (Zz @Ki (Zz @Jc (Zz @Ng (Zz @Iq (Zz @La (Zz @HM (Zz @Nh (Zz @OQ (Zz @Ni (Zz @OR (Zz @Mo (Zz @Kt (Zz @List.getElem?_cons_zero.{0} (Zz @List.getElem?_cons_succ.{0} (Zz @List.set_cons_zero.{0} (Zz @List.set_cons_succ.{0} (Zz @List.length_cons.{0} (Zz @List.length_nil.{0} (Zz @List.map_cons.{0,0} (Zz @List.map_nil.{0,0} (Zz @List.replicate_succ.{0} (Zz @List.replicate_zero.{0} (Zz @List.cons_append.{0} (Zz @List.nil_append.{0} (Zz @Nat.zero_add (Zz @Nj (Zz @Nk (Zz @Nl (Zz @Nm (Zz @Qh (Zz @Qi (Zz @MY @Mj))))))))))))))))))))))))))))))))))))))))))))))))))))))))))))))))))))))))))))))
noncomputable def op:=(Zz @EF (Zz @EG (Zz @EH (Zz @EI (Zz @CU (Zz @EJ (Zz @EM (Zz @CY (Zz @CZ (Zz @AB (Zz @xK (Zz @yN (Zz @C0 (Zz @AD (Zz @C4 (Zz @yO (Zz @C3 (Zz @dh (Zz @cR (Zz @cS (Zz @JD (Zz @xM (Zz @GQ (Zz @AG @C5))))))))))))))))))))))))
theorem dV(n:Nat)(w:PV.Env):(∃d,Ji w (.var n)=.ok d)\/Ji w (.var n)=.bad:=by
 unfold Ji;dsimp only;split
 ·split
  ·exact .inl ⟨_,rfl⟩
  ·exact .inr rfl
 ·exact .inr rfl
section
variable(w:PV.Env)(op:D->D->Res R)(F:List D->Res R)(f g h:FX)(n n' n'':Nat)(x y:D)
end
section
variable(a b c d e g h i j k l m:Option R)(z:PV.Env)(r:R)(o:O)(x:D){ρ:Type}
end
end PV
namespace LW
open PySem L2 NX PV
theorem for_list{α:Type}{a:FG}{g:FS}{e:α->D}(l:List α)(P:Nat->PV.Env->Prop)
  (h:∀k x env,l[k]?=some x->P k env->∃GL,a (e x) env=.ok GL/\∃GY,g GL=.ok (.nx GY)/\P (k+1) GY):∀env,P 0 env->∃env',eD a g (l.map e) env=.ok (.nx env')/\P l.length env':=by
 intro env h0;have:=AE (a:=a) (g:=g) P (l.map e) (fun i d env hi hp=>by
  rw[TV,UW]at hi;obtain⟨x,hx,rfl⟩:=hi;obtain⟨GL,h1,GY,h2,h3⟩:=h i x env hx hp;exact⟨GL,h1,GY,.inl h2,h3⟩) env h0
 rwa [Tr]at this
theorem vQ{a:FG}{g:FS}{e:Nat->D}(n:Nat)(P:Nat->PV.Env->Prop)
  (h:∀k env,k<n->P k env->∃GL,a (e k) env=.ok GL/\∃GY,g GL=.ok (.nx GY)/\P (k+1) GY):∀env,P 0 env->∃env',eD a g ((List.range n).map e) env=.ok (.nx env')/\P n env':=by
 intro env h0;have:=for_list (a:=a) (g:=g) (e:=e) (List.range n) P (fun k x env hk hp=>by
  obtain⟨h1,h2⟩:=Tx.mp hk;rw[TR]at h1;rw[VD]at h2;subst h2;exact h k env h1 hp) env h0
 rwa [TR]at this
abbrev LNN:=List (List Nat)
theorem bh{α β:Type}{l:List α}(f:α->β):(l.map f).length=l.length:=Tr f
theorem gs:(false=true)=False:=Vm
theorem Fw{α:Type}{l:List α}{i:Nat}{a:α}(h:l[i]?=some a):∃h:i<l.length,l[i]=a:=Tx.mp h
theorem xP{α:Type}{l:List α}{i:Nat}(h:i<l.length):l[i]?=some l[i]:=Tj h
theorem gu{α β:Type}{f:α->β}{a:α}{l:List α}:(a::l).map f=f a::l.map f:=TU
theorem p4{α:Type}{a b:α}(h:a∈[b]):a=b:=T9.mp h
theorem m5{α β:Type}{f:α->β}{l:List α}{b:β}(h:b∈l.map f):∃a,a∈l/\f a=b:=UJ.mp h
theorem xQ{α:Type}{a:α}{s t:List α}(h:a∈s++t):a∈s\/a∈t:=Ub.mp h
theorem pC{α:Type}{s t:List α}:(s++t).length=s.length+t.length:=Uz
theorem av{s t:FS}{env env':PV.Env}(h:s env=.ok (.nx env')):sSeq s t env=t env':=by rw[HM,h,Hw]
theorem vR{ds:List D}(h:ds.length<=16777216):ds.length<=sizeLine:=line_le h
theorem o3{l:List Int}{k:Nat}(h:k<l.length):Jv (l.map D.int) (k:Int)=some (.int (l.getD k 0)):=gv (by rw[TV,Ti,xP h];rfl)
theorem ll(x y:D)(t1 t2:Option R)(b7:PV.Env):iA 2 (aD (aName 0) (aD (aName 1) cU)) (.tup [x,y]) (t1::t2::b7)=.ok (some (.f,x)::some (.f,y)::b7):=by
 rw[La,Tq (by simp),Iq,Jc,Tq (by simp),Hw,Iq,Jc,Tq (by simp),Hw];rfl
theorem xR(x b:Int)(h:0<b):0<=x%b/\x%b<b:=⟨Vx _ (by lia),V3 _ h⟩
theorem DI(n:Nat)(h:n<=200):sv (.int 10) (.int (n:Int))=.ok (.f,.int (10 ^ n)):=by
 rw[CW,Tq (by lia),Uk]
theorem DJ(x b:Int)(h:0<b):wI (.int x) (.int b)=.ok (.f,.int (x%b)):=by rw[CV,Tq h]
theorem xS{α:Type}(l:List α)(k:Nat):jS l none (some (k:Int))=l.take k:=by
 unfold jS;rw[HT.l6,HT.tV,Wi,Zg];by_cases h:k<=l.length
 ·rw[Yk h]
 ·rw[Nat.min_eq_right (by lia),Ux (Tz _),Ux (by lia)]
theorem xT{α:Type}(l:List α)(k:Nat):jS l (some (k:Int)) none=l.drop k:=by
 unfold jS;rw[HT.l6,HT.tV];by_cases h:k<=l.length
 ·rw[Yk h,Ux (by rw[UY];exact Tz _)]
 ·rw[Nat.min_eq_right (by lia),X3 (Tz _),X3 (by lia),XI]
theorem Bb(j:Int)(h0:0<=j)(h:j<=1000)(fo:FO)(env env':PV.Env)(o:Opd)(e1:fo env=.ok (o,env'))(e2:Ji env' o=.ok (.int j)):b5 fo env=.ok ((List.range j.toNat).map fun(k:Nat)=>D.int (k:Int),env'):=by
 rw[Ki,e1,Hw];dsimp only;rw[e2,Hw];dsimp only;rw[Tq (by lia)]
theorem Gr(x y:Int)(h:iH x=true):jg (.int x) (.int y)=.ok (.f,.int (x*y)):=by rw[vO,vN,h,Bool.true_or,Tq rfl]
theorem m6(n k:Nat)(h:k<n):ixN n (k:Int)=some k:=by
 unfold ixN;rw[Tq (by lia),Tq (by lia)];rfl
theorem vS(l:List Int):yE [.lst (l.map D.int)]=.ok (.f,.int l.sum):=by
 unfold yE;dsimp only;have:(ot (D.lst (l.map D.int))).bind fg=some l:=sx l;rw[this]
theorem isT(ds:List D):pA "tuple" (.tup ds)=true:=rfl
theorem o4{c:FT}{g:FS}(P:Nat->PV.Env->Prop)(fin:PV.Env->Prop)(h:∀k env,P k env->(∃GL,c env=.ok (false,GL)/\fin GL)\/(∃GL,c env=.ok (true,GL)/\∃GY k',g GL=.ok (.nx GY)/\k'<k/\P k' GY)):
  ∀n k env,k<n->P k env->∃env',cz c g n env=.ok (.nx env')/\fin env'
 | 0,k,env,hk,_=>absurd hk (Nat.not_lt_zero _)
 |n+1,k,env,hk,hp=>by
  rcases h k env hp with⟨GL,h1,h2⟩|⟨GL,h1,GY,k',h2,h3,h4⟩
  ·exact⟨GL,by rw[fS,h1,Hw];rfl,h2⟩
  ·obtain⟨env',e,hf⟩:=o4 P fin h n k' GY (by lia) h4;refine⟨env',?_,hf⟩;rw[fS,h1,Hw];dsimp only;rw[Tq rfl,h2,Hw];exact e
theorem m7{α β:Type}(f:α->β)(l:List α)(lo hi:Option Int):jS (l.map f) lo hi=(jS l lo hi).map f:=by
 unfold jS;rw[bh,<-YW,<-YX]
theorem p5{α:Type}{l:List α}(h:l.length<=100000):l.length<sizeLine:=Ts (UE _) (line_le (by lia))
section
variable(env:PV.Env)(f:FX)(fs:FOs)(fo:FO)
theorem dj(i:Nat)(c:O)(F:Addr->List D->Res R):eFunW c F i fs env=Res.bnd (fs env) (f:=⟨fun p=>match p.1 with
 | .var j::os=>if j=i then(match p.2[i]? with
  |some (some (ow,d0))=>if mL c ow then Res.bnd (lA (p.2.set i none) os) (f:=⟨fun ds=>Res.bnd (oK F c d0 ds) (f:=⟨fun x=>if aT x.1.1 x.1.2&&aT c x.2 then .ok (x.1,(p.2.set i none).set i (some (ow,x.2))) else .ok (x.1,((p.2.set i none).map frz).set i (some (ow,x.2)))⟩)⟩) else .bad
  |_=>.bad) else .bad
 |_=>.bad⟩):=id rfl
theorem AI(r:R):frz (some r)=some (.f,r.2):=id rfl
theorem AJ:frz none=none:=id rfl
end
theorem pop0(o:O)(h:isLf o=true)(ys:List Int)(x:Int)(env:PV.Env):ePop 0 (some (o,.lst ((ys++[x]).map D.int))::env)=.ok ((.f,.int x),some (o,.lst (ys.map D.int))::env):=by
 rw[C6];simp only[List.getElem?_cons_zero,Uh,gu,Uw,Yq,Yr,h,Va,List.set_cons_zero]
theorem Gs(p:Addr)(ys:List Int)(x:Int)(env:PV.Env):ePop 0 (some (.pin p (.l .f),.lst ((ys++[x]).map D.int))::env)=.ok ((.f,.int x),some (.pin p (.l .f),.lst (ys.map D.int))::env):=pop0 _ rfl ys x env
theorem gJ{α:Type}(n k:Nat)(g:Nat->α)(v:α):((List.range n).map g).set k v=(List.range n).map fun i=>if i=k then v else g i:=by
 apply VX
 ·rw[Up,bh,bh]
 ·intro i h1 h2;rw[List.getElem_set,U8,U8,VD];by_cases h:i=k
  ·rw[Tq h.symm,Tq h]
  ·rw[Tv (Vd h),Tv h]
theorem xU(l:List Int)(k:Nat)(h:k<l.length):(l.take (k+1)).sum=(l.take k).sum+l[k]:=by
 rw[VJ h,Xd,W4,Ym,Vt]
theorem q5(a b:List Int):Il (.lst (a.map D.int)) (.lst (b.map D.int))=.ok (.f,.bl (a==b)):=by
 unfold Il;rw[plainD,plainD,cE,cE,GW,lh];rfl
theorem xV(x y:Int)(hx:x.natAbs<2 ^ 1000)(hy:y.natAbs<2 ^ 1000):jg (.int x) (.int y)=.ok (.f,.int (x*y)):=by
 rw[vO,vN];split
 ·rfl
 ·rw[Tq ⟨hx,hy⟩]
theorem EY:sv (.int 10) (.int 59)=.ok (.f,.int (10 ^ 59)):=DI 59 (by decide)
theorem p59:(0:Int)<10 ^ 59:=by decide +kernel
theorem vT(ns:List Int)(h:ns.length<=63):∃d:List Int,d.length=20/\bY [.lst (ns.map D.int),.int 20]=.ok (.l .f,.lst (d.map D.int)):=by
 have ct:jS (ns.map D.int) none (some (20:Int))=(ns.take 20).map D.int:=by
  rw[m7];exact UQ (List.map D.int) (xS ns 20)
 have hc:compL (aName 0) cYes (eBin wI (oVar 0) (oVal (eBin sv (oVal (eCon (.int 10))) (oVal (eCon (.int 59)))))) ((ns.take 20).map D.int) [none]=.ok (((ns.take 20).map fun x=>x%10 ^ 59).map D.int):=by
  rw[TL];refine cu (fun env=>∃t,env=[t]) _ ?_ _ ⟨_,rfl⟩;rintro x _ env ⟨t,rfl⟩;refine⟨[some (.f,.int x)],by simp only[pv,↓reduceIte,Nat.reduceAdd,Nat.reduceLT,Nat.reduceLeDiff,Nat.reduceEqDiff],?_⟩;simp only[pv,↓reduceIte,Nat.reduceAdd,Nat.reduceLT,Nat.reduceLeDiff,Nat.reduceEqDiff,op,EY,DJ _ _ p59];exact⟨_,_,rfl,_,rfl⟩
 have hl:((ns.take 20).map fun x=>x%10 ^ 59).length<=20:=by
  rw[bh,UC];lia
 generalize (ns.take 20).map (fun x=>x%10 ^ 59)=d0 at hc hl;unfold bY gZ;rw[ba (h:=by rfl)];have fl:(d0.map D.int).length<=sizeLine:=line_le (by rw[bh];lia);rw[av (env':=[some (.f,.lst (ns.map D.int)),some (.f,.int 20),some (.l .f,.lst (d0.map D.int)),none]) (by simp only[pv,↓reduceIte,Nat.reduceAdd,Nat.reduceLT,Nat.reduceLeDiff,Nat.reduceEqDiff,op,ct,hc,GQ,fl])];have mB:=DJ d0.sum 2147483647 (by decide);rw[av (env':=[some (.f,.lst (ns.map D.int)),some (.f,.int 20),some (.l .f,.lst (d0.map D.int)),some (.f,.int (48271+d0.sum%2147483647))]) (by simp only[pv,↓reduceIte,Nat.reduceAdd,Nat.reduceLT,Nat.reduceLeDiff,Nat.reduceEqDiff,op,vS,mB])];have b0:=xR d0.sum 2147483647 (by decide);have hb:0<=48271+d0.sum%2147483647/\48271+d0.sum%2147483647<4294967296:=by lia
 clear b0 mB;generalize 48271+d0.sum%2147483647=l0 at hb;obtain⟨env',hw,d,l,hd,rfl⟩:=o4 (c:=GX (eBin Kf (oVal (aZ cZ (ag (oVar 2) au))) (oVar 1))) (g:=c9) (fun k env=>∃(d:List Int) (l:Int),d.length+k=20/\0<=l/\l<4294967296/\env=[some (.f,.lst (ns.map D.int)),some (.f,.int 20),some (.l .f,.lst (d.map D.int)),some (.f,.int l)])
  (fun env=>∃(d:List Int) (l:Int),d.length=20/\env=[some (.f,.lst (ns.map D.int)),some (.f,.int 20),some (.l .f,.lst (d.map D.int)),some (.f,.int l)]) (by
   rintro k env ⟨d,l,hk,h0,h1,rfl⟩;by_cases Hx:d.length<20
   ·refine .inr ⟨[some (.f,.lst (ns.map D.int)),some (.f,.int 20),some (.l .f,.lst (d.map D.int)),some (.f,.int l)],?_,[some (.f,.lst (ns.map D.int)),some (.f,.int 20),some (.l .f,.lst ((d++[(l*l+48271*l+(d.length:Int))%2147483647]).map D.int)),some (.f,.int ((l*l+48271*l+(d.length:Int))%2147483647))],k-1,?_,by lia,_,_,?_,(xR _ _ (by decide)).1,?_,rfl⟩
    ·have:decide ((d.length:Int)<20)=true:=T6 (by lia);simp only[pv,↓reduceIte,Nat.reduceAdd,Nat.reduceLT,Nat.reduceLeDiff,Nat.reduceEqDiff,op,bh,this]
    ·have e1:=xV l l (by lia) (by lia);have e2:=Gr 48271 l (by decide);have e3:∀x,wI (.int x) (.int 2147483647)=.ok (.f,.int (x%2147483647)):=fun x=>DJ x _ (by decide)
     have e4:(d.map D.int).length<sizeLine:=p5 (by rw[bh];lia);rw[Uh];unfold c9;rw[av (env':=[some (.f,.lst (ns.map D.int)),some (.f,.int 20),some (.l .f,.lst (d.map D.int)),some (.f,.int ((l*l+48271*l+(d.length:Int))%2147483647))]) (by simp only[pv,↓reduceIte,Nat.reduceAdd,Nat.reduceLT,Nat.reduceLeDiff,Nat.reduceEqDiff,op,bh,e1,e2,e3])];simp only[pv,↓reduceIte,Nat.reduceAdd,Nat.reduceLT,Nat.reduceLeDiff,Nat.reduceEqDiff,e4]
    ·rw[pC,TK,Uq];lia
    ·have:=(xR (l*l+48271*l+(d.length:Int)) 2147483647 (by decide)).2;lia
   ·refine .inl ⟨[some (.f,.lst (ns.map D.int)),some (.f,.int 20),some (.l .f,.lst (d.map D.int)),some (.f,.int l)],?_,d,l,by lia,rfl⟩;have:decide ((d.length:Int)<20)=false:=T5 (by lia);simp only[pv,↓reduceIte,Nat.reduceAdd,Nat.reduceLT,Nat.reduceLeDiff,Nat.reduceEqDiff,op,bh,this]) 100000 (20-d0.length) [some (.f,.lst (ns.map D.int)),some (.f,.int 20),some (.l .f,.lst (d0.map D.int)),some (.f,.int l0)] (by lia) ⟨d0,l0,by lia,hb.1,hb.2,rfl⟩
 refine⟨d.reverse,by rw[Wq,hd],?_⟩;unfold gf ft;rw[av hw];simp only[pv,↓reduceIte,Nat.reduceAdd,Nat.reduceLT,Nat.reduceLeDiff,Nat.reduceEqDiff,EW,List.map_reverse]
def dr(d:List Int)(m:Int):Int:=match d.getLast? with
 |some x=>x%m
 |none=>0
theorem C8(p:Addr)(d:List Int)(m:Int)(hm:0<m):aY p [.lst (d.map D.int),.int m]=.ok (.t [.f,.pin p (.l .f)],.tup [.int (dr d m),.lst (d.dropLast.map D.int)]):=by
 unfold aY kW;rw[mZ (h:=by rfl)];rcases List.eq_nil_or_concat d with rfl|⟨ys,x,rfl⟩
 ·have e:=q5 [] [];rw[Uw]at e;simp only[pv,seval,di,Uw,e,T8];rfl
 ·have e:=q5 (ys++[x]) [];have ne:((ys++[x])==([]:List Int))=false:=by cases ys <;> rfl
  rw[ne,Uw]at e;rw[List.concat_eq_append];generalize hl:D.lst ((ys++[x]).map D.int)=L at e;simp only[pv,seval,e,gs];rw[<-hl];simp only[pv,seval,di,Gs,DJ _ _ hm];unfold dr;rw[Yq,Yr]
theorem jM(d:List Int)(m:Int)(hm:0<m):oK aY (.l .f) (.lst (d.map D.int)) [.int m]=.ok ((.f,.int (dr d m)),.lst (d.dropLast.map D.int)):=mM (r:=(.f,.int (dr d m))) fun p=>C8 p d m hm
theorem bL{α:Type}(l:List α)(k:Nat)(d:α)(h:k<l.length):l.getD k d=l[k]:=by rw[Ti,xP h];rfl
theorem xW(a b:List Int)(k:Nat)(ha:k<a.length)(hb:k<b.length):(((a.zip b).map fun z=>z.1*z.2).take (k+1)).sum=(((a.zip b).map fun z=>z.1*z.2).take k).sum+a.getD k 0*b.getD k 0:=by
 have h:k<((a.zip b).map fun z=>z.1*z.2).length:=by
  rw[bh,U6];lia
 rw[xU _ k h,U8,XT,bL _ _ _ ha,bL _ _ _ hb]
theorem AK(rows:List (List Int))(uZ:List Int)(j k:Nat)(ha:j<rows.length)(hb:j<uZ.length):(((rows.zip uZ).take (j+1)).map fun z=>z.1.getD k 0*z.2).sum=(((rows.zip uZ).take j).map fun z=>z.1.getD k 0*z.2).sum+(rows[j].getD k 0)*uZ[j]:=by
 have h:j<(rows.zip uZ).length:=by
  rw[U6];lia
 rw[VJ h,Uh,Xd,gu,Uw,W4,Ym,Vt,XT]
theorem aW{l:List Int}{k:Nat}(h:k<l.length):l.getD k 0∈l:=by
 rw[bL _ _ _ h];exact U9 h
abbrev HI(a:List Int):Prop:=∀x∈a,x.natAbs<2 ^ 1000
theorem gK{n:Nat}(h:n<2 ^ 1000):n<2 ^ 1000:=h
def eR(r:List Int):D:=.tup (r.map D.int)
def dot(a b:List Int):Int:=((a.zip b).map fun z=>z.1*z.2).sum
theorem xX(a b:List Int):((a.map D.int).zip (b.map D.int)).map (fun z=>D.tup [z.1,z.2])=(a.zip b).map fun z=>D.tup [.int z.1,.int z.2]:=by
 rw[List.zip_map,TL];rfl
theorem o5(a b:List Int)(ha:HI a)(hb:HI b)(hl:a.length<=1000):cf [eR a,eR b]=.ok (.f,.int (dot a b)):=by
 have hc:compL (iA 2 (aD (aName 0) (aD (aName 1) cU))) cYes (eBin jg (oVar 0) (oVar 1)) ((a.zip b).map fun z=>D.tup [.int z.1,.int z.2]) [none,none]=.ok (((a.zip b).map fun z=>z.1*z.2).map D.int):=by
  rw[TL];refine cu (fun env=>∃t u,env=[t,u]) _ ?_ _ ⟨_,_,rfl⟩;rintro⟨x,y⟩ hz env ⟨t,u,rfl⟩;have hx:=gK (ha x (VN hz).1);have hy:=gK (hb y (VN hz).2);refine⟨_,ll _ _ _ _ _,?_⟩;simp only[pv,seval,xV x y hx hy];exact⟨_,_,rfl,_,_,rfl⟩
 have Qm:(((a.zip b).map fun z=>z.1*z.2).map D.int).length<=16777216:=by
  rw[bh,bh,U6];lia
 unfold cf oQ eR;rw[ba (h:=by rfl)];simp only[pv,seval,op,xX,hc,line_le Qm,GQ,vS];rfl
theorem sU(a b:List Int)(ha:HI a)(hb:HI b)(hl:a.length<=1000)(Ke:a.length=b.length):bf [eR a,eR b]=.ok (.f,.int (dot a b)):=by
 have hz:((a.zip b).map fun z=>z.1*z.2).take a.length=(a.zip b).map fun z=>z.1*z.2:=by
  rw[Ux];rw[bh,U6];lia
 obtain⟨env',hf,t,rfl⟩:=vQ (a:=aName 3) (g:=de) (e:=fun k=>D.int (k:Int)) a.length (fun k env=>∃t,env=[some (.f,eR a),some (.f,eR b),some (.f,.int (((a.zip b).map fun z=>z.1*z.2).take k).sum),t]) (by
  rintro k env hk ⟨t,rfl⟩;have Li:k<b.length:=Ke▸hk;refine⟨[some (.f,eR a),some (.f,eR b),some (.f,.int (((a.zip b).map fun z=>z.1*z.2).take k).sum),some (.f,.int (k:Int))],by simp only[pv,seval],[some (.f,eR a),some (.f,eR b),some (.f,.int (((a.zip b).map fun z=>z.1*z.2).take (k+1)).sum),some (.f,.int (k:Int))],?_,_,rfl⟩;have e1:=o3 (l:=a) hk;have e2:=o3 (l:=b) Li;have e3:=xV (a.getD k 0) (b.getD k 0) (gK (ha _ (aW hk))) (gK (hb _ (aW Li)));rw[xW a b k hk Li];unfold de eR;simp only[pv,seval,op,e1,e2,e3]) [some (.f,eR a),some (.f,eR b),some (.f,.int 0),none] ⟨_,by rw[Xs,Ym]⟩
 unfold bf g0;rw[ba (h:=by rfl)];have hr:b5 (oVal (aZ cZ (ag (oVar 0) au))) [some (.f,eR a),some (.f,eR b),some (.f,.int 0),none]=.ok ((List.range a.length).map fun(k:Nat)=>D.int (k:Int),[some (.f,eR a),some (.f,eR b),some (.f,.int 0),none]):=by
  refine(Bb (a.length:Int) (by lia) (by lia) _ _ _ (.val (.int (a.length:Int))) ?_ rfl);unfold eR;simp only[pv,seval,op,bh]
 rw[av (env':=[some (.f,eR a),some (.f,eR b),some (.f,.int 0),none]) (by simp only[pv,seval])];rw[av (env':=[some (.f,eR a),some (.f,eR b),some (.f,.int (dot a b)),t]) (by
  unfold gj;rw[Kt,hr,Hw];rw[hz]at hf;exact hf)]
 unfold fu;simp only[pv,seval]
def co(rows:List (List Int))(uZ:List Int)(j k:Nat):Int:=(((rows.zip uZ).take j).map fun z=>z.1.getD k 0*z.2).sum
theorem rg(rows:List (List Int))(uZ:List Int):((rows.map eR).zip (uZ.map D.int)).map (fun z=>D.tup [z.1,z.2])=(rows.zip uZ).map fun z=>D.tup [eR z.1,.int z.2]:=by
 rw[List.zip_map,TL];rfl
def Rows(w:Nat)(rows:List (List Int)):Prop:=∀r∈rows,r.length=w/\HI r
theorem AL(rows:List (List Int)):flatDs (rows.map eR)=true:=by
 rw[cY,Wt,Us];intro r _;show cv (.tup _)=true;rw[fT,GQ]
theorem E3(w k:Nat)(hk:k<w)(rows:List (List Int))(uZ:List Int)(hr:Rows w rows)(hn:HI uZ):compL (iA 2 (aD (aName 0) (aD (aName 1) cU))) cYes (eBin jg (oVal (eBin Ha (oVar 0) (oVar 2))) (oVar 1)) ((rows.zip uZ).map fun z=>D.tup [eR z.1,.int z.2]) [none,none,some (.f,.int (k:Int))]=.ok (((rows.zip uZ).map fun z=>z.1.getD k 0*z.2).map D.int):=by
 rw[TL];refine cu (fun env=>∃t u,env=[t,u,some (.f,.int (k:Int))]) _ ?_ _ ⟨_,_,rfl⟩;rintro⟨r,y⟩ hz env ⟨t,u,rfl⟩;have hm:=VN hz;obtain⟨h1,h2⟩:=hr r hm.1;have Li:k<r.length:=h1▸hk;have e1:=o3 (l:=r) Li;have e2:=xV (r.getD k 0) y (gK (h2 _ (aW Li))) (gK (hn y hm.2));refine⟨_,ll _ _ _ _ _,?_⟩;unfold eR;simp only[pv,seval,op,e1,e2];exact⟨_,_,rfl,_,_,rfl⟩
theorem xY(w:Nat)(hw:w<=1000)(rows:List (List Int))(uZ:List Int)(hr:Rows w rows)(hn:HI uZ)(hl:rows.length<=1000):fH [.lst (rows.map eR),.lst (uZ.map D.int),.int (w:Int)]=.ok (.f,eR ((List.range w).map (co rows uZ rows.length))):=by
 have Pg:∀k,((rows.zip uZ).map fun z=>z.1.getD k 0*z.2).sum=co rows uZ rows.length k:=fun k=>by
  unfold co;rw[Ux];rw[U6];lia
 have Qm:∀k,(((rows.zip uZ).map fun z=>z.1.getD k 0*z.2).map D.int).length<=16777216:=fun k=>by
  rw[bh,bh,U6];lia
 have hc:compL (aName 0) cYes (aZ yE (ag (oVal (bT (oE (ag (oVal (ax 1)) (ag (oVal (ax 2)) au))) [none,none,some 0] (iA 2 (aD (aName 0) (aD (aName 1) cU))) cYes (eBin jg (oVal (eBin Ha (oVar 0) (oVar 2))) (oVar 1)))) au)) ((List.range w).map fun(k:Nat)=>D.int (k:Int)) [none,some (.f,.lst (rows.map eR)),some (.f,.lst (uZ.map D.int))]=.ok (((List.range w).map (co rows uZ rows.length)).map D.int):=by
  rw[TL];refine cu (fun env=>∃t,env=[t,some (.f,.lst (rows.map eR)),some (.f,.lst (uZ.map D.int))]) _ ?_ _ ⟨_,rfl⟩;rintro k hk env ⟨t,rfl⟩;have hk:k<w:=TM.mp hk;refine⟨[some (.f,.int (k:Int)),some (.f,.lst (rows.map eR)),some (.f,.lst (uZ.map D.int))],by simp only[pv,seval],?_⟩;simp only[pv,seval,op,rg,E3 w k hk rows uZ hr hn,line_le (Qm k),GQ,vS,Pg];exact⟨_,_,rfl,_,rfl⟩
 have hl3:(((List.range w).map (co rows uZ rows.length)).map D.int).length<=16777216:=by
  rw[bh,bh,TR];lia
 unfold fH qW eR;rw[ba (h:=by rfl)];have OU:-4611686018427387904<=(w:Int)/\(w:Int)<4611686018427387904:=by lia
 unfold eR at hc;simp only[pv,seval,op,OU,Uk,and_self,hc,line_le hl3,GQ]
theorem lX(w k:Nat)(f:Nat->Int)(h:k<w):((List.range w).map f).getD k 0=f k:=by
 rw[bL _ _ _ (by rw[bh,TR];exact h),U8,VD]
theorem AM(x y:D)(a b c d t1 t2 t3:Option R):iA 2 (aD (aName 4) (aD (aName 5) cU)) (.tup [x,y]) [a,b,c,d,t1,t2,t3]=.ok [a,b,c,d,some (.f,x),some (.f,y),t3]:=by
 rw[La,Tq (by simp),Iq,Jc,Tq (by simp),Hw,Iq,Jc,Tq (by simp),Hw];rfl
theorem AN(w:Nat)(hw:w<=1000)(R0 N0:D)(f:Nat->Int)(r:List Int)(y:Int)(hr:r.length=w/\HI r)(hy:y.natAbs<2 ^ 1000)(t:Option R):
  ∃t',gE [some (.f,R0),some (.f,N0),some (.f,.int (w:Int)),some (.l .f,.lst (((List.range w).map f).map D.int)),some (.f,eR r),some (.f,.int y),t] =
   .ok (.nx [some (.f,R0),some (.f,N0),some (.f,.int (w:Int)),some (.l .f,.lst (((List.range w).map fun k=>f k+r.getD k 0*y).map D.int)),some (.f,eR r),some (.f,.int y),t']):=by
 obtain⟨env',hf,t',rfl⟩:=vQ (a:=aName 6) (g:=fK) (e:=fun k=>D.int (k:Int)) w (fun k env=>∃t,env=[some (.f,R0),some (.f,N0),some (.f,.int (w:Int)),some (.l .f,.lst (((List.range w).map fun i=>if i<k then f i+r.getD i 0*y else f i).map D.int)),some (.f,eR r),some (.f,.int y),t]) (by
  rintro k env hk ⟨t,rfl⟩;have Li:k<r.length:=hr.1.symm▸hk;generalize hg:(fun i=>if i<k then f i+r.getD i 0*y else f i)=g;have gk:g k=f k:=by rw[<-hg];exact Tv (UL _)
  have e0:Jv (((List.range w).map g).map D.int) (k:Int)=some (.int (f k)):=by
   rw[o3 (by rw[bh,TR];exact hk),lX w k g hk,gk]
  have e1:=o3 (l:=r) Li;have e2:=xV (r.getD k 0) y (gK (hr.2 _ (aW Li))) (gK hy);have e3:ixN (((List.range w).map g).map D.int).length (k:Int)=some k:=m6 _ _ (by rw[bh,bh,TR];exact hk);have e4:(((List.range w).map g).map D.int).set k (.int (f k+r.getD k 0*y))=((List.range w).map fun i=>if i<k+1 then f i+r.getD i 0*y else f i).map D.int:=by
   rw[TL,gJ,TL];refine TN fun i _=>?_
   show(if i=k then D.int _ else D.int (g i))=D.int (if i<k+1 then f i+r.getD i 0*y else f i);by_cases h:i=k
   ·subst h;rw[Tq rfl,Tq (Nat.lt_add_one _)]
   ·rw[Tv h,<-hg];dsimp only;by_cases h2:i<k
    ·rw[Tq h2,Tq (by lia)]
    ·rw[Tv h2,Tv (by lia)]
  refine⟨[some (.f,R0),some (.f,N0),some (.f,.int (w:Int)),some (.l .f,.lst (((List.range w).map g).map D.int)),some (.f,eR r),some (.f,.int y),some (.f,.int (k:Int))],by simp only[pv,seval],
   [some (.f,R0),some (.f,N0),some (.f,.int (w:Int)),some (.l .f,.lst (((List.range w).map fun i=>if i<k+1 then f i+r.getD i 0*y else f i).map D.int)),some (.f,eR r),some (.f,.int y),some (.f,.int (k:Int))],?_,_,rfl⟩
  rw[<-e4];unfold fK eR;simp only[pv,seval,op,e0,e1,e2,e3]) [some (.f,R0),some (.f,N0),some (.f,.int (w:Int)),some (.l .f,.lst (((List.range w).map f).map D.int)),some (.f,eR r),some (.f,.int y),t] ⟨t,by simp only[Nat.not_lt_zero,Wm]⟩
 refine⟨t',?_⟩;unfold gE;rw[Kt,Bb (w:Int) (by lia) (by lia) _ _ _ (.var 2) rfl rfl,Hw];refine hf.trans ?_;have:(List.range w).map (fun i=>if i<w then f i+r.getD i 0*y else f i)=(List.range w).map fun k=>f k+r.getD k 0*y:=TN fun i hi=>Tq (TM.mp hi)
 rw[this]
theorem vU(w:Nat)(hw:w<=1000)(rows:List (List Int))(uZ:List Int)(hr:Rows w rows)(hn:HI uZ)(hl:rows.length<=1000)(hrn:rows.length=uZ.length):bZ [.lst (rows.map eR),.lst (uZ.map D.int),.int (w:Int)]=.ok (.f,eR ((List.range w).map (co rows uZ rows.length))):=by
 have zl:(rows.zip uZ).length=rows.length:=by
  rw[U6];lia
 have e0:jg (.lst [.int 0]) (.int (w:Int))=.ok (.l .f,.lst (((List.range w).map fun _=>(0:Int)).map D.int)):=by
  rw[vP,Tq ⟨by lia,by lia,line_le (by rw[TK,Uq];lia)⟩,Uk];have:(List.replicate w [D.int 0]).flatten=((List.range w).map fun _=>(0:Int)).map D.int:=by
   rw[TL];clear hw hr;induction w with
   |zero=>rfl
   |succ n ih=>rw[Ys,YB,ih,V8,Uh];rfl
  rw[this]
 obtain⟨env',hf,t1,t2,t3,rfl⟩:=for_list (a:=iA 2 (aD (aName 4) (aD (aName 5) cU))) (g:=iU) (e:=fun z:List Int×Int=>D.tup [eR z.1,.int z.2]) (rows.zip uZ) (fun j env=>∃t1 t2 t3,env=[some (.f,.lst (rows.map eR)),some (.f,.lst (uZ.map D.int)),some (.f,.int (w:Int)),some (.l .f,.lst (((List.range w).map (co rows uZ j)).map D.int)),t1,t2,t3]) (by
  rintro j ⟨r,y⟩ env hj ⟨t1,t2,t3,rfl⟩;have hz:(r,y)∈rows.zip uZ:=U7 hj;have hm:=VN hz;obtain⟨q1,q2⟩:=VG.mp hj;obtain⟨l1,q1⟩:=Fw q1;obtain⟨l2,q2⟩:=Fw q2;obtain⟨t',hs⟩:=AN w hw (.lst (rows.map eR)) (.lst (uZ.map D.int)) (co rows uZ j) r y (hr r hm.1) (hn y hm.2) t3;have e:(fun k=>co rows uZ j k+r.getD k 0*y)=co rows uZ (j+1):=funext fun k=>by
   unfold co;rw[AK rows uZ j k l1 l2];dsimp only at q1 q2;rw[q1,q2]
  rw[e]at hs;exact⟨_,AM _ _ _ _ _ _ _ _ _,_,hs,_,_,_,rfl⟩) [some (.f,.lst (rows.map eR)),some (.f,.lst (uZ.map D.int)),some (.f,.int (w:Int)),some (.l .f,.lst (((List.range w).map fun _=>(0:Int)).map D.int)),none,none,none] ⟨_,_,_,by
   have:co rows uZ 0=fun _=>(0:Int):=funext fun k=>by unfold co;rw[Xs];rfl
   rw[this]⟩
 unfold bZ lW;rw[ba (h:=by rfl)];rw[av (env':=[some (.f,.lst (rows.map eR)),some (.f,.lst (uZ.map D.int)),some (.f,.int (w:Int)),some (.l .f,.lst (((List.range w).map fun _=>(0:Int)).map D.int)),none,none,none]) (by simp only[pv,seval,e0])];rw[av (env':=[some (.f,.lst (rows.map eR)),some (.f,.lst (uZ.map D.int)),some (.f,.int (w:Int)),some (.l .f,.lst (((List.range w).map (co rows uZ rows.length)).map D.int)),t1,t2,t3]) (by
  unfold jK;rw[Kt];simp only[pv,seval,rg];rw[zl]at hf;exact hf)]
 unfold iV;simp only[pv,seval,op];rfl
theorem C9(a:Int){b:Int}(h:b≠0):CK (.int a) (.int b)=.ok (.f,.int (a.fmod b)):=by
 unfold CK;dsimp only;rw[Tq h]
theorem p6(a:Int){b:Int}(h:b≠0)(h2:b.natAbs<2 ^ 1000):mO (.int a) (.int b)=.ok (.f,.int (a.fdiv b)):=by
 unfold mO;dsimp only;rw[Tq ⟨h,h2⟩]
theorem lY(a:Int){b:Int}(h:0<b):a.fmod b=a%b:=by
 rw[Int.fmod_eq_emod,Tq (.inl (Xm h)),Vt]
theorem Gu(a:Int){b:Int}(h:b≠0):(a.fmod b).natAbs<b.natAbs:=by
 rcases YY h with hb|hb
 ·have e:a.fmod b = -((-a)%(-b)):=by
   rw[<-lY (-a) (b:=-b) (by lia),XU,XJ]
  have h1:=Vx (-a) (b:=-b) (by lia);have h2:=V3 (-a) (b:=-b) (by lia);lia
 ·rw[lY a hb];have h1:=Vx a (b:=b) (by lia);have h2:=V3 a hb;lia
theorem rh{a b:Int}(hb:0<b)(hr:0<a%b):2*(b%(a%b))<b:=by
 have h1:=V3 a hb;have h2:=V3 b hr;have h3:=Vx b (b:=a%b) (by lia);have h4:=Int.mul_ediv_add_emod b (a%b);have h5:1<=b / (a%b):=by
  have:=Int.ediv_nonneg (Xm hb) (Xm hr);rcases Int.lt_or_eq_of_le this with h|h
  ·lia
  ·rw[<-h,Vi]at h4;lia
 have h6:a%b*1<=a%b*(b / (a%b)):=Int.mul_le_mul_of_nonneg_left h5 (Xm hr);lia
theorem Gv{a b:Int}(hb:b≠0)(hr:a.fmod b≠0):2*(b.fmod (a.fmod b)).natAbs<b.natAbs:=by
 rcases YY hb with h|h
 ·have e:a.fmod b = -((-a)%(-b)):=by
   rw[<-lY (-a) (b:=-b) (by lia),XU,XJ]
  have h0:=Vx (-a) (b:=-b) (by lia);have hp:0<(-a)%(-b):=by lia
  have e2:b.fmod (a.fmod b) = -((-b)%((-a)%(-b))):=by
   rw[e,<-lY (-b) hp,<-XU,XJ]
  have:=rh (a:=-a) (b:=-b) (by lia) hp;have:=Vx (-b) (b:=(-a)%(-b)) (by lia);lia
 ·rw[lY a h]at hr ⊢;have h0:=Vx a (b:=b) (by lia);have hp:0<a%b:=by lia
  rw[lY b hp];have:=rh (a:=a) h hp;have:=Vx b (b:=a%b) (by lia);lia
theorem yP(a b:Int):Int.gcd b (a.fmod b)=Int.gcd a b:=by rw[Int.fmod_def,Int.gcd_sub_mul_left_right,Int.gcd_comm]
abbrev sV:FT:=GX (aB Hz (oVar 1) (oVal (eCon (.int 0))))
theorem p7(F:Nat)(a:Int)(t:Option R):cz sV aX (F+1) [some (.f,.int a),some (.f,.int 0),t]=.ok (.nx [some (.f,.int a),some (.f,.int 0),t]):=by
 have hc:sV [some (.f,.int a),some (.f,.int 0),t]=.ok (false,[some (.f,.int a),some (.f,.int 0),t]):=by
  have e:((0:Int)==0)=true:=rfl;simp only[pv,seval,op,e,Uy]
 rw[fS,hc,Hw];dsimp only;rw[Tv TC]
theorem Dc(F:Nat)(a b:Int)(hb:b≠0)(t:Option R):cz sV aX (F+1) [some (.f,.int a),some (.f,.int b),t]=cz sV aX F [some (.f,.int b),some (.f,.int (a.fmod b)),some (.f,.int (a.fmod b))]:=by
 have hc:sV [some (.f,.int a),some (.f,.int b),t]=.ok (true,[some (.f,.int a),some (.f,.int b),t]):=by
  have e:(b==0)=false:=T4.mpr hb;simp only[pv,seval,op,e,V0]
 have Qn:aX [some (.f,.int a),some (.f,.int b),t]=.ok (.nx [some (.f,.int b),some (.f,.int (a.fmod b)),some (.f,.int (a.fmod b))]):=by
  unfold aX;have hm:=C9 a hb;rw[av (env':=[some (.f,.int a),some (.f,.int b),some (.f,.int (a.fmod b))]) (by simp only[pv,seval,op,hm])];rw[av (env':=[some (.f,.int b),some (.f,.int b),some (.f,.int (a.fmod b))]) (by simp only[pv,seval,op])];simp only[pv,seval,op]
 rw[fS,hc,Hw];dsimp only;rw[Tq rfl,Qn,Hw]
theorem vV:∀(n F:Nat) (a b:Int) (t:Option R),b.natAbs<2 ^ n->2*n+1<=F->∃(c:Int) (u:Option R),c.natAbs=Int.gcd a b/\cz sV aX F [some (.f,.int a),some (.f,.int b),t]=.ok (.nx [some (.f,.int c),some (.f,.int 0),u])
 | 0,F,a,b,t,h,hF=>by
  have:b=0:=by
   have:b.natAbs<1:=h;lia
  subst this;obtain⟨F,rfl⟩:∃G,F=G+1:=⟨F-1,by lia⟩
  exact⟨a,t,(Xn a).symm,p7 F a t⟩
 |n+1,F,a,b,t,h,hF=>by
  obtain⟨F,rfl⟩:∃G,F=G+1:=⟨F-1,by lia⟩
  by_cases hb:b=0
  ·subst hb;exact⟨a,t,(Xn a).symm,p7 F a t⟩
  rw[Dc F a b hb t,<-yP a b];obtain⟨F,rfl⟩:∃G,F=G+1:=⟨F-1,by lia⟩
  by_cases hr:a.fmod b=0
  ·rw[hr];exact⟨b,_,(Xn b).symm,p7 F b _⟩
  rw[Dc F b _ hr,<-yP b (a.fmod b)];refine vV n F _ _ _ ?_ (by lia);have:=Gv hb hr;rw[Nat.pow_succ]at h;lia
theorem De(c:Int):Cy [.int c]=.ok (.f,.int (c.natAbs:Int)):=by
 show Res.ok (O.f,D.int (if c<0 then -c else c))=_;split <;> (congr 3;lia)
theorem yQ(a b:Int)(h:b.natAbs<2 ^ 1000):aV [.int a,.int b]=.ok (.f,.int (Int.gcd a b:Int)):=by
 obtain⟨c,u,hc,e⟩:=vV 1000 100000 a b none h (by decide);have ha:=De c;unfold aV f7;rw[ba (h:=by rfl)];rw[av (env':=[some (.f,.int c),some (.f,.int 0),u]) (by
  unfold eF;exact e)]
 unfold d8;rw[<-hc];simp only[pv,seval,op,ha]
def gl:List Int->Nat->Nat
 |[],g=>g
 |x::r,g=>gl r (Nat.gcd g x.natAbs)
def low(r:List Int):List Int:=if gl r 0=0 then r else r.map fun x=>x.fdiv (gl r 0:Int)
theorem Dg:∀(r:List Int) (g:Nat),HI r->g<2 ^ 1000->gl r g<2 ^ 1000
 |[],g,_,h=>h
 |x::r,g,hb,h=>Dg r _ (fun y hy=>hb y (Tn _ hy)) (by
  rcases YV g with e|e
  ·rw[e,Nat.gcd_zero_left];exact hb x Tg
  ·exact U5 (Nat.gcd_le_left _ e) h)
theorem rj(E0:Option R):∀(r:List Int) (g:Nat) (t:Option R),HI r->∃u,eD (aName 2) fI (r.map D.int) [E0,some (.f,.int (g:Int)),t]=.ok (.nx [E0,some (.f,.int (gl r g:Int)),u])
 |[],g,t,_=>⟨t,rfl⟩
 |x::r,g,t,hb=>by
  have hd:=yQ (g:Int) x (hb x Tg);have eg:Int.gcd (g:Int) x=Nat.gcd g x.natAbs:=rfl;rw[eg]at hd;obtain⟨u,e⟩:=rj E0 r (Nat.gcd g x.natAbs) (some (.f,.int x)) fun y hy=>hb y (Tn _ hy)
  have ha:aName 2 (.int x) [E0,some (.f,.int (g:Int)),t]=.ok [E0,some (.f,.int (g:Int)),some (.f,.int x)]:=rfl;have Qn:fI [E0,some (.f,.int (g:Int)),some (.f,.int x)]=.ok (.nx [E0,some (.f,.int ((Nat.gcd g x.natAbs:Nat):Int)),some (.f,.int x)]):=by
   unfold fI;simp only[pv,seval,op,hd]
  refine⟨u,?_⟩;rw[gu,dg,ha,Hw,Qn,Hw];exact e
theorem rk(r:List Int)(hb:HI r)(hl:r.length<=1000):cJ [eR r]=.ok (.f,eR (low r)):=by
 obtain⟨u,e⟩:=rj (some (.f,eR r)) r 0 none hb;have hg:=Dg r 0 hb (Vy 1000);unfold cJ qX;rw[ba (h:=by rfl)];rw[av (env':=[some (.f,eR r),some (.f,.int ((0:Nat):Int)),none]) (by
  generalize eR r=ER;simp only[pv,seval,op] <;> rfl)]
 rw[av (env':=[some (.f,eR r),some (.f,.int (gl r 0:Int)),u]) (by
  unfold lU eR;simp only[pv,seval,op];exact e)]
 unfold kR low;by_cases h0:gl r 0=0
 ·rw[Tq h0];have e0:(((gl r 0:Nat):Int)==0)=true:=by rw[h0];rfl
  rw[HM];generalize eR r=ER;simp only[pv,seval,op,e0]
 ·rw[Tv h0];have e0:(((gl r 0:Nat):Int)==0)=false:=T4.mpr (by lia);have hz:((gl r 0:Nat):Int)≠0:=by lia
  have hc:compL (aName 0) cYes (eBin mO (oVar 0) (oVar 1)) (r.map D.int) [none,some (.f,.int (gl r 0:Int))]=.ok ((r.map fun x=>x.fdiv (gl r 0:Int)).map D.int):=by
   rw[TL];refine cu (fun env=>∃t,env=[t,some (.f,.int (gl r 0:Int))]) _ ?_ _ ⟨_,rfl⟩;rintro x _ env ⟨t,rfl⟩;have hf:=p6 x hz (by rw[Xo];exact hg);refine⟨[some (.f,.int x),some (.f,.int (gl r 0:Int))],rfl,.f,[some (.f,.int x),some (.f,.int (gl r 0:Int))],?_,_,rfl⟩;simp only[pv,seval,op,hf];rfl
  have hlen:((r.map fun x=>x.fdiv (gl r 0:Int)).map D.int).length<=sizeLine:=vR (by rw[bh,bh];lia);have Lm:=GQ (r.map fun x=>x.fdiv (gl r 0:Int));rw[av (env':=[some (.f,eR r),some (.f,.int (gl r 0:Int)),u]) (by
   generalize eR r=ER;simp only[pv,seval,op,e0,gs])]
  unfold eR;generalize (eBin mO (oVar 0) (oVar 1))=FZ1 at hc ⊢;simp only[pv,seval,op,hc,hlen,Lm]
end LW
namespace PV
open PySem L2 NX
theorem j6{fs:FOs}{env:PV.Env}:jH fs env=Res.bnd (fs env) (f:=⟨fun p=>match p.1 with
 |[.val d]=>(match d with | .lst a=>.ok (sJ a,p.2) | .tup a=>.ok (sJ a,p.2)|_=>.bad)
 |_=>.bad⟩):=by
 unfold jH HD qV;cases fs env with
 |ok p=>
  obtain⟨os,e⟩:=p;match os with
  |[]=>rfl
  |[.val d]=>cases d <;> rfl
  |[.var _]=>rfl
  | .val _::_::_=>rfl
  | .var _::_::_=>rfl
 |_=>rfl
theorem vW{i:Nat}{a:FG}{g:FS}{env env':PV.Env}{ks vs:List D}(hi:env[i]?=some (some (.d,.dct false ks vs)))(h:∀p,∃e,eD a g ks (env.set i (some (.pin p .f,.dct false ks vs)))=.ok (.nx e)/\oM i p e=true/\oP i e=true/\e.set i (some (.d,.dct false ks vs))=env'):vD i a g env=.ok (.nx env'):=by
 unfold vD;rw[hi];refine Av fun p=>?_
 obtain⟨e,h1,h2,h3,h4⟩:=h p;rw[h1];show(if oM i p e&&oP i e then Res.ok (Out.nx (e.set i (some (.d,.dct false ks vs)))) else .bad)=_;rw[h2,h3,h4];rfl
theorem lp{i:Nat}{a:FG}{g:FS}{env env':PV.Env}{p:Addr}{ks vs:List D}(hi:env[i]?=some (some (.pin p .d,.dct false ks vs))){e:PV.Env}(h1:eD a g ks (env.set i (some (.pin p .f,.dct false ks vs)))=.ok (.nx e))(h2:oM i p e=true)(h3:cleanE i e=true)(h4:e.set i (some (.pin p .d,.dct false ks vs))=env'):pU i a g env=.ok (.nx env'):=by
 unfold pU;rw[hi];show(eD a g ks (env.set i (some (.pin p .f,.dct false ks vs)))).bind (vo i p (.dct false ks vs))=_;rw[h1];show(if oM i p e&&cleanE i e then Res.ok (Out.nx (e.set i (some (.pin p .d,.dct false ks vs)))) else .bad)=_;rw[h2,h3,h4];rfl
end PV
namespace LW
open PySem L2 NX PV
def fil(r:List Int):List Int:=(r.zipIdx.filter fun z=>!(z.1==0)).map fun z=>(z.2:Int)
theorem xZ(r:List Int):sJ (r.map D.int)=r.zipIdx.map fun z=>D.tup [.int (z.2:Int),.int z.1]:=by
 unfold sJ;rw[List.zipIdx_map,TL];rfl
theorem o6(r:List Int):compL (iA 2 (aD (aName 0) (aD (aName 1) cU))) (GX (aB Hz (oVar 1) (oVal (eCon (.int 0))))) (ax 0) (sJ (r.map D.int)) [none,none]=.ok ((fil r).map D.int):=by
 rw[xZ];rw[dM (p:=fun z:Int×Nat=>!(z.1==0)) (r:=fun z:Int×Nat=>D.int (z.2:Int)) (fun env=>∃t1 t2,env=[t1,t2]) r.zipIdx ?_ _ ⟨_,_,rfl⟩]
 ·unfold fil;rw[TL];rfl
 ·rintro z _ env ⟨t1,t2,rfl⟩;refine⟨[some (.f,.int (z.2:Int)),some (.f,.int z.1)],by simp only[pv,seval],[some (.f,.int (z.2:Int)),some (.f,.int z.1)],by simp only[pv,seval,op],?_⟩;cases h:(z.1==0) with
  |true=>exact⟨_,_,rfl⟩
  |false=>exact⟨.f,_,rfl,_,_,rfl⟩
theorem Dh(r:List Int):(fil r).length<=r.length:=by
 unfold fil;rw[bh];exact Ua (Vj _ _) (Xj (YU))
def Lb(row:List Int)(c:Nat)(JA:List Int):List Int:=if row.getD c 0=0 then row else(List.range row.length).map fun k=>row.getD k 0*JA.getD c 0+JA.getD k 0 * -(row.getD c 0)
theorem NM{r:List Int}{c:Nat}(h:c<r.length):Ha (eR r) (.int (c:Int))=.ok (.f,.int (r.getD c 0)):=by
 unfold eR;rw[AD,gv (j:=c) (v:=D.int (r.getD c 0)) (by rw[TV,xP h,bL r c 0 h];rfl)]
theorem vX(row JA:List Int)(c:Nat)(hc:c<row.length)(hl:JA.length=row.length)(h1:HI row)(h2:HI JA)(hw:row.length<=1000):dw [eR row,.int (c:Int),eR JA]=.ok (.f,eR (Lb row c JA)):=by
 have i1:=NM hc;have i2:=NM (r:=JA) (c:=c) (by lia);unfold dw oR;rw[ba (h:=by rfl)];unfold Lb;by_cases h0:row.getD c 0=0
 ·rw[Tq h0];have e0:(row.getD c 0==0)=true:=by rw[h0];rfl
  rw[HM];generalize eR row=ER at i1 ⊢;simp only[pv,seval,op,i1,e0]
 ·rw[Tv h0];have e0:(row.getD c 0==0)=false:=T4.mpr h0;have hn:HI [JA.getD c 0,-(row.getD c 0)]:=fun x hx=>by
   rcases Tw.mp hx with rfl|hx
   ·exact h2 _ (aW (by lia))
   ·rw[p4 hx,WN];exact h1 _ (aW hc)
  have hr:Rows row.length [row,JA]:=fun x hx=>by
   rcases Tw.mp hx with rfl|hx
   ·exact⟨rfl,h1⟩
   ·rw[p4 hx];exact⟨hl,h2⟩
  have hs:=xY row.length hw [row,JA] [JA.getD c 0,-(row.getD c 0)] hr hn (by show 2<=1000;decide);have ec:((List.range row.length).map (co [row,JA] [JA.getD c 0,-(row.getD c 0)] 2))=(List.range row.length).map fun k=>row.getD k 0*JA.getD c 0+JA.getD k 0 * -(row.getD c 0):=by
   refine TN fun k _=>?_
   unfold co;simp
  have hs:fH [.lst [eR row,eR JA],.lst [.int (JA.getD c 0),.int (-(row.getD c 0))],.int (row.length:Int)]=.ok (.f,eR ((List.range row.length).map (co [row,JA] [JA.getD c 0,-(row.getD c 0)] 2))):=hs;rw[ec]at hs;have Kr:cZ [eR row]=.ok (.f,.int (row.length:Int)):=by
   show Res.ok (O.f,D.int (((row.map D.int).length:Nat):Int))=_;rw[bh]
  generalize eR ((List.range row.length).map fun k=>row.getD k 0*JA.getD c 0+JA.getD k 0 * -(row.getD c 0))=RES at hs ⊢;rw[av (env':=[some (.f,eR row),some (.f,.int (c:Int)),some (.f,eR JA)]) (by
   generalize eR row=ER at i1 ⊢;generalize eR JA=EB;simp only[pv,seval,op,i1,e0,gs])]
  generalize eR row=ER at i1 hs Kr ⊢;generalize eR JA=EB at i2 hs ⊢;simp only[pv,seval,op,i1,i2,hs,Kr]
abbrev Im:=Option (Nat×List Int)
def dL:Im->D
 |none=>.dct false [] []
 |some (q,l)=>.dct false [.int (q:Int)] [eR l]
theorem cm(r:List Int):cv (eR r)=true:=by
 unfold eR;rw[fT,GQ]
theorem gS:∀L:Im,aT .d (dL L)=true
 |none=>rfl
 |some (q,l)=>by
  show flatDs [eR l]=true;rw[flatDs,cm];rfl
theorem vY(q:Nat)(l:List Int):MR (dL (some (q,l))) (.int (q:Int))=.ok (.f,eR l):=by
 unfold MR dL;dsimp only;rw[Tq (show gm false (.int (q:Int))=true from rfl)];unfold PV.getD;rw[UT,Vz (by show GW (.int (q:Int)) (.int (q:Int))=true;rw[GW,Ul])];rfl
theorem AO(q:Nat)(l:List Int)(p:Addr):bU p [dL none,.int (q:Int),eR l]=.ok (.t [.d,.pin p .d],.tup [dL (some (q,l)),dL none]):=by
 unfold bU iQ;rw[mZ (h:=by rfl)];have fl:=cm l;have e1:d9 [some (.pin p .d,dL none),some (.f,.int (q:Int)),some (.f,eR l),some (.d,dL none),none]=.ok (.nx [some (.pin p .d,dL none),some (.f,.int (q:Int)),some (.f,eR l),some (.d,dL none),none]):=by
  unfold d9;exact lp (ks:=[]) (vs:=[]) rfl rfl (by show decide (p=p)=true;exact T6 rfl) (by
   show(List.all [none,some (O.f,D.int (q:Int)),some (.f,eR l),some (.d,dL none),none] _)=true;have c1:aT .f (eR l)=true:=by rw[aT];exact fl
   have c2:aT .f (.int (q:Int))=true:=rfl;simp only[VQ,Yj,c1,c2,gS,Ug]) rfl
 simp only[List.map,List.replicate,VW,UX];rw[av (env':=[some (.pin p .d,dL none),some (.f,.int (q:Int)),some (.f,eR l),some (.d,dL none),none]) (by
  show _=Res.ok (Out.nx [some (.pin p .d,dL none),some (.f,.int (q:Int)),some (.f,eR l),some (.d,.dct false [] []),none]);generalize dL none=D0;simp only[pv,seval,op])]
 rw[av e1];unfold f9;rw[av (env':=[some (.pin p .d,dL none),some (.f,.int (q:Int)),some (.f,eR l),some (.d,dL (some (q,l))),none]) (by
  rfl)]
 rfl
def Ln(t:Option R):Bool:=match t with
 |some r=>okO r.1 r.2
 |none=>true
theorem m8:∀r:List Int,vB (r.map D.int)=true
 |[]=>rfl
 |x::r=>by
  rw[gu,vB,m8 r];rfl
theorem Di(r:List Int):noD (eR r)=true:=by
 unfold eR;rw[noD,m8]
theorem yR:∀rows:List (List Int),vB (rows.map eR)=true
 |[]=>rfl
 |x::r=>by rw[gu,vB,yR r,Di];rfl
theorem yS(a c d e f g:Option R)(h:Ln a=true/\Ln c=true/\Ln d=true/\Ln e=true/\Ln f=true):oP 1 [a,g,c,d,e,f]=true:=by
 obtain⟨h1,h2,h3,h4,h5⟩:=h;show(List.all [a,none,c,d,e,f] _)=true;show(List.all [a,none,c,d,e,f] Ln)=true;simp only[VQ,Yj,h1,h2,h3,h4,h5,Vp];rfl
theorem rm(rows:List (List Int)):Ln (some (.f,.lst (rows.map eR)))=true:=by
 show noD (.lst (rows.map eR))=true;rw[noD,yR]
theorem x3(r:List Int):Ln (some (.f,eR r))=true:=Di r
theorem vZ(rows:List (List Int))(r:List Int)(t4 t5:Option R)(h4:Ln t4=true)(h5:Ln t5=true):cA [some (.f,.lst (rows.map eR)),some (.d,dL none),some (.f,eR r),some (.f,eR r),t4,t5]=.ok (.nx [some (.f,.lst (rows.map eR)),some (.d,dL none),some (.f,eR r),some (.f,eR r),t4,t5]):=by
 unfold cA;exact vW (ks:=[]) (vs:=[]) rfl fun p=>⟨[some (.f,.lst (rows.map eR)),some (.pin p .f,dL none),some (.f,eR r),some (.f,eR r),t4,t5],rfl,(by show decide (p=p)=true;exact T6 rfl),yS _ _ _ _ _ _ ⟨rm rows,x3 r,x3 r,h4,h5⟩,rfl⟩
theorem AQ(rows:List (List Int))(r:List Int)(q:Nat)(l:List Int)(hq:q<r.length)(hl:l.length=r.length)(hr:HI r)(hb:HI l)(hw:r.length<=1000)(t4 t5:Option R)(h5:Ln t5=true):cA [some (.f,.lst (rows.map eR)),some (.d,dL (some (q,l))),some (.f,eR r),some (.f,eR r),t4,t5]=.ok (.nx [some (.f,.lst (rows.map eR)),some (.d,dL (some (q,l))),some (.f,eR r),some (.f,eR (Lb r q l)),some (.f,.int (q:Int)),t5]):=by
 unfold cA;have hc:=vX r l q hq hl hr hb hw;have hd:=vY q l;have fl:=cm (Lb r q l);refine vW (ks:=[.int (q:Int)]) (vs:=[eR l]) rfl fun p=>⟨[some (.f,.lst (rows.map eR)),some (.pin p .f,dL (some (q,l))),some (.f,eR r),some (.f,eR (Lb r q l)),some (.f,.int (q:Int)),t5],?_,(by show decide (p=p)=true;exact T6 rfl),yS _ _ _ _ _ _ ⟨rm rows,x3 r,x3 _,rfl,h5⟩,rfl⟩
 show eD (aName 4) cK [.int (q:Int)] [some (.f,.lst (rows.map eR)),some (.pin p .f,dL (some (q,l))),some (.f,eR r),some (.f,eR r),t4,t5]=_;have ha:aName 4 (.int (q:Int)) [some (.f,.lst (rows.map eR)),some (.pin p .f,dL (some (q,l))),some (.f,eR r),some (.f,eR r),t4,t5]=.ok [some (.f,.lst (rows.map eR)),some (.pin p .f,dL (some (q,l))),some (.f,eR r),some (.f,eR r),some (.f,.int (q:Int)),t5]:=rfl;have Qn:cK [some (.f,.lst (rows.map eR)),some (.pin p .f,dL (some (q,l))),some (.f,eR r),some (.f,eR r),some (.f,.int (q:Int)),t5]=.ok (.nx [some (.f,.lst (rows.map eR)),some (.pin p .f,dL (some (q,l))),some (.f,eR r),some (.f,eR (Lb r q l)),some (.f,.int (q:Int)),t5]):=by
  unfold cK;generalize dL (some (q,l))=DL at hd ⊢;generalize eR l=EL at hc hd ⊢;generalize eR (Lb r q l)=EC at hc fl ⊢;generalize eR r=ER at hc ⊢;simp only[pv,seval,op,hd,hc,fl]
 rw[dg,ha,Hw,Qn,Hw];rfl
theorem v9(R0:Option R)(DL:D)(ER:Option R)(b7:List Int)(hl:b7.length<=1000)(h:fil b7=[])(t4 t5:Option R):cj [R0,some (.d,DL),ER,some (.f,eR b7),t4,t5]=.ok (.nx [R0,some (.d,DL),ER,some (.f,eR b7),t4,some (.l .f,.lst [])]):=by
 have hc:=o6 b7;rw[h]at hc;have hc:compL (iA 2 (aD (aName 0) (aD (aName 1) cU))) (GX (aB Hz (oVar 1) (oVal (eCon (.int 0))))) (ax 0) (sJ (b7.map D.int)) [none,none]=.ok []:=hc;unfold cj eR;generalize (iA 2 (aD (aName 0) (aD (aName 1) cU)))=AA at hc ⊢;generalize (GX (aB Hz (oVar 1) (oVal (eCon (.int 0)))))=BB at hc ⊢;rw[av (env':=[R0,some (.d,DL),ER,some (.f,.tup (b7.map D.int)),t4,some (.l .f,.lst [])]) (by
  have f0:flatDs []=true:=rfl;have z0:0<=sizeLine:=Ut _;simp only[pv,seval,op,j6,hc,f0,z0,Uq])]
 have c0:decide ((0:Int)<((([]:List D).length:Nat):Int))=false:=rfl;simp only[pv,seval,op,c0,Uq,Int.cast_ofNat_Int,decide_false,gs] <;> rfl
theorem AR(R0:Option R)(ER:Option R)(b7:List Int)(hb:HI b7)(hl:b7.length<=1000)(q:Nat)(more:List Int)(h:fil b7=(q:Int)::more)(t4 t5:Option R):cj [R0,some (.d,dL none),ER,some (.f,eR b7),t4,t5]=.ok (.nx [R0,some (.d,dL (some (q,low b7))),ER,some (.f,eR b7),t4,some (.l .f,.lst (((q:Int)::more).map D.int))]):=by
 have hc:=o6 b7;have hle:=Dh b7;rw[h]at hc hle;have Lw:=rk b7 hb hl;have Qo:=cm (low b7);have hw:=mM (F:=bU) (c:=.d) (r:=(.d,dL (some (q,low b7)))) (d':=dL none) (AO q (low b7));have hz:(((q:Int)::more).map D.int).length<=sizeLine:=line_le (by rw[bh];lia);have hf:=GQ ((q:Int)::more);have Ja:Jv (((q:Int)::more).map D.int) (0:Int)=some (.int (q:Int)):=gv (j:=0) rfl;have c0:decide ((0:Int)<(((((q:Int)::more).map D.int).length:Nat):Int))=true:=T6 (by rw[bh,TK];lia);have cd:=gS (some (q,low b7));have cn:=gS none;generalize dL (some (q,low b7))=D1 at hw cd ⊢;generalize dL none=D0 at hw cn ⊢;generalize ((q:Int)::more).map D.int=LL at hc hz hf Ja c0 ⊢;generalize eR (low b7)=ELO at Lw hw Qo;unfold cj;have RX:jH (ag (oVal (ax 3)) au) [R0,some (.d,D0),ER,some (.f,eR b7),t4,t5]=.ok (sJ (b7.map D.int),[R0,some (.d,D0),ER,some (.f,eR b7),t4,t5]):=by
  unfold eR;simp only[pv,seval,j6]
 generalize hAA:(iA 2 (aD (aName 0) (aD (aName 1) cU)))=AA at hc ⊢;generalize hBB:(GX (aB Hz (oVar 1) (oVal (eCon (.int 0)))))=BB at hc ⊢;clear hAA hBB;generalize jH (ag (oVal (ax 3)) au)=IE at RX ⊢;generalize eR b7=ERR at RX Lw ⊢;rw[av (env':=[R0,some (.d,D0),ER,some (.f,ERR),t4,some (.l .f,.lst LL)]) (by
  simp only[pv,seval,op,RX,hc,hz,hf])]
 have own:mL .d .d=true:=rfl;simp only[pv,seval,op,c0,Ja,Lw,Qo,dj,own,hw,cd,cn,Hl,Hm,Ug,Va]
inductive Ld(n:Nat):Im->List (List Int)->Im->Prop
 |nil (L:Im):Ld n L [] L
 |zero {r:List Int}{rs:List (List Int)}{L':Im}:r.length=n->HI r->fil r=[]->Ld n none rs L'->Ld n none (r::rs) L'
 |lead {r:List Int}{rs:List (List Int)}{L':Im}{q:Nat}{more:List Int}:r.length=n->HI r->fil r=(q:Int)::more->Ld n (some (q,low r)) rs L'->Ld n none (r::rs) L'
 |stay {r:List Int}{rs:List (List Int)}{L':Im}{q:Nat}{l:List Int}:r.length=n->HI r->q<n->l.length=n->HI l->fil (Lb r q l)=[]->Ld n (some (q,l)) rs L'->Ld n (some (q,l)) (r::rs) L'
theorem AS(r:List Int)(q:Nat)(l:List Int):(Lb r q l).length=r.length:=by
 unfold Lb;split
 ·rfl
 ·rw[bh,TR]
theorem E4(l:List Int):Ln (some (.l .f,.lst (l.map D.int)))=true:=m8 l
theorem i9(rows:List (List Int)){n:Nat}(hn:n<=1000):∀{rs:List (List Int)}{L L':Im},Ld n L rs L'->∀t2 t3 t4 t5:Option R,Ln t4=true->Ln t5=true->
  ∃u2 u3 u4 u5,eD (aName 2) a9 (rs.map eR) [some (.f,.lst (rows.map eR)),some (.d,dL L),t2,t3,t4,t5]=.ok (.nx [some (.f,.lst (rows.map eR)),some (.d,dL L'),u2,u3,u4,u5])
 |_,_,_,.nil L,t2,t3,t4,t5,_,_=>⟨t2,t3,t4,t5,rfl⟩
 |r::rs,_,L',.zero hl hb hf more,t2,t3,t4,t5,h4,h5=>by
  have ha:aName 2 (eR r) [some (.f,.lst (rows.map eR)),some (.d,dL none),t2,t3,t4,t5]=.ok [some (.f,.lst (rows.map eR)),some (.d,dL none),some (.f,eR r),t3,t4,t5]:=rfl;have e1:=vZ rows r t4 t5 h4 h5;have e2:=v9 (some (.f,.lst (rows.map eR))) (dL none) (some (.f,eR r)) r (by lia) hf t4 t5;obtain⟨u2,u3,u4,u5,e3⟩:=i9 rows hn more (some (.f,eR r)) (some (.f,eR r)) t4 (some (.l .f,.lst [])) h4 rfl;refine⟨u2,u3,u4,u5,?_⟩;have eb:a9 [some (.f,.lst (rows.map eR)),some (.d,dL none),some (.f,eR r),t3,t4,t5]=.ok (.nx [some (.f,.lst (rows.map eR)),some (.d,dL none),some (.f,eR r),some (.f,eR r),t4,some (.l .f,.lst [])]):=by
   unfold a9;rw[av (env':=[some (.f,.lst (rows.map eR)),some (.d,dL none),some (.f,eR r),some (.f,eR r),t4,t5]) (by
    generalize dL none=D0;generalize eR r=ER;simp only[pv,seval,op]),av e1,e2]
  rw[gu,dg,ha,Hw,eb,Hw];exact e3
 |r::rs,_,L',.lead (q:=q) (more:=mo) hl hb hf more,t2,t3,t4,t5,h4,h5=>by
  have ha:aName 2 (eR r) [some (.f,.lst (rows.map eR)),some (.d,dL none),t2,t3,t4,t5]=.ok [some (.f,.lst (rows.map eR)),some (.d,dL none),some (.f,eR r),t3,t4,t5]:=rfl;have e1:=vZ rows r t4 t5 h4 h5;have e2:=AR (some (.f,.lst (rows.map eR))) (some (.f,eR r)) r hb (by lia) q mo hf t4 t5;obtain⟨u2,u3,u4,u5,e3⟩:=i9 rows hn more (some (.f,eR r)) (some (.f,eR r)) t4 (some (.l .f,.lst (((q:Int)::mo).map D.int))) h4 (E4 _);refine⟨u2,u3,u4,u5,?_⟩;have eb:a9 [some (.f,.lst (rows.map eR)),some (.d,dL none),some (.f,eR r),t3,t4,t5]=.ok (.nx [some (.f,.lst (rows.map eR)),some (.d,dL (some (q,low r))),some (.f,eR r),some (.f,eR r),t4,some (.l .f,.lst (((q:Int)::mo).map D.int))]):=by
   unfold a9;rw[av (env':=[some (.f,.lst (rows.map eR)),some (.d,dL none),some (.f,eR r),some (.f,eR r),t4,t5]) (by
    generalize dL none=D0;generalize eR r=ER;simp only[pv,seval,op]),av e1,e2]
  rw[gu,dg,ha,Hw,eb,Hw];exact e3
 |r::rs,_,L',.stay (q:=q) (l:=l) hl hb hq hll hlb hf more,t2,t3,t4,t5,h4,h5=>by
  have ha:aName 2 (eR r) [some (.f,.lst (rows.map eR)),some (.d,dL (some (q,l))),t2,t3,t4,t5]=.ok [some (.f,.lst (rows.map eR)),some (.d,dL (some (q,l))),some (.f,eR r),t3,t4,t5]:=rfl;have e1:=AQ rows r q l (by lia) (by lia) hb hlb (by lia) t4 t5 h5;have e2:=v9 (some (.f,.lst (rows.map eR))) (dL (some (q,l))) (some (.f,eR r)) (Lb r q l) (by rw[AS];lia) hf (some (.f,.int (q:Int))) t5;obtain⟨u2,u3,u4,u5,e3⟩:=i9 rows hn more (some (.f,eR r)) (some (.f,eR (Lb r q l))) (some (.f,.int (q:Int))) (some (.l .f,.lst [])) rfl rfl;refine⟨u2,u3,u4,u5,?_⟩;have eb:a9 [some (.f,.lst (rows.map eR)),some (.d,dL (some (q,l))),some (.f,eR r),t3,t4,t5]=.ok (.nx [some (.f,.lst (rows.map eR)),some (.d,dL (some (q,l))),some (.f,eR r),some (.f,eR (Lb r q l)),some (.f,.int (q:Int)),some (.l .f,.lst [])]):=by
   unfold a9;rw[av (env':=[some (.f,.lst (rows.map eR)),some (.d,dL (some (q,l))),some (.f,eR r),some (.f,eR r),t4,t5]) (by
    generalize dL (some (q,l))=D0;generalize eR r=ER;simp only[pv,seval,op]),av e1,e2]
  rw[gu,dg,ha,Hw,eb,Hw];exact e3
theorem o7{n:Nat}(hn:n<=1000){rows:List (List Int)}{L:Im}(h:Ld n none rows L):bR [.lst (rows.map eR)]=.ok (.d,dL L):=by
 obtain⟨u2,u3,u4,u5,e⟩:=i9 rows hn h none none none none rfl rfl;unfold bR jI;rw[ba (h:=by rfl)];rw[av (env':=[some (.f,.lst (rows.map eR)),some (.d,dL none),none,none,none,none]) (by
  show _=Res.ok (Out.nx [some (.f,.lst (rows.map eR)),some (.d,.dct false [] []),none,none,none,none]);simp only[pv,seval,op])]
 rw[av (env':=[some (.f,.lst (rows.map eR)),some (.d,dL L),u2,u3,u4,u5]) (by
  unfold gY;generalize hD:dL none=D0 at e ⊢;generalize rows.map eR=RR at e ⊢;generalize a9=BB at e ⊢;simp only[pv,seval,op];exact e)]
 unfold gA;generalize dL L=D1;simp only[pv,seval,op]
def GK(w c:Nat)(x:Int):List Int:=(List.range w).map fun k=>if k=c then x else 0
def JV(L:Im)(c w:Nat):List Int:=match L with
 |none=>GK w c 1
 |some (q,l)=>(GK w c ((l.getD q 0).natAbs:Int)).set q (-(l.getD c 0)*(((l.getD q 0).natAbs:Int)).fdiv (l.getD q 0))
def KI(w:Nat):Im->Prop
 |none=>True
 |some (q,l)=>q<w/\l.length=w/\HI l/\l.getD q 0≠0
def Jr:Im->Int
 |none=>1
 |some (q,l)=>((l.getD q 0).natAbs:Int)
theorem rp(w c:Nat)(x:Int):((((List.range w).map fun _=>(0:Int)).map D.int).set c (.int x))=(GK w c x).map D.int:=by
 unfold GK;rw[TL,gJ,TL];refine TN fun i _=>?_
 show(if i=c then D.int x else D.int 0)=D.int (if i=c then x else 0);split <;> rfl
theorem Fx(w:Nat)(hw:w<=1000):jg (.lst [.int 0]) (.int (w:Int))=.ok (.l .f,.lst (((List.range w).map fun _=>(0:Int)).map D.int)):=by
 rw[vP,Tq ⟨by lia,by lia,line_le (by rw[TK,Uq];lia)⟩,Uk];have:(List.replicate w [D.int 0]).flatten=((List.range w).map fun _=>(0:Int)).map D.int:=by
  rw[TL];clear hw;induction w with
  |zero=>rfl
  |succ n ih=>rw[Ys,YB,ih,V8,Uh];rfl
 rw[this]
theorem aw(w c:Nat)(x:Int):(GK w c x).length=w:=by unfold GK;rw[bh,TR]
theorem Dj(l:List Int)(k:Nat)(h:k<l.length):ixN (l.map D.int).length (k:Int)=some k:=m6 _ _ (by rw[bh];exact h)
theorem Gw(p:Addr)(L:Im)(c w:Nat)(hL:KI w L):∃u4 u5,eM [some (.pin p .d,dL L),some (.f,.int (c:Int)),some (.f,.int (w:Int)),some (.f,.int 1),none,none,none]=.ok (.nx [some (.pin p .d,dL L),some (.f,.int (c:Int)),some (.f,.int (w:Int)),some (.f,.int (Jr L)),u4,u5,none])/\cleanE 0 [some (.pin p .d,dL L),some (.f,.int (c:Int)),some (.f,.int (w:Int)),some (.f,.int (Jr L)),u4,u5,none]=true:=by
 unfold eM;cases L with
 |none=>exact⟨none,none,lp (ks:=[]) (vs:=[]) rfl rfl (by show decide (p=p)=true;exact T6 rfl) rfl rfl,rfl⟩
 |some ql=>
  obtain⟨q,l⟩:=ql;obtain⟨hq,hl,hb,h0⟩:=hL;have hx:=hb _ (aW (l:=l) (k:=q) (by lia));have hd:=vY q l;have HX:=NM (r:=l) (c:=q) (by lia);have hm:=xV 1 (l.getD q 0) (by decide +kernel) hx;have Ke:=De (1*l.getD q 0);rw[Wc]at hm Ke;have Jp:=yQ 1 (l.getD q 0) hx;rw[show Int.gcd 1 (l.getD q 0)=1 from Int.one_gcd]at Jp;have Jp:aV [.int 1,.int (l.getD q 0)]=.ok (.f,.int 1):=Jp;have Ph:=p6 ((l.getD q 0).natAbs:Int) (b:=1) (by decide) (by decide +kernel);rw[show(((l.getD q 0).natAbs:Int)).fdiv 1=((l.getD q 0).natAbs:Int) from Int.fdiv_one _]at Ph;refine⟨some (.f,.int (q:Int)),some (.f,.int (l.getD q 0)),?_,rfl⟩;refine lp (ks:=[.int (q:Int)]) (vs:=[eR l]) rfl (e:=[some (.pin p .f,dL (some (q,l))),some (.f,.int (c:Int)),some (.f,.int (w:Int)),some (.f,.int ((l.getD q 0).natAbs:Int)),some (.f,.int (q:Int)),some (.f,.int (l.getD q 0)),none]) ?_ (by show decide (p=p)=true;exact T6 rfl) rfl rfl;show eD (aName 4) cN [.int (q:Int)] [some (.pin p .f,dL (some (q,l))),some (.f,.int (c:Int)),some (.f,.int (w:Int)),some (.f,.int 1),none,none,none]=_;have ha:aName 4 (.int (q:Int)) [some (.pin p .f,dL (some (q,l))),some (.f,.int (c:Int)),some (.f,.int (w:Int)),some (.f,.int 1),none,none,none]=.ok [some (.pin p .f,dL (some (q,l))),some (.f,.int (c:Int)),some (.f,.int (w:Int)),some (.f,.int 1),some (.f,.int (q:Int)),none,none]:=rfl;have eb:cN [some (.pin p .f,dL (some (q,l))),some (.f,.int (c:Int)),some (.f,.int (w:Int)),some (.f,.int 1),some (.f,.int (q:Int)),none,none]=.ok (.nx [some (.pin p .f,dL (some (q,l))),some (.f,.int (c:Int)),some (.f,.int (w:Int)),some (.f,.int ((l.getD q 0).natAbs:Int)),some (.f,.int (q:Int)),some (.f,.int (l.getD q 0)),none]):=by
   unfold cN;generalize dL (some (q,l))=DL at hd ⊢;generalize eR l=EL at hd HX ⊢;rw[av (env':=[some (.pin p .f,DL),some (.f,.int (c:Int)),some (.f,.int (w:Int)),some (.f,.int 1),some (.f,.int (q:Int)),some (.f,.int (l.getD q 0)),none]) (by simp only[pv,seval,op,hd,HX])];simp only[pv,seval,op,hm,Ke,Jp,Ph]
  rw[dg,ha,Hw,eb,Hw];rfl
theorem Dk{a:Int}(h:a≠0):((a.natAbs:Int)).fdiv a=a.sign:=by
 rw[<-XC,Wu _ h]
theorem AU(a:Int):a.sign.natAbs<=1:=by
 rcases Int.lt_trichotomy a 0 with h|h|h
 ·rw[Int.sign_eq_neg_one_of_neg h];decide
 ·subst h;decide
 ·rw[Int.sign_eq_one_of_pos h];decide
theorem ja(q:Nat)(l:List Int)(c w:Nat)(h:l.getD q 0≠0):JV (some (q,l)) c w=(GK w c ((l.getD q 0).natAbs:Int)).set q (-(l.getD c 0)*(l.getD q 0).sign):=by
 unfold JV;dsimp only;rw[Dk h]
theorem AV(l:List Int):aT (.l .f) (.lst (l.map D.int))=true:=by
 rw[aT,iF,GQ]
def OV(t:Option R):Bool:=match t with
 |some r=>aT r.1 r.2
 |none=>true
theorem x4(a b c d e f g:Option R):cleanE 0 [a,b,c,d,e,f,g]=(OV b&&(OV c&&(OV d&&(OV e&&(OV f&&OV g))))):=by
 show(List.all [none,b,c,d,e,f,g] OV)=_;simp only[VQ,Yj,Vp];rfl
theorem Gx(p:Addr)(L:Im)(c w:Nat)(hc:c<w)(hL:KI w L)(u4 u5:Option R)(Jj:cleanE 0 [some (.pin p .d,dL L),some (.f,.int (c:Int)),some (.f,.int (w:Int)),some (.f,.int (Jr L)),u4,u5,none]=true):∃v4,eJ [some (.pin p .d,dL L),some (.f,.int (c:Int)),some (.f,.int (w:Int)),some (.f,.int (Jr L)),u4,u5,some (.l .f,.lst ((GK w c (Jr L)).map D.int))]=.ok (.nx [some (.pin p .d,dL L),some (.f,.int (c:Int)),some (.f,.int (w:Int)),some (.f,.int (Jr L)),v4,u5,some (.l .f,.lst ((JV L c w).map D.int))]):=by
 have Qp:∀(v4:Option R) (l:List Int),(v4=u4\/∃k:Int,v4=some (.f,.int k))->cleanE 0 [some (.pin p .f,dL L),some (.f,.int (c:Int)),some (.f,.int (w:Int)),some (.f,.int (Jr L)),v4,u5,some (.l .f,.lst (l.map D.int))]=true:=fun v4 l hv=>by
  have h:=Jj;rw[x4]at h ⊢;simp only[TJ]at h ⊢;obtain⟨h1,h2,h3,h4,h5,_⟩:=h;refine⟨h1,h2,h3,?_,h5,AV l⟩;rcases hv with rfl|⟨k,rfl⟩
  ·exact h4
  ·rfl
 unfold eJ;cases L with
 |none=>exact⟨u4,lp (ks:=[]) (vs:=[]) rfl rfl (by show decide (p=p)=true;exact T6 rfl) (Qp u4 _ (.inl rfl)) rfl⟩
 |some ql=>
  obtain⟨q,l⟩:=ql;obtain⟨hq,hl,hb,h0⟩:=hL;have hd:=vY q l;have i1:=NM (r:=l) (c:=c) (by lia);have i2:=NM (r:=l) (c:=q) (by lia);have Ph:=p6 (Jr (some (q,l))) h0 (hb _ (aW (by lia)));have es:(Jr (some (q,l))).fdiv (l.getD q 0)=(l.getD q 0).sign:=Dk h0;rw[es]at Ph;have hm:=xV (-(l.getD c 0)) (l.getD q 0).sign (by rw[WN];exact hb _ (aW (by lia))) (U5 (AU _) (by decide +kernel));have e3:=Dj (GK w c (Jr (some (q,l)))) q (by rw[aw];exact hq);refine⟨some (.f,.int (q:Int)),?_⟩;refine lp (ks:=[.int (q:Int)]) (vs:=[eR l]) rfl (e:=[some (.pin p .f,dL (some (q,l))),some (.f,.int (c:Int)),some (.f,.int (w:Int)),some (.f,.int (Jr (some (q,l)))),some (.f,.int (q:Int)),u5,some (.l .f,.lst ((JV (some (q,l)) c w).map D.int))]) ?_ (by show decide (p=p)=true;exact T6 rfl) (Qp _ _ (.inr ⟨_,rfl⟩)) rfl;show eD (aName 4) cM [.int (q:Int)] [some (.pin p .f,dL (some (q,l))),some (.f,.int (c:Int)),some (.f,.int (w:Int)),some (.f,.int (Jr (some (q,l)))),u4,u5,some (.l .f,.lst ((GK w c (Jr (some (q,l)))).map D.int))]=_;have ha:aName 4 (.int (q:Int)) [some (.pin p .f,dL (some (q,l))),some (.f,.int (c:Int)),some (.f,.int (w:Int)),some (.f,.int (Jr (some (q,l)))),u4,u5,some (.l .f,.lst ((GK w c (Jr (some (q,l)))).map D.int))]=.ok [some (.pin p .f,dL (some (q,l))),some (.f,.int (c:Int)),some (.f,.int (w:Int)),some (.f,.int (Jr (some (q,l)))),some (.f,.int (q:Int)),u5,some (.l .f,.lst ((GK w c (Jr (some (q,l)))).map D.int))]:=rfl;have e4:((GK w c (Jr (some (q,l)))).map D.int).set q (.int (-(l.getD c 0)*(l.getD q 0).sign))=(JV (some (q,l)) c w).map D.int:=by
   rw[ja q l c w h0,List.map_set];rfl
  have eb:cM [some (.pin p .f,dL (some (q,l))),some (.f,.int (c:Int)),some (.f,.int (w:Int)),some (.f,.int (Jr (some (q,l)))),some (.f,.int (q:Int)),u5,some (.l .f,.lst ((GK w c (Jr (some (q,l)))).map D.int))]=.ok (.nx [some (.pin p .f,dL (some (q,l))),some (.f,.int (c:Int)),some (.f,.int (w:Int)),some (.f,.int (Jr (some (q,l)))),some (.f,.int (q:Int)),u5,some (.l .f,.lst ((JV (some (q,l)) c w).map D.int))]):=by
   rw[<-e4];unfold cM;generalize Jr (some (q,l))=SC at Ph e3 ⊢;generalize dL (some (q,l))=DL at hd ⊢;generalize eR l=EL at hd i1 i2 ⊢;generalize (GK w c SC).map D.int=UU at e3 ⊢;simp only[pv,seval,op,hd,i1,i2,Ph,hm,e3]
  rw[dg,ha,Hw,eb,Hw];rfl
theorem wc(L:Im)(c w:Nat):(JV L c w).length=w:=by
 unfold JV;split
 ·exact aw _ _ _
 ·rw[Up,aw]
theorem il{w c:Nat}{x y:Int}(h:y∈GK w c x):y=x\/y=0:=by
 unfold GK at h;obtain⟨k,_,e⟩:=m5 h;by_cases hk:k=c
 ·rw[Tq hk]at e;exact .inl e.symm
 ·rw[Tv hk]at e;exact .inr e.symm
theorem wd{L:Im}{c w:Nat}(hc:c<w)(hL:KI w L):HI (JV L c w):=by
 cases L with
 |none=>
  intro x hx;rcases il hx with rfl|rfl <;> decide +kernel
 |some ql=>
  obtain⟨q,l⟩:=ql;obtain⟨hq,hl,hb,h0⟩:=hL;rw[ja q l c w h0];intro x hx;rcases VI hx with h|rfl
  ·rcases il h with rfl|rfl
   ·rw[Xo];exact hb _ (aW (by lia))
   ·decide +kernel
  ·rw[Yu,WN];have h1:=hb _ (aW (l:=l) (k:=c) (by lia));have h2:=AU (l.getD q 0);exact U5 (Ua (Nat.mul_le_mul_left _ h2) (Xj (Nat.mul_one _))) h1
def kr(L:Im)(c w:Nat):List Int:=low (JV L c w)
theorem o8(L:Im)(c w:Nat)(hc:c<w)(hw:w<=1000)(hL:KI w L)(p:Addr):aE p [dL L,.int (c:Int),.int (w:Int)]=.ok (.t [.f,.pin p .d],.tup [eR (kr L c w),dL L]):=by
 obtain⟨u4,u5,e2,Jj⟩:=Gw p L c w hL;obtain⟨v4,e1⟩:=Gx p L c w hc hL u4 u5 Jj;have Lw:=rk (JV L c w) (wd hc hL) (by rw[wc];exact hw);have Qo:=cm (kr L c w);have hz:=Fx w hw;have e3:ixN (((List.range w).map fun _=>(0:Int)).map D.int).length (c:Int)=some c:=m6 _ _ (by rw[bh,bh,TR];exact hc);have ez:=rp w c (Jr L);unfold aE jJ;rw[mZ (h:=by rfl)];simp only[List.map,List.replicate,VW,UX];rw[av (env':=[some (.pin p .d,dL L),some (.f,.int (c:Int)),some (.f,.int (w:Int)),some (.f,.int 1),none,none,none]) (by
  generalize dL L=DL;simp only[pv,seval,op])]
 rw[av e2];unfold gC;rw[av (env':=[some (.pin p .d,dL L),some (.f,.int (c:Int)),some (.f,.int (w:Int)),some (.f,.int (Jr L)),u4,u5,some (.l .f,.lst (((List.range w).map fun _=>(0:Int)).map D.int))]) (by
  generalize dL L=DL;simp only[pv,seval,op,hz])]
 rw[av (env':=[some (.pin p .d,dL L),some (.f,.int (c:Int)),some (.f,.int (w:Int)),some (.f,.int (Jr L)),u4,u5,some (.l .f,.lst ((GK w c (Jr L)).map D.int))]) (by
  rw[<-ez];generalize dL L=DL;generalize ((List.range w).map fun _=>(0:Int)).map D.int=ZZ at e3 ⊢;simp only[pv,seval,op,e3])]
 rw[av e1];unfold gB;have Lw:cJ [.tup ((JV L c w).map D.int)]=.ok (.f,eR (kr L c w)):=Lw;generalize eR (kr L c w)=EK at Lw Qo ⊢;generalize dL L=DL;simp only[pv,seval,op,Lw,Qo,di]
theorem dA(L:Im)(c w:Nat)(hc:c<w)(hw:w<=1000)(hL:KI w L):oK aE .d (dL L) [.int (c:Int),.int (w:Int)]=.ok ((.f,eR (kr L c w)),dL L):=mM (r:=(.f,eR (kr L c w))) (o8 L c w hc hw hL)
def Kx(L:Im)(c:Nat):Bool:=match L with
 |none=>false
 |some (q,_)=>q==c
theorem E5(L:Im)(c:Nat):Qa (.int (c:Int)) (dL L)=.ok (.f,.bl (Kx L c)):=by
 cases L with
 |none=>rfl
 |some ql=>
  obtain⟨q,l⟩:=ql;unfold Qa dL;dsimp only;rw[Tq (show gm false (.int (c:Int))=true from rfl)];unfold PV.getD Kx;rw[UT];by_cases h:q=c
  ·subst h;rw[Vz (by show GW (.int (q:Int)) (.int (q:Int))=true;rw[GW,Ul])];show Res.ok (O.f,D.bl true)=Res.ok (O.f,D.bl (q==q));rw[T8]
  ·rw[V1 (by show ¬ GW (.int (c:Int)) (.int (q:Int))=true;rw[GW,Ul];lia)];show Res.ok (O.f,D.bl false)=Res.ok (O.f,D.bl (q==c));rw[T4.mpr h]
theorem Dl(L:Im)(c:Nat):pB (.int (c:Int)) (dL L)=.ok (.f,.bl (!Kx L c)):=by
 cases L with
 |none=>rfl
 |some ql=>
  obtain⟨q,l⟩:=ql;unfold pB dL;dsimp only;rw[Tq (show gm false (.int (c:Int))=true from rfl)];unfold PV.getD Kx;rw[UT];by_cases h:q=c
  ·subst h;rw[Vz (by show GW (.int (q:Int)) (.int (q:Int))=true;rw[GW,Ul])];show Res.ok (O.f,D.bl false)=Res.ok (O.f,D.bl (!(q==q)));rw[T8];rfl
  ·rw[V1 (by show ¬ GW (.int (c:Int)) (.int (q:Int))=true;rw[GW,Ul];lia)];show Res.ok (O.f,D.bl true)=Res.ok (O.f,D.bl (!(q==c)));rw[T4.mpr h];rfl
def LO(L:Im)(n:Nat):D:=if Kx L (n-1) then .non else eR (kr L (n-1) n)
theorem o9{n:Nat}(h1:1<=n)(hn:n<=1000){rows:List (List Int)}{L:Im}(h:Ld n none rows L)(hL:KI n L):bA [.lst (rows.map eR),.int (n:Int)]=.ok (.f,LO L n):=by
 have hl:=o7 hn h;have hi:=E5 L (n-1);have hk:=dA L (n-1) n (by lia) hn hL;rw[show(((n-1:Nat)):Int)=(n:Int)-1 by lia]at hi hk;have cd:=gS L;have fk:=cm (kr L (n-1) n);have own:mL .d .d=true:=rfl;unfold bA iR LO;rw[ba (h:=by rfl)];generalize dL L=DL at hl hi hk cd ⊢;rw[av (env':=[some (.f,.lst (rows.map eR)),some (.f,.int (n:Int)),some (.d,DL)]) (by
  simp only[pv,seval,op,hl,cd])]
 cases hb:Kx L (n-1) with
 |true=>
  rw[hb]at hi;rw[Tq rfl,HM];simp only[pv,seval,op,hi]
 |false=>
  rw[hb]at hi;rw[Tv TC];rw[av (env':=[some (.f,.lst (rows.map eR)),some (.f,.int (n:Int)),some (.d,DL)]) (by
   simp only[pv,seval,op,hi,gs])]
  generalize eR (kr L (n-1) n)=EK at hk fk ⊢;simp only[pv,seval,op,dj,own,hk,fk,cd,Hl,Hm,dh,Ug,Va]
def lu(L:Im)(w:Nat):List (List Int):=((List.range w).filter fun c=>!Kx L c).map fun c=>kr L c w
theorem pb(L:Im)(w:Nat)(hw:w<=1000)(hL:KI w L)(p:Addr):∀(cs:List Nat),(∀c∈cs,c<w)->∀t:Option R,∃t',compLE (aName 0) (GX (aB pB (oVar 0) (oVar 1))) (eFunW (.d) aE 1 (ag (oVar 1) (ag (oVar 0) (ag (oVar 2) au)))) (cs.map fun(c:Nat)=>D.int (c:Int)) [t,some (.pin p .d,dL L),some (.f,.int (w:Int))]=.ok (((cs.filter fun c=>!Kx L c).map fun c=>kr L c w).map eR,[t',some (.pin p .d,dL L),some (.f,.int (w:Int))])
 |[],_,t=>⟨t,rfl⟩
 |c::cs,h,t=>by
  have hn:=Dl L c;have hk:=dA L c w (h c Tg) hw hL;have cd:=gS L;have fk:=cm (kr L c w);obtain⟨t',e⟩:=pb L w hw hL p cs (fun x hx=>h x (Tn _ hx)) (some (.f,.int (c:Int)));refine⟨t',?_⟩;rw[gu];unfold compLE;show((GX (aB pB (oVar 0) (oVar 1))) [some (.f,.int (c:Int)),some (.pin p .d,dL L),some (.f,.int (w:Int))]).bind _=_;have ec:(GX (aB pB (oVar 0) (oVar 1))) [some (.f,.int (c:Int)),some (.pin p .d,dL L),some (.f,.int (w:Int))]=.ok (!Kx L c,[some (.f,.int (c:Int)),some (.pin p .d,dL L),some (.f,.int (w:Int))]):=by
   generalize dL L=DL at hn ⊢;simp only[pv,seval,op,hn]
  rw[ec];cases hb:Kx L c with
  |true=>
   rw[VT (by rw[hb];exact TC)];exact e
  |false=>
   rw[VS (by rw[hb];rfl),gu,gu];have ef:eFunW (.d) aE 1 (ag (oVar 1) (ag (oVar 0) (ag (oVar 2) au))) [some (.f,.int (c:Int)),some (.pin p .d,dL L),some (.f,.int (w:Int))]=.ok ((.f,eR (kr L c w)),[some (.f,.int (c:Int)),some (.pin p .d,dL L),some (.f,.int (w:Int))]):=by
    have own:mL .d (.pin p .d)=true:=rfl;generalize dL L=DL at hk cd ⊢;generalize eR (kr L c w)=EK at hk fk ⊢;simp only[pv,seval,op,dj,own,hk,fk,cd,Hl,Hm,dh,Ug,Va]
   show((eFunW (.d) aE 1 (ag (oVar 1) (ag (oVar 0) (ag (oVar 2) au))) [some (.f,.int (c:Int)),some (.pin p .d,dL L),some (.f,.int (w:Int))]).bind _)=_;rw[ef];show((compLE (aName 0) (GX (aB pB (oVar 0) (oVar 1))) (eFunW (.d) aE 1 (ag (oVar 1) (ag (oVar 0) (ag (oVar 2) au)))) (cs.map fun(c:Nat)=>D.int (c:Int)) [some (.f,.int (c:Int)),some (.pin p .d,dL L),some (.f,.int (w:Int))]).bind _)=_;rw[e];rfl
theorem eC(rows:List (List Int)):flatDs (rows.map eR)=true:=AL rows
theorem rq(L:Im)(w:Nat):(lu L w).length<=w:=by
 unfold lu;rw[bh];exact Ua (Vj _ _) (Xj TR)
theorem AW(L:Im):∃ks vs,dL L=.dct false ks vs/\flatDs vs=true:=by
 cases L with
 |none=>exact⟨[],[],rfl,rfl⟩
 |some ql=>
  obtain⟨q,l⟩:=ql;refine⟨[.int (q:Int)],[eR l],rfl,?_⟩;rw[flatDs,cm];rfl
theorem m9{w:Nat}(hw:w<=1000){rows:List (List Int)}{L:Im}(h:Ld w none rows L)(hL:KI w L):dk [.lst (rows.map eR),.int (w:Int)]=.ok (.l .f,.lst ((lu L w).map eR)):=by
 have hl:=o7 hw h;have cd:=gS L;obtain⟨ks,vs,ed,fv⟩:=AW L;have hlen:((lu L w).map eR).length<=sizeLine:=line_le (by rw[bh];have:=rq L w;lia);have Lm:=eC (lu L w);have Jp:pW (aName 0) (GX (aB pB (oVar 0) (oVar 1))) (eFunW (.d) aE 1 (ag (oVar 1) (ag (oVar 0) (ag (oVar 2) au)))) ((List.range w).map fun(c:Nat)=>D.int (c:Int)) (fun q=>[none,some (.pin q .d,.dct false ks vs),some (.f,.int (w:Int))]) 1 (.dct false ks vs)=.ok ((lu L w).map eR):=by
  refine xF fun q=>?_
  obtain⟨t',e⟩:=pb L w hw hL q (List.range w) (fun c hc=>TM.mp hc) none;rw[ed]at e;exact⟨_,e,rfl⟩
 unfold dk qY;rw[ba (h:=by rfl)];rw[av (env':=[some (.f,.lst (rows.map eR)),some (.f,.int (w:Int)),some (.d,dL L)]) (by
  generalize dL L=DL at hl cd ⊢;simp only[pv,seval,op,hl,cd])]
 rw[ed];have hr:=Bb (w:Int) (by lia) (by lia) (oVar 1) [some (.f,.lst (rows.map eR)),some (.f,.int (w:Int)),some (.d,.dct false ks vs)] [some (.f,.lst (rows.map eR)),some (.f,.int (w:Int)),some (.d,.dct false ks vs)] (.var 1) rfl rfl;rw[Uk]at hr;have ec:lT (b5 (oVar 1)) [none,some 2,some 1] 2 1 (aName 0) (GX (aB pB (oVar 0) (oVar 1))) (eFunW (.d) aE 1 (ag (oVar 1) (ag (oVar 0) (ag (oVar 2) au)))) [some (.f,.lst (rows.map eR)),some (.f,.int (w:Int)),some (.d,.dct false ks vs)]=.ok ((.l .f,.lst ((lu L w).map eR)),[some (.f,.lst (rows.map eR)),some (.f,.int (w:Int)),some (.d,.dct false ks vs)]):=by
  unfold lT;rw[hr];show(pW (aName 0) (GX (aB pB (oVar 0) (oVar 1))) (eFunW (.d) aE 1 (ag (oVar 1) (ag (oVar 0) (ag (oVar 2) au)))) ((List.range w).map fun(c:Nat)=>D.int (c:Int)) (fun q=>[none,some (.pin q .d,.dct false ks vs),some (.f,.int (w:Int))]) 1 (.dct false ks vs)).bind _=_;rw[Jp];show(if((lu L w).map eR).length<=sizeLine/\flatDs ((lu L w).map eR)=true/\flatDs vs=true then _ else _)=_;rw[Tq ⟨hlen,Lm,fv⟩]
 generalize lT (b5 (oVar 1)) [none,some 2,some 1] 2 1 (aName 0) (GX (aB pB (oVar 0) (oVar 1))) (eFunW (.d) aE 1 (ag (oVar 1) (ag (oVar 0) (ag (oVar 2) au))))=EE at ec ⊢;simp only[pv,seval,op,ec]
theorem qa(r:List Int):(low r).length=r.length:=by
 unfold low;split
 ·rfl
 ·rw[bh]
theorem AX(x:Int){g:Nat}(h:0<g):(x.fdiv (g:Int)).natAbs<=x.natAbs:=by
 rw[Int.fdiv_eq_ediv_of_nonneg _ (by lia)];exact Int.natAbs_ediv_le_natAbs x g
theorem qb{r:List Int}(h:HI r):HI (low r):=by
 unfold low;split
 ·exact h
 ·intro x hx;obtain⟨y,hy,e⟩:=m5 hx;rw[<-e];exact U5 (AX y (by lia)) (h y hy)
theorem rA(L:Im)(c w:Nat):(kr L c w).length=w:=by
 unfold kr;rw[qa,wc]
theorem yT{L:Im}{c w:Nat}(hc:c<w)(hL:KI w L):HI (kr L c w):=qb (wd hc hL)
theorem ng{α:Type}(l:List α):jS l none (some (-1))=l.take (l.length-1):=by
 have e:HT.sIx l.length l.length (some (-1))=l.length-1:=by
  show(if(-1:Int)<0 then((-1:Int)+(l.length:Int)).toNat else min (-1:Int).toNat l.length)=_;rw[Tq (by decide)];lia
 unfold jS;rw[HT.l6,Wi,Zg,e]
theorem we{r:List Int}(h:0<r.length):Jv (r.map D.int) (-1:Int)=some (.int (r.getD (r.length-1) 0)):=by
 have e:(r.map D.int)[r.length-1]?=some (.int (r.getD (r.length-1) 0)):=by
  rw[TV,xP (by lia),bL r _ 0 (by lia)];rfl
 have hi:ixN (r.map D.int).length (-1:Int)=some (r.length-1):=by
  unfold ixN;rw[bh,Tv (by decide),Tq (by lia)];congr 1
  lia
 unfold Jv;rw[hi];exact e
def nh(rs:List (List Int))(w:Nat):List (List Int):=(List.range w).map fun k=>rs.map fun r=>r.getD k 0
theorem x5(rs:List (List Int))(k:Nat)(h:∀r∈rs,k<r.length):compL (aName 0) cYes (eBin Ha (oVar 0) (oVar 1)) (rs.map eR) [none,some (.f,.int (k:Int))]=.ok ((rs.map fun r=>r.getD k 0).map D.int):=by
 rw[cu (r:=fun r:List Int=>D.int (r.getD k 0)) (fun env=>∃t,env=[t,some (.f,.int (k:Int))]) rs ?_ _ ⟨none,rfl⟩]
 ·rw[TL];rfl
 ·rintro r hr env ⟨t,rfl⟩;have i1:=NM (h r hr);refine⟨[some (.f,eR r),some (.f,.int (k:Int))],rfl,.f,[some (.f,eR r),some (.f,.int (k:Int))],?_,_,rfl⟩;generalize eR r=ER at i1 ⊢;simp only[pv,seval,op,i1]
abbrev Q4:FX:=aZ iJ (ag (oVal (bT (HD (eE 1) (HD (dH (ax 1)) (dI (ax 1)))) [none,some 0] (aName 0) cYes (eBin Ha (oVar 0) (oVar 1)))) au)
theorem wg(rs:List (List Int))(w:Nat)(hl:rs.length<=1000)(h:∀r∈rs,r.length=w):compL (aName 0) cYes Q4 ((List.range w).map fun(k:Nat)=>D.int (k:Int)) [none,some (.f,.lst (rs.map eR))]=.ok ((nh rs w).map eR):=by
 rw[cu (r:=fun k:Nat=>eR (rs.map fun r=>r.getD k 0)) (fun env=>∃t,env=[t,some (.f,.lst (rs.map eR))]) (List.range w) ?_ _ ⟨none,rfl⟩]
 ·unfold nh;rw[TL];rfl
 ·rintro k hk env ⟨t,rfl⟩;have hc:=x5 rs k fun r hr=>by rw[h r hr];exact TM.mp hk
  have hz:((rs.map fun r=>r.getD k 0).map D.int).length<=sizeLine:=line_le (by rw[bh,bh];lia);have hf:=GQ (rs.map fun r=>r.getD k 0);refine⟨[some (.f,.int (k:Int)),some (.f,.lst (rs.map eR))],rfl,.f,[some (.f,.int (k:Int)),some (.f,.lst (rs.map eR))],?_,_,rfl⟩;unfold Q4 eR;rw[show(rs.map fun r=>D.tup (r.map D.int))=rs.map eR from rfl];generalize (eBin Ha (oVar 0) (oVar 1))=FF at hc ⊢;generalize (rs.map fun r=>r.getD k 0).map D.int=LL at hc hz hf ⊢;generalize rs.map eR=RR at hc ⊢;simp only[pv,seval,op,hc,hz,hf]
theorem x6(r:List Int):compL (aName 0) cYes (eNeg (oVar 0)) (r.map D.int) [none]=.ok ((r.map fun x=>-x).map D.int):=by
 rw[cu (r:=fun x:Int=>D.int (-x)) (fun env=>∃t,env=[t]) r ?_ _ ⟨none,rfl⟩]
 ·rw[TL];rfl
 ·rintro x hx env ⟨t,rfl⟩;exact⟨[some (.f,.int x)],rfl,.f,[some (.f,.int x)],by simp only[pv,seval,op],_,rfl⟩
theorem rB{rows:List (List Int)}{row:List Int}{w:Nat}(hw:w<=900)(hr:∀r∈rows,r.length=w)(J7:row.length=w)(hl:rows.length<=900){L:Im}(hd:Ld (rows.length+1) none (nh (rows++[row]) w) L)(hL:KI (rows.length+1) L)(T:FS):
  sSeq (cp 2 (eBin addO (oVal (aZ pP (ag (oVar 0) au))) (oVal (jA (dsCons (ax 1) dsNil)))))
  (sSeq (cp 3 (bT (b5 (oVal (aZ cZ (ag (oVar 1) au)))) [none,some 2] (aName 0) cYes Q4))
  (sSeq (cp 4 (cx bA (ag (oVar 3) (ag (oVal (aZ cZ (ag (oVar 2) au))) au)))) T)) [some (.f,.lst (rows.map eR)),some (.f,eR row),none,none,none]=T [some (.f,.lst (rows.map eR)),some (.f,eR row),some (.l .f,.lst ((rows++[row]).map eR)),some (.l .f,.lst ((nh (rows++[row]) w).map eR)),some (.f,LO L (rows.length+1))]:=by
 have Jj:=o9 (n:=rows.length+1) (by lia) (by lia) hd hL;have Sq:∀r∈rows++[row],r.length=w:=fun r hx=>by
  rcases xQ hx with h|h
  ·exact hr r h
  ·rw[p4 h];exact J7
 have LU:=wg (rows++[row]) w (by rw[pC,TY];lia) Sq;have Qq:addO (.lst (rows.map eR)) (.lst [eR row])=.ok (.l .f,.lst ((rows++[row]).map eR)):=by
  rw[AH,Tq (line_le (by rw[bh,TY];lia)),Uh];rfl
 have Kr:cZ [eR row]=.ok (.f,.int (w:Int)):=by
  show Res.ok (O.f,D.int (((row.map D.int).length:Nat):Int))=_;rw[bh,J7]
 have SG:cZ [.lst ((rows++[row]).map eR)]=.ok (.f,.int ((rows.length+1:Nat):Int)):=by
  show Res.ok (O.f,D.int ((((rows++[row]).map eR).length:Nat):Int))=_;rw[bh,pC,TY]
 have SH:((nh (rows++[row]) w).map eR).length<=sizeLine:=line_le (by unfold nh;rw[bh,bh,TR];lia);have SI:=eC (nh (rows++[row]) w);have SJ:cv (LO L (rows.length+1))=true:=by
  unfold LO;split
  ·rfl
  ·exact cm _
 rw[av (env':=[some (.f,.lst (rows.map eR)),some (.f,eR row),some (.l .f,.lst ((rows++[row]).map eR)),none,none]) (by
  generalize eR row=ER at Qq ⊢;simp only[pv,seval,op,Qq])]
 have OU:=Bb (w:Int) (by lia) (by lia) (oVal (aZ cZ (ag (oVar 1) au))) [some (.f,.lst (rows.map eR)),some (.f,eR row),some (.l .f,.lst ((rows++[row]).map eR)),none,none] [some (.f,.lst (rows.map eR)),some (.f,eR row),some (.l .f,.lst ((rows++[row]).map eR)),none,none] (.val (.int (w:Int))) (by
  generalize eR row=ER at Kr ⊢;simp only[pv,seval,op,Kr]) rfl
 rw[Uk]at OU;generalize LO L (rows.length+1)=CL at Jj SJ ⊢;generalize Q4=IC at LU ⊢;rw[av (env':=[some (.f,.lst (rows.map eR)),some (.f,eR row),some (.l .f,.lst ((rows++[row]).map eR)),some (.l .f,.lst ((nh (rows++[row]) w).map eR)),none]) (by
  generalize b5 (oVal (aZ cZ (ag (oVar 1) au)))=IR at OU ⊢;generalize (nh (rows++[row]) w).map eR=CC at LU SH SI ⊢;generalize (rows++[row]).map eR=JJ at OU LU ⊢;generalize eR row=ER at OU ⊢;simp only[pv,seval,op,OU,LU,SH,SI])]
 rw[av (env':=[some (.f,.lst (rows.map eR)),some (.f,eR row),some (.l .f,.lst ((rows++[row]).map eR)),some (.l .f,.lst ((nh (rows++[row]) w).map eR)),some (.f,CL)]) (by
  generalize (nh (rows++[row]) w).map eR=CC at Jj ⊢;generalize (rows++[row]).map eR=JJ at SG ⊢;generalize eR row=ER;simp only[pv,seval,op,SG,Jj,SJ])]
def fA:List Nat:=[115,117,109]
def gL:List Nat:=[114,111,119]
section
variable{rows:List (List Int)}{row:List Int}{w:Nat}{L:Im}
theorem jb(hw:w<=900)(hr:∀r∈rows,r.length=w)(J7:row.length=w)(hl:rows.length<=900)(hd:Ld (rows.length+1) none (nh (rows++[row]) w) L)(hL:KI (rows.length+1) L)(hk:Kx L rows.length=false):
  aM [.lst (rows.map eR),eR row]=.ok (.f,.tup [.str fA,.int ((kr L rows.length (rows.length+1)).getD rows.length 0),.lst ((((kr L rows.length (rows.length+1)).take rows.length).map fun x=>-x).map D.int)]):=by
 have st:=fun T=>rB hw hr J7 hl hd hL T
 have ec:LO L (rows.length+1)=eR (kr L rows.length (rows.length+1)):=by
  unfold LO;rw[show rows.length+1-1=rows.length from rfl,hk,Tv TC]
 rw[ec]at st;have kl:=rA L rows.length (rows.length+1);generalize kr L rows.length (rows.length+1)=K at st kl;have Ja:=we (r:=K) (by lia);rw[kl,show rows.length+1-1=rows.length from rfl]at Ja;have JB:jS (K.map D.int) none (some (-1))=(K.take rows.length).map D.int:=by
  rw[m7,ng,kl];rfl
 have RY:=x6 (K.take rows.length);have hz:(((K.take rows.length).map fun x=>-x).map D.int).length<=sizeLine:=line_le (by rw[bh,bh,UC];lia);have NO:Mz (eR K) .non=.ok (.f,.bl false):=id rfl;unfold aM kS;rw[ba (h:=by rfl)];simp only[List.map,List.replicate,VW,UX];rw[st];clear st;rw[av (env':=[some (.f,.lst (rows.map eR)),some (.f,eR row),some (.l .f,.lst ((rows++[row]).map eR)),some (.l .f,.lst ((nh (rows++[row]) w).map eR)),some (.f,eR K)]) (by
  generalize eR K=EK at NO ⊢;generalize eR row=ER;simp only[pv,seval,op,NO,gs])]
 unfold eR fA;generalize ((K.take rows.length).map fun x=>-x).map D.int=NN at RY hz ⊢;generalize (eNeg (oVar 0))=NG at RY ⊢;simp only[pv,seval,op,Ja,JB,RY,hz]
theorem x9(ks:List (List Int))(row:List Int)(hb:HI row)(hk:∀k∈ks,HI k/\k.length<=1000):compL (aName 0) (GX (aB Hz (oVal (cx cf (ag (oVar 0) (ag (oVar 1) au)))) (oVal (eCon (.int 0))))) (ax 0) (ks.map eR) [none,some (.f,eR row)]=.ok ((ks.filter fun o=>!(dot o row==0)).map eR):=by
 refine dM (p:=fun o:List Int=>!(dot o row==0)) (fun env=>∃t,env=[t,some (.f,eR row)]) ks ?_ _ ⟨none,rfl⟩;rintro k LG env ⟨t,rfl⟩;have hp:=o5 k row (hk k LG).1 hb (hk k LG).2;refine⟨[some (.f,eR k),some (.f,eR row)],rfl,[some (.f,eR k),some (.f,eR row)],?_,?_⟩
 ·generalize eR k=EK at hp ⊢;generalize eR row=ER at hp ⊢;simp only[pv,seval,op,hp]
 ·cases hd:(dot k row==0) with
  |true=>exact⟨_,rfl⟩
  |false=>exact⟨.f,[some (.f,eR k),some (.f,eR row)],rfl,_,rfl⟩
theorem ni(hw:w<=900)(hr:∀r∈rows,r.length=w)(J7:row.length=w)(OW:HI row)(hl:rows.length<=900)(hd:Ld (rows.length+1) none (nh (rows++[row]) w) L)(hL:KI (rows.length+1) L)(hk:Kx L rows.length=true){L2:Im}(h2:Ld w none rows L2)(SK:KI w L2){o:List Int}{more:List (List Int)}(hf:(lu L2 w).filter (fun o=>!(dot o row==0))=o::more):
  aM [.lst (rows.map eR),eR row]=.ok (.f,.tup [.str gL,eR o]):=by
 have st:=fun T=>rB hw hr J7 hl hd hL T
 have ec:LO L (rows.length+1)=.non:=by
  unfold LO;rw[show rows.length+1-1=rows.length from rfl,hk,Tq rfl]
 rw[ec]at st;have Qr:=m9 (w:=w) (by lia) h2 SK;have Kr:cZ [eR row]=.ok (.f,.int (w:Int)):=by
  show Res.ok (O.f,D.int (((row.map D.int).length:Nat):Int))=_;rw[bh,J7]
 have Pj:=x9 (lu L2 w) row OW fun k hk=>by
  unfold lu at hk;obtain⟨c,hc,e⟩:=m5 hk;have RZ:=TM.mp (VL.mp hc).1;rw[<-e];exact⟨yT RZ SK,by rw[rA];lia⟩
 have hfz:=Ua (Vj (fun o=>!(dot o row==0)) (lu L2 w)) (rq L2 w);rw[hf]at Pj hfz;have hz:((o::more).map eR).length<=sizeLine:=line_le (by rw[bh];lia);have Lm:=eC (o::more);have Q1:=eC (lu L2 w);have Ja:Jv ((o::more).map eR) (0:Int)=some (eR o):=gv (j:=0) rfl;have NO:Mz .non .non=.ok (.f,.bl true):=id rfl;unfold aM kS;rw[ba (h:=by rfl)];simp only[List.map,List.replicate,VW,UX];rw[st];clear st;rw[HM];generalize (GX (aB Hz (oVal (cx cf (ag (oVar 0) (ag (oVar 1) au)))) (oVal (eCon (.int 0)))))=BB at Pj ⊢;generalize (o::more).map eR=OM at Pj hz Lm Ja ⊢;generalize (lu L2 w).map eR=KK at Qr Pj Q1 ⊢;generalize (rows++[row]).map eR=JJ;generalize (nh (rows++[row]) w).map eR=CC;unfold gL;generalize eR row=ER at Kr Pj ⊢;generalize eR o=EO at Ja ⊢;simp only[pv,seval,op,NO,Kr,Qr,Q1,Pj,hz,Lm,Ja]
end
theorem fil_nil{r:List Int}(h:∀x∈r,x=0):fil r=[]:=by
 unfold fil;rw[UK.mpr ?_]
 ·rfl
 ·intro z hz;have:=h z.1 (List.fst_mem_of_mem_zipIdx hz);rw[this];decide
theorem rD:∀(r:List Int) (n q:Nat),q<r.length->r.getD q 0≠0->(∀j,j<q->r.getD j 0=0)->∃more,((r.zipIdx n).filter fun z=>!(z.1==0)).map (fun z=>(z.2:Int))=((n+q:Nat):Int)::more
 |[],n,q,h,_,_=>by simp at h
 |x::r,n,0,h,h0,_=>by
  have h0:x≠0:=h0;rw[VV,VS (by simpa using h0),gu];exact⟨_,rfl⟩
 |x::r,n,q+1,h,h0,hj=>by
  have hx:x=0:=hj 0 (by lia);rw[VV,VT (by rw[hx];exact TC)];obtain⟨more,e⟩:=rD r (n+1) q (by rw[TK]at h;lia) h0 fun j SM=>hj (j+1) (by lia)
  exact⟨more,by rw[e,show n+1+q=n+(q+1) by lia]⟩
theorem pd{r:List Int}{q:Nat}(h:q<r.length)(h0:r.getD q 0≠0)(hj:∀j,j<q->r.getD j 0=0):∃more,fil r=(q:Int)::more:=by
 obtain⟨more,e⟩:=rD r 0 q h h0 hj;rw[Yl]at e;exact⟨more,e⟩
theorem rF:∀{r:List Int},(∃x∈r,x≠0)->∃q,q<r.length/\r.getD q 0≠0/\∀j,j<q->r.getD j 0=0
 |[],h=>by obtain⟨x,hx,_⟩:=h;cases hx
 |x::r,h=>by
  by_cases hx:x=0
  ·obtain⟨y,hy,h0⟩:=h;rcases Tw.mp hy with rfl|hy
   ·exact absurd hx h0
   ·obtain⟨q,h1,h2,h3⟩:=rF ⟨y,hy,h0⟩;refine⟨q+1,by rw[TK];lia,h2,fun j hj=>?_⟩;cases j with
    |zero=>exact hx
    |succ j=>exact h3 j (by lia)
  ·exact⟨0,Nat.zero_lt_succ _,hx,fun j hj=>by lia⟩
theorem rH:∀(r:List Int) (g:Nat),gl r g ∣ g/\∀x∈r,gl r g ∣ x.natAbs
 |[],g=>⟨Nat.dvd_refl _,fun _ h=>nomatch h⟩
 |x::r,g=>by
  obtain⟨h1,h2⟩:=rH r (Nat.gcd g x.natAbs);refine⟨Nat.dvd_trans h1 (Nat.gcd_dvd_left _ _),fun y hy=>?_⟩;rcases Tw.mp hy with rfl|hy
  ·exact Nat.dvd_trans h1 (Nat.gcd_dvd_right _ _)
  ·exact h2 y hy
theorem nj:∀(r:List Int) (g:Nat),gl r g=0->g=0/\∀x∈r,x=0
 |[],g,h=>⟨h,fun _ h=>nomatch h⟩
 |x::r,g,h=>by
  obtain⟨h1,h2⟩:=nj r _ h;have h3:=Nat.gcd_eq_zero_iff.mp h1;refine⟨h3.1,fun y hy=>?_⟩;rcases Tw.mp hy with rfl|hy
  ·exact YS.mp h3.2
  ·exact h2 y hy
theorem rJ:∀(r:List Int) (g d:Nat),d ∣ g->(∀x∈r,d ∣ x.natAbs)->d ∣ gl r g
 |[],_,_,h,_=>h
 |x::r,g,d,h,hx=>rJ r _ d (Nat.dvd_gcd h (hx x Tg)) fun y hy=>hx y (Tn _ hy)
theorem nq(r:List Int){x:Nat}:(gl r 0:Int)*(low r).getD x 0=if gl r 0=0 then 0 else r.getD x 0:=by
 by_cases h:gl r 0=0
 ·rw[Tq h,h,Int.natCast_zero,U2]
 ·rw[Tv h];unfold low;rw[Tv h];by_cases hx:x<r.length
  ·rw[bL _ x 0 (by rw[bh];exact hx),U8,bL r x 0 hx];have hd:=(rH r 0).2 r[x] (U9 hx);obtain⟨a,ha⟩:=Int.ofNat_dvd_left.mpr hd;rw[ha,Wu _ (by lia)]
  ·rw[Ti,VE (by rw[bh];lia),Ti,VE (by lia)];exact Vi _
theorem Dm{r:List Int}(h:∃x∈r,x.natAbs=1):gl r 0=1:=by
 obtain⟨x,hx,e⟩:=h;have:=(rH r 0).2 x hx;rw[e]at this;exact Nat.dvd_one.mp this
theorem nr{r:List Int}(h:∃x∈r,x.natAbs=1):low r=r:=by
 unfold low;rw[Dm h,Tv (by decide)];have:(fun x:Int=>x.fdiv ((1:Nat):Int))=fun x=>x:=funext fun x=>Int.fdiv_one x
 rw[this];exact List.map_id' r
def sm(t:Int)(v:List Int):List Int:=v.map fun x=>t*x
theorem iq(t:Int)(v:List Int)(k:Nat):(sm t v).getD k 0=t*v.getD k 0:=by
 unfold sm;rw[Ti,TV,Ti];cases v[k]? with
 |none=>exact(Vi _).symm
 |some y=>rfl
theorem jN(t:Int)(v:List Int):(sm t v).length=v.length:=bh _
abbrev T3(t:Int):Prop:=t = -1\/t=0\/t=1
theorem pe{t:Int}(h:T3 t){v:List Int}(hb:HI v):HI (sm t v):=by
 intro x hx;obtain⟨y,hy,e⟩:=m5 hx;rw[<-e,Yu];have:=hb y hy;rcases h with rfl|rfl|rfl
 ·rw[show(-1:Int).natAbs=1 from rfl,ZJ];exact this
 ·rw[show(0:Int).natAbs=0 from rfl,Nat.zero_mul];exact Vy _
 ·rw[show(1:Int).natAbs=1 from rfl,ZJ];exact this
theorem ya{v:List Int}{t t0:Int}(h0:t0=1\/t0 = -1){q:Nat}(hq:v.getD q 0≠0):∀x∈Lb (sm t v) q (low (sm t0 v)),x=0:=by
 have hg:gl (sm t0 v) 0≠0:=fun e=>by
  have hz:=(nj (sm t0 v) 0 e).2;have Q5:q<v.length:=by
   rcases Nat.lt_or_ge q v.length with h|h
   ·exact h
   ·rw[Ti,VE h]at hq;exact absurd rfl hq
  have:=hz ((sm t0 v).getD q 0) (aW (by rw[jN];exact Q5));rw[iq]at this;rcases h0 with rfl|rfl <;> lia
 have hm:∀k,(gl (sm t0 v) 0:Int)*(low (sm t0 v)).getD k 0=t0*v.getD k 0:=fun k=>by
  rw[nq,Tv hg,iq]
 intro x hx;unfold Lb at hx;split at hx
 ·rename_i e;rw[iq]at e;have ht:t=0:=by
   rcases Xe.mp e with h|h
   ·exact h
   ·exact absurd h hq
  obtain⟨y,_,e2⟩:=m5 hx;rw[<-e2,ht,U2]
 ·obtain⟨k,_,e⟩:=m5 hx;rw[<-e,iq,iq];have a1:=hm k;have a2:=hm q;generalize (low (sm t0 v)).getD k 0=lk at a1;generalize (low (sm t0 v)).getD q 0=lq at a2;generalize (gl (sm t0 v) 0:Int)=g at a1 a2;generalize v.getD k 0=vk at a1;generalize v.getD q 0=vq at a2;have b1:vk=t0*(g*lk):=by rcases h0 with rfl|rfl <;> lia
  have b2:vq=t0*(g*lq):=by rcases h0 with rfl|rfl <;> lia
  rw[b1,b2];have:t*(t0*(g*lk))*lq+lk * -(t*(t0*(g*lq)))=0:=by
   rw[ZK,<-Int.sub_eq_add_neg,show t*(t0*(g*lk))*lq=lk*(t*(t0*(g*lq))) by
    rw[Wg,Wg,Wg,Wh lk t,Wh lk t0,Wh lk g]]
   exact Int.sub_self _
  exact this
theorem wj{v:List Int}(hb:HI v){t0:Int}(h0:t0=1\/t0 = -1){q:Nat}(hl:q<v.length)(hq:v.getD q 0≠0):∀ts:List Int,(∀t∈ts,T3 t)->Ld v.length (some (q,low (sm t0 v))) (ts.map fun t=>sm t v) (some (q,low (sm t0 v)))
 |[],_=>.nil _
 |t::ts,h=>.stay (jN _ _) (pe (h t Tg) hb) hl (by rw[qa,jN]) (qb (pe (by rcases h0 with rfl|rfl;exact .inr (.inr rfl);exact .inl rfl) hb)) (fil_nil (ya h0 hq)) (wj hb h0 hl hq ts fun x hx=>h x (Tn _ hx))
theorem qc{v:List Int}(hb:HI v){q:Nat}(hl:q<v.length)(hq:v.getD q 0≠0)(hj:∀j,j<q->v.getD j 0=0):∀ts:List Int,(∀t∈ts,T3 t)->((∀t∈ts,t=0)/\Ld v.length none (ts.map fun t=>sm t v) none)\/∃t0,(t0=1\/t0 = -1)/\t0∈ts/\Ld v.length none (ts.map fun t=>sm t v) (some (q,low (sm t0 v)))
 |[],_=>.inl ⟨(fun _ h=>nomatch h),.nil _⟩
 |t::ts,h=>by
  have ht:=h t Tg;have Q6:=fun x hx=>h x (Tn _ hx)
  by_cases h0:t=0
  ·subst h0;have hz:fil (sm 0 v)=[]:=fil_nil fun x hx=>by
    obtain⟨y,_,e⟩:=m5 hx;rw[<-e,U2]
   rcases qc hb hl hq hj ts Q6 with⟨LJ,hd⟩|⟨t0,h1,h2,hd⟩
   ·exact .inl ⟨fun x hx=>by
     rcases Tw.mp hx with rfl|hx
     ·rfl
     ·exact LJ x hx,.zero (jN _ _) (pe ht hb) hz hd⟩
   ·exact .inr ⟨t0,h1,Tn _ h2,.zero (jN _ _) (pe ht hb) hz hd⟩
  ·have h1:t=1\/t = -1:=by rcases ht with h|h|h;exact .inr h;exact absurd h h0;exact .inl h
   obtain⟨more,hf⟩:=pd (r:=sm t v) (q:=q) (by rw[jN];exact hl) (by rw[iq];rcases h1 with rfl|rfl <;> lia) fun j SM=>by rw[iq,hj j SM,Vi]
   exact .inr ⟨t,h1,Tg,.lead (jN _ _) (pe ht hb) hf (wj hb h1 hl hq ts Q6)⟩
theorem qe{n:Nat}:∀{rs:List (List Int)},(∀r∈rs,r.length=n/\∀x∈r,x=0)->Ld n none rs none
 |[],_=>.nil _
 |r::rs,h=>.zero (h r Tg).1 (fun x hx=>by rw[(h r Tg).2 x hx];exact Vy _) (fil_nil (h r Tg).2) (qe fun x hx=>h x (Tn _ hx))
def sg(n:Nat)(f:Nat->Int):Int:=((List.range n).map f).sum
theorem fU(n:Nat)(f:Nat->Int):sg (n+1) f=sg n f+f n:=by
 unfold sg;rw[V8,Uh,List.sum_append,gu,Uw,W4,Ym,Vt]
theorem gT{n:Nat}{f g:Nat->Int}(h:∀k,k<n->f k=g k):sg n f=sg n g:=by
 unfold sg;rw[TN fun k hk=>h k (TM.mp hk)]
theorem yU(n:Nat)(f g:Nat->Int):sg n (fun k=>f k+g k)=sg n f+sg n g:=by
 induction n with
 |zero=>rfl
 |succ n ih=>rw[fU,fU,fU,ih];lia
theorem Dn(n:Nat)(x:Int)(f:Nat->Int):sg n (fun k=>x*f k)=x*sg n f:=by
 induction n with
 |zero=>exact(Vi x).symm
 |succ n ih=>rw[fU,fU,ih,Int.mul_add]
theorem qf(n:Nat):sg n (fun _=>0)=0:=by
 induction n with
 |zero=>rfl
 |succ n ih=>rw[fU,ih];rfl
theorem ph(n c:Nat)(y:Int):sg n (fun k=>if k=c then y else 0)=if c<n then y else 0:=by
 induction n with
 |zero=>rfl
 |succ n ih=>
  rw[fU,ih];by_cases h:n=c
  ·subst h;rw[Tv (UL _),Tq rfl,Tq (UE _),Yn]
  ·rw[Tv h,Vt];by_cases h2:c<n
   ·rw[Tq h2,Tq (by lia)]
   ·rw[Tv h2,Tv (by lia)]
theorem lr:∀(a b:List Int),a.length=b.length->dot a b=sg a.length fun k=>a.getD k 0*b.getD k 0:=by
 intro a b h;unfold dot sg;congr 1
 apply VX
 ·rw[bh,U6,bh,TR,<-h,Nat.min_self]
 ·intro i h1 h2;rw[U8,XT,U8,VD];rw[bh,TR]at h2;rw[bL a i 0 h2,bL b i 0 (by lia)]
theorem aN(w c:Nat)(x:Int){k:Nat}(h:k<w):(GK w c x).getD k 0=if k=c then x else 0:=by
 unfold GK;exact lX w k _ h
theorem qg{w c:Nat}(hc:c<w)(x:Int){b:List Int}(hb:b.length=w):dot (GK w c x) b=x*b.getD c 0:=by
 rw[lr _ _ (by rw[aw,hb]),aw];have:sg w (fun k=>(GK w c x).getD k 0*b.getD k 0)=sg w fun k=>if k=c then x*b.getD c 0 else 0:=gT fun k hk=>by
  rw[aN w c x hk];by_cases h:k=c
  ·rw[Tq h,Tq h,h]
  ·rw[Tv h,Tv h,U2]
 rw[this,ph,Tq hc]
theorem yV(w p:Nat)(t x:Int):GK w p (t*x)=sm t (GK w p x):=by
 unfold GK sm;rw[TL];refine TN fun k _=>?_
 show(if k=p then t*x else 0)=t*(if k=p then x else 0);split
 ·rfl
 ·exact(Vi t).symm
theorem cT{w c:Nat}{x:Int}(h:x.natAbs<2 ^ 1000):HI (GK w c x):=fun y hy=>by
 rcases il hy with rfl|rfl
 ·exact h
 ·exact Vy _
theorem yb(w p:Nat)(v:List Int):nh (v.map fun c=>GK w p c) w=((List.range w).map fun k=>if k=p then(1:Int) else 0).map fun t=>sm t v:=by
 unfold nh;rw[TL];refine TN fun k hk=>?_
 rw[TL];show(v.map fun c=>(GK w p c).getD k 0)=sm (if k=p then 1 else 0) v;unfold sm;refine TN fun c _=>?_
 rw[aN w p c (TM.mp hk)];by_cases h:k=p
 ·rw[Tq h,Tq h,Wc]
 ·rw[Tv h,Tv h,U2]
theorem E6(w p:Nat):∀t∈(List.range w).map fun k=>if k=p then(1:Int) else 0,T3 t:=fun t ht=>by
 obtain⟨k,_,e⟩:=m5 ht;rw[<-e];split
 ·exact .inr (.inr rfl)
 ·exact .inr (.inl rfl)
theorem Dp(v:List Int):sm 1 v=v:=by
 unfold sm;have:(fun x:Int=>1*x)=fun x=>x:=funext Wc
 rw[this];exact List.map_id' v
theorem wm{w p:Nat}{v:List Int}(hb:HI v):(((p<w->∀x∈v,x=0))/\Ld v.length none (nh (v.map fun c=>GK w p c) w) none)\/∃q,p<w/\q<v.length/\v.getD q 0≠0/\(∀j,j<q->v.getD j 0=0)/\Ld v.length none (nh (v.map fun c=>GK w p c) w) (some (q,low v)):=by
 rw[yb];by_cases hz:∀x∈v,x=0
 ·left;refine⟨fun _=>hz,qe fun r hr=>?_⟩;obtain⟨t,_,e⟩:=m5 hr;rw[<-e];refine⟨jN _ _,fun x hx=>?_⟩;obtain⟨y,hy,e2⟩:=m5 hx;rw[<-e2,hz y hy,Vi]
 ·have:∃x∈v,x≠0:=by
   apply UI;intro h;exact hz fun x hx=>UI fun h0=>h ⟨x,hx,h0⟩
  obtain⟨q,h1,h2,h3⟩:=rF this;rcases qc hb h1 h2 h3 _ (E6 w p) with⟨h0,hd⟩|⟨t0,ht,hm,hd⟩
  ·left;refine⟨fun hp=>?_,hd⟩;exact absurd (h0 1 (UJ.mpr ⟨p,TM.mpr hp,Tq rfl⟩)) (by decide)
  ·right;obtain⟨k,hk,e⟩:=m5 hm;have J8:k=p:=by
    apply UI;intro h;rw[Tv h]at e;rcases ht with h|h <;> lia
   rw[Tq J8]at e;rw[<-e,Dp]at hd;exact⟨q,J8▸TM.mp hk,h1,h2,h3,hd⟩
theorem wo{v:List Int}(hb:HI v){q:Nat}(h1:q<v.length)(h2:v.getD q 0≠0):KI v.length (some (q,low v)):=by
 refine⟨h1,qa v,qb hb,fun e=>h2 ?_⟩;have:=nq v (x:=q);rw[e,Vi]at this;split at this
 ·rename_i h;exact(nj v 0 h).2 _ (aW h1)
 ·exact this.symm
theorem yW{r:List Int}{x:Nat}(h:r.getD x 0≠0):gl r 0≠0:=fun e=>by
 have:=(nj r 0 e).2;rcases Nat.lt_or_ge x r.length with hx|hx
 ·exact h (this _ (aW hx))
 ·rw[Ti,VE hx]at h;exact h rfl
theorem Dq{v:List Int}{m:Nat}(hm:v.length=m+1){q:Nat}(hq:q<m)(h2:v.getD q 0≠0):dot v (kr (some (q,low v)) m (m+1))=0/\1<=(kr (some (q,low v)) m (m+1)).getD m 0:=by
 have hgv:=yW h2;have Mp:∀k,(gl v 0:Int)*(low v).getD k 0=v.getD k 0:=fun k=>by rw[nq,Tv hgv]
 have hlq:(low v).getD q 0≠0:=fun e=>by
  have:=Mp q;rw[e,Vi]at this;exact h2 this.symm
 have ht:=ja q (low v) m (m+1) hlq;have SN:∀k,k<m+1->(JV (some (q,low v)) m (m+1)).getD k 0=if k=q then -((low v).getD m 0)*((low v).getD q 0).sign else if k=m then(((low v).getD q 0).natAbs:Int) else 0:=fun k hk=>by
  rw[ht,Ti,XD];by_cases h:q=k
  ·rw[Tq h,Tq (by rw[aw];lia),Tq h.symm];rfl
  ·rw[Tv h,Tv (fun z=>h z.symm),<-Ti,aN _ _ _ hk]
 have hT:(JV (some (q,low v)) m (m+1)).getD m 0=(((low v).getD q 0).natAbs:Int):=by
  rw[SN m (by lia),Tv (by lia),Tq rfl]
 have hTp:0<(((low v).getD q 0).natAbs:Int):=by lia
 have hgT:=yW (r:=JV (some (q,low v)) m (m+1)) (x:=m) (by rw[hT];lia);have hK:∀k,(gl (JV (some (q,low v)) m (m+1)) 0:Int)*(kr (some (q,low v)) m (m+1)).getD k 0=(JV (some (q,low v)) m (m+1)).getD k 0:=fun k=>by
  unfold kr;rw[nq,Tv hgT]
 have Pk:(0:Int)<(gl (JV (some (q,low v)) m (m+1)) 0:Int):=by lia
 constructor
 ·have e1:(gl (JV (some (q,low v)) m (m+1)) 0:Int)*dot v (kr (some (q,low v)) m (m+1))=0:=by
   rw[lr _ _ (by rw[rA,hm]),<-Dn,hm];have:sg (m+1) (fun k=>(gl (JV (some (q,low v)) m (m+1)) 0:Int)*(v.getD k 0*(kr (some (q,low v)) m (m+1)).getD k 0))=sg (m+1) fun k=>(if k=q then v.getD q 0*(-((low v).getD m 0)*((low v).getD q 0).sign) else 0)+if k=m then v.getD m 0*(((low v).getD q 0).natAbs:Int) else 0:=gT fun k hk=>by
    rw[Wh,hK k,SN k hk];by_cases h:k=q
    ·rw[Tq h,Tq h,Tv (by lia),Vt,h]
    ·rw[Tv h,Tv h,Yn];by_cases h3:k=m
     ·rw[Tq h3,Tq h3,h3]
     ·rw[Tv h3,Tv h3,Vi]
   rw[this,yU,ph,ph,Tq (by lia),Tq (by lia),<-Mp q,<-Mp m];generalize (low v).getD q 0=a;generalize (low v).getD m 0=b;generalize (gl v 0:Int)=g;rw[<-XC a];generalize a.sign=s;rw[Int.neg_mul,ZK,show g*a*(b*s)=g*b*(a*s) by
    rw[Wg,Wg,Wh a b s],Int.add_left_neg]
  rcases Xe.mp e1 with h|h
  ·lia
  ·exact h
 ·have:=hK m;rw[hT]at this;apply UI;intro hc;have h3:(gl (JV (some (q,low v)) m (m+1)) 0:Int)*(kr (some (q,low v)) m (m+1)).getD m 0<=0:=Int.mul_nonpos_of_nonneg_of_nonpos (Xm Pk) (by lia);lia
theorem qh(w p:Nat)(cs:List Int)(r:Int):(cs.map fun c=>GK w p c)++[GK w p r]=(cs++[r]).map fun c=>GK w p c:=by
 rw[Uh];rfl
theorem nu(w p:Nat)(cs:List Int):∀x∈cs.map fun c=>GK w p c,x.length=w:=fun x hx=>by
 obtain⟨c,_,e⟩:=m5 hx;rw[<-e,aw]
theorem wq{w c:Nat}(hc:c<w):∃x∈GK w c 1,x.natAbs=1:=by
 refine⟨1,?_,rfl⟩;unfold GK;exact UJ.mpr ⟨c,TM.mpr hc,Tq rfl⟩
theorem qi{c w:Nat}(hc:c<w):kr none c w=GK w c 1:=nr (wq hc)
theorem rK{w p:Nat}(hw:w<=100){cs:List Int}(hl:cs.length<=100){r:Int}(hb:HI (cs++[r]))(N1:¬ (p<w/\(∀c∈cs,c=0)/\r≠0)):∃K:List Int,K.length=cs.length+1/\HI K/\1<=K.getD cs.length 0/\(p<w->dot (cs++[r]) K=0)/\aM [.lst ((cs.map fun c=>GK w p c).map eR),eR (GK w p r)]=.ok (.f,.tup [.str fA,.int (K.getD cs.length 0),.lst (((K.take cs.length).map fun x=>-x).map D.int)]):=by
 have Nn:(cs++[r]).length=cs.length+1:=by rw[pC,TY]
 have MC:(cs.map fun c=>GK w p c).length=cs.length:=bh _;rcases wm (w:=w) (p:=p) hb with⟨hz,hd⟩|⟨q,hp,h1,h2,h3,hd⟩
 ·rw[<-qh,Nn]at hd;have e:=jb (rows:=cs.map fun c=>GK w p c) (row:=GK w p r) (w:=w) (L:=none) (by lia) (nu w p cs) (aw _ _ _) (by lia) (by rw[MC];exact hd) trivial rfl;rw[MC,qi (by lia)]at e;have e1:(GK (cs.length+1) cs.length 1).getD cs.length 0=1:=by rw[aN _ _ _ (by lia),Tq rfl]
  refine⟨GK (cs.length+1) cs.length 1,aw _ _ _,cT (by decide +kernel),by rw[e1];decide,fun hp=>?_,e⟩;rw[lr _ _ (by rw[aw,Nn])];rw[gT (g:=fun _=>0) fun k hk=>by rw[hz hp _ (aW hk),U2],qf]
 ·have hqm:q<cs.length:=by
   apply UI;intro hc;have hq:q=cs.length:=by lia
   subst hq;refine N1 ⟨hp,fun c hc=>?_,fun e=>h2 ?_⟩
   ·obtain⟨j,hj,ej⟩:=YC hc;have:=h3 j hj;rw[Ti,VF hj,xP hj,ej]at this;exact this
   ·rw[Ti,VA (Tz _),Zh,e];rfl
  have hL:=wo hb h1 h2;rw[<-qh,Nn]at hd;rw[Nn]at hL;have e:=jb (rows:=cs.map fun c=>GK w p c) (row:=GK w p r) (w:=w) (L:=some (q,low (cs++[r]))) (by lia) (nu w p cs) (aw _ _ _) (by lia) (by rw[MC];exact hd) (by rw[MC];exact hL) (by rw[MC];exact T4.mpr (by lia));rw[MC]at e;obtain⟨k1,k2⟩:=Dq Nn hqm h2;exact⟨kr (some (q,low (cs++[r]))) cs.length (cs.length+1),rA _ _ _,yT (by lia) hL,k2,fun _=>k1,e⟩
theorem jO{w p:Nat}{cs:List Int}(h:∀c∈cs,c=0):Ld w none (cs.map fun c=>GK w p c) none:=qe fun x hx=>by
 obtain⟨c,hc,e⟩:=m5 hx;rw[<-e,h c hc];exact⟨aw _ _ _,fun y hy=>by rcases il hy with h|h <;> exact h⟩
theorem jd(w:Nat):lu none w=(List.range w).map fun c=>GK w c 1:=by
 unfold lu;have e:((List.range w).filter fun c=>!Kx none c)=List.range w:=Xf.mpr fun _ _=>rfl
 rw[e];exact TN fun c hc=>qi (TM.mp hc)
theorem yX{w p:Nat}(hw:w<=100)(hp:p<w){cs:List Int}(hl:cs.length<=100){r:Int}(hr:r≠0)(OX:r.natAbs<2 ^ 1000)(hz:∀c∈cs,c=0):aM [.lst ((cs.map fun c=>GK w p c).map eR),eR (GK w p r)]=.ok (.f,.tup [.str gL,eR (GK w p 1)]):=by
 have Nn:(cs++[r]).length=cs.length+1:=by rw[pC,TY]
 have MC:(cs.map fun c=>GK w p c).length=cs.length:=bh _;have hb:HI (cs++[r]):=fun x hx=>by
  rcases xQ hx with h|h
  ·rw[hz x h];exact Vy _
  ·rw[p4 h];exact OX
 have hlast:(cs++[r]).getD cs.length 0=r:=by
  rw[Ti,VA (Tz _),Zh];rfl
 rcases wm (w:=w) (p:=p) hb with⟨h0,_⟩|⟨q,_,h1,h2,h3,hd⟩
 ·exact absurd (h0 hp r (Tp _ (T9.mpr rfl))) hr
 ·have hq:q=cs.length:=by
   rw[Nn]at h1;apply UI;intro hc;have hj:q<cs.length:=by lia
   refine h2 ?_;rw[Ti,VF hj,xP hj,hz _ (U9 hj)];rfl
  subst hq;have hL:=wo hb h1 h2;rw[<-qh,Nn]at hd;rw[Nn]at hL;have R3:∃more,((lu none w).filter fun o=>!(dot o (GK w p r)==0))=GK w p 1::more:=by
   have Qs:∀c,c<w->dot (GK w c 1) (GK w p r)=if c=p then r else 0:=fun c hc=>by
    rw[qg hc 1 (aw _ _ _),Wc,aN _ _ _ hc]
   cases hf:(lu none w).filter fun o=>!(dot o (GK w p r)==0) with
   |nil=>
    rw[UK]at hf;have:=hf (GK w p 1) (by rw[jd];exact UJ.mpr ⟨p,TM.mpr hp,rfl⟩);rw[Qs p hp,Tq rfl,T4.mpr hr]at this;exact absurd rfl this
   |cons o more=>
    have ho:=VL.mp (hf▸Tg:o∈(lu none w).filter fun o=>!(dot o (GK w p r)==0));obtain⟨h4,h5⟩:=ho;rw[jd]at h4;obtain⟨c,hc,e⟩:=m5 h4;have RZ:=TM.mp hc;rw[<-e,Qs c RZ]at h5;by_cases Q7:c=p
    ·subst Q7;exact⟨more,by rw[e]⟩
    ·rw[Tv Q7]at h5;cases h5
  obtain⟨more,R3⟩:=R3;exact ni (rows:=cs.map fun c=>GK w p c) (row:=GK w p r) (w:=w) (L:=some (cs.length,low (cs++[r]))) (by lia) (nu w p cs) (aw _ _ _) (cT OX) (by lia) (by rw[MC];exact hd) (by rw[MC];exact hL) (by rw[MC];exact T8 _) (jO hz) trivial R3
theorem E7{a:Int}(h:a≠0):a.fdiv (a.natAbs:Int)=a.sign:=by
 have e:(a.natAbs:Int)*a.sign=a:=by rw[Yi];exact Int.sign_mul_natAbs a
 calc a.fdiv (a.natAbs:Int)=((a.natAbs:Int)*a.sign).fdiv (a.natAbs:Int):=by rw[e]
  _=a.sign:=Wu _ (by lia)
theorem Dr{w p:Nat}(hp:p<w)(x:Int):gl (GK w p x) 0=x.natAbs:=by
 apply Nat.dvd_antisymm
 ·exact(rH (GK w p x) 0).2 x (UJ.mpr ⟨p,TM.mpr hp,Tq rfl⟩)
 ·refine rJ _ _ _ (Nat.dvd_zero _) fun y hy=>?_
  rcases il hy with rfl|rfl
  ·exact Nat.dvd_refl _
  ·exact Nat.dvd_zero _
theorem AY{w p:Nat}(hp:p<w){x:Int}(hx:x≠0):low (GK w p x)=GK w p x.sign:=by
 unfold low;rw[Dr hp x,Tv (by lia)];unfold GK;rw[TL];refine TN fun k _=>?_
 show(if k=p then x else 0).fdiv (x.natAbs:Int)=if k=p then x.sign else 0
 by_cases h:k=p
 ·rw[Tq h,Tq h,E7 hx]
 ·rw[Tv h,Tv h,Int.zero_fdiv]
theorem Ds{w p c:Nat}(hc:c<w)(hp:p<w)(Q7:c≠p){x:Int}(hx:x.natAbs=1):kr (some (p,GK w p x)) c w=GK w c 1:=by
 have hg:(GK w p x).getD p 0=x:=by rw[aN _ _ _ hp,Tq rfl]
 have Pl:(GK w p x).getD c 0=0:=by rw[aN _ _ _ hc,Tv Q7]
 have ht:JV (some (p,GK w p x)) c w=GK w c 1:=by
  rw[ja p _ c w (by rw[hg];lia),hg,Pl,hx];have:(GK w c ((1:Nat):Int)).set p (-0*x.sign)=GK w c 1:=by
   unfold GK;rw[gJ];refine TN fun k _=>?_
   by_cases h:k=p
   ·rw[Tq h,Tv (by lia),Int.neg_zero,U2]
   ·rw[Tv h];rfl
  exact this
 unfold kr;rw[ht,nr (wq hc)]
theorem yc{w p:Nat}{cs:List Int}{N:Int}(hN:N≠0)(Np:N.natAbs<2 ^ 1000)(hp:p<w)(NZ:∀c∈cs,∃t,T3 t/\c=t*N):∃L,Ld w none (cs.map fun c=>GK w p c) L/\KI w L/\(lu L w=((List.range w).filter fun c=>!Kx L c).map fun c=>GK w c 1)/\((∀c∈cs,c=0)/\L=none\/(∃c∈cs,c≠0)/\∃x,L=some (p,x)):=by
 have hv:HI (GK w p N):=cT Np;have hq:(GK w p N).getD p 0≠0:=by rw[aN _ _ _ hp,Tq rfl];exact hN
 have hj:∀j,j<p->(GK w p N).getD j 0=0:=fun j hjp=>by rw[aN _ _ _ (by lia),Tv (by lia)]
 have Q6:∃ts:List Int,(∀t∈ts,T3 t)/\cs=ts.map fun t=>t*N:=by
  clear hj hq hv;induction cs with
  |nil=>exact⟨[],(fun _ h=>nomatch h),rfl⟩
  |cons c cs ih=>
   obtain⟨ts,h1,h2⟩:=ih fun x hx=>NZ x (Tn _ hx)
   obtain⟨t,h3,h4⟩:=NZ c Tg;exact⟨t::ts,fun x hx=>by rcases Tw.mp hx with rfl|hx;exact h3;exact h1 x hx,by rw[h4,h2,gu]⟩
 obtain⟨ts,ht,e⟩:=Q6;have er:(cs.map fun c=>GK w p c)=ts.map fun t=>sm t (GK w p N):=by
  rw[e,TL];exact TN fun t _=>yV w p t N
 rw[er];rcases qc hv (by rw[aw];exact hp) hq hj ts ht with⟨h0,hd⟩|⟨t0,h1,h2,hd⟩
 ·rw[aw]at hd;refine⟨none,hd,trivial,?_,.inl ⟨fun c hc=>?_,rfl⟩⟩
  ·have e3:((List.range w).filter fun c=>!Kx none c)=List.range w:=Xf.mpr fun _ _=>rfl
   rw[jd,e3]
  ·rw[e]at hc;obtain⟨t,htt,e2⟩:=m5 hc;rw[<-e2,h0 t htt,U2]
 ·rw[aw,<-yV]at hd;have hx:t0*N≠0:=by rcases h1 with rfl|rfl <;> lia
  rw[AY hp hx]at hd;have hs:(t0*N).sign.natAbs=1:=Xh hx;refine⟨some (p,GK w p (t0*N).sign),hd,⟨hp,aw _ _ _,cT (by rw[hs];decide +kernel),by rw[aN _ _ _ hp,Tq rfl];lia⟩,?_,.inr ⟨⟨t0*N,by rw[e];exact UJ.mpr ⟨t0,h2,rfl⟩,hx⟩,_,rfl⟩⟩;unfold lu;refine TN fun c hc=>?_
  obtain⟨h3,h4⟩:=VL.mp hc;refine Ds (TM.mp h3) hp (fun z=>?_) hs;subst z;have:Kx (some (c,GK w c (t0*N).sign)) c=true:=T8 _;rw[this]at h4;cases h4
def eV(b:Bool)(r:List Int):D:=if b then .lst (r.map D.int) else .tup (r.map D.int)
theorem wt(r:List Int):compL (aName 0) (GX (aB Hz (oVar 0) (oVal (eCon (.int 0))))) (ax 0) (r.map D.int) [none]=.ok ((r.filter fun x=>!(x==0)).map D.int):=by
 refine dM (p:=fun x:Int=>!(x==0)) (fun env=>∃t,env=[t]) r ?_ _ ⟨none,rfl⟩;rintro x _ env ⟨t,rfl⟩;refine⟨[some (.f,.int x)],rfl,[some (.f,.int x)],by simp only[pv,seval,op],?_⟩;cases h:(x==0) with
 |true=>exact⟨_,rfl⟩
 |false=>exact⟨.f,[some (.f,.int x)],rfl,_,rfl⟩
theorem qj(l:List Int):Hz (.lst (l.map D.int)) (.lst [])=.ok (.f,.bl (!l.isEmpty)):=by
 unfold Hz;rw[plainD,cE];cases l <;> rfl
theorem yY{w c:Nat}(hc:c<w):((GK w c 1).filter fun x=>!(x==0)).isEmpty=false:=by
 cases h:(GK w c 1).filter fun x=>!(x==0) with
 |nil=>
  rw[UK]at h;have:=h 1 (UJ.mpr ⟨c,TM.mpr hc,Tq rfl⟩);exact absurd rfl this
 |cons a l=>rfl
theorem Bc(b:Bool){r:List Int}{k:Nat}(h:k<r.length):Ha (eV b r) (.int (k:Int))=.ok (.f,.int (r.getD k 0)):=by
 have e:=gv (xs:=r.map D.int) (j:=k) (v:=D.int (r.getD k 0)) (by rw[TV,xP h,bL r k 0 h];rfl);cases b with
 |true=>show Ha (.lst (r.map D.int)) (.int (k:Int))=_;rw[C0,e]
 |false=>show Ha (.tup (r.map D.int)) (.int (k:Int))=_;rw[AD,e]
theorem Dt(b:Bool)(r:List Int):cZ [eV b r]=.ok (.f,.int (r.length:Int)):=by
 cases b with
 |true=>show Res.ok (O.f,D.int (((r.map D.int).length:Nat):Int))=_;rw[bh]
 |false=>show Res.ok (O.f,D.int (((r.map D.int).length:Nat):Int))=_;rw[bh]
theorem AZ(b:Bool){w c:Nat}(hc:c<w):compL (aName 0) (GX (aB Hz (oVal (eBin Ha (oVar 1) (oVar 0))) (oVal (eCon (.int 0))))) (ax 0) ((List.range w).map fun(k:Nat)=>D.int (k:Int)) [none,some (.f,eV b (GK w c 1))]=.ok [.int (c:Int)]:=by
 have h:=dM (a:=aName 0) (c:=GX (aB Hz (oVal (eBin Ha (oVar 1) (oVar 0))) (oVal (eCon (.int 0))))) (f:=ax 0) (p:=fun k:Nat=>decide (k=c)) (r:=fun k:Nat=>D.int (k:Int)) (e:=fun(k:Nat)=>D.int (k:Int)) (fun env=>∃t,env=[t,some (.f,eV b (GK w c 1))]) (List.range w) (by
  rintro k hk env ⟨t,rfl⟩;have Pm:=TM.mp hk;have i1:=Bc b (r:=GK w c 1) (k:=k) (by rw[aw];exact Pm);rw[aN _ _ _ Pm]at i1;generalize eV b (GK w c 1)=EV at i1 ⊢;refine⟨[some (.f,.int (k:Int)),some (.f,EV)],rfl,[some (.f,.int (k:Int)),some (.f,EV)],?_,?_⟩
  ·by_cases h:k=c
   ·rw[Tq h]at i1;have e:((1:Int)==0)=false:=rfl;simp only[pv,seval,op,i1,e,V0,T6 h]
   ·rw[Tv h]at i1;have e:((0:Int)==0)=true:=rfl;simp only[pv,seval,op,i1,e,Uy,T5 h]
  ·by_cases h:k=c
   ·rw[T6 h];exact⟨.f,[some (.f,.int (k:Int)),some (.f,EV)],rfl,_,rfl⟩
   ·rw[T5 h];exact⟨_,rfl⟩) [none,some (.f,eV b (GK w c 1))] ⟨none,rfl⟩
 rw[h];have:((List.range w).filter fun k=>decide (k=c))=[c]:=by
  clear h;induction w with
  |zero=>lia
  |succ n ih=>
   rw[V8,YZ];by_cases hn:n=c
   ·subst hn;rw[UK.mpr fun k hk=>by have:=TM.mp hk;simp;lia,UX,VS (by simp)];rfl
   ·rw[ih (by lia),VT (by simpa using hn)];rfl
 rw[this];rfl
theorem A0(b:Bool){w c d:Nat}(hc:c<w)(hd:d<w)(Jp:d≠c):compL (aName 0) cYes (eBin om (oVal (eBin jg (oVal (eBin Ha (oVar 1) (oVar 0))) (oVal (eBin Ha (oVar 2) (oVar 3))))) (oVal (eBin jg (oVal (eBin Ha (oVar 2) (oVar 0))) (oVal (eBin Ha (oVar 1) (oVar 3)))))) ((List.range w).map fun(k:Nat)=>D.int (k:Int)) [none,some (.f,eV b (GK w d 1)),some (.f,eV b (GK w c 1)),some (.f,.int (c:Int))]=.ok ((GK w d 1).map D.int):=by
 rw[cu (r:=fun k:Nat=>D.int (if k=d then 1 else 0)) (fun env=>∃t,env=[t,some (.f,eV b (GK w d 1)),some (.f,eV b (GK w c 1)),some (.f,.int (c:Int))]) (List.range w) ?_ _ ⟨none,rfl⟩]
 ·unfold GK;rw[TL];rfl
 ·rintro k hk env ⟨t,rfl⟩;have Pm:=TM.mp hk;have i1:=Bc b (r:=GK w d 1) (k:=k) (by rw[aw];exact Pm);have i2:=Bc b (r:=GK w c 1) (k:=c) (by rw[aw];exact hc);have i3:=Bc b (r:=GK w c 1) (k:=k) (by rw[aw];exact Pm);have i4:=Bc b (r:=GK w d 1) (k:=c) (by rw[aw];exact hc);rw[aN _ _ _ Pm]at i1 i3;rw[aN _ _ _ hc,Tq rfl]at i2;rw[aN _ _ _ hc,Tv (by lia)]at i4;have hb:∀(P:Prop) [Decidable P],(if P then(1:Int) else 0).natAbs<2 ^ 1000:=fun P _=>by split <;> decide +kernel
  have m1:=xV (if k=d then 1 else 0) 1 (hb _) (by decide +kernel);have m2:=xV (if k=c then 1 else 0) 0 (hb _) (by decide +kernel);rw[Int.mul_one]at m1;rw[Vi]at m2;generalize (if k=d then(1:Int) else 0)=x at i1 m1 ⊢;generalize (if k=c then(1:Int) else 0)=y at i3 m2;generalize eV b (GK w d 1)=ED at i1 i4 ⊢;generalize eV b (GK w c 1)=EC at i2 i3 ⊢;refine⟨[some (.f,.int (k:Int)),some (.f,ED),some (.f,EC),some (.f,.int (c:Int))],rfl,.f,[some (.f,.int (k:Int)),some (.f,ED),some (.f,EC),some (.f,.int (c:Int))],?_,_,rfl⟩;have e0:x-0=x:=Int.sub_zero x;simp only[pv,seval,op,i1,i2,i3,i4,m1,m2,e0]
theorem E8(b:Bool){w c d:Nat}(hw:w<=100)(hc:c<w)(hd:d<w)(Jp:d≠c)(R0 R1 R2 t7:Option R)(acc:List D)(ha:acc.length<=100):cB [R0,R1,R2,some (.f,eV b (GK w c 1)),some (.f,.int (c:Int)),some (.l .f,.lst acc),some (.f,eV b (GK w d 1)),t7]=.ok (.nx [R0,R1,R2,some (.f,eV b (GK w c 1)),some (.f,.int (c:Int)),some (.l .f,.lst (acc++[eV true (GK w d 1)])),some (.f,eV b (GK w d 1)),some (.f,eV true (GK w d 1))]):=by
 have hl:=A0 b hc hd Jp;have Kr:=Dt b (GK w d 1);rw[aw]at Kr;have hz:((GK w d 1).map D.int).length<=sizeLine:=line_le (by rw[bh,aw];lia);have hf:=GQ (GK w d 1);have Nq:=wt (GK w d 1);have OY:=qj ((GK w d 1).filter fun x=>!(x==0));rw[yY hd]at OY;have LJ:(((GK w d 1).filter fun x=>!(x==0)).map D.int).length<=sizeLine:=line_le (by rw[bh];have:=Vj (fun x:Int=>!(x==0)) (GK w d 1);rw[aw]at this;lia);have Qt:=GQ ((GK w d 1).filter fun x=>!(x==0));have IP:acc.length<sizeLine:=p5 (by lia);have hr:=Bb (w:Int) (by lia) (by lia) (oVal (aZ cZ (ag (oVar 6) au))) [R0,R1,R2,some (.f,eV b (GK w c 1)),some (.f,.int (c:Int)),some (.l .f,.lst acc),some (.f,eV b (GK w d 1)),t7] [R0,R1,R2,some (.f,eV b (GK w c 1)),some (.f,.int (c:Int)),some (.l .f,.lst acc),some (.f,eV b (GK w d 1)),t7] (.val (.int (w:Int))) (by
  generalize eV b (GK w d 1)=ED at Kr ⊢;generalize eV b (GK w c 1)=EC;simp only[pv,seval,op,Kr]) rfl
 rw[Uk]at hr;have ev:eV true (GK w d 1)=.lst ((GK w d 1).map D.int):=rfl;rw[ev];unfold cB;generalize eV b (GK w d 1)=ED at hl hr ⊢;generalize eV b (GK w c 1)=EC at hl hr ⊢;generalize (GK w d 1).map D.int=UD at hl hz hf Nq ⊢;generalize ((GK w d 1).filter fun x=>!(x==0)).map D.int=ND at Nq OY LJ Qt;rw[av (env':=[R0,R1,R2,some (.f,EC),some (.f,.int (c:Int)),some (.l .f,.lst acc),some (.f,ED),some (.l .f,.lst UD)]) (by
  generalize b5 (oVal (aZ cZ (ag (oVar 6) au)))=IR at hr ⊢;generalize (eBin om (oVal (eBin jg (oVal (eBin Ha (oVar 1) (oVar 0))) (oVal (eBin Ha (oVar 2) (oVar 3))))) (oVal (eBin jg (oVal (eBin Ha (oVar 2) (oVar 0))) (oVal (eBin Ha (oVar 1) (oVar 3))))))=LF at hl ⊢;simp only[pv,seval,op,hr,hl,hz,hf])]
 generalize (GX (aB Hz (oVar 0) (oVal (eCon (.int 0)))))=BB at Nq ⊢;simp only[pv,seval,op,Nq,LJ,Qt,OY,IP,V0]
theorem wu(b:Bool){w c:Nat}(hw:w<=100)(hc:c<w)(R0 R1 R2:Option R):∀(cs:List Nat) (acc:List D) (t6 t7:Option R),(∀d∈cs,d<w/\d≠c)->acc.length+cs.length<=100->∃u6 u7,eD (aName 6) cB (cs.map fun d=>eV b (GK w d 1)) [R0,R1,R2,some (.f,eV b (GK w c 1)),some (.f,.int (c:Int)),some (.l .f,.lst acc),t6,t7]=.ok (.nx [R0,R1,R2,some (.f,eV b (GK w c 1)),some (.f,.int (c:Int)),some (.l .f,.lst (acc++cs.map fun d=>eV true (GK w d 1))),u6,u7])
 |[],acc,t6,t7,_,_=>⟨t6,t7,by rw[Uw,Uw,Uo];rfl⟩
 |d::cs,acc,t6,t7,h,hl=>by
  rw[TK]at hl;have e1:=E8 b hw hc (h d Tg).1 (h d Tg).2 R0 R1 R2 t7 acc (by lia);obtain⟨u6,u7,e2⟩:=wu b hw hc R0 R1 R2 cs (acc++[eV true (GK w d 1)]) (some (.f,eV b (GK w d 1))) (some (.f,eV true (GK w d 1))) (fun x hx=>h x (Tn _ hx)) (by rw[pC,TY];lia);refine⟨u6,u7,?_⟩;have ha:aName 6 (eV b (GK w d 1)) [R0,R1,R2,some (.f,eV b (GK w c 1)),some (.f,.int (c:Int)),some (.l .f,.lst acc),t6,t7]=.ok [R0,R1,R2,some (.f,eV b (GK w c 1)),some (.f,.int (c:Int)),some (.l .f,.lst acc),some (.f,eV b (GK w d 1)),t7]:=rfl;rw[gu,dg,ha,Hw,e1,Hw,gu];rw[UR]at e2;exact e2
theorem A1(b:Bool){w c:Nat}(hw:w<=100)(hc:c<w)(cs:List Nat)(h:∀d∈cs,d<w/\d≠c)(hl:cs.length<=100)(R0:Option R)(o1:O)(ho:wH o1=true)(k:Int)(t3 t4 t5 t6 t7:Option R):∃u3 u4 u5 u6 u7,dm [R0,some (o1,.lst ((c::cs).map fun d=>eV b (GK w d 1))),some (.f,.int k),t3,t4,t5,t6,t7]=.ok (.nx [R0,some (.f,.lst (cs.map fun d=>eV true (GK w d 1))),some (.f,.int (k+1)),u3,u4,u5,u6,u7]):=by
 have Q8:=AZ b hc;have Kr:=Dt b (GK w c 1);rw[aw]at Kr;have Ja:Jv ((c::cs).map fun d=>eV b (GK w d 1)) (0:Int)=some (eV b (GK w c 1)):=gv (j:=0) rfl;have JB:jS ((c::cs).map fun d=>eV b (GK w d 1)) (some 1) none=cs.map fun d=>eV b (GK w d 1):=by
  have:=xT ((c::cs).map fun d=>eV b (GK w d 1)) 1;exact this
 generalize hQ:((c::cs).map fun d=>eV b (GK w d 1))=Q at Ja JB ⊢;clear hQ;obtain⟨u6,u7,e⟩:=wu b hw hc R0 (some (o1,.lst Q)) (some (.f,.int k)) cs [] t6 t7 h (by rw[Uq];lia);rw[UX]at e;have e1:Jv [D.int (c:Int)] (0:Int)=some (.int (c:Int)):=rfl;have f1:flatDs [D.int (c:Int)]=true:=rfl;have z1:([D.int (c:Int)]).length<=sizeLine:=line_le (by show 1<=16777216;decide);unfold dm;refine⟨some (.f,eV b (GK w c 1)),some (.f,.int (c:Int)),some (.f,.lst (cs.map fun d=>eV true (GK w d 1))),u6,u7,?_⟩;rw[av (env':=[R0,some (o1,.lst Q),some (.f,.int k),some (.f,eV b (GK w c 1)),t4,t5,t6,t7]) (by
  generalize eV b (GK w c 1)=EC at Ja ⊢;simp only[pv,seval,op,Ja,ho])]
 have hr:=Bb (w:Int) (by lia) (by lia) (oVal (aZ cZ (ag (oVar 3) au))) [R0,some (o1,.lst Q),some (.f,.int k),some (.f,eV b (GK w c 1)),t4,t5,t6,t7] [R0,some (o1,.lst Q),some (.f,.int k),some (.f,eV b (GK w c 1)),t4,t5,t6,t7] (.val (.int (w:Int))) (by
  generalize eV b (GK w c 1)=EC at Kr ⊢;simp only[pv,seval,op,Kr]) rfl
 rw[Uk]at hr;rw[av (env':=[R0,some (o1,.lst Q),some (.f,.int k),some (.f,eV b (GK w c 1)),some (.f,.int (c:Int)),t5,t6,t7]) (by
  generalize b5 (oVal (aZ cZ (ag (oVar 3) au)))=IR at hr ⊢;generalize (GX (aB Hz (oVal (eBin Ha (oVar 1) (oVar 0))) (oVal (eCon (.int 0)))))=BB at Q8 ⊢;generalize eV b (GK w c 1)=EC at Q8 hr ⊢;generalize [D.int (c:Int)]=LC at Q8 e1 f1 z1 ⊢;simp only[pv,seval,op,hr,Q8,e1,f1,z1])]
 rw[av (env':=[R0,some (o1,.lst Q),some (.f,.int k),some (.f,eV b (GK w c 1)),some (.f,.int (c:Int)),some (.l .f,.lst []),t6,t7]) (by
  generalize eV b (GK w c 1)=EC;simp only[pv,seval,op])]
 rw[av (env':=[R0,some (o1,.lst Q),some (.f,.int k),some (.f,eV b (GK w c 1)),some (.f,.int (c:Int)),some (.l .f,.lst (cs.map fun d=>eV true (GK w d 1))),u6,u7]) (by
  unfold iX;generalize eV b (GK w c 1)=EC at e ⊢;generalize cB=BB at e ⊢;simp only[pv,seval,op,JB,ho];exact e)]
 unfold g5;rw[av (env':=[R0,some (.f,.lst (cs.map fun d=>eV true (GK w d 1))),some (.f,.int k),some (.f,eV b (GK w c 1)),some (.f,.int (c:Int)),some (.f,.lst (cs.map fun d=>eV true (GK w d 1))),u6,u7]) (by
  generalize eV b (GK w c 1)=EC;simp only[pv,seval,op])]
 generalize eV b (GK w c 1)=EC;simp only[pv,seval,op]
abbrev A2:FT:=GX (aB Hz (oVar 1) (oVal (jA dsNil)))
theorem wx(b:Bool)(w:Nat)(cs:List Nat):Hz (.lst (cs.map fun d=>eV b (GK w d 1))) (.lst [])=.ok (.f,.bl (!cs.isEmpty)):=by
 have hp:plainDs 39 (cs.map fun d=>eV b (GK w d 1))=true:=by
  induction cs with
  |nil=>rfl
  |cons d cs ih=>
   rw[gu,plainDs,ih,Vp];cases b with
   |true=>show plainD 39 (.lst ((GK w d 1).map D.int))=true;rw[plainD];exact cE _ _
   |false=>show plainD 39 (.tup ((GK w d 1).map D.int))=true;rw[plainD];exact cE _ _
 unfold Hz;rw[plainD,hp];cases cs <;> rfl
theorem rL{w:Nat}(hw:w<=100):∀(cs:List Nat) (b:Bool) (F:Nat) (R0:Option R) (o1:O) (k:Int) (t3 t4 t5 t6 t7:Option R),wH o1=true->(∀d∈cs,d<w)->cs.Nodup->cs.length<=100->cs.length+1<=F->∃o2 u3 u4 u5 u6 u7,cz A2 dm F [R0,some (o1,.lst (cs.map fun d=>eV b (GK w d 1))),some (.f,.int k),t3,t4,t5,t6,t7]=.ok (.nx [R0,some (o2,.lst []),some (.f,.int (k+(cs.length:Int))),u3,u4,u5,u6,u7])
 |[],b,F,R0,o1,k,t3,t4,t5,t6,t7,ho,_,_,_,hF=>by
  obtain⟨F,rfl⟩:∃G,F=G+1:=⟨F-1,by lia⟩
  have hn:=wx b w [];have hn:Hz (.lst []) (.lst [])=.ok (.f,.bl false):=hn;have hc:A2 [R0,some (o1,.lst []),some (.f,.int k),t3,t4,t5,t6,t7]=.ok (false,[R0,some (o1,.lst []),some (.f,.int k),t3,t4,t5,t6,t7]):=by
   simp only[pv,seval,op,hn,ho]
  refine⟨o1,t3,t4,t5,t6,t7,?_⟩;rw[Uw,fS,hc,Hw];dsimp only;rw[Tv TC,Uq,Int.natCast_zero,Vt]
 |c::cs,b,F,R0,o1,k,t3,t4,t5,t6,t7,ho,hd,nd,hl,hF=>by
  rw[TK]at hl hF;obtain⟨F,rfl⟩:∃G,F=G+1:=⟨F-1,by lia⟩
  rw[Uu]at nd;have hn:=wx b w (c::cs);have hn:Hz (.lst ((c::cs).map fun d=>eV b (GK w d 1))) (.lst [])=.ok (.f,.bl true):=hn;obtain⟨u3,u4,u5,u6,u7,e⟩:=A1 b hw (hd c Tg) cs (fun d hx=>⟨hd d (Tn _ hx),fun z=>nd.1 (z▸hx)⟩) (by lia) R0 o1 ho k t3 t4 t5 t6 t7;obtain⟨o2,v3,v4,v5,v6,v7,e2⟩:=rL hw cs true F R0 .f (k+1) u3 u4 u5 u6 u7 rfl (fun d hx=>hd d (Tn _ hx)) nd.2 (by lia) (by lia);refine⟨o2,v3,v4,v5,v6,v7,?_⟩;have hc:A2 [R0,some (o1,.lst ((c::cs).map fun d=>eV b (GK w d 1))),some (.f,.int k),t3,t4,t5,t6,t7]=.ok (true,[R0,some (o1,.lst ((c::cs).map fun d=>eV b (GK w d 1))),some (.f,.int k),t3,t4,t5,t6,t7]):=by
   generalize (c::cs).map (fun d=>eV b (GK w d 1))=Q at hn ⊢;simp only[pv,seval,op,hn,ho]
  rw[fS,hc,Hw];dsimp only;rw[Tq rfl,e,Hw];dsimp only;rw[e2,TK,show k+1+(cs.length:Int)=k+((cs.length+1:Nat):Int) by lia]
theorem Du{w:Nat}(hw:w<=100)(cs:List Nat)(hd:∀d∈cs,d<w)(nd:cs.Nodup)(hl:cs.length<=100):cD [.lst ((cs.map fun c=>GK w c 1).map eR)]=.ok (.f,.int (cs.length:Int)):=by
 have Pg:compL (aName 0) (GX (aB Hz (oVal (bT (HD (eE 0) (HD (dH (ax 0)) (dI (ax 0)))) [none] (aName 0) (GX (aB Hz (oVar 0) (oVal (eCon (.int 0))))) (ax 0))) (oVal (jA dsNil)))) (ax 0) ((cs.map fun c=>GK w c 1).map eR) [none]=.ok (cs.map fun d=>eV false (GK w d 1)):=by
  rw[TL];have h:=dM (a:=aName 0) (c:=(GX (aB Hz (oVal (bT (HD (eE 0) (HD (dH (ax 0)) (dI (ax 0)))) [none] (aName 0) (GX (aB Hz (oVar 0) (oVal (eCon (.int 0))))) (ax 0))) (oVal (jA dsNil))))) (f:=ax 0) (p:=fun _:Nat=>true) (r:=fun d:Nat=>eV false (GK w d 1)) (e:=eR∘fun c=>GK w c 1) (fun env=>∃t,env=[t]) cs (by
   rintro d hdm env ⟨t,rfl⟩;have Nq:=wt (GK w d 1);have OY:=qj ((GK w d 1).filter fun x=>!(x==0));rw[yY (hd d hdm)]at OY;have LJ:(((GK w d 1).filter fun x=>!(x==0)).map D.int).length<=sizeLine:=line_le (by rw[bh];have:=Vj (fun x:Int=>!(x==0)) (GK w d 1);rw[aw]at this;lia);have Qt:=GQ ((GK w d 1).filter fun x=>!(x==0));generalize ((GK w d 1).filter fun x=>!(x==0)).map D.int=ND at Nq OY LJ Qt;refine⟨[some (.f,.tup ((GK w d 1).map D.int))],rfl,[some (.f,.tup ((GK w d 1).map D.int))],?_,.f,[some (.f,.tup ((GK w d 1).map D.int))],rfl,_,rfl⟩;generalize (GX (aB Hz (oVar 0) (oVal (eCon (.int 0)))))=BB at Nq ⊢;generalize (GK w d 1).map D.int=UD at Nq ⊢;simp only[pv,seval,op,Nq,LJ,Qt,OY,V0]) [none] ⟨none,rfl⟩
  rw[h,Xf.mpr fun _ _=>rfl]
 obtain⟨o2,u3,u4,u5,u6,u7,e⟩:=rL hw cs false 100000 (some (.f,.lst ((cs.map fun c=>GK w c 1).map eR))) (.l .f) 0 none none none none none rfl hd nd hl (by lia);rw[Yn]at e;have hz:(cs.map fun d=>eV false (GK w d 1)).length<=sizeLine:=line_le (by rw[bh];lia);have Lm:flatDs (cs.map fun d=>eV false (GK w d 1))=true:=by
  rw[cY,Wt,Us];exact fun d _=>cm (GK w d 1)
 unfold cD kX;rw[ba (h:=by rfl)];generalize ((cs.map fun c=>GK w c 1).map eR)=RR at Pg e ⊢;generalize (GX (aB Hz (oVal (bT (HD (eE 0) (HD (dH (ax 0)) (dI (ax 0)))) [none] (aName 0) (GX (aB Hz (oVar 0) (oVal (eCon (.int 0))))) (ax 0))) (oVal (jA dsNil))))=CC at Pg ⊢;generalize (cs.map fun d=>eV false (GK w d 1))=LV at Pg e hz Lm;rw[av (env':=[some (.f,.lst RR),some (.l .f,.lst LV),none,none,none,none,none,none]) (by
  simp only[pv,seval,op,Pg,hz,Lm])]
 rw[av (env':=[some (.f,.lst RR),some (.l .f,.lst LV),some (.f,.int 0),none,none,none,none,none]) (by
  simp only[pv,seval,op])]
 rw[av (env':=_) (by
  unfold iY;exact e)]
 unfold g6;simp only[pv,seval,op]
theorem wy(x:Int):a8 [.int x]=.ok (.f,.bl true):=by
 have h1:pA "int" (.int x)=true:=rfl;have h2:pA "bool" (.int x)=false:=rfl;unfold a8 jL;rw[ba (h:=by rfl)];simp only[pv,seval,op,h1,h2,V0]
theorem lZ(l:List Int):compL (aName 0) cYes (cx a8 (ag (oVar 0) au)) (l.map D.int) [none]=.ok ((l.map fun _=>true).map D.bl):=by
 rw[cu (r:=fun _:Int=>D.bl true) (fun env=>∃t,env=[t]) l ?_ _ ⟨none,rfl⟩]
 ·rw[TL];rfl
 ·rintro x _ env ⟨t,rfl⟩;have h:=wy x;exact⟨[some (.f,.int x)],rfl,.f,[some (.f,.int x)],by simp only[pv,seval,op,h],_,rfl⟩
theorem yZ(l:List Int):pB (.bl false) (.lst ((l.map fun _=>true).map D.bl))=.ok (.f,.bl true):=by
 have hp:plainDs 40 ((l.map fun _=>true).map D.bl)=true:=by
  induction l with
  |nil=>rfl
  |cons a l ih=>rw[gu,gu,plainDs,ih];rfl
 have e1:wJ (.bl false) ((l.map fun _=>true).map D.bl)=false:=by
  unfold wJ;rw[Xk,Xk,List.any_eq_false];intro x _;exact TC
 show Cg (.bl false) (.lst ((l.map fun _=>true).map D.bl))=_;unfold Cg NF;dsimp only;rw[hp,show plainD 40 (.bl false)=true from rfl,Ug,Tq rfl,e1];rfl
theorem y3(l:List Int)(h:l.length<=1000):((l.map fun _=>true).map D.bl).length<=sizeLine:=line_le (by rw[bh,bh];lia)
theorem JD(l:List Int):flatDs ((l.map fun _=>true).map D.bl)=true:=by
 rw[cY,Wt,Us];exact fun _ _=>rfl
theorem nv{r:List Int}{w:Nat}(h:r.length=w)(hw:w<=1000):bg [eR r,.int (w:Int)]=.ok (.f,.bl true):=by
 have h1:pA "tuple" (.tup (r.map D.int))=true:=rfl;have hc:=lZ r;have hn:=yZ r;have hz:=y3 r (by lia);have hf:=JD r;have hq:((w:Int)==(w:Int))=true:=T8 _;unfold bg iW;rw[ba (h:=by rfl)];unfold eR;rw[av (env':=[some (.f,.tup (r.map D.int)),some (.f,.int (w:Int))]) (by
  simp only[pv,seval,op,h1,bh,h,hq,Uy,gs])]
 generalize (cx a8 (ag (oVar 0) au))=FW at hc ⊢;generalize ((r.map fun _=>true).map D.bl)=BL at hc hn hz hf;simp only[pv,seval,op,hc,hn,hz,hf]
theorem Dv{l:List Int}{n:Nat}(h:l.length=n)(SO:n<=1000):aS [.lst (l.map D.int),.int (n:Int)]=.ok (.f,.bl true):=by
 have h1:pA "list" (.lst (l.map D.int))=true:=rfl;have hc:=lZ l;have hn:=yZ l;have hz:=y3 l (by lia);have hf:=JD l;have hq:((n:Int)==(n:Int))=true:=T8 _;unfold aS eG;rw[ba (h:=by rfl)];rw[av (env':=[some (.f,.lst (l.map D.int)),some (.f,.int (n:Int))]) (by
  simp only[pv,seval,op,h1,bh,h,hq,Uy,gs])]
 generalize (cx a8 (ag (oVar 0) au))=FW at hc ⊢;generalize ((l.map fun _=>true).map D.bl)=BL at hc hn hz hf;simp only[pv,seval,op,hc,hn,hz,hf]
theorem rep_int(n:Nat):(List.replicate n [D.int 0]).flatten=(List.replicate n (0:Int)).map D.int:=by
 induction n with
 |zero=>rfl
 |succ n ih=>rw[UN,Vg,ih,UN];rfl
theorem yd(n:Nat)(h:n<1000):sI (.tup [.int 0]) (.int (n:Int))=.ok (.f,.tup ((List.replicate n (0:Int)).map D.int)):=by
 rw[C7,Tq ⟨by simp,by show 1<=10;decide,by lia,by lia⟩,Uk,rep_int]
theorem A3(n:Nat)(h:n<1000):yL (.tup [.int 0]) (.int (n:Int))=.ok (.f,.tup ((List.replicate n (0:Int)).map D.int)):=by
 rw[<-yd n h];unfold yL;split
 ·rename_i h1 h2;injection h2 with h2;lia
 ·rfl
theorem wz{w p:Nat}(hp:p<w)(x:Int):List.replicate p (0:Int)++[x]++List.replicate (w-p-1) 0=GK w p x:=by
 apply VX
 ·rw[aw,pC,pC,TQ,TQ,TY];lia
 ·intro i h1 h2;rw[aw]at h2;have e:(GK w p x)[i]'(by rw[aw];exact h2)=if i=p then x else 0:=by
   unfold GK;rw[U8,VD]
  rw[e];by_cases hi:i<p
  ·rw[Wv (by rw[pC,TQ,TY];lia),Wv (by rw[TQ];exact hi),WE,Tv (by lia)]
  ·by_cases hip:i=p
   ·subst hip;rw[Wv (by rw[pC,TQ,TY];lia),Xt (by rw[TQ];lia),Tq rfl];simp
   ·rw[Xt (by rw[pC,TQ,TY];lia),WE,Tv hip]
theorem E9{w p:Nat}(hw:w<=100)(hp:p<w)(x:Int):bG [.int (w:Int),.int (p:Int),.int x]=.ok (.f,eR (GK w p x)):=by
 have m1:=A3 p (by lia);have m2:=A3 (w-p-1) (by lia);rw[show((w-p-1:Nat):Int)=(w:Int)-(p:Int)-1 by lia]at m2;have a1:addO (.tup ((List.replicate p (0:Int)).map D.int)) (.tup [.int x])=.ok (.f,.tup ((List.replicate p (0:Int)++[x]).map D.int)):=by
  rw[lj,Tq (.inl (line_le (by rw[bh,TQ,TY];lia))),Uh];rfl
 have a2:addO (.tup ((List.replicate p (0:Int)++[x]).map D.int)) (.tup ((List.replicate (w-p-1) (0:Int)).map D.int))=.ok (.f,eR (GK w p x)):=by
  rw[lj,Tq (.inl (line_le (by rw[bh,bh,pC,TQ,TQ,TY];lia))),<-Uh,wz hp];rfl
 unfold bG kY;rw[ba (h:=by rfl)];generalize eR (GK w p x)=EU at a2 ⊢;simp only[pv,seval,op,m1,m2,a1,a2]
theorem Fb(x:Int):bG [.int 0,.int 0,.int x]=.ok (.f,.tup [.int x]):=by
 have m1:yL (.tup [.int 0]) (.int 0)=.ok (.f,.tup []):=A3 0 (by decide);have m2:yL (.tup [.int 0]) (.int (-1))=.ok (.f,.tup []):=by
  show(if([D.int 0]:List D)≠[] then Res.ok (O.f,D.tup []) else .bad)=_;rw[Tq (by simp)]
 have a1:addO (.tup []) (.tup [.int x])=.ok (.f,.tup [.int x]):=by
  rw[lj,Tq (.inr rfl)];rfl
 have a2:addO (.tup [.int x]) (.tup [])=.ok (.f,.tup [.int x]):=by
  rw[lj,Tq (.inl (line_le (by show 1<=16777216;decide)))];rfl
 have e:(0:Int)-0-1 = -1:=rfl;unfold bG kY;rw[ba (h:=by rfl)];simp only[pv,seval,op,m1,m2,a1,a2,e]
theorem Fy(a b:List Int)(h:a=b):Il (eR a) (eR b)=.ok (.f,.bl true):=by
 subst h;unfold Il eR;rw[plainD,cE,GW,lh];simp
theorem pj{rows:List (List Int)}{row:List Int}{ns:List Int}{km:Int}{w:Nat}(hk:1<=km)(Pn:km.natAbs<2 ^ 1000)(Nr:rows.length=ns.length)(hl:rows.length<=900)(hr:Rows w rows)(J7:row.length=w)(OX:HI row)(hw:w<=900)(R4:HI ns)(hs:(List.range w).map (co rows ns rows.length)=(List.range w).map (co [row] [km] 1)):
  aK [.tup [.str fA,.int km,.lst (ns.map D.int)],.lst (rows.map eR),eR row]=.ok (.f,.bl true):=by
 have h1:pA "tuple" (.tup [.str fA,.int km,.lst (ns.map D.int)])=true:=rfl;have h3:cZ [.tup [.str fA,.int km,.lst (ns.map D.int)]]=.ok (.f,.int 3):=rfl;have i0:Ha (.tup [.str fA,.int km,.lst (ns.map D.int)]) (.int 0)=.ok (.f,.str fA):=rfl;have i1:Ha (.tup [.str fA,.int km,.lst (ns.map D.int)]) (.int 1)=.ok (.f,.int km):=rfl;have i2:Ha (.tup [.str fA,.int km,.lst (ns.map D.int)]) (.int 2)=.ok (.f,.lst (ns.map D.int)):=rfl;have q3:((3:Int)==3)=true:=rfl;have q0:(fA==[115,117,109])=true:=rfl;have hwh:=wy km;have Hx:decide (km<1)=false:=T5 (by lia);have NC:=Dv (l:=ns) (n:=rows.length) Nr.symm (by lia);have OZ:cZ [.lst (rows.map eR)]=.ok (.f,.int (rows.length:Int)):=by
  show Res.ok (O.f,D.int (((rows.map eR).length:Nat):Int))=_;rw[bh]
 have SQ:cZ [eR row]=.ok (.f,.int (w:Int)):=by
  show Res.ok (O.f,D.int (((row.map D.int).length:Nat):Int))=_;rw[bh,J7]
 have s1:=vU w (by lia) rows ns hr R4 (by lia) Nr;have s2:=vU w (by lia) [row] [km] (fun r hx=>by rw[p4 hx];exact⟨J7,OX⟩) (fun x hx=>by rw[p4 hx];exact Pn) (by show 1<=1000;decide) rfl;have s2:bZ [.lst [eR row],.lst [.int km],.int (w:Int)]=.ok (.f,eR ((List.range w).map (co [row] [km] 1))):=s2;have he:=Fy _ _ hs;have f1:=cm ((List.range w).map (co rows ns rows.length));have f2:=cm ((List.range w).map (co [row] [km] 1));unfold aK fw;rw[ba (h:=by rfl)];generalize hT:D.tup [.str fA,.int km,.lst (ns.map D.int)]=TT at h1 h3 i0 i1 i2 ⊢;clear hT;generalize eR row=ER at SQ s2 ⊢;generalize eR ((List.range w).map (co rows ns rows.length))=E1 at s1 he f1;generalize eR ((List.range w).map (co [row] [km] 1))=E2 at s2 he f2;rw[av (env':=[some (.f,TT),some (.f,.lst (rows.map eR)),some (.f,ER)]) (by
  simp only[pv,seval,op,h1,h3,i0,i1,q3,q0,hwh,Hx,Uy,gs])]
 rw[av (env':=[some (.f,TT),some (.f,.lst (rows.map eR)),some (.f,ER)]) (by
  simp only[pv,seval,op,i2,OZ,NC,Uy,gs])]
 simp only[pv,seval,op,i1,i2,SQ,s1,s2,he,f1,f2]
theorem ye{o:List Int}{p w:Nat}(ho:o.length=w)(hw:w<=900)(hp:p<w)(h0:o.getD p 0≠0){x:Int}(hx:x≠0):aP [.tup [.str gL,eR o],.int (p:Int),.int x,.int (w:Int)]=.ok (.f,.bl true):=by
 have h1:pA "tuple" (.tup [.str gL,eR o])=true:=rfl;have h3:cZ [.tup [.str gL,eR o]]=.ok (.f,.int 2):=rfl;have i0:Ha (.tup [.str gL,eR o]) (.int 0)=.ok (.f,.str gL):=rfl;have i1:Ha (.tup [.str gL,eR o]) (.int 1)=.ok (.f,eR o):=rfl;have q3:((2:Int)==2)=true:=rfl;have q0:(gL==[114,111,119])=true:=rfl;have Qu:=nv ho (by lia);have HX:=NM (r:=o) (c:=p) (by lia);have e1:(o.getD p 0==0)=false:=T4.mpr h0;have e2:(x==0)=false:=T4.mpr hx;unfold aP dy;rw[ba (h:=by rfl)];generalize hT:D.tup [.str gL,eR o]=TT at h1 h3 i0 i1 ⊢;clear hT;generalize eR o=EO at i1 Qu HX;rw[av (env':=[some (.f,TT),some (.f,.int (p:Int)),some (.f,.int x),some (.f,.int (w:Int))]) (by
  simp only[pv,seval,op,h1,h3,i0,i1,q3,q0,Qu,Uy,gs])]
 simp only[pv,seval,op,i1,HX,e1,e2,V0]
theorem yf(l:List Int):compL (aName 0) (GX (eBin Kf (oVar 0) (oVal (eCon (.int 0))))) (ax 0) (l.map D.int) [none]=.ok ((l.filter fun x=>decide (x<0)).map D.int):=by
 refine dM (p:=fun x:Int=>decide (x<0)) (fun env=>∃t,env=[t]) l ?_ _ ⟨none,rfl⟩;rintro x _ env ⟨t,rfl⟩;refine⟨[some (.f,.int x)],rfl,[some (.f,.int x)],by simp only[pv,seval,op],?_⟩;cases h:decide (x<0) with
 |true=>exact⟨.f,[some (.f,.int x)],rfl,_,rfl⟩
 |false=>exact⟨_,rfl⟩
theorem yg(l:List Int):compL (aName 0) (GX (eBin KY (oVar 0) (oVal (eCon (.int 0))))) (ax 0) (l.map D.int) [none]=.ok ((l.filter fun x=>decide (0<x)).map D.int):=by
 refine dM (p:=fun x:Int=>decide (0<x)) (fun env=>∃t,env=[t]) l ?_ _ ⟨none,rfl⟩;rintro x _ env ⟨t,rfl⟩;refine⟨[some (.f,.int x)],rfl,[some (.f,.int x)],by simp only[pv,seval,op],?_⟩;cases h:decide (0<x) with
 |true=>exact⟨.f,[some (.f,.int x)],rfl,_,rfl⟩
 |false=>exact⟨_,rfl⟩
theorem Dw:Il (.lst []) (.lst [])=.ok (.f,.bl true):=rfl
theorem pk{rows:List (List Int)}{r:List Int}{w:Nat}(hr:r.length=w)(hw:w<=900)(hb:HI r)(Qv:Rows w rows)(hl:rows.length<=900)(h1:∀x∈rows,1<=dot x r):bC [.tup [.str gL,eR r],.lst (rows.map eR),.int (w:Int)]=.ok (.f,.str gL):=by
 have t1:pA "tuple" (.tup [.str gL,eR r])=true:=rfl;have h3:cZ [.tup [.str gL,eR r]]=.ok (.f,.int 2):=rfl;have i0:Ha (.tup [.str gL,eR r]) (.int 0)=.ok (.f,.str gL):=rfl;have i1:Ha (.tup [.str gL,eR r]) (.int 1)=.ok (.f,eR r):=rfl;have q2:((2:Int)==2)=true:=rfl;have q0:(gL==[114,111,119])=true:=rfl;have Qu:=nv hr (by lia);have Qw:=Dw;have Nt:compL (aName 0) (GX (eBin Kf (oVal (cx bf (ag (oVar 0) (ag (oVal (eBin Ha (oVar 1) (oVal (eCon (.int 1))))) au)))) (oVal (eCon (.int 1))))) (ax 0) (rows.map eR) [none,some (.f,.tup [.str gL,eR r])]=.ok []:=by
  generalize hT:D.tup [.str gL,eR r]=TT at i1 ⊢;clear hT;have h:=dM (a:=aName 0) (c:=(GX (eBin Kf (oVal (cx bf (ag (oVar 0) (ag (oVal (eBin Ha (oVar 1) (oVal (eCon (.int 1))))) au)))) (oVal (eCon (.int 1)))))) (f:=ax 0) (p:=fun _:List Int=>false) (r:=eR) (e:=eR) (fun env=>∃t,env=[t,some (.f,TT)]) rows (by
   rintro x hx env ⟨t,rfl⟩;have hp:=sU x r (Qv x hx).2 hb (by rw[(Qv x hx).1];lia) (by rw[(Qv x hx).1,hr]);have Hx:decide (dot x r<1)=false:=T5 (by have:=h1 x hx;lia);refine⟨[some (.f,eR x),some (.f,TT)],rfl,[some (.f,eR x),some (.f,TT)],?_,_,rfl⟩;generalize eR x=EX at hp ⊢;generalize eR r=ER at hp i1;simp only[pv,seval,op,i1,hp,Hx]) [none,some (.f,TT)] ⟨none,rfl⟩
  rw[h,UK.mpr fun _ _=>TC];rfl
 unfold bC fL;rw[ba (h:=by rfl)];generalize hT:D.tup [.str gL,eR r]=TT at t1 h3 i0 i1 Nt ⊢;clear hT;generalize eR r=ER at i1 Qu;rw[av (env':=[some (.f,TT),some (.f,.lst (rows.map eR)),some (.f,.int (w:Int))]) (by
  simp only[pv,seval,op,t1,h3,q2,Uy,gs])]
 rw[HM];generalize (GX (eBin Kf (oVal (cx bf (ag (oVar 0) (ag (oVal (eBin Ha (oVar 1) (oVal (eCon (.int 1))))) au)))) (oVal (eCon (.int 1)))))=CC at Nt ⊢;generalize rows.map eR=RR at Nt ⊢;have z0:0<=sizeLine:=Ut _;have f0:flatDs []=true:=rfl;simp only[pv,seval,op,i0,i1,q0,Qu,Nt,z0,f0,Qw,Uq];rfl
theorem pq{rows:List (List Int)}{ns:List Int}{w:Nat}(Nr:rows.length=ns.length)(hl:rows.length<=900)(Qv:Rows w rows)(hw:w<=900)(R4:HI ns)(h0:∀x∈ns,0<=x)(hp:∃x∈ns,0<x)(hs:(List.range w).map (co rows ns rows.length)=List.replicate w 0):bC [.tup [.str fA,.lst (ns.map D.int)],.lst (rows.map eR),.int (w:Int)]=.ok (.f,.str fA):=by
 have t1:pA "tuple" (.tup [.str fA,.lst (ns.map D.int)])=true:=rfl;have h3:cZ [.tup [.str fA,.lst (ns.map D.int)]]=.ok (.f,.int 2):=rfl;have i0:Ha (.tup [.str fA,.lst (ns.map D.int)]) (.int 0)=.ok (.f,.str fA):=rfl;have i1:Ha (.tup [.str fA,.lst (ns.map D.int)]) (.int 1)=.ok (.f,.lst (ns.map D.int)):=rfl;have q2:((2:Int)==2)=true:=rfl;have q0:(fA==[114,111,119])=false:=rfl;have q1:(fA==[115,117,109])=true:=rfl;have NC:=Dv (l:=ns) (n:=rows.length) Nr.symm (by lia);have OZ:cZ [.lst (rows.map eR)]=.ok (.f,.int (rows.length:Int)):=by
  show Res.ok (O.f,D.int (((rows.map eR).length:Nat):Int))=_;rw[bh]
 have Qw:=Dw;have Mq:=yf ns;rw[UK.mpr fun x hx=>by have:=h0 x hx;simpa using this]at Mq;have Mq:compL (aName 0) (GX (eBin Kf (oVar 0) (oVal (eCon (.int 0))))) (ax 0) (ns.map D.int) [none]=.ok []:=Mq;have Pl:=yg ns;have R5:=qj (ns.filter fun x=>decide (0<x));have hge:(ns.filter fun x=>decide (0<x)).isEmpty=false:=by
  obtain⟨x,hx,SR⟩:=hp;cases h:ns.filter fun x=>decide (0<x) with
  |nil=>
   rw[UK]at h;exact absurd (T6 SR) (h x hx)
  |cons a l=>rfl
 rw[hge]at R5;have SU:((ns.filter fun x=>decide (0<x)).map D.int).length<=sizeLine:=line_le (by rw[bh];have:=Vj (fun x:Int=>decide (0<x)) ns;lia);have SV:=GQ (ns.filter fun x=>decide (0<x));have s1:=vU w (by lia) rows ns Qv R4 (by lia) Nr;have f1:=cm ((List.range w).map (co rows ns rows.length));have hm:=yd w (by lia);have he:=Fy _ _ hs;have he:Il (eR ((List.range w).map (co rows ns rows.length))) (.tup ((List.replicate w (0:Int)).map D.int))=.ok (.f,.bl true):=he;unfold bC fL;rw[ba (h:=by rfl)];generalize hT:D.tup [.str fA,.lst (ns.map D.int)]=TT at t1 h3 i0 i1 ⊢;clear hT;generalize eR ((List.range w).map (co rows ns rows.length))=E1 at s1 f1 he;rw[av (env':=[some (.f,TT),some (.f,.lst (rows.map eR)),some (.f,.int (w:Int))]) (by
  simp only[pv,seval,op,t1,h3,q2,Uy,gs])]
 rw[av (env':=[some (.f,TT),some (.f,.lst (rows.map eR)),some (.f,.int (w:Int))]) (by
  simp only[pv,seval,op,i0,q0,gs])]
 rw[HM];generalize (GX (eBin Kf (oVar 0) (oVal (eCon (.int 0)))))=C1 at Mq ⊢;generalize (GX (eBin KY (oVar 0) (oVal (eCon (.int 0)))))=C2 at Pl ⊢;generalize rows.map eR=RR at OZ s1 ⊢;generalize ns.map D.int=NN at i1 NC Mq Pl s1;generalize (ns.filter fun x=>decide (0<x)).map D.int=GG at Pl R5 SU SV;generalize (List.replicate w (0:Int)).map D.int=ZZ at hm he;have z0:0<=sizeLine:=Ut _;have f0:flatDs []=true:=rfl;simp only[pv,seval,op,i0,i1,q1,OZ,NC,Mq,z0,f0,Qw,Pl,SU,SV,R5,s1,f1,hm,he,Uq,V0];rfl
theorem wA(env:PV.Env)(f:FT):Aq f env=Res.bnd (f (env.map frz)) (f:=⟨fun p=>.ok (p.1,env)⟩):=id rfl
abbrev GU(w p:Nat)(cs:List Int):List (List Int):=cs.map fun c=>GK w p c
theorem ny(w p:Nat)(cs:List Int)(ch:List Nat)(h:∀q∈ch,q<cs.length):compL (aName 0) cYes (eBin Ha (oVar 1) (oVar 0)) (ch.map fun(q:Nat)=>D.int (q:Int)) [none,some (.f,.lst ((GU w p cs).map eR))]=.ok ((GU w p (ch.map fun q=>cs.getD q 0)).map eR):=by
 rw[cu (r:=fun q:Nat=>eR (GK w p (cs.getD q 0))) (fun env=>∃t,env=[t,some (.f,.lst ((GU w p cs).map eR))]) ch ?_ _ ⟨none,rfl⟩]
 ·rw[TL,TL];rfl
 ·rintro q hq env ⟨t,rfl⟩;have Q5:=h q hq;have Ja:Jv ((GU w p cs).map eR) (q:Int)=some (eR (GK w p (cs.getD q 0))):=gv (by rw[TL,TV,xP Q5,bL cs q 0 Q5];rfl);refine⟨[some (.f,.int (q:Int)),some (.f,.lst ((GU w p cs).map eR))],rfl,.f,[some (.f,.int (q:Int)),some (.f,.lst ((GU w p cs).map eR))],?_,_,rfl⟩;generalize (GU w p cs).map eR=RR at Ja ⊢;generalize eR (GK w p (cs.getD q 0))=EQ at Ja ⊢;simp only[pv,seval,op,Ja]
structure Cs(w p:Nat)(N:Int)(cs:List Int):Prop where
 hw:w<=10
 hl:cs.length<=20
 hN:N≠0
 hb:N.natAbs<2 ^ 900
 pw:∀c∈cs,c≠0->p<w
 t3:∀c∈cs,∃t,T3 t/\c=t*N
theorem A4{N:Int}(hb:N.natAbs<2 ^ 900){c:Int}(h:∃t,T3 t/\c=t*N):c.natAbs<2 ^ 1000:=by
 obtain⟨t,ht,rfl⟩:=h;have h2:(2:Nat) ^ 900<=2 ^ 1000:=Nat.pow_le_pow_right (by decide) (by decide);rcases ht with rfl|rfl|rfl
 ·rw[Yu,show(-1:Int).natAbs=1 from rfl,ZJ];exact Ts hb h2
 ·rw[U2];exact Vy _
 ·rw[Wc];exact Ts hb h2
theorem Cs.big{w p:Nat}{N:Int}{cs:List Int}(h:Cs w p N cs):HI cs:=fun c hc=>A4 h.hb (h.t3 c hc)
theorem sW:Il (.str gL) (.str [114,111,119])=.ok (.f,.bl true):=rfl
theorem sX:Il (.str fA) (.str [114,111,119])=.ok (.f,.bl false):=rfl
section
variable{w p:Nat}{N:Int}{cs:List Int}
theorem Fc(H:Cs w p N cs)(ch:List Nat)(Ls:ch.length<=1)(hq:∀q∈ch,q<cs.length/\cs.getD q 0≠0)(i:Nat)(c:Int)(hc:c∈cs):bX [some (.f,.lst ((GU w p cs).map eR)),some (.l .f,.lst (ch.map fun(q:Nat)=>D.int (q:Int))),some (.f,.int (i:Int)),some (.f,eR (GK w p c))]=.ok (.nx [some (.f,.lst ((GU w p cs).map eR)),some (.l .f,.lst ((if ch=[]/\c≠0 then[i] else ch).map fun(q:Nat)=>D.int (q:Int))),some (.f,.int (i:Int)),some (.f,eR (GK w p c))]):=by
 have JE:=ny w p cs ch fun q h=>(hq q h).1
 have hz:((GU w p (ch.map fun q=>cs.getD q 0)).map eR).length<=sizeLine:=line_le (by rw[bh,bh,bh];lia);have hf:=eC (GU w p (ch.map fun q=>cs.getD q 0));have MD:=A4 H.hb (H.t3 c hc);have N8:HI (ch.map fun q=>cs.getD q 0):=fun x hx=>by
  obtain⟨q,h1,e⟩:=m5 hx;rw[<-e];exact H.big _ (aW (hq q h1).1)
 have hchl:(ch.map fun(q:Nat)=>D.int (q:Int)).length<sizeLine:=p5 (by rw[bh];lia);unfold bX;by_cases hcase:ch=[]/\c≠0
 ·rw[Tq hcase];obtain⟨rfl,K3⟩:=hcase;have hs:=yX (w:=w) (p:=p) (by have:=H.hw;lia) (H.pw c hc K3) (cs:=[]) (by decide) K3 MD (fun _ h=>nomatch h);have hs:aM [.lst ((GU w p (([]:List Nat).map fun q=>cs.getD q 0)).map eR),eR (GK w p c)]=.ok (.f,.tup [.str gL,eR (GK w p 1)]):=hs;have fo:cv (.tup [.str gL,eR (GK w p 1)])=true:=by
   rw[fT];simp only[flatDs,cm,cv,Ug]
  have i0:Ha (.tup [.str gL,eR (GK w p 1)]) (.int 0)=.ok (.f,.str gL):=rfl;have he:=sW;generalize D.tup [.str gL,eR (GK w p 1)]=TT at hs fo i0;generalize (GU w p (([]:List Nat).map fun q=>cs.getD q 0)).map eR=SB at JE hz hf hs;generalize eR (GK w p c)=EC at hs ⊢;generalize (GU w p cs).map eR=RR at JE ⊢;generalize (eBin Ha (oVar 1) (oVar 0))=IX at JE ⊢;have JE:compL (aName 0) cYes IX [] [none,some (.f,.lst RR)]=.ok SB:=JE;show HU _ _ _ [some (.f,.lst RR),some (.l .f,.lst []),some (.f,.int (i:Int)),some (.f,EC)]=.ok (.nx [some (.f,.lst RR),some (.l .f,.lst [.int (i:Int)]),some (.f,.int (i:Int)),some (.f,EC)]);have R6:([]:List D).length<sizeLine:=p5 (by decide);simp only[pv,seval,op,wA,gu,Uw,AI,AJ,JE,hz,hf,hs,fo,i0,he,R6,Uq];first|rfl|(rw[Tq (p5 (by decide))];rfl)
 ·rw[Tv hcase];obtain⟨K,k1,k2,k3,k4,hs⟩:=rK (w:=w) (p:=p) (by have:=H.hw;lia) (cs:=ch.map fun q=>cs.getD q 0) (by rw[bh];lia) (r:=c) (fun x hx=>by
   rcases xQ hx with h|h
   ·exact N8 x h
   ·rw[p4 h];exact MD) (fun G0=>by
   obtain⟨_,h2,h3⟩:=G0;cases ch with
   |nil=>exact hcase ⟨rfl,h3⟩
   |cons q l=>exact(hq q Tg).2 (h2 _ Tg))
  generalize hT:D.tup [.str fA,.int (K.getD (ch.map fun q=>cs.getD q 0).length 0),.lst (((K.take (ch.map fun q=>cs.getD q 0).length).map fun x=>-x).map D.int)]=TT at hs;have fo:cv TT=false:=by
   rw[<-hT,fT];simp only[flatDs,cv,WM,VH]
  have i0:Ha TT (.int 0)=.ok (.f,.str fA):=by rw[<-hT];rfl
  clear hT;have he:=sX;generalize (ch.map fun(q:Nat)=>D.int (q:Int))=CD at JE hchl ⊢;generalize (GU w p (ch.map fun q=>cs.getD q 0)).map eR=SB at JE hz hf hs;generalize eR (GK w p c)=EC at hs ⊢;generalize (GU w p cs).map eR=RR at JE ⊢;generalize (eBin Ha (oVar 1) (oVar 0))=IX at JE ⊢;simp only[pv,seval,op,wA,gu,Uw,AI,AJ,JE,hz,hf,hs,fo,i0,he,gs]
theorem rM(w p:Nat)(l:List Int)(k:Nat):(((GU w p l).map eR).zipIdx k).map (fun z=>D.tup [.int (z.2:Int),z.1])=(l.zipIdx k).map fun z=>D.tup [.int (z.2:Int),eR (GK w p z.1)]:=by
 rw[TL,List.zipIdx_map,TL];rfl
theorem rN(H:Cs w p N cs):∀(l:List Int) (k:Nat) (ch:List Nat) (t2 t3:Option R),cs.drop k=l->ch.length<=1->(∀q∈ch,q<cs.length/\cs.getD q 0≠0)->(ch=[]->∀j,j<k->cs.getD j 0=0)->∃Po u2 u3,Po.length<=1/\(∀q∈Po,q<cs.length/\cs.getD q 0≠0)/\(Po=[]->∀c∈cs,c=0)/\eD (iA 2 (aD (aName 2) (aD (aName 3) cU))) bX ((l.zipIdx k).map fun z=>D.tup [.int (z.2:Int),eR (GK w p z.1)]) [some (.f,.lst ((GU w p cs).map eR)),some (.l .f,.lst (ch.map fun(q:Nat)=>D.int (q:Int))),t2,t3]=.ok (.nx [some (.f,.lst ((GU w p cs).map eR)),some (.l .f,.lst (Po.map fun(q:Nat)=>D.int (q:Int))),u2,u3])
 |[],k,ch,t2,t3,hd,h1,h2,h3=>⟨ch,t2,t3,h1,h2,fun e c hc=>by
   obtain⟨j,hj,ej⟩:=YC hc;have hk:cs.length<=k:=by
    have:=UQ List.length hd;rw[UY,Uq]at this;lia
   have:=h3 e j (by lia);rw[bL cs j 0 hj,ej]at this;exact this,rfl⟩
 |c::l,k,ch,t2,t3,hd,h1,h2,h3=>by
  have hk:k<cs.length:=by
   have:=UQ List.length hd;rw[UY,TK]at this;lia
  have Qx:cs[k]=c:=by
   rw[Ur hk]at hd;injection hd
  have Q9:cs.getD k 0=c:=by rw[bL cs k 0 hk,Qx]
  have Nt:c∈cs:=Qx▸U9 hk;have e1:=Fc H ch h1 h2 k c Nt;have hd2:cs.drop (k+1)=l:=by
   rw[Ur hk]at hd;injection hd
  obtain⟨Po,u2,u3,g1,g2,g3,e2⟩:=rN H l (k+1) (if ch=[]/\c≠0 then[k] else ch) (some (.f,.int (k:Int))) (some (.f,eR (GK w p c))) hd2 (by split;exact Tz 1;exact h1) (fun q hq=>by
   split at hq
   ·rename_i LU;rw[p4 hq];exact⟨hk,by rw[Q9];exact LU.2⟩
   ·exact h2 q hq) (fun e j hj=>by
   split at e
   ·cases e
   ·rename_i LU;by_cases hjk:j=k
    ·subst hjk;rw[Q9];apply UI;intro h;exact LU ⟨e,h⟩
    ·exact h3 e j (by lia))
  refine⟨Po,u2,u3,g1,g2,g3,?_⟩;have ha:iA 2 (aD (aName 2) (aD (aName 3) cU)) (.tup [.int (k:Int),eR (GK w p c)]) [some (.f,.lst ((GU w p cs).map eR)),some (.l .f,.lst (ch.map fun(q:Nat)=>D.int (q:Int))),t2,t3]=.ok [some (.f,.lst ((GU w p cs).map eR)),some (.l .f,.lst (ch.map fun(q:Nat)=>D.int (q:Int))),some (.f,.int (k:Int)),some (.f,eR (GK w p c))]:=by
   generalize eR (GK w p c)=EC;simp only[pv,seval]
  rw[VV,gu,dg,ha,Hw,e1,Hw];exact e2
theorem nE(H:Cs w p N cs):∃ch,(ch.length<=1/\(∀q∈ch,q<cs.length/\cs.getD q 0≠0)/\(ch=[]->∀c∈cs,c=0))/\bV [.lst ((GU w p cs).map eR)]=.ok (.l .f,.lst (ch.map fun(q:Nat)=>D.int (q:Int))):=by
 obtain⟨ch,u2,u3,h1,h2,h3,e⟩:=rN H cs 0 [] none none Wi (by decide) (fun _ h=>nomatch h) (fun _ j hj=>by lia);refine⟨ch,⟨h1,h2,h3⟩,?_⟩;have en:sJ ((GU w p cs).map eR)=(cs.zipIdx 0).map fun z=>D.tup [.int (z.2:Int),eR (GK w p z.1)]:=rM w p cs 0
 unfold bV iS;rw[ba (h:=by rfl)];rw[av (env':=[some (.f,.lst ((GU w p cs).map eR)),some (.l .f,.lst []),none,none]) (by
  generalize (GU w p cs).map eR=RR;simp only[pv,seval,op])]
 rw[av (env':=[some (.f,.lst ((GU w p cs).map eR)),some (.l .f,.lst (ch.map fun(q:Nat)=>D.int (q:Int))),u2,u3]) (by
  unfold gD;rw[<-en]at e;generalize (GU w p cs).map eR=RR at e ⊢;generalize bX=BB at e ⊢;simp only[pv,seval,op,j6];exact e)]
 unfold gc;simp only[pv,seval,op]
end
theorem m1_comp(rows:List (List Int))(hl:∀r∈rows,r.length<=100):compL (aName 0) cYes (eBin addO (oVar 0) (oVal (eTup (dsCons (eNeg (oVal (eCon (.int 1)))) dsNil)))) (rows.map eR) [none]=.ok ((rows.map fun r=>r++[-1]).map eR):=by
 rw[cu (r:=fun r:List Int=>eR (r++[-1])) (fun env=>∃t,env=[t]) rows ?_ _ ⟨none,rfl⟩]
 ·rw[TL];rfl
 ·rintro r hr env ⟨t,rfl⟩;have ha:addO (eR r) (.tup [.int (-1)])=.ok (.f,eR (r++[-1])):=by
   unfold eR;rw[lj,Tq (.inl (line_le (by rw[bh,TY];have:=hl r hr;lia))),Uh];rfl
  refine⟨[some (.f,eR r)],rfl,.f,[some (.f,eR r)],?_,_,rfl⟩;generalize eR r=ER at ha ⊢;generalize eR (r++[-1])=E1 at ha ⊢;have e:-(1:Int) = -1:=rfl;simp only[pv,seval,op,e,ha]
theorem y4{rows:List (List Int)}{w:Nat}(hw:w<=100)(hl:rows.length<=100)(hr:∀r∈rows,r.length<=100){L:Im}(hd:Ld (w+1) none (rows.map fun r=>r++[-1]) L)(hL:KI (w+1) L)(hk:Kx L w=false):bt [.lst (rows.map eR),.int (w:Int)]=.ok (.f,eR (kr L w (w+1))):=by
 have hc:=m1_comp rows hr;have Jj:=o9 (n:=w+1) (by lia) (by lia) hd hL;have ec:LO L (w+1)=eR (kr L w (w+1)):=by
  unfold LO;rw[show w+1-1=w from rfl,hk,Tv TC]
 rw[ec,show((w+1:Nat):Int)=(w:Int)+1 by lia]at Jj;have hz:((rows.map fun r=>r++[-1]).map eR).length<=sizeLine:=line_le (by rw[bh,bh];lia);have hf:=eC (rows.map fun r=>r++[-1]);have fk:=cm (kr L w (w+1));unfold bt kU;rw[ba (h:=by rfl)];generalize (eBin addO (oVar 0) (oVal (eTup (dsCons (eNeg (oVal (eCon (.int 1)))) dsNil))))=FF at hc ⊢;generalize (rows.map fun r=>r++[-1]).map eR=RM at hc Jj hz hf;generalize rows.map eR=RR at hc ⊢;generalize eR (kr L w (w+1))=EK at Jj fk ⊢;simp only[pv,seval,op,hc,hz,hf,Jj,fk]
theorem yh{w:Nat}(hw:w<=100):bt [.lst [],.int (w:Int)]=.ok (.f,eR (GK (w+1) w 1)):=by
 have h:=y4 (rows:=[]) (w:=w) hw (by decide) (fun _ h=>nomatch h) (L:=none) (.nil _) trivial rfl;rw[qi (by lia)]at h;exact h
def KJ(w p:Nat)(c:Int):List Int:=(GK (w+1) w (c.natAbs:Int)).set p c.sign
theorem px(r:List Int)(x:Int){k:Nat}(h:k<r.length):(r++[x]).getD k 0=r.getD k 0:=by
 rw[Ti,VF h,Ti]
theorem wB(r:List Int)(x:Int):(r++[x]).getD r.length 0=x:=by
 rw[Ti,VA (Tz _),Zh];rfl
theorem yi{w p:Nat}(hw:w<=100)(hp:p<w){c:Int}(hc:c≠0)(MD:c.natAbs<2 ^ 1000):bt [.lst [eR (GK w p c)],.int (w:Int)]=.ok (.f,eR (KJ w p c)):=by
 have Qy:=aw w p c;have hlen:(GK w p c++[-1]).length=w+1:=by rw[pC,TY,Qy]
 have hb:HI (GK w p c++[-1]):=fun x hx=>by
  rcases xQ hx with h|h
  ·exact cT MD x h
  ·rw[p4 h];decide +kernel
 have Pk:(GK w p c++[-1]).getD p 0=c:=by rw[px _ _ (by rw[Qy];exact hp),aN _ _ _ hp,Tq rfl]
 obtain⟨more,hf⟩:=pd (r:=GK w p c++[-1]) (q:=p) (by lia) (by rw[Pk];exact hc) fun j hj=>by
  rw[px _ _ (by rw[Qy];lia),aN _ _ _ (by lia),Tv (by lia)]
 have hlow:low (GK w p c++[-1])=GK w p c++[-1]:=nr ⟨-1,Tp _ (T9.mpr rfl),rfl⟩;have hd:Ld (w+1) none ([GK w p c].map fun r=>r++[-1]) (some (p,GK w p c++[-1])):=by
  have:=Ld.lead (rs:=[]) hlen hb hf (.nil _);rw[hlow]at this;exact this
 have hL:KI (w+1) (some (p,GK w p c++[-1])):=⟨by lia,hlen,hb,by rw[Pk];exact hc⟩
 have h:=y4 (rows:=[GK w p c]) (w:=w) hw (by show 1<=100;decide) (fun r hr=>by rw[p4 hr,Qy];exact hw) hd hL (T4.mpr (by lia));have ek:kr (some (p,GK w p c++[-1])) w (w+1)=KJ w p c:=by
  have Qm:(GK w p c++[-1]).getD w 0 = -1:=by
   have:=wB (GK w p c) (-1);rw[Qy]at this;exact this
  have ht:JV (some (p,GK w p c++[-1])) w (w+1)=KJ w p c:=by
   rw[ja p _ w (w+1) (by rw[Pk];exact hc),Pk,Qm];unfold KJ;rw[show -(-1:Int)*c.sign=c.sign by rw[XJ,Wc]]
  unfold kr;rw[ht];refine nr ⟨c.sign,?_,Xh hc⟩;unfold KJ;exact List.mem_set (by rw[aw];lia) _
 rw[ek]at h;exact h
theorem yj{w p:Nat}(hp:p<w)(c:Int):(KJ w p c).take w=GK w p c.sign/\(KJ w p c).getD w 0=(c.natAbs:Int):=by
 have hlen:(KJ w p c).length=w+1:=by unfold KJ;rw[Up,aw]
 have hg:∀k,k<w+1->(KJ w p c).getD k 0=if k=p then c.sign else if k=w then(c.natAbs:Int) else 0:=fun k hk=>by
  unfold KJ;rw[Ti,XD];by_cases h:p=k
  ·rw[Tq h,Tq (by rw[aw];lia),Tq h.symm];rfl
  ·rw[Tv h,Tv (fun z=>h z.symm),<-Ti,aN _ _ _ hk]
 constructor
 ·apply VX
  ·rw[UC,hlen,aw];lia
  ·intro i h1 h2;rw[aw]at h2;have e1:=hg i (by lia);rw[bL _ i 0 (by lia),Tv (c:=i=w) (by lia)]at e1;have e2:=aN w p c.sign h2;rw[bL _ i 0 (by rw[aw];exact h2)]at e2;rw[List.getElem_take,e1,e2]
 ·rw[hg w (by lia),Tv (by lia),Tq rfl]
theorem yk(w p:Nat):(GK (w+1) w 1).take w=GK w p 0/\(GK (w+1) w 1).getD w 0=1:=by
 constructor
 ·apply VX
  ·rw[UC,aw,aw];lia
  ·intro i h1 h2;rw[aw]at h2;have e1:=aN (w+1) w 1 (k:=i) (by lia);rw[bL _ i 0 (by rw[aw];lia),Tv (by lia)]at e1;have e2:=aN w p 0 h2;rw[bL _ i 0 (by rw[aw];exact h2)]at e2;rw[List.getElem_take,e1,e2];split <;> rfl
 ·rw[aN _ _ _ (by lia),Tq rfl]
section
variable{w p:Nat}{N:Int}{cs:List Int}
theorem wC(H:Cs w p N cs){lv:List Int}(Mp:lv.length=w+1)(hb:HI lv):∀(l:List Int) (k:Nat) (t2 t3:Option R),cs.drop k=l->(∃i,i<cs.length/\dot (GK w p (cs.getD i 0)) (lv.take w)<lv.getD w 0/\eD (iA 2 (aD (aName 2) (aD (aName 3) cU))) bu ((l.zipIdx k).map fun z=>D.tup [.int (z.2:Int),eR (GK w p z.1)]) [some (.f,.lst ((GU w p cs).map eR)),some (.f,eR lv),t2,t3]=.ok (.rt (.f,.int (i:Int))))\/((∀c∈l,lv.getD w 0<=dot (GK w p c) (lv.take w))/\∃u2 u3,eD (iA 2 (aD (aName 2) (aD (aName 3) cU))) bu ((l.zipIdx k).map fun z=>D.tup [.int (z.2:Int),eR (GK w p z.1)]) [some (.f,.lst ((GU w p cs).map eR)),some (.f,eR lv),t2,t3]=.ok (.nx [some (.f,.lst ((GU w p cs).map eR)),some (.f,eR lv),u2,u3]))
 |[],k,t2,t3,_=>.inr ⟨(fun _ h=>nomatch h),t2,t3,rfl⟩
 |c::l,k,t2,t3,hd=>by
  have hk:k<cs.length:=by
   have:=UQ List.length hd;rw[UY,TK]at this;lia
  have Qx:cs[k]=c:=by
   rw[Ur hk]at hd;injection hd
  have Q9:cs.getD k 0=c:=by rw[bL cs k 0 hk,Qx]
  have MD:=A4 H.hb (H.t3 c (Qx▸U9 hk));have hd2:cs.drop (k+1)=l:=by
   rw[Ur hk]at hd;injection hd
  have hw:=H.hw;have hp:=o5 (GK w p c) (lv.take w) (cT MD) (fun x hx=>hb x (WX hx)) (by rw[aw];lia);have JB:jS (lv.map D.int) none (some (-1))=(lv.take w).map D.int:=by
   rw[m7,ng,Mp];rfl
  have Ja:=we (r:=lv) (by lia);rw[Mp,show w+1-1=w from rfl]at Ja;have ha:iA 2 (aD (aName 2) (aD (aName 3) cU)) (.tup [.int (k:Int),eR (GK w p c)]) [some (.f,.lst ((GU w p cs).map eR)),some (.f,eR lv),t2,t3]=.ok [some (.f,.lst ((GU w p cs).map eR)),some (.f,eR lv),some (.f,.int (k:Int)),some (.f,eR (GK w p c))]:=by
   generalize eR (GK w p c)=EC;simp only[pv,seval]
  have eb:∀b,decide (dot (GK w p c) (lv.take w)<lv.getD w 0)=b->bu [some (.f,.lst ((GU w p cs).map eR)),some (.f,eR lv),some (.f,.int (k:Int)),some (.f,eR (GK w p c))]=if b then .ok (.rt (.f,.int (k:Int))) else .ok (.nx [some (.f,.lst ((GU w p cs).map eR)),some (.f,eR lv),some (.f,.int (k:Int)),some (.f,eR (GK w p c))]):=fun b O7=>by
   have hp:cf [eR (GK w p c),.tup ((lv.take w).map D.int)]=.ok (.f,.int (dot (GK w p c) (lv.take w))):=hp;unfold bu;rw[show eR lv=.tup (lv.map D.int) from rfl];generalize eR (GK w p c)=EC at hp ⊢;generalize dot (GK w p c) (lv.take w)=DD at hp O7;generalize lv.getD w 0=LA at Ja O7;generalize (lv.take w).map D.int=LT at JB hp;generalize lv.map D.int=LD at JB Ja ⊢;generalize (GU w p cs).map eR=RR;cases b with
   |true=>simp only[pv,seval,op,JB,Ja,hp,O7]
   |false=>simp only[pv,seval,op,JB,Ja,hp,O7,gs]
  rw[VV,gu,dg,ha,Hw];by_cases Hx:dot (GK w p c) (lv.take w)<lv.getD w 0
  ·left;refine⟨k,hk,by rw[Q9];exact Hx,?_⟩;rw[eb true (T6 Hx),Tq rfl,Hw]
  ·rw[eb false (T5 Hx),Tv TC,Hw];dsimp only;rcases wC H Mp hb l (k+1) (some (.f,.int (k:Int))) (some (.f,eR (GK w p c))) hd2 with h|⟨h1,h2⟩
   ·exact .inl h
   ·right;refine⟨fun x hx=>?_,h2⟩;rcases Tw.mp hx with rfl|hx
    ·lia
    ·exact h1 x hx
theorem je(H:Cs w p N cs){lv:List Int}(Mp:lv.length=w+1)(hb:HI lv):(∃i,i<cs.length/\dot (GK w p (cs.getD i 0)) (lv.take w)<lv.getD w 0/\bB [.lst ((GU w p cs).map eR),eR lv]=.ok (.f,.int (i:Int)))\/((∀c∈cs,lv.getD w 0<=dot (GK w p c) (lv.take w))/\bB [.lst ((GU w p cs).map eR),eR lv]=.ok (.f,.non)):=by
 have en:sJ ((GU w p cs).map eR)=(cs.zipIdx 0).map fun z=>D.tup [.int (z.2:Int),eR (GK w p z.1)]:=rM w p cs 0
 have ef:∀r,eD (iA 2 (aD (aName 2) (aD (aName 3) cU))) bu ((cs.zipIdx 0).map fun z=>D.tup [.int (z.2:Int),eR (GK w p z.1)]) [some (.f,.lst ((GU w p cs).map eR)),some (.f,eR lv),none,none]=r->eh [some (.f,.lst ((GU w p cs).map eR)),some (.f,eR lv),none,none]=r:=fun r hr=>by
  unfold eh;rw[<-en]at hr;generalize (GU w p cs).map eR=RR at hr ⊢;generalize eR lv=EL at hr ⊢;generalize bu=BB at hr ⊢;simp only[pv,seval,op,j6];exact hr
 unfold bB iT;rw[ba (h:=by rfl)];simp only[gu,Uw,List.replicate,VW,UX];rcases wC H Mp hb cs 0 none none Wi with⟨i,h1,h2,e⟩|⟨h1,u2,u3,e⟩
 ·left;refine⟨i,h1,h2,?_⟩;rw[HM,ef _ e,Hw];rfl
 ·right;refine⟨h1,?_⟩;rw[av (ef _ e)];rfl
end
abbrev qD(ch:List Nat):List D:=ch.map fun(q:Nat)=>D.int (q:Int)
section
variable{w p:Nat}{N:Int}{cs:List Int}
theorem ym(ch:List Nat)(ns:List Int)(h:∀q∈ch,q<ns.length/\0<=ns.getD q 0):compL (aName 0) (GX (eBin Kf (oVal (eBin Ha (oVar 1) (oVar 0))) (oVal (eCon (.int 0))))) (ax 0) (qD ch) [none,some (.f,.lst (ns.map D.int))]=.ok []:=by
 have hh:=dM (a:=aName 0) (c:=GX (eBin Kf (oVal (eBin Ha (oVar 1) (oVar 0))) (oVal (eCon (.int 0))))) (f:=ax 0) (p:=fun _:Nat=>false) (r:=fun(q:Nat)=>D.int (q:Int)) (e:=fun(q:Nat)=>D.int (q:Int)) (fun env=>∃t,env=[t,some (.f,.lst (ns.map D.int))]) ch (by
  rintro q hq env ⟨t,rfl⟩;obtain⟨h1,h2⟩:=h q hq;have i1:=Bc true h1;have i1:Ha (.lst (ns.map D.int)) (.int (q:Int))=.ok (.f,.int (ns.getD q 0)):=i1;have Hx:decide (ns.getD q 0<0)=false:=T5 (by lia);refine⟨[some (.f,.int (q:Int)),some (.f,.lst (ns.map D.int))],rfl,[some (.f,.int (q:Int)),some (.f,.lst (ns.map D.int))],?_,_,rfl⟩;generalize D.lst (ns.map D.int)=NL at i1 ⊢;simp only[pv,seval,op,i1,Hx]) [none,some (.f,.lst (ns.map D.int))] ⟨none,rfl⟩
 rw[hh,UK.mpr fun _ _=>TC];rfl
theorem y6(H:Cs w p N cs)(ch:List Nat)(Ls:ch.length<=1)(hq:∀q∈ch,q<cs.length/\cs.getD q 0≠0){lv:List Int}(Ir:bt [.lst ((GU w p (ch.map fun q=>cs.getD q 0)).map eR),.int (w:Int)]=.ok (.f,eR lv)){i:Nat}(hi:i<cs.length)(Lc:bB [.lst ((GU w p cs).map eR),eR lv]=.ok (.f,.int (i:Int))){km:Int}{negs ns:List Int}(hkm:km.natAbs<2 ^ 1000)(KU:aM [.lst ((GU w p (ch.map fun q=>cs.getD q 0)).map eR),eR (GK w p (cs.getD i 0))]=.ok (.f,.tup [.str fA,.int km,.lst (negs.map D.int)]))
  (Nr:ns.length=cs.length) (SO:∀q∈ch,0<=ns.getD q 0)
  (Qz:∀t7 t8:Option R,∃u7 u8,eD (iA 2 (aD (aName 7) (aD (aName 8) cU))) dP (((qD ch).zip (negs.map D.int)).map fun z=>D.tup [z.1,z.2]) [some (.f,.lst ((GU w p cs).map eR)),some (.f,.int (w:Int)),some (.f,.lst (qD ch)),some (.f,eR lv),some (.f,.int (i:Int)),some (.f,.tup [.str fA,.int km,.lst (negs.map D.int)]),some (.l .f,.lst ((GK cs.length i km).map D.int)),t7,t8,none]=.ok (.nx [some (.f,.lst ((GU w p cs).map eR)),some (.f,.int (w:Int)),some (.f,.lst (qD ch)),some (.f,eR lv),some (.f,.int (i:Int)),some (.f,.tup [.str fA,.int km,.lst (negs.map D.int)]),some (.l .f,.lst (ns.map D.int)),u7,u8,none])):
  dQ [some (.f,.lst ((GU w p cs).map eR)),some (.f,.int (w:Int)),some (.l .f,.lst (qD ch)),none,none,none,none,none,none,none]=.ok (.rt (.f,.tup [.str fA,.lst (ns.map D.int)])):=by
 have JE:compL (aName 0) cYes (eBin Ha (oVar 1) (oVar 0)) (qD ch) [none,some (.f,.lst ((GU w p cs).map eR))]=.ok ((GU w p (ch.map fun q=>cs.getD q 0)).map eR):=ny w p cs ch fun q h=>(hq q h).1
 have hsz:((GU w p (ch.map fun q=>cs.getD q 0)).map eR).length<=sizeLine:=line_le (by rw[bh,bh,bh];lia);have Pp:=eC (GU w p (ch.map fun q=>cs.getD q 0));have QA:=cm lv;have Ja:Jv ((GU w p cs).map eR) (i:Int)=some (eR (GK w p (cs.getD i 0))):=gv (by rw[TL,TV,xP hi,bL cs i 0 hi];rfl);have OZ:cZ [.lst ((GU w p cs).map eR)]=.ok (.f,.int (cs.length:Int)):=by
  show Res.ok (O.f,D.int ((((GU w p cs).map eR).length:Nat):Int))=_;rw[bh,bh]
 have hl:=H.hl;have hm:=Fx cs.length (by lia);have e3:ixN (((List.range cs.length).map fun _=>(0:Int)).map D.int).length (i:Int)=some i:=m6 _ _ (by rw[bh,bh,TR];exact hi);have ez:=rp cs.length i km;obtain⟨u7,u8,Lo⟩:=Qz none none;have Mq:=ym ch ns fun q h=>⟨by rw[Nr];exact(hq q h).1,SO q h⟩
 generalize hT:D.tup [.str fA,.int km,.lst (negs.map D.int)]=TT at KU Lo;have fo:cv TT=false:=by
  rw[<-hT,fT];simp only[flatDs,cv,WM,VH]
 have i1:Ha TT (.int 1)=.ok (.f,.int km):=by rw[<-hT];rfl
 have i2:Ha TT (.int 2)=.ok (.f,.lst (negs.map D.int)):=by rw[<-hT];rfl
 clear hT;have NO:Mz (.int (i:Int)) .non=.ok (.f,.bl false):=id rfl;have Qw:((0:Int)==0)=true:=rfl;generalize (GU w p (ch.map fun q=>cs.getD q 0)).map eR=SB at JE hsz Pp Ir KU;generalize (GU w p cs).map eR=RR at JE Ja OZ Lc Lo ⊢;generalize eR (GK w p (cs.getD i 0))=EC at Ja KU;generalize eR lv=EL at Ir QA Lc Lo ⊢;generalize hCD:qD ch=CD at JE Lo Mq ⊢;generalize hIX:(eBin Ha (oVar 1) (oVar 0))=IX at JE;unfold dQ;rw[hIX];rw[av (env':=[some (.f,.lst RR),some (.f,.int (w:Int)),some (.l .f,.lst CD),some (.f,EL),none,none,none,none,none,none]) (by
  simp only[pv,seval,op,JE,hsz,Pp,Ir,QA])]
 rw[av (env':=[some (.f,.lst RR),some (.f,.int (w:Int)),some (.l .f,.lst CD),some (.f,EL),some (.f,.int (i:Int)),none,none,none,none,none]) (by
  simp only[pv,seval,op,Lc])]
 rw[av (env':=[some (.f,.lst RR),some (.f,.int (w:Int)),some (.l .f,.lst CD),some (.f,EL),some (.f,.int (i:Int)),none,none,none,none,none]) (by
  simp only[pv,seval,op,NO,gs])]
 rw[av (env':=[some (.f,.lst RR),some (.f,.int (w:Int)),some (.f,.lst CD),some (.f,EL),some (.f,.int (i:Int)),some (.f,TT),none,none,none,none]) (by
  simp only[pv,seval,op,JE,hsz,Pp,Ja,KU,fo,gu,Uw,AI,AJ,gs])]
 rw[av (env':=[some (.f,.lst RR),some (.f,.int (w:Int)),some (.f,.lst CD),some (.f,EL),some (.f,.int (i:Int)),some (.f,TT),some (.l .f,.lst (((List.range cs.length).map fun _=>(0:Int)).map D.int)),none,none,none]) (by
  simp only[pv,seval,op,OZ,hm])]
 rw[av (env':=[some (.f,.lst RR),some (.f,.int (w:Int)),some (.f,.lst CD),some (.f,EL),some (.f,.int (i:Int)),some (.f,TT),some (.l .f,.lst ((GK cs.length i km).map D.int)),none,none,none]) (by
  rw[<-ez];generalize ((List.range cs.length).map fun _=>(0:Int)).map D.int=ZZ at e3 ⊢;simp only[pv,seval,op,i1,e3])]
 rw[av (env':=[some (.f,.lst RR),some (.f,.int (w:Int)),some (.f,.lst CD),some (.f,EL),some (.f,.int (i:Int)),some (.f,TT),some (.l .f,.lst (ns.map D.int)),u7,u8,none]) (by
  unfold oS;generalize dP=BB at Lo ⊢;generalize (GK cs.length i km).map D.int=UU at Lo ⊢;generalize negs.map D.int=NG at Lo i2 ⊢;simp only[pv,seval,op,i2];exact Lo)]
 unfold lV;generalize (GX (eBin Kf (oVal (eBin Ha (oVar 1) (oVar 0))) (oVal (eCon (.int 0)))))=CC at Mq ⊢;have z0:0<=sizeLine:=Ut _;have f0:flatDs []=true:=rfl;have Kr:((0:Nat):Int)=0:=rfl;have fnl:flatDs (ns.map D.int)=true:=GQ ns;generalize ns.map D.int=NS at Mq ⊢;rw[av (env':=[some (.f,.lst RR),some (.f,.int (w:Int)),some (.f,.lst CD),some (.f,EL),some (.f,.int (i:Int)),some (.f,TT),some (.l .f,.lst NS),u7,u8,some (.l .f,.lst [])]) (by
  simp only[pv,seval,op,Mq,z0,f0,Uq])]
 rw[HM];unfold fA;simp only[pv,seval,op,Uq,Kr,Qw]
theorem y7(H:Cs w p N cs)(ch:List Nat)(Ls:ch.length<=1)(hq:∀q∈ch,q<cs.length/\cs.getD q 0≠0){lv:List Int}(Mp:lv.length=w+1)(Ir:bt [.lst ((GU w p (ch.map fun q=>cs.getD q 0)).map eR),.int (w:Int)]=.ok (.f,eR lv))(Lc:bB [.lst ((GU w p cs).map eR),eR lv]=.ok (.f,.non)):
  dQ [some (.f,.lst ((GU w p cs).map eR)),some (.f,.int (w:Int)),some (.l .f,.lst (qD ch)),none,none,none,none,none,none,none]=.ok (.rt (.f,.tup [.str gL,eR (lv.take w)])):=by
 have JE:compL (aName 0) cYes (eBin Ha (oVar 1) (oVar 0)) (qD ch) [none,some (.f,.lst ((GU w p cs).map eR))]=.ok ((GU w p (ch.map fun q=>cs.getD q 0)).map eR):=ny w p cs ch fun q h=>(hq q h).1
 have hsz:((GU w p (ch.map fun q=>cs.getD q 0)).map eR).length<=sizeLine:=line_le (by rw[bh,bh,bh];lia);have Pp:=eC (GU w p (ch.map fun q=>cs.getD q 0));have QA:=cm lv;have NO:Mz .non .non=.ok (.f,.bl true):=id rfl;have JB:jS (lv.map D.int) none (some (-1))=(lv.take w).map D.int:=by
  rw[m7,ng,Mp];rfl
 have hsl:MQ (eR lv) none (some (-1))=.ok (.f,eR (lv.take w)):=by
  show MQ (.tup (lv.map D.int)) none (some (-1))=_;rw[yO,JB];rfl
 generalize (GU w p (ch.map fun q=>cs.getD q 0)).map eR=SB at JE hsz Pp Ir;generalize (GU w p cs).map eR=RR at JE Lc ⊢;generalize hCD:qD ch=CD at JE ⊢;generalize hIX:(eBin Ha (oVar 1) (oVar 0))=IX at JE;unfold dQ;rw[hIX];rw[av (env':=[some (.f,.lst RR),some (.f,.int (w:Int)),some (.l .f,.lst CD),some (.f,eR lv),none,none,none,none,none,none]) (by
  generalize eR lv=EL at Ir QA ⊢;simp only[pv,seval,op,JE,hsz,Pp,Ir,QA])]
 rw[av (env':=[some (.f,.lst RR),some (.f,.int (w:Int)),some (.l .f,.lst CD),some (.f,eR lv),some (.f,.non),none,none,none,none,none]) (by
  generalize eR lv=EL at Lc ⊢;have fn:cv .non=true:=rfl;simp only[pv,seval,op,Lc,fn])]
 rw[HM];unfold gL;rw[show eR (lv.take w)=.tup ((lv.take w).map D.int) from rfl,show eR lv=.tup (lv.map D.int) from rfl];simp only[pv,seval,op,NO,JB]
end
section
variable{w p:Nat}{N:Int}{cs:List Int}
theorem rO(ch:List Nat)(LP:bV [.lst ((GU w p cs).map eR)]=.ok (.l .f,.lst (qD ch))){d:D}(e:dQ [some (.f,.lst ((GU w p cs).map eR)),some (.f,.int (w:Int)),some (.l .f,.lst (qD ch)),none,none,none,none,none,none,none]=.ok (.rt (.f,d))):fJ [.lst ((GU w p cs).map eR),.int (w:Int)]=.ok (.f,d):=by
 have Lm:flatDs (qD ch)=true:=by
  rw[cY,Wt,Us];exact fun _ _=>rfl
 unfold fJ vF;rw[ba (h:=by rfl)];rw[av (env':=[some (.f,.lst ((GU w p cs).map eR)),some (.f,.int (w:Int)),some (.l .f,.lst (qD ch)),none,none,none,none,none,none,none]) (by
  generalize (GU w p cs).map eR=RR at LP ⊢;generalize qD ch=CD at LP Lm ⊢;simp only[pv,seval,op,LP,Lm])]
 unfold oT;have hc:(GX (eCon (.bl true))) [some (.f,.lst ((GU w p cs).map eR)),some (.f,.int (w:Int)),some (.l .f,.lst (qD ch)),none,none,none,none,none,none,none]=.ok (true,[some (.f,.lst ((GU w p cs).map eR)),some (.f,.int (w:Int)),some (.l .f,.lst (qD ch)),none,none,none,none,none,none,none]):=rfl;rw[show(100000:Nat)=99999+1 from rfl,fS,hc,Hw];dsimp only;rw[Tq rfl,e,Hw];rfl
theorem wD(H:Cs w p N cs){i:Nat}(hi:i<cs.length):∃t,T3 t/\cs.getD i 0=t*N:=H.t3 _ (aW hi)
theorem A5(H:Cs w p N cs):(∃r,r.length=w/\HI r/\(∀c∈cs,1<=dot (GK w p c) r)/\fJ [.lst ((GU w p cs).map eR),.int (w:Int)]=.ok (.f,.tup [.str gL,eR r]))\/∃ns:List Int,ns.length=cs.length/\HI ns/\(∀x∈ns,0<=x)/\(∃x∈ns,0<x)/\(p<w->dot cs ns=0)/\fJ [.lst ((GU w p cs).map eR),.int (w:Int)]=.ok (.f,.tup [.str fA,.lst (ns.map D.int)]):=by
 obtain⟨ch,⟨h1,h2,h3⟩,LP⟩:=nE H;have hw:=H.hw;have hl:=H.hl;cases ch with
 |nil=>
  have hz:=h3 rfl;have Ir:=yh (w:=w) (by lia);have Ir:bt [.lst ((GU w p (([]:List Nat).map fun q=>cs.getD q 0)).map eR),.int (w:Int)]=.ok (.f,eR (GK (w+1) w 1)):=Ir;obtain⟨t1,t2⟩:=yk w p;rcases je H (lv:=GK (w+1) w 1) (aw _ _ _) (cT (by decide +kernel)) with⟨i,hi,Hx,Lc⟩|⟨JK,Lc⟩
  ·right;have SW:cs.getD i 0=0:=hz _ (aW hi);obtain⟨K,k1,k2,k3,k4,hs⟩:=rK (w:=w) (p:=p) (by lia) (cs:=[]) (by decide) (r:=cs.getD i 0) (fun x hx=>by rw[UX,T9]at hx;rw[hx,SW];exact Vy _) (fun⟨_,_,h⟩=>h SW);have Pn:(K.getD 0 0).natAbs<2 ^ 1000:=k2 _ (aW (by rw[k1];exact Nat.zero_lt_one));have e:=y6 H [] (by decide) (fun _ h=>nomatch h) Ir hi Lc (km:=K.getD 0 0) (negs:=[]) (ns:=GK cs.length i (K.getD 0 0)) Pn hs (aw _ _ _) (fun _ h=>nomatch h) (fun t7 t8=>⟨t7,t8,rfl⟩);have k3:1<=K.getD 0 0:=k3;refine⟨GK cs.length i (K.getD 0 0),aw _ _ _,cT Pn,fun x hx=>?_,⟨K.getD 0 0,UJ.mpr ⟨i,TM.mpr hi,Tq rfl⟩,by lia⟩,fun _=>?_,rO [] LP e⟩
   ·rcases il hx with rfl|rfl <;> lia
   ·rw[lr _ _ (by rw[aw])];rw[gT (g:=fun _=>0) fun k hk=>by rw[hz _ (aW hk),U2],qf]
  ·left;have e:=y7 H [] (by decide) (fun _ h=>nomatch h) (lv:=GK (w+1) w 1) (aw _ _ _) Ir Lc;rw[t1]at e JK;rw[t2]at JK;exact⟨GK w p 0,aw _ _ _,cT (Vy _),JK,rO [] LP e⟩
 |cons q l=>
  have R6:l=[]:=by
   rw[TK]at h1;exact XM.mp (by lia)
  subst R6;obtain⟨hq,K3⟩:=h2 q Tg;have Nt:=aW (l:=cs) hq;have hp:=H.pw _ Nt K3;have MD:=A4 H.hb (H.t3 _ Nt);have Ir:=yi (w:=w) (by lia) hp K3 MD;have Ir:bt [.lst ((GU w p ([q].map fun q=>cs.getD q 0)).map eR),.int (w:Int)]=.ok (.f,eR (KJ w p (cs.getD q 0))):=Ir;obtain⟨t1,t2⟩:=yj hp (cs.getD q 0);have QB:(KJ w p (cs.getD q 0)).length=w+1:=by unfold KJ;rw[Up,aw]
  have SX:(cs.getD q 0).sign.natAbs<2 ^ 1000:=U5 (AU _) (by decide +kernel);have hlvb:HI (KJ w p (cs.getD q 0)):=fun x hx=>by
   unfold KJ at hx;rcases VI hx with h|rfl
   ·exact cT (by rw[Xo];exact MD) x h
   ·exact SX
  rcases je H QB hlvb with⟨i,hi,Hx,Lc⟩|⟨JK,Lc⟩
  ·right;rw[t1,t2,qg hp _ (aw _ _ _),aN _ _ _ hp,Tq rfl]at Hx;have hcib:=A4 H.hb (wD H hi);obtain⟨K,k1,k2,k3,k4,hs⟩:=rK (w:=w) (p:=p) (by lia) (cs:=[cs.getD q 0]) (by show 1<=100;decide) (r:=cs.getD i 0) (fun x hx=>by
    rcases xQ hx with h|h
    ·rw[p4 h];exact MD
    ·rw[p4 h];exact hcib) (fun⟨_,h,_⟩=>K3 (h _ (T9.mpr rfl)))
   have k4:=k4 hp;rw[lr _ _ (by rw[k1];rfl)]at k4;rw[show([cs.getD q 0]++[cs.getD i 0]).length=2 from rfl,fU,fU,show sg 0 _=0 from rfl]at k4;have k4:0+cs.getD q 0*K.getD 0 0+cs.getD i 0*K.getD 1 0=0:=k4;have k3:1<=K.getD 1 0:=k3;have hK0b:(K.getD 0 0).natAbs<2 ^ 1000:=k2 _ (aW (by rw[k1];exact Nat.zero_lt_succ _));have QC:(K.getD 1 0).natAbs<2 ^ 1000:=k2 _ (aW (by rw[k1];exact UE 1));have Ra:0<=K.getD 0 0/\cs.getD i 0≠cs.getD q 0:=by
    obtain⟨t,ht,e1⟩:=wD H hq;obtain⟨u,hu,e2⟩:=wD H hi;have hN:=H.hN;have hsg:cs.getD q 0*(cs.getD q 0).sign=((cs.getD q 0).natAbs:Int):=XC _;have Kd:cs.getD i 0≠cs.getD q 0:=fun z=>by rw[z,hsg]at Hx;lia
    refine⟨?_,Kd⟩;rw[e1,e2]at k4 Kd;rw[e1]at K3;generalize K.getD 0 0=a at k4;generalize K.getD 1 0=b at k4 k3;have ht0:t≠0:=fun z=>by rw[z,U2]at K3;exact K3 rfl
    have SY:u≠t:=fun z=>by rw[z]at Kd;exact Kd rfl
    have key:N*(t*a+u*b)=0:=by
     rw[Int.mul_add,<-Wg,<-Wg,Yi N t,Yi N u];lia
    have key2:t*a+u*b=0:=by
     rcases Xe.mp key with h|h
     ·exact absurd h hN
     ·exact h
    rcases ht with rfl|rfl|rfl
    ·rcases hu with rfl|rfl|rfl
     ·exact absurd rfl SY
     ·lia
     ·lia
    ·exact absurd rfl ht0
    ·rcases hu with rfl|rfl|rfl
     ·lia
     ·lia
     ·exact absurd rfl SY
   obtain⟨Ra,Kd⟩:=Ra;have hiq:i≠q:=fun z=>Kd (by rw[z])
   have hs:aM [.lst ((GU w p ([q].map fun q=>cs.getD q 0)).map eR),eR (GK w p (cs.getD i 0))]=.ok (.f,.tup [.str fA,.int (K.getD 1 0),.lst ([-(K.getD 0 0)].map D.int)]):=by
    have e:(K.take 1).map (fun x=>-x)=[-(K.getD 0 0)]:=by
     cases K with
     |nil=>cases k1
     |cons a l=>rfl
    have Pc:aM [.lst ((GU w p ([q].map fun q=>cs.getD q 0)).map eR),eR (GK w p (cs.getD i 0))]=.ok (.f,.tup [.str fA,.int (K.getD 1 0),.lst (((K.take 1).map fun x=>-x).map D.int)]):=hs;rw[e]at Pc;exact Pc
   have L1:∀k,k<cs.length->((GK cs.length i (K.getD 1 0)).set q (K.getD 0 0)).getD k 0=if k=q then K.getD 0 0 else if k=i then K.getD 1 0 else 0:=fun k hk=>by
    rw[Ti,XD];by_cases h:q=k
    ·rw[Tq h,Tq (by rw[aw];lia),Tq h.symm];rfl
    ·rw[Tv h,Tv (fun z=>h z.symm),<-Ti,aN _ _ _ hk]
   have Nu:((GK cs.length i (K.getD 1 0)).set q (K.getD 0 0)).length=cs.length:=by rw[Up,aw]
   have e:=y6 H [q] (Tz 1) h2 Ir hi Lc (km:=K.getD 1 0) (negs:=[-(K.getD 0 0)]) (ns:=(GK cs.length i (K.getD 1 0)).set q (K.getD 0 0)) QC hs Nu (fun x hx=>by rw[p4 hx,L1 q hq,Tq rfl];exact Ra) (fun t7 t8=>by
    refine⟨some (.f,.int (q:Int)),some (.f,.int (-(K.getD 0 0))),?_⟩;have e3:=Dj (GK cs.length i (K.getD 1 0)) q (by rw[aw];exact hq);have e4:((GK cs.length i (K.getD 1 0)).map D.int).set q (.int (K.getD 0 0))=((GK cs.length i (K.getD 1 0)).set q (K.getD 0 0)).map D.int:=by rw[List.map_set]
    rw[<-e4];generalize (GK cs.length i (K.getD 1 0)).map D.int=UU at e3 ⊢;generalize (GU w p cs).map eR=RR;generalize eR (KJ w p (cs.getD q 0))=EL;generalize D.tup [.str fA,.int (K.getD 1 0),.lst ([-(K.getD 0 0)].map D.int)]=TT;have hzz:((qD [q]).zip ([-(K.getD 0 0)].map D.int)).map (fun z=>D.tup [z.1,z.2])=[.tup [.int (q:Int),.int (-(K.getD 0 0))]]:=rfl;rw[hzz];generalize qD [q]=CQ;generalize K.getD 0 0=a;have en:-(-a)=a:=XJ a;show eD (iA 2 (aD (aName 7) (aD (aName 8) cU))) dP [.tup [.int (q:Int),.int (-a)]] [some (.f,.lst RR),some (.f,.int (w:Int)),some (.f,.lst CQ),some (.f,EL),some (.f,.int (i:Int)),some (.f,TT),some (.l .f,.lst UU),t7,t8,none]=_;have ha:iA 2 (aD (aName 7) (aD (aName 8) cU)) (.tup [.int (q:Int),.int (-a)]) [some (.f,.lst RR),some (.f,.int (w:Int)),some (.f,.lst CQ),some (.f,EL),some (.f,.int (i:Int)),some (.f,TT),some (.l .f,.lst UU),t7,t8,none]=.ok [some (.f,.lst RR),some (.f,.int (w:Int)),some (.f,.lst CQ),some (.f,EL),some (.f,.int (i:Int)),some (.f,TT),some (.l .f,.lst UU),some (.f,.int (q:Int)),some (.f,.int (-a)),none]:=rfl;have eb:dP [some (.f,.lst RR),some (.f,.int (w:Int)),some (.f,.lst CQ),some (.f,EL),some (.f,.int (i:Int)),some (.f,TT),some (.l .f,.lst UU),some (.f,.int (q:Int)),some (.f,.int (-a)),none]=.ok (.nx [some (.f,.lst RR),some (.f,.int (w:Int)),some (.f,.lst CQ),some (.f,EL),some (.f,.int (i:Int)),some (.f,TT),some (.l .f,.lst (UU.set q (.int a))),some (.f,.int (q:Int)),some (.f,.int (-a)),none]):=by
     unfold dP;simp only[pv,seval,op,e3,en]
    rw[dg,ha,Hw,eb,Hw];rfl)
   refine⟨(GK cs.length i (K.getD 1 0)).set q (K.getD 0 0),Nu,fun x hx=>?_,fun x hx=>?_,⟨K.getD 1 0,?_,by lia⟩,fun _=>?_,rO [q] LP e⟩
   ·rcases VI hx with h|rfl
    ·exact cT QC x h
    ·exact hK0b
   ·rcases VI hx with h|rfl
    ·rcases il h with rfl|rfl <;> lia
    ·exact Ra
   ·have:=L1 i hi;rw[Tv hiq,Tq rfl]at this;have hm:=aW (l:=(GK cs.length i (K.getD 1 0)).set q (K.getD 0 0)) (k:=i) (by rw[Nu];exact hi);rw[this]at hm;exact hm
   ·rw[lr _ _ Nu.symm];have:sg cs.length (fun k=>cs.getD k 0*((GK cs.length i (K.getD 1 0)).set q (K.getD 0 0)).getD k 0)=sg cs.length fun k=>(if k=q then cs.getD q 0*K.getD 0 0 else 0)+if k=i then cs.getD i 0*K.getD 1 0 else 0:=gT fun k hk=>by
     rw[L1 k hk];by_cases h:k=q
     ·rw[Tq h,Tq h,Tv (by lia),Vt,h]
     ·rw[Tv h,Tv h,Yn];by_cases h3:k=i
      ·rw[Tq h3,Tq h3,h3]
      ·rw[Tv h3,Tv h3,Vi]
    rw[this,yU,ph,ph,Tq hq,Tq hi];lia
  ·left;have e:=y7 H [q] (Tz 1) h2 QB Ir Lc;rw[t1]at e JK;rw[t2]at JK;refine⟨GK w p (cs.getD q 0).sign,aw _ _ _,cT SX,fun c hc=>?_,rO [q] LP e⟩;have:=JK c hc;lia
end
theorem dot_snoc(a b:List Int)(x y:Int)(h:a.length=b.length):dot (a++[x]) (b++[y])=dot a b+x*y:=by
 unfold dot;rw[List.zip_append h,Uh,Xd];show _+(x*y+0)=_;rw[Vt]
theorem wF:∀a b:List Int,dot a (b.map fun x=>-x) = -dot a b
 |[],_=>by simp[dot]
 |_::_,[]=>by simp[dot]
 |x::a,y::b=>by
  have:=wF a b;unfold dot at this ⊢;simp only[gu,UT,W4];rw[this,ZK];lia
theorem wG{w p k:Nat}(hk:k<w)(cs ns:List Int):co (GU w p cs) ns (GU w p cs).length k=if k=p then dot cs ns else 0:=by
 have h:∀cs ns:List Int,(((GU w p cs).zip ns).map fun z=>z.1.getD k 0*z.2).sum=if k=p then dot cs ns else 0:=by
  intro cs;induction cs with
  |nil=>intro ns;unfold dot;split <;> simp
  |cons c cs ih=>
   intro ns;cases ns with
   |nil=>unfold dot;split <;> simp
   |cons n ns=>
    have:=ih ns;unfold dot at this ⊢;simp only[gu,UT,W4];rw[this,aN _ _ _ hk];by_cases J8:k=p
    ·rw[Tq J8,Tq J8,Tq J8]
    ·rw[Tv J8,Tv J8,Tv J8];lia
 unfold co;rw[Ux (by rw[U6];lia)];exact h cs ns
theorem Fd(w p:Nat):List.replicate w (0:Int)=GK w p 0:=by
 apply VX
 ·rw[aw,TQ]
 ·intro i h1 h2;have e:=aN w p 0 (k:=i) (by rw[aw]at h2;exact h2);rw[bL _ _ _ h2,ite_self]at e;rw[WE,e]
section
variable{w p:Nat}{N:Int}{cs:List Int}
theorem Cs.rows(H:Cs w p N cs):Rows w (GU w p cs):=fun r hr=>by
 obtain⟨c,hc,e⟩:=m5 hr;rw[<-e];exact⟨aw _ _ _,cT (H.big c hc)⟩
theorem S1(H:Cs w p N cs){r:Int}(OX:r.natAbs<2 ^ 1000)(N1:¬ (p<w/\(∀c∈cs,c=0)/\r≠0)):∃T,cv T=false/\aM [.lst ((GU w p cs).map eR),eR (GK w p r)]=.ok (.f,T)/\aK [T,.lst ((GU w p cs).map eR),eR (GK w p r)]=.ok (.f,.bl true):=by
 have hw:=H.hw;have hl:=H.hl;obtain⟨K,k1,k2,k3,k4,hs⟩:=rK (w:=w) (p:=p) (by lia) (cs:=cs) (by lia) (r:=r) (fun x hx=>by
  rcases xQ hx with h|h
  ·exact H.big x h
  ·rw[p4 h];exact OX) N1
 refine⟨_,?_,hs,?_⟩
 ·rw[fT];simp only[flatDs,cv,WM,VH]
 ·have R7:cs.length<K.length:=by lia
  have Pn:=k2 _ (aW R7);have Nr:((K.take cs.length).map fun x=>-x).length=cs.length:=by
   rw[bh,UC];lia
  refine pj (w:=w) k3 Pn (by rw[Nr,bh]) (by rw[bh];lia) H.rows (aw _ _ _) (cT OX) (by lia) (fun x hx=>?_) ?_
  ·obtain⟨y,hy,e⟩:=m5 hx;rw[<-e,WN];exact k2 y (WX hy)
  ·refine TN fun k hk=>?_
   have hk:=TM.mp hk;rw[wG hk,show[GK w p r]=GU w p [r] from rfl,show(1:Nat)=(GU w p [r]).length from rfl,wG hk];by_cases J8:k=p
   ·rw[Tq J8,Tq J8,wF];have k4:=k4 (J8▸hk);have eK:K=K.take cs.length++[K.getD cs.length 0]:=by
     have:=VJ R7;rw[<-k1,XO]at this;rw[bL _ _ _ R7];exact this
    rw[eK,dot_snoc _ _ _ _ (by rw[UC];lia)]at k4;have e1:dot [r] [K.getD cs.length 0]=r*K.getD cs.length 0:=by
     unfold dot;show r*_+0=_;rw[Vt]
    rw[e1];lia
   ·rw[Tv J8,Tv J8]
theorem yn(H:Cs w p N cs)(QD:Bool)(h1:QD=true->cs=[]\/∃c,cs=[c]/\c≠0/\p<w)(h2:QD=false->0∈cs\/(p<w/\N∈cs/\-N∈cs)):∃T,fJ [.lst ((GU w p cs).map eR),.int (w:Int)]=.ok (.f,T)/\bC [T,.lst ((GU w p cs).map eR),.int (w:Int)]=.ok (.f,.str (if QD then gL else fA)):=by
 have hw:=H.hw;have hl:=H.hl;rcases A5 H with⟨r,r1,r2,r3,e⟩|⟨ns,n1,n2,n3,n4,n5,e⟩
 ·cases QD with
  |true=>
   refine⟨_,e,?_⟩;rw[Tq rfl];refine pk r1 (by lia) r2 H.rows (by rw[bh];lia) fun x hx=>?_
   obtain⟨c,hc,e2⟩:=m5 hx;rw[<-e2];exact r3 c hc
  |false=>
   exfalso;rcases h2 rfl with h|⟨hp,ha,hb⟩
   ·have h3:=r3 0 h;rw[lr _ _ (by rw[aw,r1]),aw,gT (g:=fun _=>0) fun k hk=>by
     rw[aN _ _ _ hk];split <;> exact U2 _,qf]at h3
    lia
   ·have h3:=r3 _ ha;have h4:=r3 _ hb;rw[qg hp _ r1]at h3 h4;rw[Int.neg_mul]at h4;lia
 ·cases QD with
  |false=>
   refine⟨_,e,?_⟩;rw[Tv TC];refine pq (by rw[bh,n1]) (by rw[bh];lia) H.rows (by lia) n2 n3 n4 ?_;rw[Fd w p];unfold GK;refine TN fun k hk=>?_
   have hk:=TM.mp hk;rw[wG hk];by_cases J8:k=p
   ·rw[Tq J8,Tq J8];exact n5 (J8▸hk)
   ·rw[Tv J8,Tv J8]
  |true=>
   exfalso;obtain⟨x,hx,SR⟩:=n4;rcases h1 rfl with h|⟨c,h,hc,hp⟩
   ·rw[h,Uq,XM]at n1;rw[n1]at hx;cases hx
   ·have n5:=n5 hp;rw[h,TY]at n1;obtain⟨y,rfl⟩:=List.length_eq_one_iff.mp n1;rw[T9]at hx;subst hx;have e1:dot [c] [x]=c*x:=by
     unfold dot;show c*_+0=_;rw[Vt]
    rw[h,e1]at n5;rcases Xe.mp n5 with h|h
    ·exact hc h
    ·lia
theorem y8(hw:w<=100)(h0:w=0->p=0)(hp:0<w->p<w)(x:Int):∃T,bG [.int (w:Int),.int (p:Int),.int x]=.ok (.f,T)/\cv T=true/\(p<w->T=eR (GK w p x)):=by
 by_cases hw0:w=0
 ·have hp0:=h0 hw0;subst hw0;subst hp0;exact⟨_,Fb x,rfl,fun h=>absurd h (by decide)⟩
 ·exact⟨_,E9 hw (hp (by lia)) x,cm _,fun _=>rfl⟩
end
theorem dr_b(d:List Int)(m:Int)(h:0<m):0<=dr d m/\dr d m<m:=by
 unfold dr;split
 ·exact xR _ _ h
 ·exact⟨Int.le_refl _,h⟩
theorem Gy:sv (.int 10) (.int 9)=.ok (.f,.int (10 ^ 9)):=DI 9 (by decide)
theorem Gz:sv (.int 10) (.int 8)=.ok (.f,.int (10 ^ 8)):=DI 8 (by decide)
theorem Fe:sv (.int 10) (.int 50)=.ok (.f,.int (10 ^ 50)):=DI 50 (by decide)
section
variable{w p:Nat}{N:Int}{cs:List Int}
theorem Ff(H:Cs w p N cs)(S0:D)(d:List Int)(bare:Bool)(way JC:Int)(B0:List D)(S2:Option R)(hz:w=0->p=0)(hp:0<w->p<w)
  (h0:way=0->∀c∈cs,c=0) (Jx:way≠0->0<way/\p<w/\∃c∈cs,c≠0)
  (d1:(bare&&decide (way<2))=true->cs=[]\/∃c,cs=[c]/\c≠0/\p<w) (d2:(bare&&decide (way<2))=false->0∈cs\/(p<w/\N∈cs/\-N∈cs)):
  ∃o,j5 [some (.f,S0),some (.l .f,.lst (d.map D.int)),some (.f,.int (w:Int)),some (.l .f,.lst ((GU w p cs).map eR)),some (.f,.bl bare),some (.f,.int (p:Int)),some (.f,.int N),some (.f,.int way),some (.f,.int JC),some (.f,.lst B0),S2,none,none]=.ok (.rt (o,.bl true)):=by
 have hw:=H.hw;have hb:=dr_b d (10 ^ 9) (by decide +kernel);have Jp:=jM d (10 ^ 9) (by decide +kernel);have e9:(10:Int) ^ 9=1000000000:=by decide +kernel
 have e8:(10:Int) ^ 8=100000000:=by decide +kernel
 have S3:(dr d (10 ^ 9)-10 ^ 8).natAbs<2 ^ 1000:=by
  have h2:4294967296<=(2:Nat) ^ 1000:=by decide +kernel
  refine Ts ?_ h2;rw[e9]at hb ⊢;rw[e8];lia
 generalize ht:dr d (10 ^ 9)-10 ^ 8=times at S3;obtain⟨T1,a1,f1,g1⟩:=y8 (w:=w) (p:=p) (by lia) hz hp times;obtain⟨T2,a2,f2,g2⟩:=y8 (w:=w) (p:=p) (by lia) hz hp N;have Np:N.natAbs<2 ^ 1000:=A4 H.hb ⟨1,.inr (.inr rfl),(Wc N).symm⟩;obtain⟨TA,wa,wb⟩:=yn H (bare&&decide (way<2)) d1 d2;obtain⟨TZ,z1,z2,z3⟩:=S1 H (r:=0) (by decide +kernel) (fun h=>h.2.2 rfl);have Nv:=yd w (by lia);rw[Fd w p]at Nv;have Nv:sI (.tup [.int 0]) (.int (w:Int))=.ok (.f,eR (GK w p 0)):=Nv;have fz:=cm (GK w p 0);have hflR:=eC (GU w p cs);generalize eR (GK w p 0)=EZ at z2 z3 Nv fz;have KU:way≠0->∃T,cv T=false/\aM [.lst ((GU w p cs).map eR),T1]=.ok (.f,T)/\aK [T,.lst ((GU w p cs).map eR),T1]=.ok (.f,.bl true):=fun h=>by
  obtain⟨_,h3,c,hc,K3⟩:=Jx h;rw[g1 h3];exact S1 H S3 fun h=>K3 (h.2.1 c hc)
 have L1:way=0->0<w->∃T,cv T=true/\aM [.lst ((GU w p cs).map eR),T2]=.ok (.f,T)/\aP [T,.int (p:Int),.int N,.int (w:Int)]=.ok (.f,.bl true):=fun h h3=>by
  rw[g2 (hp h3)];refine⟨_,?_,yX (by lia) (hp h3) (by have:=H.hl;lia) H.hN Np (h0 h),ye (aw _ _ _) (by lia) (hp h3) (by rw[aN _ _ _ (hp h3),Tq rfl];decide) H.hN⟩;rw[fT];simp only[flatDs,cm,cv,Ug]
 clear g1 g2;generalize (GU w p cs).map eR=RR at wa wb z2 z3 KU L1 hflR ⊢;have p9:=Gy;have p8:=Gz;have S4:=GQ d.dropLast;have S5:=GQ d;generalize hDD:d.dropLast.map D.int=DD at Jp S4;generalize B0=BB;unfold j5;rw[av (env':=[some (.f,S0),some (.l .f,.lst DD),some (.f,.int (w:Int)),some (.l .f,.lst RR),some (.f,.bl bare),some (.f,.int (p:Int)),some (.f,.int N),some (.f,.int way),some (.f,.int JC),some (.f,.lst BB),S2,some (.f,.int times),none]) (by
  rw[<-ht];generalize (10:Int) ^ 9=P9 at p9 Jp ⊢;generalize (10:Int) ^ 8=P8 at p8 ⊢;generalize d.map D.int=D0 at Jp S5 ⊢;simp only[pv,↓reduceIte,Nat.reduceAdd,Nat.reduceLT,Nat.reduceLeDiff,Nat.reduceEqDiff,op,p9,p8,Jp,S4,S5,dj,g9,g8,di,Hl,Hm,dh,cR,cS,GQ,Ug,Vq,Va])]
 rw[av (env':=[some (.f,S0),some (.l .f,.lst DD),some (.f,.int (w:Int)),some (.l .f,.lst RR),some (.f,.bl bare),some (.f,.int (p:Int)),some (.f,.int N),some (.f,.int way),some (.f,.int JC),some (.f,.lst BB),some (.f,T1),some (.f,.int times),none]) (by
  simp only[pv,↓reduceIte,Nat.reduceAdd,Nat.reduceLT,Nat.reduceLeDiff,Nat.reduceEqDiff,op,a1,f1])]
 have h3:∃o:O,(o=.l .f\/o=.f)/\HU (uF (GX (eBin KY (oVar 7) (oVal (eCon (.int 0))))) (oi (GX (cx aK (ag (oVal (cx aM (ag (oVar 3) (ag (oVar 10) au)))) (ag (oVar 3) (ag (oVar 10) au))))))) (dG (eCon (.bl false))) bQ [some (.f,S0),some (.l .f,.lst DD),some (.f,.int (w:Int)),some (.l .f,.lst RR),some (.f,.bl bare),some (.f,.int (p:Int)),some (.f,.int N),some (.f,.int way),some (.f,.int JC),some (.f,.lst BB),some (.f,T1),some (.f,.int times),none]=.ok (.nx [some (.f,S0),some (o,.lst DD),some (.f,.int (w:Int)),some (o,.lst RR),some (.f,.bl bare),some (.f,.int (p:Int)),some (.f,.int N),some (.f,.int way),some (.f,.int JC),some (.f,.lst BB),some (.f,T1),some (.f,.int times),none]):=by
  by_cases hy:way=0
  ·refine⟨.l .f,.inl rfl,?_⟩;have hd:decide (0<way)=false:=T5 (by lia);simp only[pv,↓reduceIte,Nat.reduceAdd,Nat.reduceLT,Nat.reduceLeDiff,Nat.reduceEqDiff,op,hd,gs]
  ·refine⟨.f,.inr rfl,?_⟩;have hd:decide (0<way)=true:=T6 (Jx hy).1;obtain⟨T,s1,s2,s3⟩:=KU hy;simp only[pv,↓reduceIte,Nat.reduceAdd,Nat.reduceLT,Nat.reduceLeDiff,Nat.reduceEqDiff,op,hd,s1,s2,s3,gu,Uw,AI,AJ,Uy,gs]
 obtain⟨o,ho,e3⟩:=h3;rw[av e3];rw[av (env':=[some (.f,S0),some (.f,.lst DD),some (.f,.int (w:Int)),some (.f,.lst RR),some (.f,.bl bare),some (.f,.int (p:Int)),some (.f,.int N),some (.f,.int way),some (.f,.int JC),some (.f,.lst BB),some (.f,T1),some (.f,.int times),none]) (by
  rcases ho with rfl|rfl
  ·simp only[pv,↓reduceIte,Nat.reduceAdd,Nat.reduceLT,Nat.reduceLeDiff,Nat.reduceEqDiff,op,Nv,fz,z1,z2,z3,gu,Uw,AI,AJ,Uy,gs]
  ·simp only[pv,↓reduceIte,Nat.reduceAdd,Nat.reduceLT,Nat.reduceLeDiff,Nat.reduceEqDiff,op,Nv,fz,z1,z2,z3,gu,Uw,AI,AJ,Uy,gs])]
 rw[av (env':=[some (.f,S0),some (.f,.lst DD),some (.f,.int (w:Int)),some (.f,.lst RR),some (.f,.bl bare),some (.f,.int (p:Int)),some (.f,.int N),some (.f,.int way),some (.f,.int JC),some (.f,.lst BB),some (.f,T2),some (.f,.int times),none]) (by
  simp only[pv,↓reduceIte,Nat.reduceAdd,Nat.reduceLT,Nat.reduceLeDiff,Nat.reduceEqDiff,op,a2,f2])]
 rw[av (env':=[some (.f,S0),some (.f,.lst DD),some (.f,.int (w:Int)),some (.f,.lst RR),some (.f,.bl bare),some (.f,.int (p:Int)),some (.f,.int N),some (.f,.int way),some (.f,.int JC),some (.f,.lst BB),some (.f,T2),some (.f,.int times),none]) (by
  by_cases hy:way=0
  ·have hd:(way==0)=true:=Ul.mpr hy;by_cases hw0:w=0
   ·have hd2:decide (0<(w:Int))=false:=T5 (by lia);simp only[pv,↓reduceIte,Nat.reduceAdd,Nat.reduceLT,Nat.reduceLeDiff,Nat.reduceEqDiff,op,hd,hd2,gs]
   ·have hd2:decide (0<(w:Int))=true:=T6 (by lia);obtain⟨T,s1,s2,s3⟩:=L1 hy (by lia);simp only[pv,↓reduceIte,Nat.reduceAdd,Nat.reduceLT,Nat.reduceLeDiff,Nat.reduceEqDiff,op,hd,hd2,s1,s2,s3,Uy,gs]
  ·have hd:(way==0)=false:=T4.mpr hy;simp only[pv,↓reduceIte,Nat.reduceAdd,Nat.reduceLT,Nat.reduceLeDiff,Nat.reduceEqDiff,op,hd,gs])]
 rw[av (env':=[some (.f,S0),some (.f,.lst DD),some (.f,.int (w:Int)),some (.f,.lst RR),some (.f,.bl bare),some (.f,.int (p:Int)),some (.f,.int N),some (.f,.int way),some (.f,.int JC),some (.f,.lst BB),some (.f,T2),some (.f,.int times),some (.f,.str fA)]) (by
  unfold fA;simp only[pv,↓reduceIte,Nat.reduceAdd,Nat.reduceLT,Nat.reduceLeDiff,Nat.reduceEqDiff,op])]
 rw[av (env':=[some (.f,S0),some (.f,.lst DD),some (.f,.int (w:Int)),some (.f,.lst RR),some (.f,.bl bare),some (.f,.int (p:Int)),some (.f,.int N),some (.f,.int way),some (.f,.int JC),some (.f,.lst BB),some (.f,T2),some (.f,.int times),some (.f,.str (if(bare&&decide (way<2)) then gL else fA))]) (by
  cases bare with
  |true=>
   cases hd:decide (way<2) with
   |true=>
    unfold gL;simp only[pv,↓reduceIte,Nat.reduceAdd,Nat.reduceLT,Nat.reduceLeDiff,Nat.reduceEqDiff,op,hd,Ug,Va]
   |false=>simp only[pv,↓reduceIte,Nat.reduceAdd,Nat.reduceLT,Nat.reduceLeDiff,Nat.reduceEqDiff,op,hd,VH,gs,Wm]
  |false=>simp only[pv,↓reduceIte,Nat.reduceAdd,Nat.reduceLT,Nat.reduceLeDiff,Nat.reduceEqDiff,op,WM,gs,Wm])]
 generalize (if(bare&&decide (way<2)) then gL else fA)=SS at wb ⊢;have S6:(SS==SS)=true:=T8 _;refine⟨.f,?_⟩;cases Rb:cv TA with
 |true=>simp only[pv,↓reduceIte,Nat.reduceAdd,Nat.reduceLT,Nat.reduceLeDiff,Nat.reduceEqDiff,op,wa,wb,Rb,S6]
 |false=>simp only[pv,↓reduceIte,Nat.reduceAdd,Nat.reduceLT,Nat.reduceLeDiff,Nat.reduceEqDiff,op,wa,wb,Rb,S6,gu,Uw,AI,AJ,gs]
end
theorem fil_ne(p:Nat):∀w,((List.range w).filter fun c=>!(p==c)).length=w-if p<w then 1 else 0
 | 0=>rfl
 |w+1=>by
  rw[V8,YZ,pC,fil_ne p w];by_cases h:p=w
  ·subst h;rw[Tv (UL _),Tq (UE _),List.filter_cons,T8];rfl
  ·have hb:(p==w)=false:=T4.mpr h;rw[List.filter_cons,hb];show _+1=_;by_cases h2:p<w
   ·rw[Tq h2,Tq (by lia)];lia
   ·rw[Tv h2,Tv (by lia)];lia
section
variable{w p:Nat}{N:Int}{cs:List Int}
theorem Fg(H:Cs w p N cs)(way:Int)(h0:way=0->∀c∈cs,c=0)(Jx:way≠0->0<way/\p<w/\∃c∈cs,c≠0):∃l:List Nat,(∀c∈l,c<w)/\l.Nodup/\(l.length:Int)=(w:Int)-(if decide (0<way) then 1 else 0)/\(way≠0->∀c∈l,c≠p)/\dk [.lst ((GU w p cs).map eR),.int (w:Int)]=.ok (.l .f,.lst ((l.map fun c=>GK w c 1).map eR)):=by
 have hw:=H.hw;have Np:N.natAbs<2 ^ 1000:=A4 H.hb ⟨1,.inr (.inr rfl),(Wc N).symm⟩;by_cases hy:way=0
 ·have hk:=m9 (w:=w) (by lia) (jO (w:=w) (p:=p) (h0 hy)) trivial;rw[jd]at hk;refine⟨List.range w,fun c hc=>TM.mp hc,List.nodup_range,?_,fun h=>absurd hy h,hk⟩;rw[hy,TR];show _=(w:Int)-0;lia
 ·obtain⟨y1,y2,c,hc,K3⟩:=Jx hy;obtain⟨L,l1,l2,l3,l4⟩:=yc (w:=w) (cs:=cs) H.hN Np y2 H.t3;have hk:=m9 (w:=w) (by lia) l1 l2;rw[l3]at hk;rcases l4 with⟨hz,_⟩|⟨_,x,hL⟩
  ·exact absurd (hz c hc) K3
  ·subst hL;have Lm:((List.range w).filter fun c=>!Kx (some (p,x)) c)=(List.range w).filter fun c=>!(p==c):=rfl
   rw[Lm]at hk;refine⟨_,fun c hc=>TM.mp ((VL.mp hc).1),List.nodup_range.filter _,?_,fun _ c hc e=>?_,hk⟩
   ·rw[fil_ne,Tq y2,T6 y1,Tq rfl];lia
   ·have:=(VL.mp hc).2;rw[e,T8]at this;cases this
theorem y9(S0:D)(DD RR BB:List D)(bare:Bool)(way JC:Int)(hw:w<=10)(Jx:way≠0->0<way/\p<w)(h0:way=0\/0<way):∀(l:List Nat) (t:Option R),(∀c∈l,c<w/\(way≠0->c≠p))->∃t',eD (aName 10) iZ ((l.map fun c=>GK w c 1).map eR) [some (.f,S0),some (.l .f,.lst DD),some (.f,.int (w:Int)),some (.l .f,.lst RR),some (.f,.bl bare),some (.f,.int (p:Int)),some (.f,.int N),some (.f,.int way),some (.f,.int JC),some (.f,.lst BB),t,none,none]=.ok (.nx [some (.f,S0),some (.l .f,.lst DD),some (.f,.int (w:Int)),some (.l .f,.lst RR),some (.f,.bl bare),some (.f,.int (p:Int)),some (.f,.int N),some (.f,.int way),some (.f,.int JC),some (.f,.lst BB),t',none,none])
 |[],t,_=>⟨t,rfl⟩
 |c::l,t,h=>by
  obtain⟨t',e⟩:=y9 S0 DD RR BB bare way JC hw Jx h0 l (some (.f,eR (GK w c 1))) fun d hd=>h d (Tn _ hd)
  refine⟨t',?_⟩;obtain⟨h1,h2⟩:=h c Tg;have ha:aName 10 (eR (GK w c 1)) [some (.f,S0),some (.l .f,.lst DD),some (.f,.int (w:Int)),some (.l .f,.lst RR),some (.f,.bl bare),some (.f,.int (p:Int)),some (.f,.int N),some (.f,.int way),some (.f,.int JC),some (.f,.lst BB),t,none,none]=.ok [some (.f,S0),some (.l .f,.lst DD),some (.f,.int (w:Int)),some (.l .f,.lst RR),some (.f,.bl bare),some (.f,.int (p:Int)),some (.f,.int N),some (.f,.int way),some (.f,.int JC),some (.f,.lst BB),some (.f,eR (GK w c 1)),none,none]:=rfl;have hr:=nv (aw w c 1) (by lia);have hb:iZ [some (.f,S0),some (.l .f,.lst DD),some (.f,.int (w:Int)),some (.l .f,.lst RR),some (.f,.bl bare),some (.f,.int (p:Int)),some (.f,.int N),some (.f,.int way),some (.f,.int JC),some (.f,.lst BB),some (.f,eR (GK w c 1)),none,none]=.ok (.nx [some (.f,S0),some (.l .f,.lst DD),some (.f,.int (w:Int)),some (.l .f,.lst RR),some (.f,.bl bare),some (.f,.int (p:Int)),some (.f,.int N),some (.f,.int way),some (.f,.int JC),some (.f,.lst BB),some (.f,eR (GK w c 1)),none,none]):=by
   unfold iZ;by_cases hy:way=0
   ·have hd:decide (0<way)=false:=T5 (by lia);generalize eR (GK w c 1)=EU at hr ⊢;simp only[pv,seval,op,hr,hd,Uy,gs]
   ·obtain⟨y1,y2⟩:=Jx hy;have hd:decide (0<way)=true:=T6 y1;have hi:=NM (r:=GK w c 1) (c:=p) (by rw[aw];exact y2);rw[aN _ _ _ y2,Tv (fun z=>h2 hy z.symm)]at hi;have h00:((0:Int)==0)=true:=rfl;generalize eR (GK w c 1)=EU at hr hi ⊢;simp only[pv,seval,op,hr,hd,hi,h00,Uy,gs]
  rw[gu,gu,dg,ha,Hw,hb,Hw];exact e
theorem Fh(H:Cs w p N cs)(S0:D)(d:List Int)(bare:Bool)(way JC:Int)(hz:w=0->p=0)(hp:0<w->p<w)
  (h0:way=0->∀c∈cs,c=0) (Jx:way≠0->0<way/\p<w/\∃c∈cs,c≠0)
  (d1:(bare&&decide (way<2))=true->cs=[]\/∃c,cs=[c]/\c≠0/\p<w) (d2:(bare&&decide (way<2))=false->0∈cs\/(p<w/\N∈cs/\-N∈cs)):
  ∃o,sSeq (cp 9 (cx dk (ag (oVal (aZ pP (ag (oVar 3) au))) (ag (oVar 2) au)))) (sSeq (HU (KA (oi (GX (Ma "list" (oVar 9)))) (KA (GX (aB Hz (oVal (aZ cZ (ag (oVar 9) au))) (oVal (eBin om (oVar 2) (oVal (aZ A8 (ag (oVal (eBin KY (oVar 7) (oVal (eCon (.int 0))))) au))))))) (GX (aB Hz (oVal (cx cD (ag (oVar 9) au))) (oVal (aZ cZ (ag (oVar 9) au))))))) (dG (eCon (.bl false))) bQ) (sSeq pX j5)) [some (.f,S0),some (.l .f,.lst (d.map D.int)),some (.f,.int (w:Int)),some (.l .f,.lst ((GU w p cs).map eR)),some (.f,.bl bare),some (.f,.int (p:Int)),some (.f,.int N),some (.f,.int way),some (.f,.int JC),none,none,none,none]=.ok (.rt (o,.bl true)):=by
 have hw:=H.hw;obtain⟨l,l1,l2,l3,l4,hk⟩:=Fg H way h0 Jx;have hll:l.length<=10:=by split at l3 <;> lia
 have hr:=Du (w:=w) (by lia) l l1 l2 (by lia);obtain⟨t',Lo⟩:=y9 (N:=N) S0 (d.map D.int) ((GU w p cs).map eR) ((l.map fun c=>GK w c 1).map eR) bare way JC hw (fun h=>⟨(Jx h).1,(Jx h).2.1⟩) (by
  by_cases h:way=0
  ·exact .inl h
  ·exact .inr (Jx h).1) l none fun c hc=>⟨l1 c hc,fun h=>l4 h c hc⟩
 obtain⟨o,e⟩:=Ff H S0 d bare way JC ((l.map fun c=>GK w c 1).map eR) t' hz hp h0 Jx d1 d2;have hf:=eC (l.map fun c=>GK w c 1);have O0:cZ [.lst ((l.map fun c=>GK w c 1).map eR)]=.ok (.f,.int ((w:Int)-(if decide (0<way) then 1 else 0))):=by
  rw[<-l3];show Res.ok (O.f,D.int ((((l.map fun c=>GK w c 1).map eR).length:Nat):Int))=_;rw[bh,bh]
 rw[l3]at hr;refine⟨o,?_⟩;rw[av (env':=[some (.f,S0),some (.l .f,.lst (d.map D.int)),some (.f,.int (w:Int)),some (.l .f,.lst ((GU w p cs).map eR)),some (.f,.bl bare),some (.f,.int (p:Int)),some (.f,.int N),some (.f,.int way),some (.f,.int JC),some (.l .f,.lst ((l.map fun c=>GK w c 1).map eR)),none,none,none]) (by
  generalize (GU w p cs).map eR=RR at hk ⊢;generalize (l.map fun c=>GK w c 1).map eR=BB at hk hf ⊢;generalize d.map D.int=DD;simp only[pv,seval,op,hk,hf])]
 rw[av (env':=[some (.f,S0),some (.l .f,.lst (d.map D.int)),some (.f,.int (w:Int)),some (.l .f,.lst ((GU w p cs).map eR)),some (.f,.bl bare),some (.f,.int (p:Int)),some (.f,.int N),some (.f,.int way),some (.f,.int JC),some (.l .f,.lst ((l.map fun c=>GK w c 1).map eR)),none,none,none]) (by
  have hi:pA "list" (.lst ((l.map fun c=>GK w c 1).map eR))=true:=rfl;have hoi:∀b:Bool,A8 [.bl b]=.ok (.f,.int (if b then 1 else 0)):=yN;generalize (GU w p cs).map eR=RR;generalize (l.map fun c=>GK w c 1).map eR=BB at O0 hr hi ⊢;generalize d.map D.int=DD;cases hd:decide (0<way) with
  |true=>
   rw[hd,Tq rfl]at O0 hr;have hq:((w:Int)-1==(w:Int)-1)=true:=T8 _;rw[Mo];generalize hX:(.lst BB:D)=XB at O0 hr hi ⊢;simp only[pv,seval,op,hi,O0,hr,hd,hq,Uy,gs,Va]
  |false=>
   rw[hd,Tv TC]at O0 hr;have hq:((w:Int)-0==(w:Int)-0)=true:=T8 _;rw[Mo];generalize hX:(.lst BB:D)=XB at O0 hr hi ⊢;simp only[pv,seval,op,hi,O0,hr,hd,hq,Uy,gs,Wm])]
 rw[av (env':=[some (.f,S0),some (.l .f,.lst (d.map D.int)),some (.f,.int (w:Int)),some (.l .f,.lst ((GU w p cs).map eR)),some (.f,.bl bare),some (.f,.int (p:Int)),some (.f,.int N),some (.f,.int way),some (.f,.int JC),some (.f,.lst ((l.map fun c=>GK w c 1).map eR)),t',none,none]) (by
  unfold pX;generalize (GU w p cs).map eR=RR at Lo ⊢;generalize (l.map fun c=>GK w c 1).map eR=BB at Lo ⊢;generalize d.map D.int=DD at Lo ⊢;generalize iZ=GG at Lo ⊢;simp only[pv,seval,op];exact Lo)]
 exact e
end
theorem x_eIns(i:Nat)(f g:FX)(env:PV.Env):eIns i f g env=if isLst env i then Res.bnd (f env) (f:=⟨fun p=>Res.bnd (g p.2) (f:=⟨fun q=>match q.2[i]?,p.1.2 with
 |some (some (.l .f,.lst ds)),.int k=>if ds.length<sizeLine/\0<=k/\k.toNat<=ds.length then .ok ((.f,.non),q.2.set i (some (.l .f,.lst (ds.take k.toNat++q.1.2::ds.drop k.toNat)))) else .bad
 |_,_=>.bad⟩)⟩) else .bad:=id rfl
theorem A6(rows:List (List Int)):Il (.lst (rows.map eR)) (.lst [])=.ok (.f,.bl rows.isEmpty):=by
 have hp:plainDs 39 (rows.map eR)=true:=by
  induction rows with
  |nil=>rfl
  |cons r rows ih=>
   rw[gu,plainDs,ih,Vp];show plainD 39 (.tup (r.map D.int))=true;rw[plainD];exact cE _ _
 unfold Il;rw[plainD,hp];cases rows <;> rfl
theorem Dx(w p n:Nat)(hw:w<=100):compL (aName 0) cYes (eBin sI (oVal (eTup (dsCons (eCon (.int 0)) dsNil))) (oVar 1)) ((List.range n).map fun(k:Nat)=>D.int (k:Int)) [none,some (.f,.int (w:Int))]=.ok ((GU w p (List.replicate n 0)).map eR):=by
 have hm:=yd w (by lia);rw[Fd w p]at hm;have hm:sI (.tup [.int 0]) (.int (w:Int))=.ok (.f,eR (GK w p 0)):=hm;have fz:=cm (GK w p 0);rw[cu (r:=fun _:Nat=>eR (GK w p 0)) (fun env=>∃t,env=[t,some (.f,.int (w:Int))]) (List.range n) ?_ _ ⟨none,rfl⟩]
 ·rw[List.map_const',TR];show _=Res.ok (((List.replicate n 0).map fun c=>GK w p c).map eR);rw[Xl,Xl]
 ·rintro k _ env ⟨t,rfl⟩;refine⟨[some (.f,.int (k:Int)),some (.f,.int (w:Int))],rfl,.f,[some (.f,.int (k:Int)),some (.f,.int (w:Int))],?_,_,rfl⟩;generalize eR (GK w p 0)=EZ at hm fz ⊢;simp only[pv,seval,op,hm,fz]
theorem Dy(w p k:Nat)(N:Int)(cs:List Int):((GU w p cs).map eR).take k++eR (GK w p N)::((GU w p cs).map eR).drop k=(GU w p (cs.take k++N::cs.drop k)).map eR:=by
 unfold GU;rw[Uh,Uh,gu,gu,YX,YX,YW,YW]
theorem A7(w p:Nat)(N:Int)(cs:List Int):(GU w p (cs++[N])).map eR=(GU w p cs).map eR++[eR (GK w p N)]:=by
 unfold GU;rw[Uh,Uh];rfl
section
variable{w p:Nat}{N:Int}
theorem Fi(S0:D)(DD:List D)(way:Int)(n k:Nat)(hw:w<=5)(hn:n<=10)(hk:k<=n)(hN:N≠0)(hb:N.natAbs<2 ^ 900)(hy:way=0\/(way=1\/way=2)/\p<w)(bare:Bool)(OW:bare=(n==0)):∃c1 cs:List Int,Cs w p N cs/\(way=0->∀c∈cs,c=0)/\(way≠0->0<way/\p<w/\∃c∈cs,c≠0)/\((bare&&decide (way<2))=true->cs=[]\/∃c,cs=[c]/\c≠0/\p<w)/\((bare&&decide (way<2))=false->0∈cs\/(p<w/\N∈cs/\-N∈cs))/\
  HU (GX (eBin KY (oVar 7) (oVal (eCon (.int 0))))) (kx (eIns 3 (ax 8) (cx bG (ag (oVar 2) (ag (oVar 5) (ag (oVar 6) au)))))) bQ [some (.f,S0),some (.l .f,.lst DD),some (.f,.int (w:Int)),some (.l .f,.lst ((GU w p (List.replicate n 0)).map eR)),some (.f,.bl bare),some (.f,.int (p:Int)),some (.f,.int N),some (.f,.int way),some (.f,.int (k:Int)),none,none,none,none]=.ok (.nx [some (.f,S0),some (.l .f,.lst DD),some (.f,.int (w:Int)),some (.l .f,.lst ((GU w p c1).map eR)),some (.f,.bl bare),some (.f,.int (p:Int)),some (.f,.int N),some (.f,.int way),some (.f,.int (k:Int)),none,none,none,none])/\
  HU (GX (aB Il (oVar 7) (oVal (eCon (.int 2))))) (kx (yD 3 (cx bG (ag (oVar 2) (ag (oVar 5) (ag (oVal (eBin om (oVal (eCon (.int 0))) (oVar 6))) au)))))) bQ [some (.f,S0),some (.l .f,.lst DD),some (.f,.int (w:Int)),some (.l .f,.lst ((GU w p c1).map eR)),some (.f,.bl bare),some (.f,.int (p:Int)),some (.f,.int N),some (.f,.int way),some (.f,.int (k:Int)),none,none,none,none]=.ok (.nx [some (.f,S0),some (.l .f,.lst DD),some (.f,.int (w:Int)),some (.l .f,.lst ((GU w p cs).map eR)),some (.f,.bl bare),some (.f,.int (p:Int)),some (.f,.int N),some (.f,.int way),some (.f,.int (k:Int)),none,none,none,none]):=by
 have QF:∀c∈List.replicate n (0:Int),c=0:=fun c hc=>List.eq_of_mem_replicate hc
 have S7:bare=false->(0:Int)∈List.replicate n 0:=fun h=>by
  rw[OW]at h;exact List.mem_replicate.mpr ⟨T4.mp h,rfl⟩
 rcases hy with hy0|⟨hy,hp⟩
 ·refine⟨List.replicate n 0,List.replicate n 0,⟨by lia,by rw[TQ];lia,hN,hb,fun c hc h=>absurd (QF c hc) h,fun c hc=>⟨0,.inr (.inl rfl),by rw[QF c hc,U2]⟩⟩,fun _=>QF,fun h=>absurd hy0 h,fun h=>?_,fun h=>?_,?_,?_⟩
  ·rw[show decide (way<2)=true from T6 (by lia),Vp]at h;rw[OW]at h;rw[Ul.mp h];exact .inl rfl
  ·rw[show decide (way<2)=true from T6 (by lia),Vp]at h;exact .inl (S7 h)
  ·generalize (GU w p (List.replicate n 0)).map eR=RR;have hd:decide ((0:Int)<way)=false:=T5 (by lia);simp only[pv,seval,op,hd,gs]
  ·generalize (GU w p (List.replicate n 0)).map eR=RR;have hd:(way==2)=false:=T4.mpr (by lia);simp only[pv,seval,op,hd,gs]
 ·have h1:=E9 (w:=w) (by lia) hp N;have h2:=E9 (w:=w) (by lia) hp (0-N);have fl:=cm (GK w p N);have S8:=cm (GK w p (0-N));have hpos:decide (0<way)=true:=T6 (by lia);have LP:HU (GX (eBin KY (oVar 7) (oVal (eCon (.int 0))))) (kx (eIns 3 (ax 8) (cx bG (ag (oVar 2) (ag (oVar 5) (ag (oVar 6) au)))))) bQ [some (.f,S0),some (.l .f,.lst DD),some (.f,.int (w:Int)),some (.l .f,.lst ((GU w p (List.replicate n 0)).map eR)),some (.f,.bl bare),some (.f,.int (p:Int)),some (.f,.int N),some (.f,.int way),some (.f,.int (k:Int)),none,none,none,none]=.ok (.nx [some (.f,S0),some (.l .f,.lst DD),some (.f,.int (w:Int)),some (.l .f,.lst ((GU w p ((List.replicate n 0).take k++N::(List.replicate n 0).drop k)).map eR)),some (.f,.bl bare),some (.f,.int (p:Int)),some (.f,.int N),some (.f,.int way),some (.f,.int (k:Int)),none,none,none,none]):=by
   rw[<-Dy];have hz:((GU w p (List.replicate n 0)).map eR).length<sizeLine/\(0:Int)<=(k:Int)/\(k:Int).toNat<=((GU w p (List.replicate n 0)).map eR).length:=by
    refine⟨p5 (by rw[bh,bh,TQ];lia),by lia,?_⟩;rw[bh,bh,TQ];lia
   generalize (GU w p (List.replicate n 0)).map eR=RR at hz ⊢;generalize eR (GK w p N)=EN at h1 fl ⊢;simp only[pv,seval,op,hpos,x_eIns,h1,fl];rw[Tq hz];rfl
  have R8:∀c∈(List.replicate n (0:Int)).take k++N::(List.replicate n 0).drop k,c=0\/c=N:=fun c hc=>by
   rcases xQ hc with h|h
   ·exact .inl (QF c (WX h))
   ·rcases Tw.mp h with h|h
    ·exact .inr h
    ·exact .inl (QF c (List.mem_of_mem_drop h))
  have Rc:N∈(List.replicate n (0:Int)).take k++N::(List.replicate n 0).drop k:=Tp _ Tg;have Nv:(0:Int)∈List.replicate n 0->(0:Int)∈(List.replicate n (0:Int)).take k++N::(List.replicate n 0).drop k:=fun h=>by
   rw[<-List.take_append_drop k (List.replicate n (0:Int))]at h;rcases xQ h with h|h
   ·exact TB _ h
   ·exact Tp _ (Tn _ h)
  have hlen:((List.replicate n (0:Int)).take k++N::(List.replicate n 0).drop k).length=n+1:=by
   rw[pC,TK,UC,UY,TQ];lia
  have QH:n=0->(List.replicate n (0:Int)).take k++N::(List.replicate n 0).drop k=[N]:=fun h=>by
   subst h;rw[show List.replicate 0 (0:Int)=[] from rfl,XI,YT];rfl
  generalize (List.replicate n (0:Int)).take k++N::(List.replicate n 0).drop k=c1 at LP R8 Rc Nv hlen QH;have t0:∃t,T3 t/\(0:Int)=t*N:=⟨0,.inr (.inl rfl),(U2 _).symm⟩
  have t1:∃t,T3 t/\N=t*N:=⟨1,.inr (.inr rfl),(Wc _).symm⟩
  have t2:∃t,T3 t/\0-N=t*N:=⟨-1,.inl rfl,by lia⟩
  rcases hy with rfl|rfl
  ·refine⟨c1,c1,⟨by lia,by lia,hN,hb,fun _ _ _=>hp,fun c hc=>?_⟩,fun h=>absurd h (by decide),fun _=>⟨by decide,hp,N,Rc,hN⟩,fun h=>?_,fun h=>?_,LP,?_⟩
   ·rcases R8 c hc with rfl|rfl
    ·exact t0
    ·exact t1
   ·rw[show decide ((1:Int)<2)=true from rfl,Vp,OW]at h;exact .inr ⟨N,QH (Ul.mp h),hN,hp⟩
   ·rw[show decide ((1:Int)<2)=true from rfl,Vp]at h;exact .inl (Nv (S7 h))
   ·generalize (GU w p c1).map eR=RR;have hd:((1:Int)==2)=false:=rfl;simp only[pv,seval,op,hd,gs]
  ·refine⟨c1,c1++[0-N],⟨by lia,by rw[pC,TY];lia,hN,hb,fun _ _ _=>hp,fun c hc=>?_⟩,fun h=>absurd h (by decide),fun _=>⟨by decide,hp,N,TB _ Rc,hN⟩,fun h=>?_,fun h=>.inr ⟨hp,TB _ Rc,Tp _ (T9.mpr (by lia))⟩,LP,?_⟩
   ·rcases xQ hc with h|h
    ·rcases R8 c h with rfl|rfl
     ·exact t0
     ·exact t1
    ·rw[p4 h];exact t2
   ·rw[show decide ((2:Int)<2)=false from rfl,VH]at h;cases h
   ·rw[A7];have hz:((GU w p c1).map eR).length<sizeLine:=p5 (by rw[bh,bh];lia);have hd:((2:Int)==2)=true:=rfl;generalize (GU w p c1).map eR=RR at hz ⊢;generalize eR (GK w p (0-N))=EN at h2 S8 ⊢;simp only[pv,seval,op,hd,h2,S8,hz]
end
theorem law_plain(ns:List Int)(h:ns.length<=63):∃o,m_law [.lst (ns.map D.int)]=.ok (o,.bl true):=by
 obtain⟨d0,_,e0⟩:=vT ns h;generalize hS:(.lst (ns.map D.int):D)=S0 at e0;unfold m_law CN;rw[ba (h:=by rfl)];rw[av (env':=[some (.f,S0),some (.l .f,.lst (d0.map D.int)),none,none,none,none,none,none,none,none,none,none,none]) (by simp only[pv,↓reduceIte,Nat.reduceAdd,Nat.reduceLT,Nat.reduceLeDiff,Nat.reduceEqDiff,op,e0,dj,g9,g8,di,Hl,Hm,dh,cR,cS,GQ,Ug,Vq,Va])];have b1:=dr_b d0 6 (by decide);have c1:=jM d0 6 (by decide);obtain⟨w,hw⟩:=VU b1.1;rw[hw]at b1 c1;generalize d0.dropLast=d1 at c1;rw[av (env':=[some (.f,S0),some (.l .f,.lst (d1.map D.int)),some (.f,.int (w:Int)),none,none,none,none,none,none,none,none,none,none]) (by simp only[pv,↓reduceIte,Nat.reduceAdd,Nat.reduceLT,Nat.reduceLeDiff,Nat.reduceEqDiff,op,c1,dj,g9,g8,di,Hl,Hm,dh,cR,cS,GQ,Ug,Vq,Va])];have b2:=dr_b d1 10 (by decide);have c2:=jM d1 10 (by decide);obtain⟨n,hn⟩:=VU b2.1;rw[hn]at b2 c2;generalize d1.dropLast=d2 at c2;have hm:(0:Int)<if(1:Int)<(w:Int) then(w:Int) else 1:=by split <;> lia
 have b3:=dr_b d2 _ hm;have c3:=jM d2 _ hm;obtain⟨p,hp⟩:=VU b3.1;rw[hp]at b3 c3;have hz:w=0->p=0:=fun z=>by
  rw[Tv (by lia)]at b3;lia
 have S9:0<w->p<w:=fun z=>by
  split at b3 <;> lia
 clear b3 hm hp;generalize d2.dropLast=d3 at c3;have R9:=Dx w p n (by lia);have Ta:((GU w p (List.replicate n 0)).map eR).length<=sizeLine:=line_le (by rw[bh,bh,TQ];lia);have Tb:=eC (GU w p (List.replicate n 0));have LQ:=A6 (GU w p (List.replicate n 0));have OW:(GU w p (List.replicate n 0)).isEmpty=(n==0):=by
  cases n <;> rfl
 rw[OW]at LQ;have hlen:cZ [.lst ((GU w p (List.replicate n 0)).map eR)]=.ok (.f,.int (n:Int)):=by
  show Res.ok (O.f,D.int ((((GU w p (List.replicate n 0)).map eR).length:Nat):Int))=_;rw[bh,bh,TQ]
 rw[av (env':=[some (.f,S0),some (.l .f,.lst (d2.map D.int)),some (.f,.int (w:Int)),some (.l .f,.lst ((GU w p (List.replicate n 0)).map eR)),none,none,none,none,none,none,none,none,none]) (by
  have hr:-4611686018427387904<=(n:Int)/\(n:Int)<4611686018427387904:=by lia
  generalize (GU w p (List.replicate n 0)).map eR=RR at R9 Ta Tb ⊢;generalize (eBin sI (oVal (eTup (dsCons (eCon (.int 0)) dsNil))) (oVar 1))=FM at R9 ⊢;simp only[pv,↓reduceIte,Nat.reduceAdd,Nat.reduceLT,Nat.reduceLeDiff,Nat.reduceEqDiff,op,c2,dj,g9,g8,di,Hl,Hm,dh,cR,cS,GQ,Ug,Vq,Va,hr,Uk,R9,Ta,Tb,and_self])]
 rw[av (env':=[some (.f,S0),some (.l .f,.lst (d2.map D.int)),some (.f,.int (w:Int)),some (.l .f,.lst ((GU w p (List.replicate n 0)).map eR)),some (.f,.bl (n==0)),none,none,none,none,none,none,none,none]) (by
  generalize (GU w p (List.replicate n 0)).map eR=RR at LQ ⊢;simp only[pv,↓reduceIte,Nat.reduceAdd,Nat.reduceLT,Nat.reduceLeDiff,Nat.reduceEqDiff,op,LQ])]
 rw[av (env':=[some (.f,S0),some (.l .f,.lst (d3.map D.int)),some (.f,.int (w:Int)),some (.l .f,.lst ((GU w p (List.replicate n 0)).map eR)),some (.f,.bl (n==0)),some (.f,.int (p:Int)),none,none,none,none,none,none,none]) (by
  generalize (GU w p (List.replicate n 0)).map eR=RR;simp only[pv,↓reduceIte,Nat.reduceAdd,Nat.reduceLT,Nat.reduceLeDiff,Nat.reduceEqDiff,op,c3,dj,g9,g8,di,Hl,Hm,dh,cR,cS,GQ,Ug,Vq,Va])]
 have Tc:=Fe;have Td:(0:Int)<10 ^ 50:=by decide +kernel
 have b4:=dr_b d3 _ Td;have c4:=jM d3 _ Td;have Rf:∃N0:Int,1+dr d3 (10 ^ 50)=N0/\N0≠0/\N0.natAbs<2 ^ 900:=by
  refine⟨_,rfl,by lia,?_⟩;have hc:(1+dr d3 (10 ^ 50)).natAbs<=10 ^ 50:=by
   have:((10 ^ 50:Nat):Int)=10 ^ 50:=by decide +kernel
   lia
  exact U5 hc (by decide +kernel)
 obtain⟨N0,Rf,Te,Np⟩:=Rf;clear b4;generalize d3.dropLast=d4 at c4;rw[av (env':=[some (.f,S0),some (.l .f,.lst (d4.map D.int)),some (.f,.int (w:Int)),some (.l .f,.lst ((GU w p (List.replicate n 0)).map eR)),some (.f,.bl (n==0)),some (.f,.int (p:Int)),some (.f,.int N0),none,none,none,none,none,none]) (by
  rw[<-Rf];generalize (GU w p (List.replicate n 0)).map eR=RR;generalize (10:Int) ^ 50=P50 at Tc c4 ⊢;simp only[pv,↓reduceIte,Nat.reduceAdd,Nat.reduceLT,Nat.reduceLeDiff,Nat.reduceEqDiff,op,Tc,c4,dj,g9,g8,di,Hl,Hm,dh,cR,cS,GQ,Ug,Vq,Va])]
 clear Rf c4;have h2:∃N:Int,N≠0/\N.natAbs<2 ^ 900/\HU (GX (aB Il (oVal (eFunW (.l .f) aY 1 (ag (oVar 1) (ag (oVal (eCon (.int 2))) au)))) (oVal (eCon (.int 1))))) (cp 6 (eBin om (oVal (eCon (.int 0))) (oVar 6))) bQ [some (.f,S0),some (.l .f,.lst (d4.map D.int)),some (.f,.int (w:Int)),some (.l .f,.lst ((GU w p (List.replicate n 0)).map eR)),some (.f,.bl (n==0)),some (.f,.int (p:Int)),some (.f,.int N0),none,none,none,none,none,none]=.ok (.nx [some (.f,S0),some (.l .f,.lst (d4.dropLast.map D.int)),some (.f,.int (w:Int)),some (.l .f,.lst ((GU w p (List.replicate n 0)).map eR)),some (.f,.bl (n==0)),some (.f,.int (p:Int)),some (.f,.int N),none,none,none,none,none,none]):=by
  have c5:=jM d4 2 (by decide);generalize (GU w p (List.replicate n 0)).map eR=RR;cases hq:dr d4 2==1 with
  |true=>
   refine⟨0-N0,by lia,?_,?_⟩
   ·rw[show 0-N0 = -N0 by lia,WN];exact Np
   ·simp only[pv,↓reduceIte,Nat.reduceAdd,Nat.reduceLT,Nat.reduceLeDiff,Nat.reduceEqDiff,op,c5,hq,dj,g9,g8,di,Hl,Hm,dh,cR,cS,GQ,Ug,Vq,Va]
  |false=>
   refine⟨N0,Te,Np,?_⟩;simp only[pv,↓reduceIte,Nat.reduceAdd,Nat.reduceLT,Nat.reduceLeDiff,Nat.reduceEqDiff,op,c5,hq,dj,g9,g8,di,Hl,Hm,dh,cR,cS,GQ,Ug,Vq,Va,gs]
 obtain⟨N,hN,hNb2,e5⟩:=h2;rw[av e5];clear e5 Te Np;generalize d4.dropLast=d5;have b6:=dr_b d5 3 (by decide);have c6:=jM d5 3 (by decide);generalize hy0:dr d5 3=y0 at b6 c6;generalize d5.dropLast=d6 at c6;rw[av (env':=[some (.f,S0),some (.l .f,.lst (d6.map D.int)),some (.f,.int (w:Int)),some (.l .f,.lst ((GU w p (List.replicate n 0)).map eR)),some (.f,.bl (n==0)),some (.f,.int (p:Int)),some (.f,.int N),some (.f,.int y0),none,none,none,none,none]) (by
  generalize (GU w p (List.replicate n 0)).map eR=RR;simp only[pv,↓reduceIte,Nat.reduceAdd,Nat.reduceLT,Nat.reduceLeDiff,Nat.reduceEqDiff,op,c6,dj,g9,g8,di,Hl,Hm,dh,cR,cS,GQ,Ug,Vq,Va])]
 have h7:∃way:Int,(way=0\/(way=1\/way=2)/\p<w)/\HU (GX (aB Il (oVar 2) (oVal (eCon (.int 0))))) (cp 7 (eCon (.int 0))) bQ [some (.f,S0),some (.l .f,.lst (d6.map D.int)),some (.f,.int (w:Int)),some (.l .f,.lst ((GU w p (List.replicate n 0)).map eR)),some (.f,.bl (n==0)),some (.f,.int (p:Int)),some (.f,.int N),some (.f,.int y0),none,none,none,none,none]=.ok (.nx [some (.f,S0),some (.l .f,.lst (d6.map D.int)),some (.f,.int (w:Int)),some (.l .f,.lst ((GU w p (List.replicate n 0)).map eR)),some (.f,.bl (n==0)),some (.f,.int (p:Int)),some (.f,.int N),some (.f,.int way),none,none,none,none,none]):=by
  generalize (GU w p (List.replicate n 0)).map eR=RR;by_cases hw0:w=0
  ·refine⟨0,.inl rfl,?_⟩;have hq:((w:Int)==0)=true:=Ul.mpr (by lia);simp only[pv,↓reduceIte,Nat.reduceAdd,Nat.reduceLT,Nat.reduceLeDiff,Nat.reduceEqDiff,op,hq]
  ·refine⟨y0,?_,?_⟩
   ·have:=S9 (by lia);lia
   ·have hq:((w:Int)==0)=false:=T4.mpr (by lia);simp only[pv,↓reduceIte,Nat.reduceAdd,Nat.reduceLT,Nat.reduceLeDiff,Nat.reduceEqDiff,op,hq,gs]
 obtain⟨way,hway,e7⟩:=h7;rw[av e7];clear e7 hy0;have b8:=dr_b d6 ((n:Int)+1) (by lia);have c8:=jM d6 ((n:Int)+1) (by lia);obtain⟨k,hk⟩:=VU b8.1;rw[hk]at b8 c8;generalize d6.dropLast=d7 at c8;rw[av (env':=[some (.f,S0),some (.l .f,.lst (d7.map D.int)),some (.f,.int (w:Int)),some (.l .f,.lst ((GU w p (List.replicate n 0)).map eR)),some (.f,.bl (n==0)),some (.f,.int (p:Int)),some (.f,.int N),some (.f,.int way),some (.f,.int (k:Int)),none,none,none,none]) (by
  generalize (GU w p (List.replicate n 0)).map eR=RR at hlen ⊢;generalize hX:(.lst RR:D)=XR at hlen ⊢;simp only[pv,↓reduceIte,Nat.reduceAdd,Nat.reduceLT,Nat.reduceLeDiff,Nat.reduceEqDiff,op,hlen,c8,dj,g9,g8,di,Hl,Hm,dh,cR,cS,GQ,Ug,Vq,Va])]
 obtain⟨c1',cs,H,g1,g2,g3,g4,e9,e10⟩:=Fi (p:=p) (N:=N) S0 (d7.map D.int) way n k (by lia) (by lia) (by lia) hN hNb2 hway (n==0) rfl;rw[av e9,av e10];obtain⟨o,e⟩:=Fh H S0 d7 (n==0) way k hz S9 g1 g2 g3 g4;rw[e,Hw];exact⟨o,rfl⟩
end LW
namespace FIN
open PySem PySem.Spec PyProof.Rows L2 NX PV LW
theorem Dz{l:PySem.W.OpenLaw}{w:World}{K:W.Frag}{h:Heap}{mg:Str->Option Value}{fa f:Addr}{od an:Option Addr}{sl:Array (Option Value)}{oc kV dc pm cd ct:Value}(X:K.In h)(G:h.Ns mainGlobals mg)(Rb:mg "law" = some (.ref fa))
  (aL:PySem.W.nsIn K mainGlobals "law" = some (some (.ref f))) (lL:K.lookup f=some ⟨oc,od,.func (PySem.W.fnOf "law" "law" (fB mX) (cX mX) (defScope mX) .none kV dc pm an cd ct),sl⟩) (cL:PySem.W.codeIn K cd "law" = true) (kL:PySem.W.keepIn K (.ref f)=true)
  (Kj:Def K mg "product" kZ) (KL:Def K mg "summed" mQ) (HY:Def K mg "common_divisor" dD) (KN:Def K mg "lowest" mR) (Kk:Def K mg "cleared" k7) (IF:Def K mg "with_leader" fM) (Jd:Def K mg "leaders_of" gF) (Je:Def K mg "kernel_row" gG) (KO:Def K mg "kernel" mU) (IG:Def K mg "closing_row" fN) (Kl:Def K mg "spanned" k8) (IH:Def K mg "independent" fO) (Js:Def K mg "level_row" ic) (II:Def K mg "first_below" fP) (Lp:Def K mg "above" pY) (Iu:Def K mg "_law_numbers" eP) (Jt:Def K mg "_law_draw" ie) (Iv:Def K mg "_law_product" eQ) (JW:Def K mg "_law_sum" jr) (Jf:Def K mg "_law_whole" gH) (IJ:Def K mg "_law_is_row" fQ) (HN:Def K mg "_law_are_numbers" cQ) (Ju:Def K mg "_law_rank" ik) (IK:Def K mg "_law_walked" fR) (Km:Def K mg "_law_at" lg) (HS:Def K mg "_law_is_spanned" df) (HA:Def K mg "_law_is_not_spanned" ck)
  (Kg:PySem.W.nsIn K mainGlobals "abs" = some none) (Ks:PySem.W.nsIn K mainGlobals "bool" = some none) (Hg:PySem.W.nsIn K mainGlobals "enumerate" = some none) (Kh:PySem.W.nsIn K mainGlobals "int" = some none) (GS:PySem.W.nsIn K mainGlobals "isinstance" = some none) (GZ:PySem.W.nsIn K mainGlobals "len" = some none) (HL:PySem.W.nsIn K mainGlobals "list" = some none) (Lk:PySem.W.nsIn K mainGlobals "max" = some none) (He:PySem.W.nsIn K mainGlobals "range" = some none) (Ie:PySem.W.nsIn K mainGlobals "reversed" = some none) (Jb:PySem.W.nsIn K mainGlobals "sorted" = some none) (Jq:PySem.W.nsIn K mainGlobals "sum" = some none) (G9:PySem.W.nsIn K mainGlobals "tuple" = some none) (ID:PySem.W.nsIn K mainGlobals "zip" = some none):
  ∃fd:FuncData,(∀(s:Shared) (v:Value),BindsTo s fd ⟨[v],[]⟩ [("_law_script",v)])/\∀base:Heap,K.In base->base.Ns mainGlobals mg->FnOk l.prog w K mg base LM 9 fa fd ["_law_script"] (xv K):=by
 have e:=Rb.symm.trans (PySem.W.mg_of X G aL);cases e;have F:=yt (st:=mX) lL cL kL;have NP:=Um X G Kg;have y_bool:=Um X G Ks;have Iw:=Um X G Hg;have NQ:=Um X G Kh;have Hj:=Um X G GS;have HZ:=Um X G GZ;have Ku:=Um X G HL;have QJ:=Um X G Lk;have Ih:=Um X G He;have Le:=Um X G Ie;have Mr:=Um X G Jb;have Ms:=Um X G Jq;have HJ:=Um X G G9;have Lq:=Um X G ID;refine⟨PySem.W.fnOf "law" "law" (fB mX) (cX mX) (defScope mX) .none kV dc pm an cd ct,fun s v=>.of_eq rfl,fun base KB GB=>?_⟩;have Kn:Ct l.prog w K mg base "product" 1 (spF K cf):=sO Kj Ms Lq;have Mt:Ct l.prog w K mg base "summed" 1 (spF K fH):=vH KL Ih Ms HJ Lq;have H0:Ct l.prog w K mg base "common_divisor" 1 (spF K aV):=jq HY NP;have JX:Ct l.prog w K mg base "lowest" 2 (spF K cJ):=vI KN H0 HJ;have Ko:Ct l.prog w K mg base "cleared" 2 (spF K dw):=sQ Kk Mt HZ;have J9:Ct l.prog w K mg base "with_leader" 3 (spM K (.d) bU):=lB IF Ko JX;have Jg:Ct l.prog w K mg base "leaders_of" 4 (spF K bR):=mS Jd Ko JX J9 Iw HZ;have dA:Ct l.prog w K mg base "kernel_row" 3 (spM K (.d) aE):=mT Je H0 JX NP HJ;have KP:Ct l.prog w K mg base "kernel" 5 (spF K dk):=vJ KO dA Jg Ih;have IL:Ct l.prog w K mg base "closing_row" 5 (spF K bA):=lC IG dA Jg;have Jo:Ct l.prog w K mg base "spanned" 6 (spF K aM):=sR Kl IL KP Kn HZ Ku Ih HJ;have Ka:Ct l.prog w K mg base "independent" 7 (spF K bV):=lD IH Jo Iw;have KQ:Ct l.prog w K mg base "level_row" 6 (spF K bt):=oW Js IL;have Kb:Ct l.prog w K mg base "first_below" 2 (spF K bB):=lE II Kn Iw;have Nw:Ct l.prog w K mg base "above" 8 (spF K fJ):=xJ Lp Kb Ka KQ Jo HZ Mr Lq;have JY:Ct l.prog w K mg base "_law_numbers" 1 (spF K bY):=k9 Iu HZ Ku Le Ms;have KR:Ct l.prog w K mg base "_law_draw" 1 (spM K (.l .f) aY):=oY Jt;have JZ:Ct l.prog w K mg base "_law_product" 1 (spF K bf):=lb Iv HZ Ih;have J0:Ct l.prog w K mg base "_law_sum" 1 (spF K bZ):=pZ JW Ih HJ Lq;have Ii:Ct l.prog w K mg base "_law_whole" 1 (spF K a8):=mW Jf y_bool NQ Hj;have HW:Ct l.prog w K mg base "_law_is_row" 2 (spF K bg):=lG IJ Ii Hj HZ HJ;have HP:Ct l.prog w K mg base "_law_are_numbers" 2 (spF K aS):=ij HN Ii Hj HZ Ku;have KS:Ct l.prog w K mg base "_law_rank" 1 (spF K cD):=oZ Ju HZ Ih;have Kc:Ct l.prog w K mg base "_law_walked" 3 (spF K bC):=lI IK HP HW JZ J0 Hj HZ HJ;have LK:Ct l.prog w K mg base "_law_at" 1 (spF K bG):=sT Km;have Jh:Ct l.prog w K mg base "_law_is_spanned" 3 (spF K aK):=i8 HS HP J0 Ii Hj HZ HJ;have Ik:Ct l.prog w K mg base "_law_is_not_spanned" 3 (spF K aP):=gr HA HW Hj HZ HJ;exact(CP F LK KR Ik HW Jh JY KS Kc Nw KP Jo NQ Hj HZ Ku QJ Ih).imp (Cq law_plain)
end FIN
def PySem.W.Fast.tw1240536831314695846:=0
def PySem.W.Fast.tw17400386977459580153:=0
def PySem.W.Fast.tw5285487178907108139:=0
def PySem.W.Fast.tw9545984482874943379:=0
def PySem.W.Fast.tw17328273294138561735:=0
def PySem.W.Fast.tw156956771001204582:=0
def PySem.W.Fast.tw500903216521957896:=0
def PySem.W.Fast.tw15887618323163296487:=0
def PySem.W.Fast.tw1339767876580577407:=0
def PySem.W.Fast.tw14218333105471201273:=0
def PySem.W.Fast.tw8039183637059579883:=0
def PySem.W.Fast.tw1958670976214103926:=0
def PySem.W.Fast.tw13550434185350713012:=0
def PySem.W.Fast.tw15009127779308389447:=0
def PySem.W.Fast.tw6891730038843045480:=0
def PySem.W.Fast.tw4473120888381196507:=0
def PySem.W.Fast.tw15455368857239077415:=0
def PySem.W.Fast.tw18385582866107622422:=0
def PySem.W.Fast.tw6665846356591288808:=0
def PySem.W.Fast.tw3879451384043650458:=0
def PySem.W.Fast.tw9303263313445538386:=0
def PySem.W.Fast.tw7186707526281180433:=0
def PySem.W.Fast.tw1337090859531005034:=0
def PySem.W.Fast.tw1506811161450172813:=0
def PySem.W.Fast.tw9030635886911304309:=0
def PySem.W.Fast.tw334828542503137074:=0
def PySem.W.Fast.tw9986942211953954713:=0
open PySem PySem.W PyProof.Rows
set_option maxRecDepth 100000 in
set_option maxHeartbeats 0 in
theorem PySem.Challenge.cw_netfinder_k45_rows_of_no_width_holds : PySem.Challenge.rw_netfinder_k45_rows_of_no_width.Holds := by
  w_on; o_law; k_head; (case hw => w_witness2)
  k_fill
  refine PV.Gk (l := PySem.Challenge.rw_netfinder_k45_rows_of_no_width) (k := 9) (x := "_law_script") rfl rfl ⟨rfl, by decide, by decide⟩ (fun w h Y => PySem.W.kIn_of Y) ?F
  case F =>
    intro w mg fa h KX G PD
    refine' FIN.Dz KX G PD ?aL ?lL ?cL ?kL ?Kj ?KL ?HY ?KN ?Kk ?IF ?Jd ?Je ?KO ?IG ?Kl ?IH ?Js ?II ?Lp ?Iu ?Jt ?Iv ?JW ?Jf ?IJ ?HN ?Ju ?IK ?Km ?HS ?HA ?Kg ?Ks ?Hg ?Kh ?GS ?GZ ?HL ?Lk ?He ?Ie ?Jb ?Jq ?G9 ?ID
    (case aL => k_is); (case lL => k_is); (case cL => k_is); (case kL => k_is)
    iterate 27 (refine' PV.Cu KX G ?a ?l ?c ?k; (case a => k_is); (case l => k_is); (case c => k_is); (case k => k_is))
    iterate 14 k_is
