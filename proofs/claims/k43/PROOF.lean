import PyProof.Rows.All
import Wide.All
import OpenK.AllK
import Wide.FinOn
import Lean
import PyProof.EqAt
import PyProof.EqKinds
import PyProof.TupleCall
import PySem.Challenge.RW_netfinder_k43_above_or_not
set_option Elab.async false
set_option linter.all false
set_option maxRecDepth 100000
set_option compiler.extract_closed false
set_option bootstrap.genMatcherCode false
noncomputable section
theorem Zv{a b:Prop}(x:a)(y:b):a∧b:=⟨x,y⟩
def UQ:=@List.getD_eq_getElem?_getD
def UR:=@PySem.wpAny_bind
def US:=@List.getElem?_eq_getElem
def UT:=@List.size_toArray
def UW:=@PySem.Heap.get?_push_of_some
def UX:=@List.mem_append_right
def UY:=@List.mem_cons_self
def UZ:=@Nat.le_refl
def U0:=@Nat.lt_of_lt_of_le
def U1:=@List.getElem?_eq_some_iff
def U2:=@if_pos
def U3:=@List.mem_cons_of_mem
def U4:=@List.mem_append_left
def U5:=@PySem.Heap.lt_size
def U6:=@List.mem_cons
def U7:=@Bool.false_ne_true
def U8:=@List.length_map
def U9:=@if_neg
def Va:=@PySem.wpAny_pure
def Vb:=@List.length_cons
def Ve:=@Bool.and_eq_true
def Vf:=@Nat.ne_of_lt
def Vg:=@List.getElem?_map
def Vh:=@PySem.Heap.get?_push_size
def Vi:=@List.length_range
def Vj:=@Nat.not_lt_zero
def Vk:=@Classical.byContradiction
def Vl:=@decide_eq_true_eq
def Vm:=@List.map_map
def Vn:=@beq_eq_false_iff_ne
def Vo:=@List.map_cons
def Vp:=@List.mem_append
def Vq:=@Nat.le_trans
def Vr:=@Bool.and_self
def Vs:=@List.nodup_append
def Vt:=@List.map_append
def Vu:=@List.append_nil
def Vv:=@List.lookup_cons
def Vx:=@Int.mul_zero
def Vy:=@Option.some.inj
def Vz:=@List.length_singleton
def VA:=@List.all_eq_true
def VB:=@Nat.lt_succ_self
def VC:=@List.mem_singleton
def VD:=@beq_iff_eq
def VE:=@List.length_take
def VF:=@Int.mul_assoc
def VG:=@decide_eq_false
def VH:=@Nat.zero_le
def VI:=@List.length_set
def VJ:=@decide_eq_false_iff_not
def VL:=@decide_eq_true
def VM:=@Int.mul_comm
def VN:=@List.length_append
def VO:=@PySem.W.mg_none_of
def VP:=@List.nodup_cons
def VQ:=@Bool.eq_iff_iff
def VR:=@PySem.PassesOwn.never
def VS:=@Int.mul_eq_zero
def VT:=@List.getElem_of_mem
def VU:=@List.mem_of_getElem?
def VV:=@Int.toNat_natCast
def VW:=@List.eq_nil_of_length_eq_zero
def VX:=@Nat.lt_of_le_of_lt
def VY:=@List.map_congr_left
def VZ:=@List.drop_eq_getElem_cons
def V0:=@beq_self_eq_true
def V1:=@List.not_mem_nil
def V2:=@List.append_assoc
def V3:=@List.length_nil
def V4:=@PySem.Heap.size_push
def V5:=@Int.natAbs_natCast
def V6:=@List.map_nil
def V7:=@congrArg
def V8:=@List.mem_range
def V9:=@Int.mul_left_comm
def Wa:=@List.getElem?_set_self
def Wb:=@List.take_of_length_le
def Wc:=@PyProof.Rows.callWith_type1
def Wd:=@PySem.sizeLine_eq
def We:=@List.replicate_succ
def Wf:=@Int.add_zero
def Wg:=@Int.zero_mul
def Wh:=@Int.neg_mul
def Wi:=@PySem.wpAny_callSpecial?_slot
def Wj:=@Int.one_mul
def Wl:=@Option.map_eq_some_iff
def Wm:=@Nat.lt_irrefl
def Wn:=@Bool.true_and
def Wo:=@PySem.mem_of_lookup
def Wq:=@List.length_replicate
def Wr:=@PySem.AutoSeq1.wpAny_loadPart'
def Ws:=@PySem.wpAny_pyIter_tuple
def Wt:=@if_true
def Wu:=@PySem.wpAny_field
def Wv:=@List.length_zip
def Wx:=@List.nil_append
def Wy:=@Nat.mul_le_mul_right
def Wz:=@List.length_drop
def WA:=@List.set_set
def WB:=@List.take_succ_eq_append_getElem
def WC:=@PySem.Heap.get?_update_other
def WD:=@Ne.symm
def WE:=@Array.length_toList
def WG:=@PySem.wpAny_pyIter_list
def WH:=@PyProof.Rows.slot_tuple_getitem
def WI:=@PySem.wpAny_newObj_type
def WJ:=@Nat.le_succ
def WK:=@List.getElem?_append_left
def WL:=@List.mem_filter
def WM:=@PySem.wpAny_Call_Name_kw
def WN:=@Option.isSome_iff_exists
def WO:=@List.pairwise_cons
def WQ:=@Nat.pow_le_pow_right
def WR:=@List.filter_cons_of_pos
def WS:=@List.filter_cons_of_neg
def WT:=@PySem.wpAny_seqItems
def WU:=@List.nodup_nil
def WV:=@Int.natAbs_mul
def WW:=@List.flatten_cons
def WX:=@PyProof.Rows.KeyOrd.kle_refl
def WY:=@PySem.W.kia_one
def WZ:=@Int.emod_nonneg
def W0:=@List.getElem?_append_right
def W2:=@PySem.F.slot_tuple_iterator_next
def W3:=@PySem.wpAny_call_entry
def W4:=@List.cons_append
def W5:=@List.drop_length
def W6:=@List.any_eq_true
def W7:=@Nat.le_of_lt
def W8:=@PySem.wpAny_setField_rec
def W9:=@List.mem_iff_getElem?
def Xa:=@List.length_filter_le
def Xb:=@List.getElem?_zip_eq_some
def Xc:=@PySem.wpAny_passesOwn
def Xd:=@List.of_mem_zip
def Xe:=@PySem.wpAny_comprehension_free
def Xf:=@Nat.lt_succ_of_lt
def Xg:=@List.all_cons
def Xh:=@PySem.F.plainAttrs_list
def Xi:=@Option.bind_eq_some_iff
def Xj:=@List.zipIdx_cons
def Xk:=@List.getElem_map
def Xl:=@Int.natAbs_neg
def Xm:=@List.find?_cons_of_pos
def Xn:=@List.find?_cons_of_neg
def Xo:=@List.filter_eq_nil_iff
def Xp:=@Bool.false_eq_true
def Xq:=@List.getElem_range
def Xr:=@Int.emod_lt_of_pos
def Xs:=@Nat.ne_of_gt
def Xt:=@PySem.wpAny_typeOf
def Xu:=@List.mem_map
def Xv:=@List.find?_cons
def Xw:=@List.all_map
def Xx:=@Nat.succ_pos
def Xy:=@Nat.pow_succ
def Xz:=@PySem.wpAny_mono
def XA:=@PySem.wpAny_truthy_bool
def XB:=@Nat.le_of_succ_le
def XC:=@Bool.eq_false_iff
def XD:=@Int.mul_lt_mul_of_pos_left
def XE:=@List.getElem?_set_ne
def XF:=@List.mem_of_mem_take
def XG:=@List.drop_zero
def XH:=@Bool.and_false
def XI:=@List.getElem_mem
def XJ:=@List.length_reverse
def XM:=@PySem.F.args_tuple_add_2
def XN:=@PySem.call_meets
def XO:=@List.any_map
def XQ:=@Nat.mul_comm
def XR:=@Nat.zero_add
def XS:=@Nat.lt_succ_iff_lt_or_eq
def XT:=@Int.mul_nonpos_of_nonneg_of_nonpos
def XU:=@Int.mul_nonpos_of_nonpos_of_nonneg
def XW:=@PySem.F.entry_tuple_add
def XX:=@PySem.wpAny_holding
def XY:=@PySem.tupleKind_room_in1
def XZ:=@List.getElem?_take
def X0:=@Int.eq_ofNat_of_zero_le
def X1:=@PySem.F.slot_tuple_add
def X2:=@PyProof.Rows.KeyOrd.kle_of_klt
def X3:=@List.any_eq_false
def X4:=@PySem.Heap.get?_update_self
def X5:=@List.getElem?_eq_none
def X6:=@Int.natAbs_dvd_natAbs
def X7:=@Nat.le_add_right
def X8:=@PyProof.Rows.KeyOrd.kle_trans
def X9:=@List.getElem_zip
def Ya:=@Int.mul_le_mul_of_nonneg_left
def Yb:=@PySem.wpAny_updateSeq_pair
def Yc:=@Int.mul_fdiv_cancel'
def Yd:=@PySem.Paired.length
def Ye:=@PySem.F.args_tuple_iterator_next_1
def Yf:=@or_false
def Yg:=@List.dropLast_cons_of_ne_nil
def Yh:=@Bool.not_true
def Yi:=@PySem.typeIs_int
def Yj:=@List.filterMap_cons
def Yk:=@PySem.wpAny_execs_nil
def Yl:=@Int.mul_one
def Ym:=@List.foldl_cons
def Yn:=@List.range_succ
def Yo:=@List.toList_toArray
def Yp:=@PySem.F.entry_tuple_iterator_next
def Yq:=@PySem.F.slot_zip_next
def Yr:=@Array.getD_eq_getD_getElem?
def Ys:=@PySem.F.slot_int_rmul
def Yt:=@PySem.wpAny_ite_split
def Yu:=@Nat.two_pow_pos
def Yv:=@PySem.Calls.Name_function_global
def Yw:=@PySem.F.args_tuple_mul_2
def Yx:=@Int.zero_add
def Yy:=@Int.lt_or_gt_of_ne
def Yz:=@Int.gcd_zero_right
def YA:=@decide_eq_true_iff
def YB:=@List.getElem?_eq_none_iff
def YC:=@Bool.false_and
def YD:=@PySem.Calls.call_function_entry
def YE:=@List.pairwise_iff_getElem
def YF:=@List.take_zero
def YG:=@PySem.wpAny_binaryOp_repeat_ref
def YH:=@Nat.mul_le_mul
def YI:=@List.mem_or_eq_of_mem_set
def YJ:=@PySem.wpAny_assign_Name
def YK:=@bne_self_eq_false
def YL:=@List.ext_getElem?
def YM:=@Option.isSome_map
def YN:=@of_decide_eq_true
def YO:=@PySem.F.entry_tuple_mul
def YQ:=@List.filterMap_cons_none
def YR:=@List.filterMap_cons_some
def YS:=@Bool.not_eq_true'
def YT:=@if_false
def YU:=@PySem.wpAny_onRaise
def YV:=@PySem.wpAny_letGo
def YW:=@List.not_lt
def YX:=@List.any_cons
def YY:=@Bool.and_true
def YZ:=@PySem.F.slot_list_index
def Y0:=@Int.mul_add
def Y1:=@List.pairwise_singleton
def Y2:=@PySem.noFill_tuple_add
def Y3:=@List.take_length
def Y4:=@PySem.F.slot_tuple_mul
def Y5:=@List.ext_getElem
def Y6:=@Int.neg_fmod_neg
def Y7:=@PySem.W.cellsFrom_some
def Zc:=@List.Perm.append_right
def Ze:=@Nat.div_div_eq_div_mul
def Zf:=@Nat.le_mul_of_pos_left
def Zg:=@Nat.lt_of_succ_lt_succ
def Zh:=@List.getElem_replicate
def Zj:=@PySem.concat_meets
def Zk:=@Array.getElem?_toList
def Zl:=@Nat.succ_mul
def Zm:=@Nat.le_of_eq
def Zn:=@List.forIn_cons
def Zo:=@Bool.or_eq_true
def Zq:=@PySem.wpAny_specialOf
def Zr:=@PySem.pushCells_keeps
def Zs:=@List.Perm.append_left
def Zt:=@List.perm_append_comm
def Zu:=@Classical.choose_spec
def Zw:=@List.all_nil
def Zx:=@Int.le_of_lt
def Zy:=@PySem.typeIs_str
def Zz:=@List.getElem_toArray
def ZA:=@List.getLast?_concat
def ZC:=@List.dropLast_concat
def ZD:=@List.replicate_succ'
def ZE:=@Nat.div_lt_of_lt_mul
def ZF:=@List.forIn_nil
def ZG:=@Int.natAbs_pos
def ZK:=@Nat.add_left_cancel
def ZM:=@List.take_succ_cons
def ZN:=@List.drop_succ_cons
def ZO:=@List.sum_append_int
def ZP:=@List.flatten_append
def ZQ:=@Nat.pow_le_pow_left
def ZR:=@Int.add_mul
def ZT:=@Int.le_refl
def ZX:=@List.mem_filterMap
def Z2:=@PySem.seq_tuple_add
def Z4:=@PySem.wpAny_standAt
def Z5:=@Bool.false_or
def Z8:=@of_decide_eq_false
def Z9:=@List.cons.inj
def aae:=@Nat.dvd_trans
def aaw:=@Nat.sub_zero
def aax:=@List.sum_nil
def aay:=@List.zip_map
def aaz:=@Nat.sub_self
def aaN:=@Eq.trans
namespace L2
open PySem PySem.Spec PyProof.Rows
def IsTupN(h:Heap)(a:Addr)(items:Array Value):Prop:=∃o,h.get? a=some o/\o.cls=.type "tuple"/\(∃n,o.data=.seq items n)/\o.dict=none
variable{h:Heap}{a:Addr}
theorem IsTupN.tup{items:Array Value}(p:IsTupN h a items):IsTup h a items:=by
 obtain⟨o,e,c,n,_⟩:=p;exact⟨o,e,c,n⟩
theorem IsTupN.new(h:Heap)(items:Array Value):IsTupN (h.push {cls:=.type "tuple",data:=.seq items}) h.objs.size items:=⟨_,Vh _ rfl,rfl,⟨_,rfl⟩,rfl⟩
abbrev Key:=Sum Int Str
def pA:Key->Value->Bool
 | .inl k,v=>Value.isInt k v
 | .inr x,v=>Value.isStrOf x v
def GI(w:World):Key->Int
 | .inl k=>hashInt k
 | .inr x=>hashStr w x
theorem bU:∀{k:Key}{v:Value},pA k v=true->(∃i t,k=Sum.inl i/\v=Value.int i t)\/(∃x t,k=Sum.inr x/\v=Value.str x t)
 | .inl i,v,h=>by
  obtain⟨t,e⟩:=Value.isInt_shape (k:=i) (v:=v) h;exact .inl ⟨i,t,rfl,e⟩
 | .inr x,v,h=>by
  obtain⟨t,e⟩:=Value.isStrOf_shape (x:=x) (v:=v) h;exact .inr ⟨x,t,rfl,e⟩
theorem tG(i:Int)(t:Tok):pA (.inl i) (.int i t)=true:=by simp[pA,Value.isInt]
theorem tH(x:Str)(t:Tok):pA (.inr x) (.str x t)=true:=by simp[pA,Value.isStrOf]
theorem BN(a b:Int):decide ((Sum.inl a:Key)=Sum.inl b)=(a==b):=by
 by_cases e:a=b
 ·subst e;simp
 ·have h:¬ (Sum.inl a:Key)=Sum.inl b:=fun q=>e (Sum.inl.inj q)
  rw[VG h];exact(Vn.mpr e).symm
theorem BO(a b:Str):decide ((Sum.inr a:Key)=Sum.inr b)=decide (a=b):=by
 by_cases e:a=b
 ·subst e;simp
 ·have h:¬ (Sum.inr a:Key)=Sum.inr b:=fun q=>e (Sum.inr.inj q)
  rw[VG h,VG e]
theorem BP(a:Int)(b:Str):decide ((Sum.inl a:Key)=Sum.inr b)=false:=VG (fun q=>nomatch q)
theorem BQ(a:Str)(b:Int):decide ((Sum.inr a:Key)=Sum.inl b)=false:=VG (fun q=>nomatch q)
noncomputable def mixKind(prog:Program)(w:World):PySem.KeyKind prog w Key where
 is:=pA
 hash:=GI w
 inj:=fun v a b ha hb=>by
  rcases bU ha with⟨i,t,rfl,rfl⟩|⟨x,t,rfl,rfl⟩
  ·rcases bU hb with⟨j,u,rfl,e⟩|⟨y,u,rfl,e⟩
   ·injection e with e1 _;rw[e1]
   ·exact nomatch e
  ·rcases bU hb with⟨j,u,rfl,e⟩|⟨y,u,rfl,e⟩
   ·exact nomatch e
   ·injection e with e1 _;rw[e1]
 byValue:=fun k v h=>by
  rcases bU h with⟨i,t,rfl,rfl⟩|⟨x,t,rfl,rfl⟩ <;> rfl
 pyHash:=fun hv h=>by
  rcases bU hv with⟨i,t,rfl,rfl⟩|⟨x,t,rfl,rfl⟩
  ·exact wpAny_pyHash_int h
  ·exact wpAny_pyHash_str h
 eqBool:=fun hu hv h=>by
  rcases bU hu with⟨i,t,rfl,rfl⟩|⟨x,t,rfl,rfl⟩
  ·rcases bU hv with⟨j,u,rfl,rfl⟩|⟨y,u,rfl,rfl⟩
   ·rw[BN]at h;exact wpAny_eqBool_int h
   ·rw[BP]at h;exact SeqAt.EqAt.int_str i t y u _ _ _ _ h
  ·rcases bU hv with⟨j,u,rfl,rfl⟩|⟨y,u,rfl,rfl⟩
   ·rw[BQ]at h;exact SeqAt.EqAt.str_int x t j u _ _ _ _ h
   ·rw[BO]at h;exact wpAny_eqBool_str h
 «strs»:=fun k x t v h=>by
  rcases bU h with⟨i,u,rfl,e⟩|⟨y,u,rfl,e⟩
  ·exact nomatch e
  ·injection e with e1 _;subst e1;cases v <;> rfl
theorem r6(prog:Program)(w:World)(k:Key)(v:Value):(mixKind prog w).is k v=pA k v:=rfl
theorem pB(prog:Program)(w:World)(i:Int)(t:Tok):(mixKind prog w).is (.inl i) (.int i t)=true:=tG i t
theorem pC(prog:Program)(w:World)(x:Str)(t:Tok):(mixKind prog w).is (.inr x) (.str x t)=true:=tH x t
inductive V where
 |non|bl (b:Bool)|int (i:Int)|str (x:Str)|byt (b:Array UInt8)|flt (b:UInt64)|ref (a:Addr)|ty (n:String)
 deriving DecidableEq
noncomputable def RelV:V->Value->Prop
 | .non,u=>u=Value.none
 | .bl b,u=>u=Value.bool b
 | .int i,u=>∃t,u=Value.int i t
 | .str x,u=>∃t,u=Value.str x t
 | .byt b,u=>∃t,u=Value.bytes b t
 | .flt b,u=>∃t,u=Value.float b t
 | .ref a,u=>u=Value.ref a
 | .ty n,u=>u=Value.type n
abbrev Vals:List V->List Value->Prop:=Paired RelV
theorem Vals.length{xs:List V}{us:List Value}(r:Vals xs us):xs.length=us.length:=Yd r
theorem Vals.get:∀{xs:List V}{us:List Value}{i:Nat}{x:V},Vals xs us->xs[i]?=some x->∃u,us[i]?=some u/\RelV x u
 |_,_,_,_,.nil,e=>by simp at e
 |_,_,0,_,.cons r _,e=>by simp at e;subst e;exact⟨_,rfl,r⟩
 |_,_,i+1,x,.cons _ t,e=>by
  obtain⟨u,h1,h2⟩:=Vals.get (i:=i) (x:=x) t (by simpa using e);exact⟨u,by simpa using h1,h2⟩
theorem Vals.set{x:V}{u:Value}(r:RelV x u):∀{xs:List V}{us:List Value}(i:Nat),Vals xs us->Vals (xs.set i x) (us.set i u)
 |_,_,_,.nil=>.nil
 |_,_,0,.cons _ t=>.cons r t
 |_,_,i+1,.cons q t=>.cons q (Vals.set r i t)
theorem Vals.append:∀{xs ys:List V}{us ws:List Value},Vals xs us->Vals ys ws->Vals (xs++ys) (us++ws)
 |_,_,_,_,.nil,s=>s
 |_,_,_,_,.cons r t,s=>.cons r (Vals.append t s)
theorem Vals.take:∀{xs:List V}{us:List Value}(n:Nat),Vals xs us->Vals (xs.take n) (us.take n)
 |_,_,0,_=>.nil
 |_,_,_+1,.nil=>.nil
 |_,_,n+1,.cons r t=>.cons r (Vals.take n t)
theorem Vals.drop:∀{xs:List V}{us:List Value}(n:Nat),Vals xs us->Vals (xs.drop n) (us.drop n)
 |_,_,0,r=>r
 |_,_,_+1,.nil=>.nil
 |_,_,n+1,.cons _ t=>Vals.drop n t
theorem Vals.none_of:∀{xs:List V}{us:List Value}{i:Nat},Vals xs us->xs[i]?=none->us[i]?=none:=fun{xs us i} r e=>by
 have h1:=r.length;have h2:xs.length<=i:=YB.mp e;exact YB.mpr (by lia)
def RelO:Option V->Option Value->Prop
 |some v,some u=>RelV v u
 |none,none=>True
 |_,_=>False
def KV{κ:Type}:List (κ×V)->List (κ×Value)->Prop:=Paired fun(p:κ×V) (q:κ×Value)=>p.1=q.1/\RelV p.2 q.2
def kV:Key->V
 | .inl i=>.int i
 | .inr x=>.str x
inductive HO where
 |lst (xs:List V)
 |tup (xs:List V)
 |dK (HS:List (Key×V))|dT (HS:List (List Key×V))
 |set (S:Int->Bool) (n:Nat)
 |ins (C dx:Addr) (fs:List (Str×V))
 |own (x:Addr)
 |xd (fs:List (Str×V))
 |met (f x:Addr)
 |rng (lo hi:Int)
 |frz (o:Obj) (u:HO)
 |tbl (ps:Array Value)
 |ext (φ:Heap->Prop)
abbrev Hp:=Addr->Option HO
def upd(H:Hp)(a:Addr)(o:HO):Hp:=fun b=>if b=a then some o else H b
variable{H:Hp}{o:HO}
theorem aH:upd H a o a=some o:=by unfold upd;rw[U2 rfl]
variable{b:Addr}
theorem aq(h:b≠a):upd H a o b=H b:=by unfold upd;rw[U9 h]
theorem EA{u:HO}(h:H a=some o)(h':H b=some u)(d:o≠u):a≠b:=by
 intro e;subst e;rw[h]at h';exact d (Vy h')
theorem aN(h:H a=some o)(h':H b=none):a≠b:=by
 intro e;subst e;rw[h]at h';cases h'
section
variable(P:Program)(w:World)
noncomputable def ObjOk(H:Hp)(h:Heap)(a:Addr):HO->Prop
 | .lst xs=>xs.length<=sizeLine/\∃(HX:List Value) (n:Nat),Vals xs HX/\h.get? a=some {cls:=.type "list",data:=.seq HX.toArray n}
 | .tup xs=>xs.length<=sizeLine/\∃HX:List Value,Vals xs HX/\IsTupN h a HX.toArray
 | .dK HS=>HS.length<=sizeLine/\(a==sysModules)=false/\∃vs,KV HS vs/\h.DictOf (mixKind P w) a vs
 | .dT HS=>HS.length<=sizeLine/\(a==sysModules)=false/\∃xs:List (List Key×Addr×Value),
   Paired (fun(p:List Key×V) (q:List Key×Addr×Value)=>p.1=q.1/\H q.2.1=some (.tup (p.1.map kV))/\RelV p.2 q.2.2) HS xs/\
   ∃o es ep,h.get? a=some o/\o.ExactDict/\o.data=.dict es ep/\es.toList=xs.map (entryOfKey (tupleKind (mixKind P w)))/\(xs.map (·.1)).Nodup
 | .set S n=>h.SetOf (intKind P w) a S n
 | .ins C dx fs=>H dx=some (.own a)/\fs.length<=1000/\dx≠a/\h.get? a=some (PySem.W.instObj C dx)/\
   ∃mA,h.Ns1 dx mA/\(∀f,RelO (fs.lookup f) (mA f))/\PySem.Within mA (fs.map (·.1))
 | .own _=>∃o,h.get? a=some o
 | .xd fs=>∃mA,h.Ns1 a mA/\∀f,RelO (fs.lookup f) (mA f)
 | .rng lo hi=>∃t u v,h.get? a=some {cls:=.type "range",data:=.fields #[.int lo t,.int hi u,.int 1 v]}
 | .frz o u=>h.get? a=some o/\ObjOk H h a u
 | .tbl ps=>h.get? a=some {cls:=.none,data:=.fields ps}
 | .met f x=>h.get? a=some (PySem.W.methodObj (.ref f) (.ref x))
 | .ext φ=>φ h/\(∃o,h.get? a=some o)/\∀h1 h2:Heap,φ h1->(∀o,h1.get? a=some o->h2.get? a=some o)->φ h2
def HOk(H:Hp)(h:Heap):Prop:=∀a o,H a=some o->ObjOk P w H h a o
end
variable{P:Program}{w:World}{H':Hp}{h':Heap}
section
theorem ObjOk.lt(x:ObjOk P w H h a o):a<h.objs.size:=by
 cases o with
 |lst xs=>obtain⟨_,_,_,_,e⟩:=x;exact U5 e
 |tup xs=>obtain⟨_,_,_,p⟩:=x;exact p.tup.lt
 |dK HS=>obtain⟨_,_,_,_,o,_,_,e,_⟩:=x;exact U5 e
 |dT HS=>obtain⟨_,_,_,_,o,_,_,e,_⟩:=x;exact U5 e
 |set S n=>obtain⟨o,_,_,_,e,_⟩:=x;exact U5 e
 |ins C dx fs=>obtain⟨_,_,_,e,_⟩:=x;exact U5 e
 |own y=>obtain⟨_,e⟩:=x;exact U5 e
 |xd fs=>obtain⟨_,⟨_,_,_,e,_⟩,_⟩:=x;exact U5 e
 |rng lo hi=>obtain⟨_,_,_,e⟩:=x;exact U5 e
 |frz ob u=>obtain⟨e,_⟩:=x;exact U5 e
 |tbl ps=>exact U5 (show h.get? a=some _ from x)
 |met f y=>exact U5 (show h.get? a=some _ from x)
 |ext φ=>obtain⟨_,⟨_,e⟩,_⟩:=x;exact U5 e
theorem Paired.mapP{α β:Type}{F G:α->β->Prop}:∀{l₁:List α}{l₂:List β},Paired F l₁ l₂->(∀a b,F a b->G a b)->Paired G l₁ l₂
 |_,_,.nil,_=>.nil
 |_,_,.cons r t,f=>.cons (f _ _ r) (Paired.mapP t f)
theorem ObjOk.stay(x:ObjOk P w H h a o)(k:∀b u,(b=a\/H b=some (.own a))->h.get? b=some u->h'.get? b=some u)
  (ho:∀b,H b=some (.own a)->H' b=some (.own a)) (ht:∀b xs,H b=some (.tup xs)->H' b=some (.tup xs)):ObjOk P w H' h' a o:=by
 induction o with
 |lst xs=>obtain⟨z,HX,n,r,e⟩:=x;exact⟨z,HX,n,r,k _ _ (.inl rfl) e⟩
 |tup xs=>obtain⟨z,HX,r,ob,e,c⟩:=x;exact⟨z,HX,r,ob,k _ _ (.inl rfl) e,c⟩
 |dK HS=>obtain⟨z,y,vs,r,ob,es,ep,e,c⟩:=x;exact⟨z,y,vs,r,ob,es,ep,k _ _ (.inl rfl) e,c⟩
 |dT HS=>
  obtain⟨z,y,xs,r,ob,es,ep,e,c⟩:=x;exact⟨z,y,xs,Paired.mapP r fun p q z=>⟨z.1,ht _ _ z.2.1,z.2.2⟩,ob,es,ep,k _ _ (.inl rfl) e,c⟩
 |set S n=>obtain⟨ob,es,ep,t,e,c⟩:=x;exact⟨ob,es,ep,t,k _ _ (.inl rfl) e,c⟩
 |ins C dx fs=>
  obtain⟨d,z,ne,e,mA,⟨od,es,ep,e2,c⟩,r⟩:=x;exact⟨ho _ d,z,ne,k _ _ (.inl rfl) e,mA,⟨od,es,ep,k _ _ (.inr d) e2,c⟩,r⟩
 |own y=>obtain⟨ob,e⟩:=x;exact⟨ob,k _ _ (.inl rfl) e⟩
 |xd fs=>obtain⟨mA,⟨od,es,ep,e,c⟩,r⟩:=x;exact⟨mA,⟨od,es,ep,k _ _ (.inl rfl) e,c⟩,r⟩
 |rng lo hi=>obtain⟨t,u,v,e⟩:=x;exact⟨t,u,v,k _ _ (.inl rfl) e⟩
 |frz ob u ih=>obtain⟨e,q⟩:=x;exact⟨k _ _ (.inl rfl) e,ih q⟩
 |tbl ps=>
  have e:h.get? a=some {cls:=.none,data:=.fields ps}:=x;show h'.get? a=some {cls:=.none,data:=.fields ps};exact k a _ (.inl rfl) e
 |met f y=>
  have e:h.get? a=some (PySem.W.methodObj (.ref f) (.ref y)):=x;show h'.get? a=some (PySem.W.methodObj (.ref f) (.ref y));exact k a _ (.inl rfl) e
 |ext φ=>obtain⟨p,⟨o,e⟩,st⟩:=x;exact⟨st _ _ p fun o q=>k _ _ (.inl rfl) q,⟨o,k _ _ (.inl rfl) e⟩,st⟩
theorem HOk.lt(x:HOk P w H h)(e:H a=some o):a<h.objs.size:=(x a o e).lt
theorem HOk.fresh(x:HOk P w H h)(e:h.objs.size<=a):H a=none:=by
 cases q:H a with
 |none=>rfl
 |some u=>exact absurd (U0 (x.lt q) e) (Wm _)
theorem HOk.kept(x:HOk P w H h)(k:∀b u,h.get? b=some u->h'.get? b=some u):HOk P w H h':=fun a o e=>
 (x a o e).stay (fun b u _ q=>k b u q) (fun _ q=>q) fun _ _ q=>q
theorem HOk.laid(x:HOk P w H h)(k:∀b u,h.get? b=some u->h'.get? b=some u)(hp:h.objs.size<=a)(new:ObjOk P w (upd H a o) h' a o):HOk P w (upd H a o) h':=fun b u e=>by
 have hn:=x.fresh hp;by_cases hb:b=a
 ·subst hb;rw[aH]at e;cases e;exact new
 ·rw[aq hb]at e;exact(x b u e).stay (fun c v _ q=>k c v q) (fun c q=>by rw[aq (aN q hn)];exact q) fun c xs q=>by rw[aq (aN q hn)];exact q
end
def Rd(H:Hp)(a:Addr)(u:HO):Prop:=H a=some u\/∃o,H a=some (.frz o u)
theorem Rd.ok{u:HO}(r:Rd H a u)(x:HOk P w H h):ObjOk P w H h a u:=by
 rcases r with r|⟨o,r⟩
 ·exact x a u r
 ·obtain⟨_,q⟩:=x a _ r;exact q
def Rh:Option HO->Prop
 |some (.lst _)=>True
 |some (.dK _)=>True
 |some (.dT _)=>True
 |some (.set _ _)=>True
 |some (.ins _ _ _)=>True
 |some (.ext _)=>True
 |_=>False
section
variable{x e:Addr}{o':HO}
theorem HOk.write(ok:HOk P w H h)(mu:Rh (H x))(he:e=x\/H e=some (.own x))(k:∀b u,b≠e->h.get? b=some u->h'.get? b=some u)(QL:∃u,h'.get? e=some u)
  (new:ObjOk P w (upd H x o') h' x o'):HOk P w (upd H x o') h':=fun b u q=>by
 have Ri:∀c y,H c=some (.own y)->c≠x:=fun c y r z=>by subst z;rw[r]at mu;exact mu
 have ntup:∀c xs,H c=some (.tup xs)->c≠x:=fun c xs r z=>by subst z;rw[r]at mu;exact mu
 by_cases hb:b=x
 ·subst hb;rw[aH]at q;cases q;exact new
 ·rw[aq hb]at q;by_cases hbe:b=e
  ·have q':H b=some (.own x):=by
    rcases he with z|z
    ·exact absurd (hbe.trans z) hb
    ·rw[hbe];exact z
   rw[q]at q';cases q';obtain⟨v,hv⟩:=QL;exact⟨v,by rw[hbe];exact hv⟩
  ·refine(ok b u q).stay (fun c v hc r=>k c v ?_ r) (fun c r=>by rw[aq (Ri c b r)];exact r) fun c xs r=>by rw[aq (ntup c xs r)];exact r
   rcases hc with rfl|hc
   ·exact hbe
   ·rintro rfl;rcases he with z|z
    ·exact Ri c b hc z
    ·rw[hc]at z;cases z;exact hb rfl
end
structure Un(fs ex:List Addr)(H H':Hp)(h h':Heap):Prop where
 keep:∀b o,h.get? b=some o->H b=none->b∉fs->b∉ex->h'.get? b=some o
 slot:∀b o,h.get? b=some o->H b=none->b∈fs->b∉ex->∃sl,h'.get? b=some {o with slots:=sl}
 free:∀b o,h.get? b=some o->H b=none->b∉ex->H' b=none
 there:∀b o,h.get? b=some o->b∉ex->∃o',h'.get? b=some o'
 tups:∀b xs,H b=some (.tup xs)->H' b=some (.tup xs)
 frzs:∀b o u,H b=some (.frz o u)->H' b=some (.frz o u)
 tbls:∀b ps,H b=some (.tbl ps)->∃more,H' b=some (.tbl (ps++more))
section
variable{fs fs' ex ex':List Addr}{H1 H2:Hp}{h1 h2:Heap}{x e:Addr}
theorem Un.any(u:Un fs ex H H1 h h1){ob:Obj}(q:h.get? b=some ob)(n:H b=none)(hx:b∉ex):∃sl,h1.get? b=some {ob with slots:=sl}:=by
 by_cases hb:b∈fs
 ·exact u.slot b ob q n hb hx
 ·exact⟨ob.slots,u.keep b ob q n hb hx⟩
theorem Un.kept(k:∀b u,h.get? b=some u->h'.get? b=some u):Un fs ex H H h h':=
 ⟨fun b ob q _ _ _=>k b ob q,fun b ob q _ _ _=>⟨ob.slots,k b ob q⟩,fun _ _ _ n _=>n,fun b ob q _=>⟨ob,k b ob q⟩,fun _ _ q=>q,fun _ _ _ q=>q,fun _ ps q=>⟨#[],by rw[q];simp⟩⟩
theorem Un.refl:Un fs ex H H h h:=Un.kept fun _ _ q=>q
theorem Un.laid(k:∀b u,h.get? b=some u->h'.get? b=some u)(hp:h.objs.size<=a)(hn:H a=none):Un fs ex H (upd H a o) h h' where
 keep:=fun b u q _ _ _=>k b u q
 slot:=fun b u q _ _ _=>⟨u.slots,k b u q⟩
 free:=fun b u q n _=>by rw[aq (Vf (U0 (U5 q) hp))];exact n
 there:=fun b u q _=>⟨u,k b u q⟩
 tups:=fun b xs q=>by rw[aq (aN q hn)];exact q
 frzs:=fun b u xs q=>by rw[aq (aN q hn)];exact q
 tbls:=fun b ps q=>⟨#[],by rw[aq (aN q hn),q];simp⟩
theorem Un.write(mu:Rh (H x))(he:e=x\/H e=some (.own x))(k:∀b u,b≠e->h.get? b=some u->h'.get? b=some u)(QL:∃u,h'.get? e=some u):Un fs ex H (upd H x o) h h':=by
 have hx:∀b,H b=none->b≠x:=fun b n z=>by subst z;rw[n]at mu;exact mu
 have hb:∀b,H b=none->b≠e:=fun b n z=>by
  subst z;rcases he with r|r
  ·exact hx b n r
  ·rw[n]at r;cases r
 have hm:∀b u,H b=some u->¬ Rh (some u)->b≠x:=fun b u q nm z=>by subst z;rw[q]at mu;exact nm mu
 refine⟨fun b u q n _ _=>k b u (hb b n) q,fun b u q n _ _=>⟨u.slots,k b u (hb b n) q⟩,fun b u q n _=>by rw[aq (hx b n)];exact n,fun b u q _=>?_,
  fun b xs q=>by rw[aq (hm b _ q fun z=>z)];exact q,fun b u xs q=>by rw[aq (hm b _ q fun z=>z)];exact q,fun b ps q=>⟨#[],by rw[aq (hm b _ q fun z=>z),q];simp⟩⟩
 by_cases hbe:b=e
 ·subst hbe;exact QL
 ·exact⟨u,k b u hbe q⟩
end
def trk(h:Heap)(H:Hp):List Addr:=(List.range h.objs.size).filter fun a=>(H a).isSome
def w6(h:Heap)(H:Hp):Heap:=PySem.W.hideAll h (trk h H)
theorem tJ(h:Heap)(H:Hp):(w6 h H).objs.size=h.objs.size:=PySem.W.hideAll_size _ _
theorem w9{o:Obj}(e:h.get? b=some o)(n:H b=none):(w6 h H).get? b=some o:=
 PySem.W.hideAll_get _ e fun hm=>by
  have q:(H b).isSome=true:=(WL.mp hm).2;rw[n]at q;simp at q
theorem zr{o:Obj}(e:(w6 h H).get? b=some o):h.get? b=some o/\H b=none:=by
 have e':h.get? b=some o:=PySem.W.of_hideAll (trk h H) e;refine⟨e',?_⟩;cases q:H b with
 |none=>rfl
 |some x=>
  have hm:b∈trk h H:=WL.mpr ⟨V8.mpr (U5 e'),by simp[q]⟩;have z:(w6 h H).get? b=none:=PySem.W.hideAll_none (trk h H) hm;rw[z]at e;cases e
def zt(g h:Heap)(L:Addr):List (Addr×Obj):=(List.range h.objs.size).filterMap fun a=>if a=L\/(g.get? a).isSome=true then none else(h.get? a).map fun o=>(a,o)
def aU(g h:Heap)(L d:Addr):List (Addr×Obj):=(zt g h L).filter fun p=>decide (p.1≠d)
structure Mod(K:W.Frag)(mg:Str->Option Value)(base:Heap):Prop where
 kin:K.In base
 glob:base.Ns mainGlobals mg
 blt:∃mb,base.Ns builtinsNs mb/\∀x:Str,x≠"__name__"->mb x=bootBuiltins x
 nolimit:base.NoLimit
structure Cx where
 prog:Program
 w:World
 K:W.Frag
 mg:Str->Option Value
 base:Heap
 A:Around
 N:List Str
 s₀:Shared
 H₀:Hp
 env:Env
 outer:List Env
 stack:List Env
 ex:List Addr
 fn:Str->Bool
 calm:Bool
 pn:List (Addr×Obj)
 xe:Value->Shared->Prop
def Mo(l:List Env):List Addr:=l.filterMap (·.frame)
abbrev Cx.fs(X:Cx):List Addr:=Mo X.outer
def SO(sc:Scope)(x:Str):Prop:=sc.names.lookup x=some .local\/sc.names.lookup x=some .cell\/sc.names.lookup x=some .free
def Loc(sc:Scope)(x:Str):Prop:=sc.names.lookup x=some .local\/sc.names.lookup x=some .cell
def Gg(sc:Scope)(x:Str):Bool:=match sc.names.lookup x with
 |some .local=>true
 |some .cell=>true
 |_=>false
variable{sc:Scope}{x:Str}
theorem lo(h:Gg sc x=true):Loc sc x:=by
 unfold Gg at h;split at h
 ·exact .inl (by assumption)
 ·exact .inr (by assumption)
 ·cases h

def GJ(env:Env)(h:Heap)(m:Str->Option Value)(x:Str)(u:Value):Prop:=
 (env.kindOf x=some .local/\m x=some u)\/((env.kindOf x=some .cell\/env.kindOf x=some .free)/\∃c,env.cells.lookup x=some c/\h.IsCell c (some u))
structure Cx.Ok(X:Cx):Prop where
 mod:Mod X.K X.mg X.base
 kind:X.env.scope.kind=.function
 glob:X.env.globals=mainGlobals
 blt:X.env.builtins=builtinsNs
 above:X.s₀.heap.objs.size<=X.env.locals
 inj:∀x y c,X.env.cells.lookup x=some c->X.env.cells.lookup y=some c->x=y
 has:∀x,(X.env.kindOf x=some .cell\/X.env.kindOf x=some .free)->∃c,X.env.cells.lookup x=some c
 cab:∀x c,X.fn x=true->X.env.cells.lookup x=some c->X.s₀.heap.objs.size<=c
 hd:X.calm=true->X.A.handled=none
 frames:X.A.frames=some X.stack
 stk:X.stack=X.outer\/(X.stack=X.env::X.outer/\X.env.frame=some X.env.locals)
 exf:∀b∈X.ex,b≠X.env.locals/\∀x c,X.env.cells.lookup x=some c->c≠b
 bs:∀b o,X.base.get? b=some o->X.s₀.heap.get? b=some o/\X.H₀ b=none
 bsz:X.base.objs.size<=X.s₀.heap.objs.size
 noex:∀b o,X.base.get? b=some o->b∉X.ex
 exfs:∀b∈X.ex,b∉X.fs
 funs:X.s₀.heap.FunFrames X.base X.outer
 frf:∀b∈X.fs,X.H₀ b=none
structure Inv(X:Cx)(pr:List (Addr×Obj))(σ:List (Option V))(H:Hp)(s:Shared):Prop where
 ok:X.Ok
 os:s.os=X.s₀.os
 bare:AllBare s.gens
 base:Un X.fs X.ex X.H₀ H X.s₀.heap s.heap
 loc:∃m,s.heap.Ns X.env.locals m/\∀(i:Nat) (x:Str) (v:V),X.N[i]?=some x->σ[i]?=some (some v)->SO X.env.scope x->∃u,RelV v u/\GJ X.env s.heap m x u
 cell:∀x c,X.env.cells.lookup x=some c->∃v,s.heap.IsCell c v
 free:H X.env.locals=none
 freeC:∀x c,X.env.cells.lookup x=some c->H c=none
 pin:∀p∈X.pn++pr,s.heap.get? p.1=some p.2/\H p.1=none/\p.1≠X.env.locals/\p.1∉X.fs/\∀v,p.2.data≠.cell v
 hok:HOk X.prog X.w H s.heap
 len:σ.length=X.N.length
variable{X:Cx}{pr:List (Addr×Obj)}{s s':Shared}{ch:List Addr}{N:List Str}{i:Nat}{v:V}{u:Value}
section
variable{σ:List (Option V)}
theorem Cx.Ok.nofr(ok:X.Ok){o:Obj}(e:X.base.get? b=some o):b∉X.fs:=fun hb=>by
 have:=(ok.funs.mem hb).1;rw[e]at this;cases this
theorem Inv.bs(I:Inv X pr σ H s):∀b o,X.base.get? b=some o->s.heap.get? b=some o/\H b=none:=fun b o e=>
 ⟨I.base.keep b o (I.ok.bs b o e).1 (I.ok.bs b o e).2 (I.ok.nofr e) (I.ok.noex b o e),I.base.free b o (I.ok.bs b o e).1 (I.ok.bs b o e).2 (I.ok.noex b o e)⟩
theorem Inv.bk(I:Inv X pr σ H s):∀b o,X.base.get? b=some o->s.heap.get? b=some o:=fun b o e=>(I.bs b o e).1
theorem Inv.mod(I:Inv X pr σ H s):Mod X.K X.mg X.base:=I.ok.mod
theorem Inv.kIn(I:Inv X pr σ H s):X.K.In s.heap:=I.ok.mod.kin.keeps I.bk
theorem Inv.lt(I:Inv X pr σ H s):X.env.locals<s.heap.objs.size:=let⟨_,hn,_⟩:=I.loc;hn.lt
theorem Inv.sz(I:Inv X pr σ H s):X.s₀.heap.objs.size<=s.heap.objs.size:=Vq I.ok.above (W7 I.lt)
theorem Inv.nofs(I:Inv X pr σ H s)(h:s.heap.objs.size<=a):a∉X.fs:=fun hb=>by
 obtain⟨_,o,ho,_⟩:=I.ok.funs.mem hb;exact absurd (U0 (U5 ho) (Vq I.sz h)) (Wm _)
theorem Inv.cne(I:Inv X pr σ H s):∀x c,X.env.cells.lookup x=some c->c≠X.env.locals:=fun x c e z=>by
 obtain⟨v,o,ho,hd⟩:=I.cell x c e;obtain⟨m,⟨o',es,ep,Ng,N7,_⟩,_⟩:=I.loc;rw[z,Ng]at ho;cases ho;rw[N7]at hd;cases hd
theorem Inv.funs(I:Inv X pr σ H s):s.heap.FunFrames X.base X.outer:=by
 have all:∀(l:List Env),(∀b∈Mo l,b∈X.fs)->X.s₀.heap.FunFrames X.base l->s.heap.FunFrames X.base l:=by
  intro l;induction l with
  |nil=>intro _ _;trivial
  |cons env r ih=>
   intro hs hl;obtain⟨hk,⟨L,o,hf,hn,ho,hd⟩,hr⟩:=hl;have hL:L∈X.fs:=hs L (by unfold Mo;rw[Yj,hf];exact UY);obtain⟨sl,e⟩:=I.base.slot L o ho (I.ok.frf L hL) hL fun z=>I.ok.exfs L z hL
   exact⟨hk,⟨L,_,hf,hn,e,hd⟩,ih (fun b hb=>hs b (by unfold Mo;rw[Yj,hf];exact U3 _ hb)) hr⟩
 exact all X.outer (fun _ hb=>hb) I.ok.funs
theorem Inv.stack(I:Inv X pr σ H s):s.heap.FunFrames X.base X.stack:=by
 rcases I.ok.stk with e|⟨e,hf⟩
 ·rw[e];exact I.funs
 ·rw[e];obtain⟨m,hn,_⟩:=I.loc;refine .cons (by rw[I.ok.kind];decide) hf hn ?_ I.funs;exact Heap.get?_none_of_le (Vq I.ok.bsz I.ok.above)
theorem Inv.stkSub(I:Inv X pr σ H s):∀b∈Mo X.stack,b∈X.env.locals::X.fs:=fun b hb=>by
 rcases I.ok.stk with e|⟨e,hf⟩
 ·rw[e]at hb;exact U3 _ hb
 ·rw[e]at hb;unfold Mo at hb;rw[Yj,hf]at hb;exact hb
theorem Inv.stkFree(I:Inv X pr σ H s):∀b∈Mo X.stack,H b=none:=fun b hb=>by
 rcases U6.mp (I.stkSub b hb) with e|hb
 ·rw[e];exact I.free
 ·obtain⟨_,o,ho,_⟩:=I.ok.funs.mem hb;exact I.base.free b o ho (I.ok.frf b hb) fun z=>I.ok.exfs b z hb
theorem Inv.step{g':Array GenState}{t':Nat}{d':Drawn}(I:Inv X pr σ H s)
  (Nb:∀b∈ch,(b∈X.ex\/X.s₀.heap.objs.size<=b)/\b≠X.env.locals/\(∀x c,X.env.cells.lookup x=some c->c≠b)/\∀p∈X.pn++pr,p.1≠b)
  (keep:∀b o,b≠X.env.locals->b∉X.fs->b∉ch->s.heap.get? b=some o->H b=none->h'.get? b=some o)
  (slot:∀b o,b≠X.env.locals->b∈X.fs->b∉ch->s.heap.get? b=some o->H b=none->∃sl,h'.get? b=some {o with slots:=sl}) (free:∀b o,b∉ch->s.heap.get? b=some o->H b=none->H' b=none)
  (there:∀b o,b∉ch->s.heap.get? b=some o->∃o',h'.get? b=some o')
  (tups:∀b xs,H b=some (.tup xs)->H' b=some (.tup xs)) (frzs:∀b o u,H b=some (.frz o u)->H' b=some (.frz o u)) (tbls:∀b ps,H b=some (.tbl ps)->∃more,H' b=some (.tbl (ps++more)))
  (ns:∀m,s.heap.Ns X.env.locals m->h'.Ns X.env.locals m) (hok:HOk X.prog X.w H' h') (hg:AllBare g'):
  Inv X pr σ H' {s with heap:=h',gens:=g',drawn:=d',toks:=t'}:=by
 have TV:∀b o,X.s₀.heap.get? b=some o->b≠X.env.locals:=fun b o e=>Vf (U0 (U5 e) I.ok.above)
 have Sj:∀b o,X.s₀.heap.get? b=some o->b∉X.ex->b∉ch:=fun b o e hx hb=>by
  rcases(Nb b hb).1 with z|z
  ·exact hx z
  ·exact absurd (U0 (U5 e) z) (Wm _)
 have cellK:∀x c,X.env.cells.lookup x=some c->∀v,s.heap.IsCell c v->h'.IsCell c v:=fun x c e v Ig=>by
  obtain⟨o,ho,hd⟩:=Ig;have Rj:c∉ch:=fun z=>(Nb c z).2.2.1 x c e rfl
  by_cases hc:c∈X.fs
  ·obtain⟨sl,q⟩:=slot c o (I.cne x c e) hc Rj ho (I.freeC x c e);exact⟨_,q,hd⟩
  ·exact⟨o,keep c o (I.cne x c e) hc Rj ho (I.freeC x c e),hd⟩
 refine⟨I.ok,I.os,hg,⟨fun b o e n hb hx=>?_,fun b o e n hb hx=>?_,fun b o e n hx=>?_,fun b o e hx=>?_,fun b xs e=>tups b xs (I.base.tups b xs e),fun b o xs e=>frzs b o xs (I.base.frzs b o xs e),fun b ps e=>?_⟩,?_,fun x c e=>?_,?_,fun x c e=>?_,fun p hp=>?_,hok,I.len⟩
 ·exact keep b o (TV b o e) hb (Sj b o e hx) (I.base.keep b o e n hb hx) (I.base.free b o e n hx)
 ·obtain⟨sl,e1⟩:=I.base.slot b o e n hb hx;obtain⟨sl',e2⟩:=slot b _ (TV b o e) hb (Sj b o e hx) e1 (I.base.free b o e n hx);exact⟨sl',e2⟩
 ·obtain⟨o',e1⟩:=I.base.there b o e hx;exact free b o' (Sj b o e hx) e1 (I.base.free b o e n hx)
 ·obtain⟨o',e1⟩:=I.base.there b o e hx;exact there b o' (Sj b o e hx) e1
 ·obtain⟨m1,e1⟩:=I.base.tbls b ps e;obtain⟨m2,e2⟩:=tbls b _ e1;exact⟨m1++m2,by rw[e2,Array.append_assoc]⟩
 ·obtain⟨m,hn,hl⟩:=I.loc;refine⟨m,ns m hn,fun i x v e1 e2 e3=>?_⟩;obtain⟨u,r,l⟩:=hl i x v e1 e2 e3;refine⟨u,r,?_⟩;rcases l with l|⟨k,c,e,z⟩
  ·exact .inl l
  ·exact .inr ⟨k,c,e,cellK x c e _ z⟩
 ·obtain⟨v,z⟩:=I.cell x c e;exact⟨v,cellK x c e v z⟩
 ·obtain⟨m,⟨o,_,_,ho,_⟩,_⟩:=I.loc;exact free _ o (fun z=>(Nb _ z).2.1 rfl) ho I.free
 ·obtain⟨v,o,ho,hd⟩:=I.cell x c e;exact free c o (fun z=>(Nb c z).2.2.1 x c e rfl) ho (I.freeC x c e)
 ·obtain⟨e,n,ne,nf,d⟩:=I.pin p hp;have Rj:p.1∉ch:=fun z=>(Nb p.1 z).2.2.2 p hp rfl
  exact⟨keep p.1 p.2 ne nf Rj e n,free p.1 p.2 Rj e n,ne,nf,d⟩
theorem Inv.un{t':Nat}(I:Inv X pr σ H s)(u:Un X.fs [] H H' s.heap h')(hok:HOk X.prog X.w H' h'):Inv X pr σ H' {s with heap:=h',toks:=t'}:=by
 obtain⟨m,⟨o,es,ep,ho,r⟩,_⟩:=id I.loc;obtain⟨sl,hL⟩:=u.any ho I.free (by simp);exact I.step (g':=s.gens) (d':=s.drawn) (ch:=[]) (fun _ z=>nomatch z) (fun b o _ hb _ e n=>u.keep b o e n hb (by simp)) (fun b o _ hb _ e n=>u.slot b o e n hb (by simp)) (fun b o _ e n=>u.free b o e n (by simp)) (fun b o _ e=>u.there b o e (by simp)) u.tups u.frzs u.tbls (fun m' hm=>by
  obtain⟨o',LY,Pk,Ng,r'⟩:=hm;rw[ho]at Ng;cases Ng;exact⟨_,LY,Pk,hL,r'⟩) hok I.bare
theorem Inv.call{g':Array GenState}{t':Nat}{d':Drawn}(I:Inv X pr σ H s)(u:Un (Mo X.stack) ch H H' s.heap h')(hok:HOk X.prog X.w H' h')(hg:AllBare g')
  (Nb:∀b∈ch,(b∈X.ex\/X.s₀.heap.objs.size<=b)/\b≠X.env.locals/\(∀x c,X.env.cells.lookup x=some c->c≠b)/\∀p∈X.pn++pr,p.1≠b):
  Inv X pr σ H' {s with heap:=h',gens:=g',drawn:=d',toks:=t'}:=by
 obtain⟨m,⟨o,es,ep,ho,r⟩,_⟩:=id I.loc;obtain⟨sl,hL⟩:=u.any ho I.free fun z=>(Nb _ z).2.1 rfl
 exact I.step (ch:=ch) Nb (fun b o hL hb hc e n=>u.keep b o e n (fun z=>(U6.mp (I.stkSub b z)).elim hL hb) hc) (fun b o _ _ hc e n=>u.any e n hc) (fun b o hc e n=>u.free b o e n hc) (fun b o hc e=>u.there b o e hc) u.tups u.frzs u.tbls (fun m' hm=>by
  obtain⟨o',LY,Pk,Ng,r'⟩:=hm;rw[ho]at Ng;cases Ng;exact⟨_,LY,Pk,hL,r'⟩) hok hg
theorem Inv.turned{t':Nat}{it:Addr}(I:Inv X pr σ H s)(k:∀b o,b≠it->s.heap.get? b=some o->h'.get? b=some o)(hn:H it=none)(hL:it≠X.env.locals)
  (h1:it∈X.ex\/X.s₀.heap.objs.size<=it) (h2:∀x c,X.env.cells.lookup x=some c->c≠it) (h3:∀p∈X.pn++pr,p.1≠it):Inv X pr σ H {s with heap:=h',toks:=t'}:=by
 have TY:∀b u,H b=some u->b≠it:=fun b u e z=>by rw[z,hn]at e;cases e
 refine I.step (g':=s.gens) (d':=s.drawn) (ch:=[it]) (fun b hb=>?_) (fun b o _ _ hc e _=>k b o (fun z=>hc (by simp[z])) e) (fun b o _ _ hc e _=>⟨o.slots,k b o (fun z=>hc (by simp[z])) e⟩) (fun _ _ _ _ n=>n)
  (fun b o hc e=>⟨o,k b o (fun z=>hc (by simp[z])) e⟩) (fun _ _ e=>e) (fun _ _ _ e=>e) (fun b ps e=>⟨#[],by rw[e];simp⟩) (fun m hm=>?_) (fun b u e=>?_) I.bare
 ·have e:b=it:=by simpa using hb
  subst e;exact⟨h1,hL,h2,h3⟩
 ·obtain⟨o,es,ep,ho,r⟩:=hm;exact⟨o,es,ep,k _ o (WD hL) ho,r⟩
 ·refine(I.hok b u e).stay (fun c v hc q=>k c v ?_ q) (fun _ q=>q) fun _ _ q=>q
  rcases hc with z|z
  ·rw[z];exact TY b u e
  ·exact TY c _ z
theorem Inv.tok(I:Inv X pr σ H s)(t:Nat):Inv X pr σ H {s with toks:=t}:=I.un (h':=s.heap) (t':=t) Un.refl I.hok
theorem Inv.kept{t':Nat}(I:Inv X pr σ H s)(k:∀b u,s.heap.get? b=some u->h'.get? b=some u):Inv X pr σ H {s with heap:=h',toks:=t'}:=I.un (Un.kept k) (I.hok.kept k)
theorem Inv.laid{a:Addr}{o:HO}{t':Nat}(I:Inv X pr σ H s)(k:∀b u,s.heap.get? b=some u->h'.get? b=some u)(hp:s.heap.objs.size<=a)(new:ObjOk X.prog X.w (upd H a o) h' a o):
  Inv X pr σ (upd H a o) {s with heap:=h',toks:=t'}:=I.un (Un.laid k hp (I.hok.fresh hp)) (I.hok.laid k hp new)
theorem Inv.write{x e:Addr}{o:HO}{t':Nat}(I:Inv X pr σ H s)(mu:Rh (H x))(he:e=x\/H e=some (.own x))(k:∀b u,b≠e->s.heap.get? b=some u->h'.get? b=some u)(QL:∃u,h'.get? e=some u)
  (new:ObjOk X.prog X.w (upd H x o) h' x o):Inv X pr σ (upd H x o) {s with heap:=h',toks:=t'}:=I.un (Un.write mu he k QL) (I.hok.write mu he k QL new)
theorem Inv.pins_of{OY:List (Addr×Obj)}(I:Inv X pr σ H s)(h:∀p∈OY,s.heap.get? p.1=some p.2/\H p.1=none/\p.1≠X.env.locals/\p.1∉X.fs/\∀v,p.2.data≠.cell v):Inv X OY σ H s:=
 ⟨I.ok,I.os,I.bare,I.base,I.loc,I.cell,I.free,I.freeC,fun p hp=>(Vp.mp hp).elim (fun z=>I.pin p (U4 _ z)) (h p),I.hok,I.len⟩
theorem qi(hN:N.Nodup){j:Nat}(a:N[i]?=some x)(b:N[j]?=some x):i=j:=by
 obtain⟨h1,e1⟩:=U1.mp a;obtain⟨h2,e2⟩:=U1.mp b;exact(List.getElem_inj hN).mp (e1.trans e2.symm)
theorem jO{M:Model}{A:Around}{E:Value->Shared->Prop}{Q:Unit->Shared->Prop}(I:Inv X pr σ H s)(hN:X.N.Nodup)(hi:X.N[i]?=some x)(hx:Loc X.env.scope x)(r:RelV v u)
  (h:∀s',Inv X pr (σ.set i (some v)) H s'->(∃a,Heap.SameBut a s.heap s'.heap/\(a=X.env.locals\/X.env.cells.lookup x=some a))->Q () s') (hf:X.fn x=true\/X.env.scope.names.lookup x=some .local:=by first|exact .inl rfl|exact .inr rfl|assumption):wpAny M A (storeName X.env x u) Q E s:=by
 obtain⟨m,hn,hl⟩:=id I.loc;have hcls:(X.env.scope.kind==.class||(X.env.scope.kind==.module&&X.env.locals != X.env.globals))=false:=by rw[I.ok.kind];rfl
 have hiσ:i<σ.length:=by rw[I.len];exact(U1.mp hi).1
 have cne:=I.cne;have tracked:∀{a:Addr}{h':Heap},(∃o,s.heap.get? a=some o/\H a=none)->Heap.SameBut a s.heap h'->HOk X.prog X.w H h':=fun{a h'} ha hs b ob e=>by
  obtain⟨_,_,OZ⟩:=ha;refine(I.hok b ob e).stay (fun c w' hc q=>(hs.2 c ?_).trans q) (fun _ q=>q) fun _ _ q=>q
  rintro rfl;rcases hc with rfl|hc
  ·rw[OZ]at e;cases e
  ·rw[OZ]at hc;cases hc
 rcases hx with hk|hk
 ·refine wpAny_storeName_local hk hn (fun h' hn' hs=>?_) hcls;obtain⟨oL,_,_,hoL,_⟩:=id hn;refine h _ ⟨I.ok,I.os,I.bare,⟨fun b o e n hb hx=>?_,fun b o e n hb hx=>?_,I.base.free,fun b o e hx=>?_,I.base.tups,I.base.frzs,I.base.tbls⟩,⟨_,hn',fun j y v' e1 e2 e3=>?_⟩,fun y c e=>?_,I.free,I.freeC,fun p hp=>?_,tracked ⟨oL,hoL,I.free⟩ hs,by simpa using I.len⟩ ⟨_,hs,.inl rfl⟩
  ·exact(hs.2 b (Vf (U0 (U5 e) I.ok.above))).trans (I.base.keep b o e n hb hx)
  ·obtain⟨sl,e1⟩:=I.base.slot b o e n hb hx;exact⟨sl,(hs.2 b (Vf (U0 (U5 e) I.ok.above))).trans e1⟩
  ·obtain⟨o',e1⟩:=I.base.there b o e hx;exact⟨o',(hs.2 b (Vf (U0 (U5 e) I.ok.above))).trans e1⟩
  ·by_cases hj:j=i
   ·subst hj;rw[hi]at e1;cases e1;rw[Wa hiσ]at e2;cases e2;exact⟨u,r,.inl ⟨hk,by simp⟩⟩
   ·rw[XE (WD hj)]at e2;obtain⟨u',r',q⟩:=hl j y v' e1 e2 e3;refine⟨u',r',?_⟩;rcases q with⟨k,e⟩|⟨k,c,e,z⟩
    ·refine .inl ⟨k,?_⟩;have:y≠x:=fun e=>hj (qi hN e1 (e▸hi))
     simp[this,e]
    ·exact .inr ⟨k,c,e,z.sameBut hs (cne y c e)⟩
  ·obtain⟨w',z⟩:=I.cell y c e;exact⟨w',z.sameBut hs (cne y c e)⟩
  ·obtain⟨e,n,ne,nf,d⟩:=I.pin p hp;exact⟨(hs.2 p.1 ne).trans e,n,ne,nf,d⟩
 ·have Mj:X.fn x=true:=by
   rcases hf with z|z
   ·exact z
   ·rw[z]at hk;cases hk
  obtain⟨c,hc⟩:=I.ok.has x (.inl hk);obtain⟨w',z⟩:=I.cell x c hc;refine wpAny_storeName_cell I.ok.kind hk hc z (fun h' Sk hs=>?_);obtain⟨oc,O0,hocd⟩:=id z;refine h {s with heap:=h'} ⟨I.ok,I.os,I.bare,⟨fun b o e n hb hx=>?_,fun b o e n hb hx=>?_,I.base.free,fun b o e hx=>?_,I.base.tups,I.base.frzs,I.base.tbls⟩,⟨m,hn.sameBut hs (WD (cne x c hc)),fun j y v' e1 e2 e3=>?_⟩,fun y c' e=>?_,I.free,I.freeC,fun p hp=>?_,tracked ⟨oc,O0,I.freeC x c hc⟩ hs,by simpa using I.len⟩ ⟨c,hs,.inr hc⟩
  ·exact(hs.2 b (Vf (U0 (U5 e) (I.ok.cab x c Mj hc)))).trans (I.base.keep b o e n hb hx)
  ·obtain⟨sl,e1⟩:=I.base.slot b o e n hb hx;exact⟨sl,(hs.2 b (Vf (U0 (U5 e) (I.ok.cab x c Mj hc)))).trans e1⟩
  ·obtain⟨o',e1⟩:=I.base.there b o e hx;exact⟨o',(hs.2 b (Vf (U0 (U5 e) (I.ok.cab x c Mj hc)))).trans e1⟩
  ·by_cases hj:j=i
   ·subst hj;rw[hi]at e1;cases e1;rw[Wa hiσ]at e2;cases e2;exact⟨u,r,.inr ⟨.inl hk,c,hc,Sk⟩⟩
   ·rw[XE (WD hj)]at e2;obtain⟨u',r',q⟩:=hl j y v' e1 e2 e3;refine⟨u',r',?_⟩;rcases q with q|⟨k,c',e,z'⟩
    ·exact .inl q
    ·refine .inr ⟨k,c',e,z'.sameBut hs ?_⟩;rintro rfl;exact hj (qi hN e1 (I.ok.inj _ _ _ e hc▸hi))
  ·by_cases Pl:c'=c
   ·subst Pl;exact⟨_,Sk⟩
   ·obtain⟨w2,z2⟩:=I.cell y c' e;exact⟨w2,z2.sameBut hs Pl⟩
  ·obtain⟨e,n,ne,nf,d⟩:=I.pin p hp;refine⟨(hs.2 p.1 ?_).trans e,n,ne,nf,d⟩;intro q;rw[q,O0]at e;have q':oc=p.2:=Vy e;exact d w' (by rw[<-q'];exact hocd)
theorem qj{M:Model}{A:Around}{E:Value->Shared->Prop}{Q:Unit->Shared->Prop}(I:Inv X pr σ H s)(hN:X.N.Nodup)(hi:X.N[i]?=some x)(hx:Loc X.env.scope x)(r:RelV v u)
  (h:∀s',Inv X pr (σ.set i (some v)) H s'->Q () s') (hf:X.fn x=true\/X.env.scope.names.lookup x=some .local:=by first|exact .inl rfl|exact .inr rfl|assumption):wpAny M A (storeName X.env x u) Q E s:=
 jO I hN hi hx r (fun s' I' _=>h s' I') hf
theorem Inv.call'(I:Inv X pr σ H s)(ho:s'.os=s.os)(u:Un (Mo X.stack) ch H H' s.heap s'.heap)(hok:HOk X.prog X.w H' s'.heap)(hg:AllBare s'.gens)
  (Nb:∀b∈ch,(b∈X.ex\/X.s₀.heap.objs.size<=b)/\b≠X.env.locals/\(∀x c,X.env.cells.lookup x=some c->c≠b)/\∀p∈X.pn++pr,p.1≠b):Inv X pr σ H' s':=by
 obtain⟨h',g',d',t',o'⟩:=s';have e:o'=s.os:=ho;subst e;exact I.call (g':=g') (t':=t') (d':=d') u hok hg Nb
end
abbrev XK:=Value->Option Addr->Hp->Prop
abbrev St:=List (Option V)
abbrev VK:=V->Hp->Prop
abbrev TE:=St->Hp->VK->Prop
abbrev TT:=St->Hp->(Bool->Hp->Prop)->Prop
abbrev TA:=St->Hp->(List V->Hp->Prop)->Prop
structure Ends where
 nx:St->Hp->Prop
 rt:VK
 bk:St->Hp->Prop:=fun _ _=>False
 ct:St->Hp->Prop:=fun _ _=>False
abbrev TS:=Ends->St->Hp->Prop
def EP(X:Cx)(pr:List (Addr×Obj))(σ:St)(Q:VK)(u:Value)(s':Shared):Prop:=∃v H',Inv X pr σ H' s'/\RelV v u/\Q v H'
def TP(X:Cx)(pr:List (Addr×Obj))(σ:St)(Q:Bool->Hp->Prop)(b:Bool)(s':Shared):Prop:=∃H',Inv X pr σ H' s'/\Q b H'
def AP(X:Cx)(pr:List (Addr×Obj))(σ:St)(Q:List V->Hp->Prop)(us:List Value)(s':Shared):Prop:=∃vs H',Inv X pr σ H' s'/\Vals vs us/\Q vs H'
def SP(X:Cx)(pr:List (Addr×Obj))(D:Ends)(f:Flow)(s':Shared):Prop:=
 match f with
 | .next=>∃σ' H',Inv X pr σ' H' s'/\D.nx σ' H'
 | .brk=>∃σ' H',Inv X pr σ' H' s'/\D.bk σ' H'
 | .cont=>∃σ' H',Inv X pr σ' H' s'/\D.ct σ' H'
 | .ret u=>∃v σ' H',Inv X pr σ' H' s'/\RelV v u/\D.rt v H'
def PE(X:Cx)(e:Expr)(t:TE):Prop:=
 ∀(pr:List (Addr×Obj)) (s:Shared) (σ:St) (H:Hp) (Q:VK),Inv X pr σ H s->t σ H Q->wpAny (model X.prog X.w) X.A (eval e X.env) (EP X pr σ Q) X.xe s
def PT(X:Cx)(e:Expr)(t:TT):Prop:=
 ∀(pr:List (Addr×Obj)) (s:Shared) (σ:St) (H:Hp) (Q:Bool->Hp->Prop),Inv X pr σ H s->t σ H Q->wpAny (model X.prog X.w) X.A (isTrue e X.env (eval e X.env)) (TP X pr σ Q) X.xe s
def PW(X:Cx)(e:Expr)(t:TT):Prop:=
 ∀(whole:Sem Value) (pr:List (Addr×Obj)) (s:Shared) (σ:St) (H:Hp) (Q:Bool->Hp->Prop),Inv X pr σ H s->t σ H Q->wpAny (model X.prog X.w) X.A (isTrue e X.env whole) (TP X pr σ Q) X.xe s
variable{e:Expr}
theorem PW.pt{t:TT}(h:PW X e t):PT X e t:=h _
def PA(X:Cx)(es:List Expr)(t:TA):Prop:=
 ∀(pos:Pos) (pr:List (Addr×Obj)) (s:Shared) (σ:St) (H:Hp) (Q:List V->Hp->Prop),Inv X pr σ H s->t σ H Q->wpAny (model X.prog X.w) X.A (spliced (backTo pos (starEach es X.env))) (AP X pr σ Q) X.xe s
def PS(X:Cx)(st:Stmt)(t:TS):Prop:=
 ∀(pr:List (Addr×Obj)) (s:Shared) (σ:St) (H:Hp) (D:Ends),Inv X pr σ H s->t D σ H->wpAny (model X.prog X.w) X.A (exec st X.env) (SP X pr D) X.xe s
def PSs(X:Cx)(st:List Stmt)(t:TS):Prop:=
 ∀(pr:List (Addr×Obj)) (s:Shared) (σ:St) (H:Hp) (D:Ends),Inv X pr σ H s->t D σ H->wpAny (model X.prog X.w) X.A (execs st X.env) (SP X pr D) X.xe s
variable{α:Type}{A:Around}{E:Value->Shared->Prop}
theorem Iy{t:Sem α}{Q Q':α->Shared->Prop}{M:Model}(h:wpAny M A t Q E s)(hQ:∀a s,Q a s->Q' a s):wpAny M A t Q' E s:=Xz h hQ fun _ _ x=>x
variable{Q:Value->Shared->Prop}{ta:TE}{σ:St}{pos:Pos}
section
theorem bin{a b:Expr}{tb:TE}(ha:PE X a ta)(hb:PE X b tb){R:V->V->Hp->Prop}(I:Inv X pr σ H s)(h:ta σ H fun x H1=>tb σ H1 fun y H2=>R x y H2)
  {Q:α->Shared->Prop}{f:Value->Value->Sem α}
  (hf:∀v u s2 x y H2,Inv X pr σ H2 s2->RelV x v->RelV y u->R x y H2->wpAny (model X.prog X.w) X.A (f v u) Q X.xe s2):
  wpAny (model X.prog X.w) X.A (eval a X.env) (fun v s₁=>wpAny (model X.prog X.w) X.A (eval b X.env) (fun u s₂=>wpAny (model X.prog X.w) X.A (f v u) Q X.xe s₂) X.xe s₁) X.xe s:=by
 refine Iy (ha pr s σ H _ I h) fun v s1 Ir=>?_
 obtain⟨x,H1,I1,r1,q1⟩:=Ir;refine Iy (hb pr s1 σ H1 _ I1 q1) fun u s2 Ir=>?_
 obtain⟨y,H2,I2,r2,q2⟩:=Ir;exact hf v u s2 x y H2 I2 r1 r2 q2
def ql(i:Nat):TE:=fun σ H Q=>∃v,σ[i]?=some (some v)/\Q v H
def tC(v:V):TE:=fun _ H Q=>Q v H
theorem BR{pos:Pos}(hN:X.N[i]?=some x)(hv:SO X.env.scope x)(hd:(x==("__debug__" : Str))=false:=by decide)(LZ:(x==("__classdict__" : Str))=false:=by decide):PE X (.Name x pos) (ql i):=by
 intro pr s σ H Q I h;obtain⟨v,e,h⟩:=h;obtain⟨m,hn,hl⟩:=I.loc;obtain⟨u,r,l⟩:=hl i x v hN e hv;have fin:EP X pr σ Q u s:=⟨v,H,I,r,h⟩
 rcases l with⟨hk,hm⟩|⟨hk,c,hc,Ih⟩
 ·exact wpAny_Name (wpAny_loadName_local I.ok.kind hk hn hm fin) hd
 ·rcases hk with hk|hk
  ·exact wpAny_Name (wpAny_loadName_cell I.ok.kind hk hc Ih fin) hd
  ·exact wpAny_Name (wpAny_loadName_free I.ok.kind hk hc Ih fin LZ) hd
theorem BS{i j pos}:PE X (.Constant (.int i) j pos) (tC (.int i)):=fun _ _ _ H _ I h=>wpAny_Constant_int ⟨.int i,H,I.tok _,⟨_,rfl⟩,h⟩
theorem ED{b j pos}:PE X (.Constant (.bool b) j pos) (tC (.bl b)):=fun _ _ _ H _ I h=>Constant_bool ⟨.bl b,H,I,rfl,h⟩
theorem BU{j pos}:PE X (.Constant .none j pos) (tC .non):=fun _ _ _ H _ I h=>Constant_none ⟨.non,H,I,rfl,h⟩
theorem BV{x j pos}:PE X (.Constant (.str x) j pos) (tC (.str x)):=fun _ _ _ H _ I h=>Calls.Constant_str ⟨.str x,H,I.tok _,⟨_,rfl⟩,h⟩
def Gl(X:Cx)(x:Str):Prop:=X.env.kindOf x=some .globalImplicit
theorem zu{E:Value->Shared->Prop}{pos:Pos}(I:Inv X pr σ H s)(hg:Gl X x)(hm:X.mg x=some u)(h:Q u s)
  (hd:(x==("__debug__" : Str))=false:=by decide):wpAny (model X.prog X.w) X.A (eval (.Name x pos) X.env) Q E s:=
 Yv I.ok.kind hg (Calls.loadGlobal_global (by rw[I.ok.glob];exact I.mod.glob.keeps I.bk) hm h) hd
theorem jm{E:Value->Shared->Prop}{pos:Pos}(I:Inv X pr σ H s)(hg:Gl X x)(hm:X.mg x=none)(hv:bootBuiltins x=some u)(h:Q u s)
  (hn:x≠"__name__":=by decide) (hd:(x==("__debug__" : Str))=false:=by decide):wpAny (model X.prog X.w) X.A (eval (.Name x pos) X.env) Q E s:=by
 obtain⟨mb,h1,h2⟩:=I.mod.blt;exact Yv I.ok.kind hg (Calls.loadGlobal_builtin (by rw[I.ok.glob];exact I.mod.glob.keeps I.bk) hm (by rw[I.ok.blt];exact h1.keeps I.bk) ((h2 x hn).trans hv) h) hd
theorem zv{pos:Pos}(hg:Gl X x)(hm:X.mg x=none)(hv:bootBuiltins x=some u)(r:RelV v u)(hn:x≠"__name__":=by decide)(hd:(x==("__debug__" : Str))=false:=by decide):PE X (.Name x pos) (tC v):=
 fun _ _ _ H _ I h=>jm I hg hm hv ⟨v,H,I,r,h⟩ hn hd
variable{a b:Expr}{tb:TE}
def PC(X:Cx)(op:CmpOp)(a b:Expr)(t:TE):Prop:=
 ∀(pr:List (Addr×Obj)) (s:Shared) (σ:St) (H:Hp) (Q:VK),Inv X pr σ H s->t σ H Q->
  wpAny (model X.prog X.w) X.A (eval a X.env) (fun v s₁=>wpAny (model X.prog X.w) X.A (eval b X.env) (fun u s₂=>wpAny (model X.prog X.w) X.A (compareOp op v u) (EP X pr σ Q) X.xe s₂) X.xe s₁) X.xe s
theorem xa(b:Expr){op:CmpOp}(h:op≠.In)(h2:op≠.NotIn):behindInMarks op b=false:=by
 have e1:(op==CmpOp.In)=false:=by cases op <;> first|rfl|exact absurd rfl h
 have e2:(op==CmpOp.NotIn)=false:=by cases op <;> first|rfl|exact absurd rfl h2
 cases b <;> simp[behindInMarks,e1,e2]
def tB(t:TE):TT:=fun σ H Q=>t σ H fun x H1=>∃c,x=.bl c/\Q c H1
theorem Gh{op:CmpOp}{t:TE}(h:PC X op a b t)(h1:behindInMarks op b=false:=by first|exact xa _ (by decide) (by decide)|rfl):PT X (.Compare a [op] [b] pos) (tB t):=by
 intro pr s σ H Q I hw;refine wpAny_isTrue_Compare1 (Iy (h pr s σ H _ I hw) fun v s1 h1=>Iy h1 fun u s2 h2=>Iy h2 fun c s3 ⟨x,H1,I1,r1,q1⟩=>?_) h1;obtain⟨d,rfl,q⟩:=q1;cases r1;exact XA ⟨H1,I1,q⟩
theorem BW{t:TE}(h:PE X e t)(he:∀whole,isTrue e X.env whole=(do let v <-whole;standAt e.pos;holding [v] (truthy v)):=by intro _;rfl):PT X e (tB t):=by
 intro pr s σ H Q I hw;refine isTrue_plain (Iy (h pr s σ H _ I hw) fun v s1 ⟨x,H1,I1,r1,q1⟩=>?_) (he _);obtain⟨d,rfl,q⟩:=q1;cases r1;exact XA ⟨H1,I1,q⟩
variable{tA Sl:TT}{aU:List Expr}
def GK(t u:TT):TT:=fun σ H Q=>t σ H fun c H1=>if c=true then u σ H1 Q else Q false H1
def tOr(t u:TT):TT:=fun σ H Q=>t σ H fun c H1=>if c=true then Q true H1 else u σ H1 Q
def GL(t:TT):TT:=fun σ H Q=>t σ H fun c H1=>Q (!c) H1
theorem zw(ha:PT X a tA):PW X (.BoolOp .And [a] pos) tA:=by
 intro wh pr s σ H Q I h;refine isTrue_and (Iy (ha pr s σ H Q I h) fun c s1 e=>?_);cases c with
 |true=>exact isTrue_and_nil e
 |false=>exact e
theorem BX(ha:PT X a tA):PW X (.BoolOp .Or [a] pos) tA:=by
 intro wh pr s σ H Q I h;refine isTrue_or (Iy (ha pr s σ H Q I h) fun c s1 e=>?_);cases c with
 |false=>exact isTrue_or_nil e
 |true=>exact e
theorem BY(ha:PT X a tA)(hb:PW X (.BoolOp .And (b::aU) pos) Sl):PW X (.BoolOp .And (a::b::aU) pos) (GK tA Sl):=by
 intro wh pr s σ H Q I h;refine isTrue_and (Iy (ha pr s σ H _ I h) fun c s1 Ir=>?_);obtain⟨H1,I1,q1⟩:=Ir;cases c with
 |true=>exact hb wh pr s1 σ H1 Q I1 q1
 |false=>exact⟨H1,I1,q1⟩
theorem EF(ha:PT X a tA)(hb:PW X (.BoolOp .Or (b::aU) pos) Sl):PW X (.BoolOp .Or (a::b::aU) pos) (tOr tA Sl):=by
 intro wh pr s σ H Q I h;refine isTrue_or (Iy (ha pr s σ H _ I h) fun c s1 Ir=>?_);obtain⟨H1,I1,q1⟩:=Ir;cases c with
 |true=>exact⟨H1,I1,q1⟩
 |false=>exact hb wh pr s1 σ H1 Q I1 q1
theorem BZ(ha:PT X a tA):PT X (.UnaryOp .Not a pos) (GL tA):=by
 intro pr s σ H Q I h;exact isTrue_not (ha pr s σ H (fun c H1=>Q (!c) H1) I h)
def EG(ta tb:TE):TE:=fun σ H Q=>ta σ H fun x H1=>∃c,x=.bl c/\if c=true then tb σ H1 Q else Q (.bl false) H1
def EH(ta:TE):TE:=fun σ H Q=>ta σ H fun x H1=>∃c,x=.bl c/\Q (.bl (!c)) H1
theorem B0{op}{t:TE}(h:PE X a t):PE X (.BoolOp op [a] pos) t:=fun pr s σ H Q I hw=>BoolOp_one (h pr s σ H Q I hw)
theorem B3(ha:PE X a ta)(hb:PE X (.BoolOp .And (b::aU) pos) tb):PE X (.BoolOp .And (a::b::aU) pos) (EG ta tb):=by
 intro pr s σ H Q I h;refine BoolOp_and (Iy (ha pr s σ H _ I h) fun v s1 Ir=>?_);obtain⟨x,H1,I1,r1,q1⟩:=Ir;obtain⟨c,rfl,q1⟩:=q1;cases r1;refine XA ?_;cases c with
 |true=>exact hb pr s1 σ H1 Q I1 q1
 |false=>exact⟨.bl false,H1,I1,rfl,q1⟩
theorem B4(ha:PE X a ta):PE X (.UnaryOp .Not a pos) (EH ta):=by
 intro pr s σ H Q I h;refine UnaryOp_ (Iy (ha pr s σ H _ I h) fun v s1 Ir=>?_);obtain⟨x,H1,I1,r1,q1⟩:=Ir;obtain⟨c,rfl,q1⟩:=q1;cases r1;exact not_of (XA ⟨.bl (!c),H1,I1,rfl,q1⟩)
end
def SqL(K:W.Frag)(H:Hp)(a:Addr)(xs:List V):Prop:=
 Rd H a (.lst xs)\/
  ∃(o:Obj) (HX:Array Value) (n:Nat),K.lookup a=some o/\o.cls=.type "list"/\o.dict=none/\o.data=.seq HX n/\HX.size<=sizeLine/\Vals xs HX.toList
def SqT(K:W.Frag)(H:Hp)(a:Addr)(xs:List V):Prop:=
 Rd H a (.tup xs)\/
  ∃(o:Obj) (HX:Array Value) (n:Nat),K.lookup a=some o/\o.cls=.type "tuple"/\o.dict=none/\o.data=.seq HX n/\HX.size<=sizeLine/\Vals xs HX.toList
def GN:Value->Option V
 | .none=>some .non
 | .bool b=>some (.bl b)
 | .int i _=>some (.int i)
 | .str x _=>some (.str x)
 | .bytes b _=>some (.byt b)
 | .float b _=>some (.flt b)
 | .ref a=>some (.ref a)
 | .type n=>some (.ty n)
 |_=>none
theorem RelV.abs{x:V}(r:RelV x u):GN u=some x:=by
 cases x with
 |non=>cases r;rfl
 |bl _=>cases r;rfl
 |int _=>obtain⟨t,rfl⟩:=r;rfl
 |str _=>obtain⟨t,rfl⟩:=r;rfl
 |byt _=>obtain⟨t,rfl⟩:=r;rfl
 |flt _=>obtain⟨t,rfl⟩:=r;rfl
 |ref _=>cases r;rfl
 |ty _=>cases r;rfl
theorem RelV.inj{x y:V}(r:RelV x u)(q:RelV y u):x=y:=Vy (r.abs.symm.trans q.abs)
theorem Vals.inj:∀{xs ys:List V}{us:List Value},Vals xs us->Vals ys us->xs=ys
 |_,_,_,.nil,.nil=>rfl
 |_,_,_,.cons r t,.cons r' t'=>by rw[r.inj r',Vals.inj t t']
variable{xs:List V}{K:W.Frag}
section
variable{ys:List V}
theorem SqL.of(h:H a=some (.lst xs)):SqL K H a xs:=.inl (.inl h)
theorem SqT.of(h:H a=some (.tup xs)):SqT K H a xs:=.inl (.inl h)
theorem Inv.list(I:Inv X pr σ H s)(h:SqL X.K H a xs):∃HX:List Value,Vals xs HX/\PlainL s.heap a HX.toArray/\xs.length<=sizeLine:=by
 rcases h with h|⟨o,HX,n,hk,hc,hd,hs,hz,r⟩
 ·obtain⟨z,HX,n,r,e⟩:=h.ok I.hok;exact⟨HX,r,⟨_,n,e,rfl,rfl,rfl⟩,z⟩
 ·refine⟨HX.toList,r,⟨o,n,I.kIn a o hk,hc,hd,by simpa using hs⟩,?_⟩;have e:=r.length;simp only[WE]at e;lia
theorem Inv.tupleN(I:Inv X pr σ H s)(h:SqT X.K H a xs):∃HX:List Value,Vals xs HX/\IsTupN s.heap a HX.toArray/\xs.length<=sizeLine:=by
 rcases h with h|⟨o,HX,n,hk,hc,hdn,hs,hz,r⟩
 ·obtain⟨z,HX,r,p⟩:=h.ok I.hok;exact⟨HX,r,p,z⟩
 ·refine⟨HX.toList,r,⟨o,I.kIn a o hk,hc,⟨n,by simpa using hs⟩,hdn⟩,?_⟩;have e:=r.length;simp only[WE]at e;lia
theorem Inv.tuple(I:Inv X pr σ H s)(h:SqT X.K H a xs):∃HX:List Value,Vals xs HX/\IsTup s.heap a HX.toArray/\xs.length<=sizeLine:=by
 obtain⟨HX,r,p,z⟩:=I.tupleN h;exact⟨HX,r,p.tup,z⟩
theorem Inv.list_inj(I:Inv X pr σ H s)(h:SqL X.K H a xs)(h':SqL X.K H a ys):xs=ys:=by
 obtain⟨HX,r,⟨o,n,e,_,_,d⟩,_⟩:=I.list h;obtain⟨its',r',⟨o',n',e',_,_,d'⟩,_⟩:=I.list h';rw[e]at e';cases e';rw[d]at d';injection d' with d1 _;have:HX=its':=by simpa using V7 Array.toList d1
 subst this;exact r.inj r'
theorem Inv.tuple_inj(I:Inv X pr σ H s)(h:SqT X.K H a xs)(h':SqT X.K H a ys):xs=ys:=by
 obtain⟨HX,r,⟨o,e,_,n,d⟩,_⟩:=I.tuple h;obtain⟨its',r',⟨o',e',_,n',d'⟩,_⟩:=I.tuple h';rw[e]at e';cases e';rw[d]at d';injection d' with d1 _;have:HX=its':=by simpa using V7 Array.toList d1
 subst this;exact r.inj r'
end
abbrev Cx.wish(X:Cx)(E:Value->Shared->Prop):Cx:={X with xe:=E}
abbrev Cx.nox(X:Cx):Cx:=X.wish fun _ _=>False
theorem Cx.Ok.wish{X:Cx}(ok:X.Ok)(E:Value->Shared->Prop):(X.wish E).Ok:=
 ⟨ok.mod,ok.kind,ok.glob,ok.blt,ok.above,ok.inj,ok.has,ok.cab,ok.hd,ok.frames,ok.stk,ok.exf,ok.bs,ok.bsz,ok.noex,ok.exfs,ok.funs,ok.frf⟩
theorem Cx.Ok.unwish(ok:(X.wish E).Ok):X.Ok:=
 ⟨ok.mod,ok.kind,ok.glob,ok.blt,ok.above,ok.inj,ok.has,ok.cab,ok.hd,ok.frames,ok.stk,ok.exf,ok.bs,ok.bsz,ok.noex,ok.exfs,ok.funs,ok.frf⟩
section
theorem Inv.wish(I:Inv X pr σ H s)(E:Value->Shared->Prop):Inv (X.wish E) pr σ H s:=⟨I.ok.wish E,I.os,I.bare,I.base,I.loc,I.cell,I.free,I.freeC,I.pin,I.hok,I.len⟩
theorem Inv.unwish(I:Inv (X.wish E) pr σ H s):Inv X pr σ H s:=⟨I.ok.unwish,I.os,I.bare,I.base,I.loc,I.cell,I.free,I.freeC,I.pin,I.hok,I.len⟩
theorem SP.unwish{D:Ends}{f:Flow}{s':Shared}(h:SP (X.wish E) pr D f s'):SP X pr D f s':=by
 cases f with
 |next=>obtain⟨σ',H',I,q⟩:=h;exact⟨σ',H',I.unwish,q⟩
 |brk=>obtain⟨σ',H',I,q⟩:=h;exact⟨σ',H',I.unwish,q⟩
 |cont=>obtain⟨σ',H',I,q⟩:=h;exact⟨σ',H',I.unwish,q⟩
 |ret u=>obtain⟨v,σ',H',I,r,q⟩:=h;exact⟨v,σ',H',I.unwish,r,q⟩
theorem PSs.nox{st:List Stmt}{t:TS}(h:PSs X.nox st t):PSs X st t:=fun pr s σ H D I hw=>
 Xz (h pr s σ H D (I.wish _) hw) (fun _ _ q=>q.unwish) fun _ _ z=>False.elim z
end
variable{te:TE}{c:Expr}{tc:TT}
section
variable{st:Stmt}{aU:List Stmt}{t u:TS}
def EI:TS:=fun D σ H=>D.nx σ H
def GO(t u:TS):TS:=fun D σ H=>t {D with nx:=u D} σ H
theorem zx:PSs X [] EI:=fun _ _ σ H _ I h=>Yk ⟨σ,H,I,h⟩
theorem xb(h1:PS X st t)(h2:PSs X aU u):PSs X (st::aU) (GO t u):=by
 intro pr s σ H D I h;refine wpAny_execs_cons (Iy (h1 pr s σ H {D with nx:=u D} I h) fun f s1 q=>?_);cases f with
 |next=>
  obtain⟨σ',H',I',q⟩:=q;exact h2 pr s1 σ' H' D I' q
 |ret v=>exact q
 |brk=>exact q
 |cont=>exact q
theorem zy(h1:PS X st t):PSs X [st] t:=by
 intro pr s σ H D I h;refine wpAny_execs_cons (Iy (h1 pr s σ H D I h) fun f s1 q=>?_);cases f with
 |next=>exact Yk q
 |ret v=>exact q
 |brk=>exact q
 |cont=>exact q
theorem Inv.quiet(I:Inv X pr σ H s):interactive X.env=false:=by simp[interactive,I.ok.kind]
def EJ(te:TE):TS:=fun D σ H=>te σ H fun _ H1=>D.nx σ H1
theorem zH(he:PE X e te)(hs:swapsWith e none pos.line X.env=pure false:=by rfl):PS X (.Expr e pos) (EJ te):=by
 intro pr s σ H D I h;exact wpAny_Expr_any (Iy (he pr s σ H _ I h) fun v s1 ⟨x,H1,I1,r1,q1⟩=>⟨σ,H1,I1,q1⟩) I.quiet hs
def GP(te:TE):TS:=fun D σ H=>te σ H D.rt
theorem yB(he:PE X e te):PS X (.Return (some e) pos) (GP te):=by
 intro pr s σ H D I h;exact wpAny_Return_some (Iy (he pr s σ H _ I h) fun v s1 ⟨x,H1,I1,r1,q1⟩=>⟨x,σ,H1,I1,r1,q1⟩)
def GQ(c:TT)(t u:TS):TS:=fun D σ H=>c σ H fun b H1=>if b=true then t D σ H1 else u D σ H1
theorem EM{a b:List Stmt}(hc:PT X c tc)(ha:PSs X a t)(hb:PSs X b u):PS X (.If c a b pos) (GQ tc t u):=by
 intro pr s σ H D I h;refine wpAny_If (Iy (hc pr s σ H _ I h) fun d s1 Ir=>?_);obtain⟨H1,I1,q1⟩:=Ir;cases d with
 |true=>exact ha pr s1 σ H1 D I1 q1
 |false=>exact hb pr s1 σ H1 D I1 q1
end
abbrev TG:=V->St->Hp->(St->Hp->Prop)->Prop
abbrev O1:=List V->St->Hp->(St->Hp->Prop)->Prop
def PG(X:Cx)(target:Expr)(t:TG):Prop:=
 ∀(pr:List (Addr×Obj)) (s:Shared) (σ:St) (H:Hp) (v:V) (u:Value) (Q:St->Hp->Prop),Inv X pr σ H s->RelV v u->t v σ H Q->
  wpAny (model X.prog X.w) X.A (assign target X.env u) (fun _ s'=>∃σ' H',Inv X pr σ' H' s'/\Q σ' H') X.xe s
def Pm(X:Cx)(ts:List Expr)(t:O1):Prop:=
 ∀(pr:List (Addr×Obj)) (s:Shared) (σ:St) (H:Hp) (vs:List V) (us:List Value) (Q:St->Hp->Prop),Inv X pr σ H s->Vals vs us->t vs σ H Q->
  wpAny (model X.prog X.w) X.A (assignInOrder ((assignEach ts X.env).map (·.2)) us) (fun _ s'=>∃σ' H',Inv X pr σ' H' s'/\Q σ' H') X.xe s
abbrev GR:=V->V->V->Hp->(Hp->Prop)->Prop
def GS(X:Cx)(t:GR):Prop:=
 ∀(pr:List (Addr×Obj)) (s:Shared) (σ:St) (H:Hp) (o i v:V) (ov iv u:Value) (Q:Hp->Prop),Inv X pr σ H s->RelV o ov->RelV i iv->RelV v u->t o i v H Q->
  wpAny (model X.prog X.w) X.A (setItem ov iv u) (fun _ s'=>∃H',Inv X pr σ H' s'/\Q H') X.xe s
variable{es:List Expr}{n:Nat}
section
def B5(i:Nat):TG:=fun v σ H Q=>Q (σ.set i (some v)) H
theorem zI(hN:X.N.Nodup)(hi:X.N[i]?=some x)(hx:Loc X.env.scope x)(hf:X.fn x=true\/X.env.scope.names.lookup x=some .local:=by first|exact .inl rfl|exact .inr rfl|assumption):PG X (.Name x pos) (B5 i):=by
 intro pr s σ H v u Q I r h;exact YJ (qj I hN hi hx r (fun s' I'=>⟨_,H,I',h⟩) hf)
def GU:O1:=fun vs σ H Q=>vs=[]/\Q σ H
def ET(t:TG)(u:O1):O1:=fun vs σ H Q=>∃v r,vs=v::r/\t v σ H fun σ' H'=>u r σ' H' Q
theorem zJ:Pm X [] GU:=by
 intro pr s σ H vs us Q I r h;obtain⟨e,h⟩:=h;subst e;cases r;exact assignInOrder_nil ⟨σ,H,I,h⟩
theorem xc{t:TG}{u:O1}(h1:PG X e t)(h2:Pm X es u)
  (hs:(assignEach (e::es) X.env).map (·.2)=assign e X.env::(assignEach es X.env).map (·.2):=by rfl):Pm X (e::es) (ET t u):=by
 intro pr s σ H vs us Q I r h;obtain⟨v,vr,e1,h⟩:=h;subst e1;cases r with
 |cons r rr=>
  rw[hs];refine assignInOrder_cons (Iy (h1 pr s σ H _ _ _ I r h) fun _ s1 Ir=>?_);obtain⟨σ1,H1,I1,q1⟩:=Ir;exact h2 pr s1 σ1 H1 _ _ Q I1 rr q1
def GV(K:W.Frag)(n:Nat)(t:O1):TG:=fun v σ H Q=>∃a xs,v=.ref a/\SqT K H a xs/\xs.length=n/\t xs σ H Q
theorem B6{k:Nat}{t:O1}(hc:X.calm=true)(h:Pm X es t)
  (hn:(assignEach es X.env).length=n:=by rfl) (Pn:(assignEach es X.env).findIdx? (·.1)=none:=by rfl):PG X (.Tuple es k pos) (GV X.K n t):=by
 intro pr s σ H v u Q I r hw;obtain⟨a,xs,e1,hq,hl,hw⟩:=hw;subst e1;cases r;obtain⟨HX,rv,ht,hz⟩:=I.tuple hq;refine assign_Tuple_tuple (I.ok.hd hc) ht (by simp[hn,<-hl,rv.length]) Pn fun h' hx=>?_
 have I1:Inv X pr σ H {s with heap:=h'}:=I.kept (t':=s.toks) fun b o e=>hx b o (Vf (U5 e)) e
 exact h pr _ σ H xs _ Q I1 (by simpa using rv) hw
def GW(te:TE)(g:TG):TS:=fun D σ H=>te σ H fun x H1=>g x σ H1 D.nx
theorem B7{pos':Pos}(hN:X.N.Nodup)(hi:X.N[i]?=some x)(hx:Loc X.env.scope x)(he:PE X e te)(hs:swapsWith e (some (.Name x pos')) pos.line X.env=pure false:=by rfl)(hf:X.fn x=true\/X.env.scope.names.lookup x=some .local:=by first|exact .inl rfl|exact .inr rfl|assumption):
  PS X (.Assign [.Name x pos'] e pos) (GW te (B5 i)):=by
 intro pr s σ H D I h;refine wpAny_Assign_Name (Iy (he pr s σ H _ I h) fun v s1 ⟨y,H1,I1,r1,q1⟩=>?_) hs;exact qj I1 hN hi hx r1 (fun s2 I2=>⟨_,H1,I2,q1⟩) hf
end
variable{tb:TS}{body:List Stmt}
section
def B8(c:TT)(tb:TS):TS:=fun D σ H=>∃W:Nat->St->Hp->Prop,(∃m,W m σ H)/\∀m σ H,W m σ H->
 c σ H fun b H1=>if b=true then ∃N:St->Hp->Prop,(∀σ' H',N σ' H'->∃m',m'<m/\W m' σ' H')/\tb {D with nx:=N,ct:=N,bk:=D.nx} σ H1 else D.nx σ H1
theorem xf(hp:PassesOwn (model X.prog X.w) X.A X.env X.xe)(hc:PT X c tc)(hb:PSs X body tb):PS X (.While c body [] pos) (B8 tc tb):=by
 intro pr s σ H D I h;obtain⟨W,⟨m0,w0⟩,turn⟩:=h;refine wpAny_While (codeAny_whileLoop (fun n s'=>∃σ' H',Inv X pr σ' H' s'/\W n σ' H') ?_ m0 ⟨σ,H,I,w0⟩);rintro n s1 ⟨σ1,H1,I1,w1⟩;refine Xc hp (Iy (hc pr s1 σ1 H1 _ I1 (turn n σ1 H1 w1)) fun b s2 Ir=>?_);obtain⟨H2,I2,q2⟩:=Ir;cases b with
 |true=>
  obtain⟨N,hN,q2⟩:=q2;rw[U2 rfl];refine Xc hp (Iy (hb pr s2 σ1 H2 _ I2 q2) fun f s3 q3=>?_);cases f with
  |next=>
   obtain⟨σ3,H3,I3,n3⟩:=q3;obtain⟨m',hm,w3⟩:=hN σ3 H3 n3;exact⟨m',hm,σ3,H3,I3,w3⟩
  |cont=>
   obtain⟨σ3,H3,I3,n3⟩:=q3;obtain⟨m',hm,w3⟩:=hN σ3 H3 n3;exact⟨m',hm,σ3,H3,I3,w3⟩
  |brk=>exact q3
  |ret v=>exact q3
 |false=>
  rw[U9 U7];exact Yk ⟨σ1,H2,I2,q2⟩
end
structure It where
 go:Nat->Hp->Prop
 yld:Nat->Hp->V->Hp->Prop
 stop:Nat->Hp->Prop
def nJ(X:Cx)(pr:List (Addr×Obj))(H:Hp)(b:Addr):Prop:=
 H b=none/\b≠X.env.locals/\b∉X.fs/\(b∈X.ex\/X.s₀.heap.objs.size<=b)/\(∀x c,X.env.cells.lookup x=some c->c≠b)/\∀p∈X.pn++pr,p.1≠b
theorem Inv.fpOk(I:Inv X pr σ H s)(hb:s.heap.objs.size<=b)(hn:H' b=none):nJ X pr H' b:=by
 refine⟨hn,Xs (U0 I.lt hb),I.nofs hb,.inr (Vq I.sz hb),fun x c e z=>?_,fun p hp z=>?_⟩
 ·obtain⟨v,q⟩:=I.cell x c e;exact absurd (U0 q.lt (by rw[z];exact hb)) (Wm _)
 ·exact absurd (U0 (U5 (I.pin p hp).1) (by rw[z];exact hb)) (Wm _)
structure Turn(P:Program)(w:World)(K:W.Frag)(tg:Expr)(J:It)(fp:List Addr)(it:Addr)(tn:Nat->Heap->Prop):Prop where
 mem:it∈fp
 obj:∀i h,tn i h->∀b∈fp,∃o,h.get? b=some o/\∀v,o.data≠.cell v
 keep:∀i h h',tn i h->(∀b∈fp,∀o,h.get? b=some o->h'.get? b=some o)->tn i h'
 item:∀(X:Cx),X.prog=P->X.w=w->X.K=K->X.calm=true->∀(i:Nat) (pr:List (Addr×Obj)) (s:Shared) (σ:St) (H:Hp) (E:Value->Shared->Prop),Inv X pr σ H s->(∀b∈fp,nJ X pr H b)->tn i s.heap->J.go i H->
  wpAny (model P w) X.A (pyNext (.ref it)) (fun r s1=>∃u,r=some u/\
   wpAny (model P w) X.A (letOwnedTupleGo tg (.ref it) u) (fun _ s2=>∃x H',Inv X pr σ H' s2/\RelV x u/\J.yld i H x H'/\tn (i+1) s2.heap/\∀b∈fp,H' b=none) E s1) E s
 done:∀(X:Cx),X.prog=P->X.w=w->X.K=K->X.calm=true->∀(i:Nat) (pr:List (Addr×Obj)) (s:Shared) (σ:St) (H:Hp) (E:Value->Shared->Prop),Inv X pr σ H s->(∀b∈fp,nJ X pr H b)->tn i s.heap->J.stop i H->
  wpAny (model P w) X.A (pyNext (.ref it)) (fun r s1=>r=none/\Inv X pr σ H s1) E s
 self:∀(A:Around) (i:Nat) (s:Shared) (Q:Value->Shared->Prop) (E:Value->Shared->Prop),tn i s.heap->Q (.ref it) s->wpAny (model P w) A (pyIter (.ref it)) Q E s
abbrev TI:=St->Hp->(It->Hp->Prop)->Prop
def TZ(X:Cx)(pr:List (Addr×Obj))(σ:St)(tg:Expr)(R:It->Hp->Prop)(QM:Value)(s2:Shared):Prop:=
 ∃(it:Addr) (fp:List Addr) (tn:Nat->Heap->Prop) (J:It) (H':Hp),QM=.ref it/\Inv X pr σ H' s2/\Turn X.prog X.w X.K tg J fp it tn/\tn 0 s2.heap/\(∀b∈fp,nJ X pr H' b)/\R J H'
def PI(X:Cx)(tg iter:Expr)(wi:TI):Prop:=
 ∀(pr:List (Addr×Obj)) (s:Shared) (σ:St) (H:Hp) (R:It->Hp->Prop),Inv X pr σ H s->wi σ H R->
  wpAny (model X.prog X.w) X.A (eval iter X.env) (fun v s1=>wpAny (model X.prog X.w) X.A (pyIter v) (TZ X pr σ tg R) X.xe s1) X.xe s
theorem xg {M : Model} {A : Around} {E : Value -> Shared -> Prop} {s : Shared} {tg : Expr} {it : Addr} {u : Value} {o : Obj} {n : String} {vs : Array Value} {Q : Unit -> Shared -> Prop} (ho : s.heap.get? it = some o) (hc : o.cls = .type n) (hd : o.data = .fields vs)
    (hn : ["enumerate", "zip", "dict_itemiterator", "dict_reverseitemiterator", "odict_iterator", "itertools.zip_longest", "itertools.pairwise"].contains n = false) (hQ : Q () s) : wpAny M A (letOwnedTupleGo tg (.ref it) u) Q E s := by
  unfold letOwnedTupleGo
  cases tg <;> first
    | exact Va hQ
    | (cases u <;> first
        | exact Va hQ
        | (refine UR (wpAny_load ho ?_)
           rw [hc, hd]
           show wpAny M A (if (["enumerate", "zip", "dict_itemiterator", "dict_reverseitemiterator", "odict_iterator", "itertools.zip_longest", "itertools.pairwise"].contains n && vs[0]? == some (rawInt _)) = true then _ else _) Q E s
           rw [U9 (by intro h; rw [hn, YC] at h; cases h)]
           exact Va hQ))
def QN(K:W.Frag)(a:Addr):It:=
 ⟨fun i H=>∃xs x,SqL K H a xs/\xs[i]?=some x,fun i H x H'=>H'=H/\∀xs,SqL K H a xs->xs[i]?=some x,fun i H=>∃xs,SqL K H a xs/\xs.length<=i⟩
def SQ(K:W.Frag)(a:Addr):It:=
 ⟨fun i H=>∃xs x,SqT K H a xs/\xs[i]?=some x,fun i H x H'=>H'=H/\∀xs,SqT K H a xs->xs[i]?=some x,fun i H=>∃xs,SqT K H a xs/\xs.length<=i⟩
def Sm(lo:Int)(n:Nat):It:=⟨fun i _=>i<n,fun i H x H'=>H'=H/\x=.int (lo+i),fun i _=>n<=i⟩
variable{tg:Expr}
theorem tL(a it:Addr):Turn P w K tg (QN K a) [it] it (fun i h=>h.IsListIter it a i) where
 mem:=by simp
 obj:=fun i h st b hb=>by
  have e:b=it:=by simpa using hb
  subst e;obtain⟨o,e,c,d⟩:=st;exact⟨o,e,fun v z=>by rw[d]at z;cases z⟩
 keep:=fun i h h' st k=>st.at fun o e=>k it (by simp) o e
 item:=by
  intro X hP hw hK hc i pr s σ H E I hf st hg;subst hP hw hK;obtain⟨xs,x,hq,hx⟩:=hg;obtain⟨HX,rv,p,hz⟩:=I.list hq;obtain⟨u,hu,ru⟩:=rv.get hx;obtain⟨f0,f1,f2,f3,f4,f5⟩:=hf it (by simp);refine wpAny_pyNext_list_item st p.isList (x:=u) (by simpa using hu) fun h' LV sb=>?_
  have I1:Inv X pr σ H {s with heap:=h'}:=I.turned (t':=s.toks) (fun b o hb e=>(sb.2 b hb).trans e) f0 f1 f3 f4 f5;obtain⟨o,e,c,d⟩:=id LV;exact⟨u,rfl,xg (s:={s with heap:=h'}) e c d (by decide) ⟨x,H,I1,ru,⟨rfl,fun ys hy=>by rw[I.list_inj hy hq];exact hx⟩,LV,fun b hb=>(hf b hb).1⟩⟩
 done:=by
  intro X hP hw hK hc i pr s σ H E I hf st hg;subst hP hw hK;obtain⟨xs,hq,hx⟩:=hg;obtain⟨HX,rv,p,hz⟩:=I.list hq;obtain⟨f0,f1,f2,f3,f4,f5⟩:=hf it (by simp);have hl:=rv.length;exact wpAny_pyNext_list_end (I.ok.hd hc) st p.isList (by simp;lia) fun h' eb=>⟨rfl,I.turned (t':=s.toks) (fun b o hb e=>eb b o hb e) f0 f1 f3 f4 f5⟩
 self:=fun _ _ _ _ _ st h=>wpAny_pyIter_listiter st h
theorem r9(a it:Addr):Turn P w K tg (SQ K a) [it] it (fun i h=>h.IsTupleIter it a i) where
 mem:=by simp
 obj:=fun i h st b hb=>by
  have e:b=it:=by simpa using hb
  subst e;obtain⟨o,e,c,d⟩:=st;exact⟨o,e,fun v z=>by rw[d]at z;cases z⟩
 keep:=fun i h h' st k=>st.at fun o e=>k it (by simp) o e
 item:=by
  intro X hP hw hK hc i pr s σ H E I hf st hg;subst hP hw hK;obtain⟨xs,x,hq,hx⟩:=hg;obtain⟨HX,rv,p,hz⟩:=I.tuple hq;obtain⟨u,hu,ru⟩:=rv.get hx;obtain⟨f0,f1,f2,f3,f4,f5⟩:=hf it (by simp);refine wpAny_pyNext_tuple_item st (show s.heap.IsTuple a HX.toArray from p) (x:=u) (by simpa using hu) fun h' LV sb=>?_
  have I1:Inv X pr σ H {s with heap:=h'}:=I.turned (t':=s.toks) (fun b o hb e=>(sb.2 b hb).trans e) f0 f1 f3 f4 f5;obtain⟨o,e,c,d⟩:=id LV;exact⟨u,rfl,xg (s:={s with heap:=h'}) e c d (by decide) ⟨x,H,I1,ru,⟨rfl,fun ys hy=>by rw[I.tuple_inj hy hq];exact hx⟩,LV,fun b hb=>(hf b hb).1⟩⟩
 done:=by
  intro X hP hw hK hc i pr s σ H E I hf st hg;subst hP hw hK;obtain⟨xs,hq,hx⟩:=hg;obtain⟨HX,rv,p,hz⟩:=I.tuple hq;obtain⟨f0,f1,f2,f3,f4,f5⟩:=hf it (by simp);have hl:=rv.length;exact wpAny_pyNext_tuple_end (I.ok.hd hc) st (show s.heap.IsTuple a HX.toArray from p) (by simp;lia) fun h' eb=>⟨rfl,I.turned (t':=s.toks) (fun b o hb e=>eb b o hb e) f0 f1 f3 f4 f5⟩
 self:=fun _ _ _ _ _ st h=>wpAny_pyIter_tupleiter st h
theorem sd(it:Addr)(lo:Int)(n:Nat):Turn P w K tg (Sm lo n) [it] it (fun i h=>IsRangeIter h it (lo+(i:Nat)*1) ((n:Int)-(i:Nat)) 1) where
 mem:=by simp
 obj:=fun i h st b hb=>by
  have e:b=it:=by simpa using hb
  subst e;exact⟨_,st,fun v z=>by
   have z':Data.fields _=Data.cell v:=z;cases z'⟩
 keep:=fun i h h' st k=>k it (by simp) _ st
 item:=by
  intro X hP hw hK hc i pr s σ H E I hf st hg;subst hP hw hK;obtain⟨f0,f1,f2,f3,f4,f5⟩:=hf it (by simp);have W:=Walks.range (prog:=X.prog) (w:=X.w) (I.ok.hd hc) it lo 1 n;refine W.item i s _ _ hg st fun v h' tk hv LV kk=>?_
  obtain⟨t,rfl⟩:=hv;have I1:Inv X pr σ H {s with heap:=h',toks:=tk}:=I.turned (fun b o hb e=>kk b o (by simpa using hb) e) f0 f1 f3 f4 f5;refine⟨_,rfl,xg (s:={s with heap:=h',toks:=tk}) (n:="range_iterator") LV rfl rfl (by decide) ⟨.int (lo+i),H,I1,⟨t,?_⟩,⟨rfl,rfl⟩,LV,fun b hb=>(hf b hb).1⟩⟩;rw[Yl]
 done:=by
  intro X hP hw hK hc i pr s σ H E I hf st hg;subst hP hw hK;obtain⟨f0,f1,f2,f3,f4,f5⟩:=hf it (by simp);exact wpAny_pyNext_range_end (I.ok.hd hc) st (by have:n<=i:=hg;lia) fun h' eb=>⟨rfl,I.turned (t':=s.toks) (fun b o hb e=>eb b o hb e) f0 f1 f3 f4 f5⟩
 self:=fun _ _ _ _ _ st h=>wpAny_pyIter_rangeiter st h
variable{l:Expr}{tl:TE}{fp:List Addr}
section
def EU(K:W.Frag)(tl:TE):TI:=fun σ H R=>tl σ H fun x H1=>∃a,x=.ref a/\(∃xs,SqL K H1 a xs)/\R (QN K a) H1
def GX(K:W.Frag)(tl:TE):TI:=fun σ H R=>tl σ H fun x H1=>∃a,x=.ref a/\(∃xs,SqT K H1 a xs)/\R (SQ K a) H1
theorem pD(hl:PE X l tl):PI X tg l (EU X.K tl):=by
 intro pr s σ H R I h;refine Iy (hl pr s σ H _ I h) fun v s1 Ir=>?_
 obtain⟨x,H1,I1,r1,q1⟩:=Ir;obtain⟨a,e,⟨xs,hq⟩,q⟩:=q1;subst e;cases r1;obtain⟨HX,rv,p,hz⟩:=I1.list hq;refine WG p.isList ?_;refine⟨s1.heap.objs.size,[s1.heap.objs.size],_,_,H1,rfl,I1.kept (t':=s1.toks) fun b o e=>UW _ e,tL a _,⟨_,Vh _ rfl,rfl,rfl⟩,fun b hb=>?_,q⟩;have e:b=s1.heap.objs.size:=by simpa using hb
 subst e;exact I1.fpOk (UZ _) (I1.hok.fresh (UZ _))
theorem B9(hl:PE X l tl):PI X tg l (GX X.K tl):=by
 intro pr s σ H R I h;refine Iy (hl pr s σ H _ I h) fun v s1 Ir=>?_
 obtain⟨x,H1,I1,r1,q1⟩:=Ir;obtain⟨a,e,⟨xs,hq⟩,q⟩:=q1;subst e;cases r1;obtain⟨HX,rv,p,hz⟩:=I1.tuple hq;refine Ws (show s1.heap.IsTuple a HX.toArray from p) ?_;refine⟨s1.heap.objs.size,[s1.heap.objs.size],_,_,H1,rfl,I1.kept (t':=s1.toks) fun b o e=>UW _ e,r9 a _,⟨_,Vh _ rfl,rfl,rfl⟩,fun b hb=>?_,q⟩;have e:b=s1.heap.objs.size:=by simpa using hb
 subst e;exact I1.fpOk (UZ _) (I1.hok.fresh (UZ _))
theorem xh{R:It->Hp->Prop}{lo hi:Int}{t u v:Tok}{tk:Nat}(I:Inv X pr σ H s)(h1:-(2 ^ 62)<=lo)(h2:lo<2 ^ 62)(h3:-(2 ^ 62)<=hi)(h4:hi<2 ^ 62)
  (q:R (Sm lo (hi-lo).toNat) H):wpAny (model X.prog X.w) X.A (pyIter (.ref s.heap.objs.size)) (TZ X pr σ tg R) E {s with heap:=s.heap.push {cls:=.type "range",data:=.fields #[.int lo t,.int hi u,.int 1 v]},toks:=tk}:=by
 refine wpAny_pyIter_range (IsRange.new ..) (small_one h1 h2 h3 h4) ?_;have I1:Inv X pr σ H {s with heap:=s.heap.push {cls:=.type "range",data:=.fields #[.int lo t,.int hi u,.int 1 v]},toks:=tk}:=I.kept fun b o e=>UW _ e
 refine⟨(s.heap.push {cls:=.type "range",data:=.fields #[.int lo t,.int hi u,.int 1 v]}).objs.size,[(s.heap.push {cls:=.type "range",data:=.fields #[.int lo t,.int hi u,.int 1 v]}).objs.size],_,_,H,rfl,
  I1.kept (t':=tk) fun b o e=>UW _ e,sd _ lo (hi-lo).toNat,?_,fun b hb=>?_,q⟩
 ·have e1:lo+((0:Nat):Int)*1=lo:=by simp
  have e2:(((hi-lo).toNat:Nat):Int)-((0:Nat):Int)=Builtin.Range.rangeSize lo hi 1:=by rw[rangeSize_one];split <;> lia
  show IsRangeIter _ _ (lo+((0:Nat):Int)*1) ((((hi-lo).toNat:Nat):Int)-((0:Nat):Int)) 1;rw[e1,e2];exact Vh _ rfl
 ·have e:b=(s.heap.push {cls:=.type "range",data:=.fields #[.int lo t,.int hi u,.int 1 v]}).objs.size:=by simpa using hb
  subst e;exact I1.fpOk (UZ _) (I1.hok.fresh (UZ _))
def EV(ta:TA):TI:=fun σ H R=>ta σ H fun vs H1=>∃j:Int,vs=[.int j]/\-(2 ^ 62)<=j/\j<2 ^ 62/\R (Sm 0 j.toNat) H1
theorem tM{a:Expr}{ta:TA}{p pos:Pos}(hg:Gl X "range")(hm:X.mg "range" = none)(ha:PA X [a] ta)(hs:starEach [a] X.env=[(false,eval a X.env)]:=by rfl):PI X tg (.Call (.Name "range" p) [a] [] pos) (EV ta):=by
 intro pr s σ H R I h;refine Call_ (jm I hg hm boot_range (Wc (Iy (ha pos pr s σ H _ I h) fun us s1 ⟨vs,H1,I1,r1,q1⟩=>?_) hs rfl));obtain⟨j,e,q1,q2,q⟩:=q1;subst e;cases r1 with
 |cons r rr=>
  cases rr;obtain⟨t,rfl⟩:=r;exact call_range_1 (xh I1 (by lia) (by lia) q1 q2 (by simpa using q))
noncomputable def GY(wi:TI)(g:TG)(tb:TS):TS:=fun D σ H=>wi σ H fun J H1=>∃W:Nat->Nat->St->Hp->Prop,(∃m,W 0 m σ H1)/\∀i m σ H,W i m σ H->
 (J.stop i H/\D.nx σ H)\/(J.go i H/\∃N:St->Hp->Prop,(∀σ' H',N σ' H'->∃m',m'<m/\W (i+1) m' σ' H')/\∀x H',J.yld i H x H'->g x σ H' fun σ2 H2=>tb {D with nx:=N,ct:=N,bk:=D.nx} σ2 H2)
def lj(fp:List Addr)(h:Heap):List (Addr×Obj):=fp.filterMap fun b=>(h.get? b).map fun o=>(b,o)
theorem dH{o:Obj}(hb:b∈fp)(e:h.get? b=some o):(b,o)∈lj fp h:=ZX.mpr ⟨b,hb,by rw[e];rfl⟩
theorem tN{p:Addr×Obj}(hp:p∈lj fp h):p.1∈fp/\h.get? p.1=some p.2:=by
 obtain⟨b,hb,e⟩:=ZX.mp hp;cases q:h.get? b with
 |none=>rw[q]at e;cases e
 |some o=>
  rw[q]at e;have e':(b,o)=p:=Vy e;subst e';exact⟨hb,q⟩
theorem Inv.pinned(I:Inv X pr σ H s)(hf:∀b∈fp,nJ X pr H b)(ho:∀b∈fp,∃o,s.heap.get? b=some o/\∀v,o.data≠.cell v):Inv X (pr++lj fp s.heap) σ H s:=
 I.pins_of fun p hp=>(Vp.mp hp).elim (fun z=>I.pin p (UX _ z)) fun z=>by
  obtain⟨hb,e⟩:=tN z;obtain⟨f0,f1,f2,_⟩:=hf p.1 hb;obtain⟨o,e',d⟩:=ho p.1 hb;rw[e]at e';cases e';exact⟨e,f0,f1,f2,d⟩
theorem Inv.unpinned{pl:List (Addr×Obj)}(I:Inv X (pr++pl) σ H s):Inv X pr σ H s:=I.pins_of fun p hp=>I.pin p (UX _ (U4 _ hp))
theorem tP{iter:Expr}{wi:TI}{g:TG}{pos:Pos}(hp:PassesOwn (model X.prog X.w) X.A X.env X.xe)(hc:X.calm=true)(hi:PI X tg iter wi)(hg:PG X tg g)(hb:PSs X body tb)
  (hs:∀x,foldedSetIterable iter X.env x=pure x:=by intro _;rfl):PS X (.For tg iter body [] pos) (GY wi g tb):=by
 intro pr s σ H D I h;refine wpAny_For (Iy (hi pr s σ H _ I h) fun v s1 h1=>Iy h1 fun QM s2 h2=>?_) hs;obtain⟨it,fp,tn,J,H2,e,I2,T,Ib,f2,W,⟨m0,w0⟩,turn⟩:=h2;subst e;have KW:∀{H':Hp},(∀b∈fp,H' b=none)->∀b∈fp,nJ X pr H' b:=fun hn b hb=>⟨hn b hb,(f2 b hb).2⟩
 refine codeAny_forLoop_any (fun n s'=>∃i σ' H',Inv X pr σ' H' s'/\tn i s'.heap/\(∀b∈fp,H' b=none)/\W i n σ' H') ?_ m0 ⟨0,σ,H2,I2,Ib,fun b hb=>(f2 b hb).1,w0⟩;rintro n s3 ⟨i,σ3,H3,I3,IL,O2,w3⟩;rcases turn i n σ3 H3 w3 with⟨stop,qn⟩|⟨go,N,hN,step⟩
 ·refine Xc hp (Iy (T.done X rfl rfl rfl hc i pr s3 σ3 H3 X.xe I3 (KW O2) IL stop) fun r s4 Ir=>?_);obtain⟨hr,I4⟩:=Ir;subst hr;exact Yk ⟨σ3,H3,I4,qn⟩
 ·refine Xc hp (Iy (T.item X rfl rfl rfl hc i pr s3 σ3 H3 X.xe I3 (KW O2) IL go) fun r s4 Ir=>?_);obtain⟨u,hr,h4⟩:=Ir;subst hr;refine Xc hp (Iy h4 fun _ s5 Ir=>?_);obtain⟨x,H5,I5,r5,y5,Js,Rk⟩:=Ir;have Rl:=I5.pinned (KW Rk) (T.obj _ _ Js);refine Xc hp (Iy (hg _ s5 σ3 H5 x u _ Rl r5 (step x H5 y5)) fun _ s6 Ir=>?_);obtain⟨σ6,H6,I6,q6⟩:=Ir;refine Xc hp (Iy (hb _ s6 σ6 H6 _ I6 q6) fun f s7 q7=>?_);have again:∀{σ7:St}{H7:Hp},Inv X (pr++lj fp s5.heap) σ7 H7 s7->N σ7 H7->∃m,m<n/\∃i σ' H',Inv X pr σ' H' s7/\tn i s7.heap/\(∀b∈fp,H' b=none)/\W i m σ' H':=fun{σ7 H7} I7 n7=>by
   obtain⟨m',hm,w7⟩:=hN σ7 H7 n7;refine⟨m',hm,i+1,σ7,H7,I7.unpinned,T.keep _ _ _ Js fun b hb o e=>(I7.pin (b,o) (UX _ (UX _ (dH hb e)))).1,fun b hb=>?_,w7⟩;obtain⟨o,e,d⟩:=T.obj _ _ Js b hb;exact(I7.pin (b,o) (UX _ (UX _ (dH hb e)))).2.1
  cases f with
  |next=>obtain⟨σ7,H7,I7,n7⟩:=q7;exact again I7 n7
  |cont=>obtain⟨σ7,H7,I7,n7⟩:=q7;exact again I7 n7
  |brk=>obtain⟨σ7,H7,I7,q7⟩:=q7;exact⟨σ7,H7,I7.unpinned,q7⟩
  |ret v=>obtain⟨x7,σ7,H7,I7,r7,q7⟩:=q7;exact⟨x7,σ7,H7,I7.unpinned,r7,q7⟩
end
theorem for_list{g:TG}{D:Ends}(Pv:Nat->St->Hp->Prop)(h0:Pv 0 σ H)(hl:∀i σ H,i<=xs.length->Pv i σ H->SqL K H a xs)
  (hs:∀i x σ H,xs[i]?=some x->Pv i σ H->g x σ H fun σ2 H2=>tb {D with nx:=Pv (i+1),ct:=Pv (i+1),bk:=D.nx} σ2 H2) (hd:∀σ H,Pv xs.length σ H->D.nx σ H):
  ∃W:Nat->Nat->St->Hp->Prop,(∃m,W 0 m σ H)/\∀i m σ H,W i m σ H->
   ((QN K a).stop i H/\D.nx σ H)\/((QN K a).go i H/\∃N:St->Hp->Prop,(∀σ' H',N σ' H'->∃m',m'<m/\W (i+1) m' σ' H')/\∀x H',(QN K a).yld i H x H'->g x σ H' fun σ2 H2=>tb {D with nx:=N,ct:=N,bk:=D.nx} σ2 H2):=by
 refine⟨fun i m σ H=>m=xs.length-i/\i<=xs.length/\Pv i σ H,⟨xs.length,by simp,VH _,h0⟩,?_⟩;rintro i m σ H ⟨rfl,hi,p⟩;have q:=hl i σ H hi p;by_cases Iu:i<xs.length
 ·refine .inr ⟨⟨xs,xs[i],q,by simp[Iu]⟩,Pv (i+1),fun σ' H' p'=>⟨xs.length-(i+1),by lia,rfl,Iu,p'⟩,fun x H' y=>?_⟩;obtain⟨e,y⟩:=y;subst e;exact hs i x σ _ (y xs q) p
 ·have e:i=xs.length:=by lia
  subst e;exact .inl ⟨⟨xs,q,UZ _⟩,hd σ H p⟩
abbrev R2:=V->V->Hp->VK->Prop
def IW(X:Cx)(f:Value->Value->Sem Value)(r:R2):Prop:=
 ∀(pr:List (Addr×Obj)) (s:Shared) (σ:St) (H:Hp) (x y:V) (v u:Value) (Q:VK),Inv X pr σ H s->RelV x v->RelV y u->r x y H Q->
  wpAny (model X.prog X.w) X.A (f v u) (EP X pr σ Q) X.xe s
def SR(X:Cx)(f:Value->Sem Value)(r:V->Hp->VK->Prop):Prop:=
 ∀(pr:List (Addr×Obj)) (s:Shared) (σ:St) (H:Hp) (x:V) (v:Value) (Q:VK),Inv X pr σ H s->RelV x v->r x H Q->
  wpAny (model X.prog X.w) X.A (f v) (EP X pr σ Q) X.xe s
def eA(X:Cx)(f:Value)(r:List V->Hp->VK->Prop):Prop:=
 ∀(pr:List (Addr×Obj)) (s:Shared) (σ:St) (H:Hp) (xs:List V) (us:List Value) (Q:VK),Inv X pr σ H s->Vals xs us->r xs H Q->
  wpAny (model X.prog X.w) X.A (call f us) (EP X pr σ Q) X.xe s
def QR(r:R2)(ta tb:TE):TE:=fun σ H Q=>ta σ H fun x H1=>tb σ H1 fun y H2=>r x y H2 Q
def tUn(r:V->Hp->VK->Prop)(ta:TE):TE:=fun σ H Q=>ta σ H fun x H1=>r x H1 Q
def rI(C:Int->Int->Prop)(g:Int->Int->V):R2:=fun x y H Q=>∃i j,x=.int i/\y=.int j/\C i j/\Q (g i j) H
def QU(g:Int->Int->V):R2:=fun x y H Q=>∃i j,x=.int i/\y=.int j/\Q (g i j) H
def rU(g:Int->V):V->Hp->VK->Prop:=fun x H Q=>∃i,x=.int i/\Q (g i) H
variable{g:Int->Int->Int}{f:Value->Value->Sem Value}{r:R2}
section
variable{a b:Expr}{tb tc:TE}
theorem EW(ha:PE X a ta)(hb:PE X b tb){R:V->V->Hp->Prop}(I:Inv X pr σ H s)
  (h:ta σ H fun x H1=>tb σ H1 fun y H2=>R x y H2) 
  (hf:∀v u s2 x y H2,Inv X pr σ H2 s2->RelV x v->RelV y u->R x y H2->wpAny (model X.prog X.w) X.A (f v u) Q X.xe s2):
  wpAny (model X.prog X.w) X.A (eval a X.env) (fun v s₁=>wpAny (model X.prog X.w) X.A (eval b X.env) (fun u s₂=>wpAny (model X.prog X.w) X.A (f v u) Q X.xe s₂) X.xe s₁) X.xe s:=by
 refine Iy (ha pr s σ H _ I h) fun v s1 Ir=>?_
 obtain⟨x,H1,I1,r1,q1⟩:=Ir;refine Iy (hb pr s1 σ H1 _ I1 q1) fun u s2 Ir=>?_
 obtain⟨y,H2,I2,r2,q2⟩:=Ir;exact hf v u s2 x y H2 I2 r1 r2 q2
theorem EY{op:Operator}(ho:IW X (binaryOp op) r)(ha:PE X a ta)(hb:PE X b tb):PE X (.BinOp a op b pos) (QR r ta tb):=by
 intro pr s σ H Q I h;exact wpAny_BinOp (EW ha hb I h fun v u s2 x y H2 I2 rx ry q=>ho pr s2 σ H2 x y v u Q I2 rx ry q)
theorem EZ{op:UnaryOp}{r:V->Hp->VK->Prop}(ho:SR X (unaryOp op) r)(ha:PE X a ta):PE X (.UnaryOp op a pos) (tUn r ta):=by
 intro pr s σ H Q I h;exact UnaryOp_ (Iy (ha pr s σ H _ I h) fun v s1 ⟨x,H1,I1,r1,q1⟩=>ho pr s1 σ H1 x v Q I1 r1 q1)
theorem Po{f:Value->Value->Sem Value}{C:Int->Int->Prop}
  (rule:∀(i j:Int) (t u:Tok) (s:Shared) (Q:Value->Shared->Prop) (E:Value->Shared->Prop),C i j->Q (.int (g i j) s.toks) {s with toks:=s.toks+1}->wpAny (model X.prog X.w) X.A (f (.int i t) (.int j u)) Q E s):
  IW X f (rI C fun i j=>.int (g i j)):=by
 intro pr s σ H x y v u Q I rx ry h;obtain⟨i,j,rfl,rfl,hc,q⟩:=h;obtain⟨t,rfl⟩:=rx;obtain⟨t',rfl⟩:=ry;exact rule i j t t' s _ _ hc ⟨.int (g i j),H,I.tok _,⟨_,rfl⟩,q⟩
theorem Gi{f:Value->Value->Sem Value}
  (rule:∀(i j:Int) (t u:Tok) (s:Shared) (Q:Value->Shared->Prop) (E:Value->Shared->Prop),Q (.int (g i j) s.toks) {s with toks:=s.toks+1}->wpAny (model X.prog X.w) X.A (f (.int i t) (.int j u)) Q E s):
  IW X f (QU fun i j=>.int (g i j)):=by
 intro pr s σ H x y v u Q I rx ry h;obtain⟨i,j,rfl,rfl,q⟩:=h;obtain⟨t,rfl⟩:=rx;obtain⟨t',rfl⟩:=ry;exact rule i j t t' s _ _ ⟨.int (g i j),H,I.tok _,⟨_,rfl⟩,q⟩
theorem Gj{g:Int->Int->Bool}
  (rule:∀(i j:Int) (t u:Tok) (s:Shared) (Q:Value->Shared->Prop) (E:Value->Shared->Prop),Q (.bool (g i j)) s->wpAny (model X.prog X.w) X.A (f (.int i t) (.int j u)) Q E s):
  IW X f (QU fun i j=>.bl (g i j)):=by
 intro pr s σ H x y v u Q I rx ry h;obtain⟨i,j,rfl,rfl,q⟩:=h;obtain⟨t,rfl⟩:=rx;obtain⟨t',rfl⟩:=ry;exact rule i j t t' s _ _ ⟨.bl (g i j),H,I,rfl,q⟩
def GZ(i j:Int):Prop:=0<j/\j<1073741824
def G0(i j:Int):Prop:=0<=j/\j<=1000000/\i.natAbs<2 ^ 64
def CMul(i j:Int):Prop:=(-(2 ^ 64)<i/\i<2 ^ 64)\/(-(2 ^ 64)<j/\j<2 ^ 64)
theorem CMul.ok{i j:Int}(h:CMul i j):IntMulOk i j:=by
 rcases h with⟨h1,h2⟩|⟨h1,h2⟩
 ·exact .of_left (intBits_le_64 h1 h2)
 ·exact .of_right (intBits_le_64 h1 h2)
theorem Ca:IW X (binaryOp .Add) (QU fun i j=>.int (i+j)):=Gi fun _ _ _ _ _ _ _ q=>add_int q
theorem Cb:IW X (binaryOp .Sub) (QU fun i j=>.int (i-j)):=Gi fun _ _ _ _ _ _ _ q=>sub_int q
theorem Cc:IW X (binaryOp .Mult) (rI CMul fun i j=>.int (i*j)):=Po fun _ _ _ _ _ _ _ hc q=>mul_int q hc.ok
theorem zL:IW X (binaryOp .FloorDiv) (rI GZ fun i j=>.int (i / j)):=Po fun i j _ _ _ _ _ hc q=>by
 have h1:(0:Int)<j:=hc.1;have h2:j<1073741824:=hc.2;exact floordiv_int (by lia) (by rw[Int.fdiv_eq_ediv_of_nonneg i (by lia)];exact q) (.inl (PyProof.noPylong_small (by lia)))
theorem Cd:IW X (binaryOp .Mod) (rI (fun _ j=>0<j) fun i j=>.int (i%j)):=Po fun i j _ _ _ _ _ hc q=>by
 have h1:(0:Int)<j:=hc;exact mod_int' (by lia) (by rw[Int.fmod_eq_emod_of_nonneg i (by lia)];exact q)
theorem zM:IW X (binaryOp .Mod) (rI (fun _ j=>j≠0) fun i j=>.int (i.fmod j)):=Po fun _ _ _ _ _ _ _ hc q=>mod_int' hc q
theorem Ce:IW X (binaryOp .Pow) (rI G0 fun i j=>.int (i ^ j.toNat)):=Po fun _ _ _ _ _ _ _ hc q=>pow_int_small hc.1 hc.2.1 hc.2.2 q
theorem unI{f:Value->Sem Value}{g:Int->Int}
  (rule:∀(i:Int) (t:Tok) (s:Shared) (Q:Value->Shared->Prop) (E:Value->Shared->Prop),Q (.int (g i) s.toks) {s with toks:=s.toks+1}->wpAny (model X.prog X.w) X.A (f (.int i t)) Q E s):
  SR X f (rU fun i=>.int (g i)):=by
 intro pr s σ H x v Q I rx h;obtain⟨i,rfl,q⟩:=h;obtain⟨t,rfl⟩:=rx;exact rule i t s _ _ ⟨.int (g i),H,I.tok _,⟨_,rfl⟩,q⟩
theorem Cf:SR X (unaryOp .USub) (rU fun i=>.int (-i)):=unI fun _ _ _ _ _ q=>neg_int q
end
variable{us:List Value}
section
variable{a b:Expr}{tb tc:TE}
theorem tR{Q:VK}{k k':Bool}(I:Inv X pr σ H s)(q:Q (.bl k) H)(e:k=k'):EP X pr σ Q (.bool k') s:=by
 subst e;exact⟨.bl k,H,I,rfl,q⟩
theorem E5:IW X (compareOp .Lt) (QU fun i j=>.bl (decide (i<j))):=Gj fun _ _ _ _ _ _ _ q=>lt_int q
theorem E6:IW X (compareOp .Gt) (QU fun i j=>.bl (decide (j<i))):=Gj fun _ _ _ _ _ _ _ q=>gt_int q
theorem tS:IW X (compareOp .Lt) (fun x y H Q=>∃i j,x=.str i/\y=.str j/\Q (.bl (decide (i.cps.toList<j.cps.toList))) H):=by
 intro pr s σ H x y v u Q I rx ry h;obtain⟨i,j,rfl,rfl,q⟩:=h;obtain⟨t,rfl⟩:=rx;obtain⟨t',rfl⟩:=ry;exact lt_str (tR I q rfl)
theorem tU:IW X (compareOp .In) (fun x y H Q=>∃i j,x=.str i/\y=.str j/\Q (.bl (!(Builtin.Str.occurrences j i 0 j.length 1).isEmpty)) H):=by
 intro pr s σ H x y v u Q I rx ry h;obtain⟨i,j,rfl,rfl,q⟩:=h;obtain⟨t,rfl⟩:=rx;obtain⟨t',rfl⟩:=ry;exact in_str (tR I q rfl)
theorem nK:IW X (compareOp .NotIn) (fun x y H Q=>∃i j,x=.str i/\y=.str j/\Q (.bl (!(!(Builtin.Str.occurrences j i 0 j.length 1).isEmpty))) H):=by
 intro pr s σ H x y v u Q I rx ry h;obtain⟨i,j,rfl,rfl,q⟩:=h;obtain⟨t,rfl⟩:=rx;obtain⟨t',rfl⟩:=ry;exact notIn_str (tR I q rfl)
theorem a7(b:Expr){op:CmpOp}(h:op≠.In:=by decide)(h2:op≠.NotIn:=by decide):behindInMarks op b=false:=by
 have e1:(op==CmpOp.In)=false:=by cases op <;> first|rfl|exact absurd rfl h
 have e2:(op==CmpOp.NotIn)=false:=by cases op <;> first|rfl|exact absurd rfl h2
 cases b <;> simp[behindInMarks,e1,e2]
theorem zN{op:CmpOp}(ho:IW X (compareOp op) r)(ha:PE X a ta)(hb:PE X b tb)(hm:behindInMarks op b=false):PE X (.Compare a [op] [b] pos) (QR r ta tb):=by
 intro pr s σ H Q I h;exact wpAny_Compare1 (EW ha hb I h fun v u s2 x y H2 I2 rx ry q=>ho pr s2 σ H2 x y v u Q I2 rx ry q) hm
def E7(t:TE):TT:=fun σ H Q=>t σ H fun x H'=>∃k,x=.bl k/\Q k H'
theorem tV{op:CmpOp}(ho:IW X (compareOp op) r)(ha:PE X a ta)(hb:PE X b tb)(hm:behindInMarks op b=false):PT X (.Compare a [op] [b] pos) (E7 (QR r ta tb)):=by
 intro pr s σ H Q I h;refine wpAny_isTrue_Compare1 (Iy (ha pr s σ H _ I h) fun v s1 ⟨x,H1,I1,r1,q1⟩=>Iy (hb pr s1 σ H1 _ I1 q1) fun u s2 ⟨y,H2,I2,r2,q2⟩=>
  Iy (ho pr s2 σ H2 x y v u _ I2 r1 r2 q2) fun c s3 ⟨z,H3,I3,r3,k,e,q3⟩=>?_) hm
 subst e;cases r3;exact XA ⟨H3,I3,q3⟩
theorem ll:(sizeLine:Nat)<2 ^ 63:=by rw[Wd];decide
theorem se:IW X (binaryOp .Add) (fun x y H Q=>∃i j,x=.str i/\y=.str j/\i.length+j.length<=sizeLine/\Q (.str (i++j)) H):=by
 intro pr s σ H x y v u Q I rx ry h;obtain⟨i,j,rfl,rfl,hz,q⟩:=h;obtain⟨t,rfl⟩:=rx;obtain⟨t',rfl⟩:=ry;exact add_str (fun t' tk=>⟨.str (i++j),H,I.tok _,⟨_,rfl⟩,q⟩) hz
theorem jB{x:V}(r:Vals [x] us):∃u,us=[u]/\RelV x u:=by
 cases r with
 |cons r1 r2=>cases r2;exact⟨_,rfl,r1⟩
theorem Cg{x y:V}(r:Vals [x,y] us):∃u w',us=[u,w']/\RelV x u/\RelV y w':=by
 cases r with
 |cons r1 r2=>
  cases r2 with
  |cons r3 r4=>cases r4;exact⟨_,_,rfl,r1,r3⟩
theorem xi:eA X (.builtin "abs") (fun xs H Q=>∃i,xs=[.int i]/\Q (.int (if i<0 then -i else i)) H):=by
 intro pr s σ H xs us Q I r h;obtain⟨i,rfl,q⟩:=h;obtain⟨u,rfl,t,rfl⟩:=jB r;exact call_abs_int fun u tk=>⟨.int (if i<0 then -i else i),H,I.tok _,⟨_,rfl⟩,q⟩
end
variable{C:Addr}{name:Str}
section
variable{prog:Program}{x dx f:Addr}{mA:Str->Option Value}{v:Value}
end
theorem RelO.some_of{o:Option Value}(r:RelO (some v) o):∃u,o=some u/\RelV v u:=by
 cases o with
 |none=>exact(show False from r).elim
 |some u=>exact⟨u,rfl,r⟩
theorem RelO.none_of{o:Option Value}(r:RelO none o):o=none:=by
 cases o with
 |none=>rfl
 |some u=>exact(show False from r).elim
section
variable{dx:Addr}{fs fs':List (Str×V)}
end
structure Cls(K:W.Frag)(C:Addr):Prop where
 pg:PySem.W.plainGet K C Str.empty=true
 hd:PySem.W.hasDictIn K C=true
 po:PySem.W.plainOver K C=true
 sa:PySem.W.findIn K (.ref C) "__setattr__" = some (some (.builtin "object.__setattr__"))
theorem Cls.get(c:Cls K C)(f:Str):PySem.W.plainGet K C f=true:=c.pg
section
variable{dx:Addr}{fs:List (Str×V)}{f:Str}
end
def InOp(X:Cx)(op:Operator)(rd:V->V->Hp->VK->Prop):Prop:=
 ∀(pr:List (Addr×Obj)) (s:Shared) (σ:St) (H:Hp) (x y:V) (u v:Value) (Q:VK),Inv X pr σ H s->RelV x u->RelV y v->rd x y H Q->wpAny (model X.prog X.w) X.A (inplaceOp op u v) (EP X pr σ Q) X.xe s
section
variable{o value:Expr}{f:Str}{pos' Pp:Pos}{tv:TE}
def G9:V->V->Hp->VK->Prop:=fun x y H Q=>∃i j,x=.int i/\y=.int j/\Q (.int (i+j)) H
theorem in_add:InOp X .Add G9:=by
 rintro pr s σ H x y u v Q I rx ry ⟨i,j,rfl,rfl,q⟩;obtain⟨t,rfl⟩:=(show ∃t,u=Value.int i t from rx)
 obtain⟨t',rfl⟩:=(show ∃t',v=Value.int j t' from ry)
 exact PyProof.Rows.iadd_int ⟨.int (i+j),H,I.tok _,⟨_,rfl⟩,q⟩
end
section
variable{c:Value}{b:Bool}
end
structure Room(k:Nat)(A:Around):Prop where
 hd:A.handled=none
 dp:A.depth+3*k+5<recursionLimit
 un:A.units+16*k+200<cLine
theorem Room.mono{j k:Nat}(r:Room k A)(h:j<=k):Room j A:=⟨r.hd,by have:=r.dp;lia,by have:=r.un;lia⟩
theorem Room.m{j k:Nat}(r:Room k A)(h:j<=k:=by decide):Room j A:=r.mono h
theorem Room.deeper{k:Nat}{A:Around}(r:Room (k+1) A)(env:Env):Room k (A.deeper env):=
 ⟨r.hd,by have:=r.dp;show A.depth+1+3*k+5<_;lia,by have:=r.un;show A.units+3+16*k+200<_;lia⟩
theorem Room.depth{k:Nat}{A:Around}(r:Room k A):A.depth<recursionLimit:=by have:=r.dp;lia
theorem Room.units{k:Nat}{A:Around}(r:Room k A):A.units+64<cLine:=by have:=r.un;lia
theorem Room.units0{k:Nat}(r:Room k A):A.units<cLine:=by have:=r.un;lia
def Ha:TA:=fun _ H Q=>Q [] H
def E8(ta:TE)(tr:TA):TA:=fun σ H Q=>ta σ H fun x H1=>tr σ H1 fun xs H2=>Q (x::xs) H2
section
variable{t:TA}
theorem tW:PA X [] Ha:=fun _ _ _ _ H Q I h=>Calls.spliced_nil ⟨[],H,I,.nil,h⟩
theorem lO(ha:PE X e te)(hr:PA X es t)(hs:starEach (e::es) X.env=(false,eval e X.env)::starEach es X.env:=by rfl):PA X (e::es) (E8 te t):=by
 intro pos pr s σ H Q I h;rw[hs];show wpAny _ _ (spliced ((false,eval e X.env)::backTo pos (starEach es X.env))) _ _ s;refine Calls.spliced_cons (Iy (ha pr s σ H _ I h) fun u s1 Ir=>?_);obtain⟨x,H1,I1,r1,q1⟩:=Ir;exact Iy (hr pos pr s1 σ H1 _ I1 q1) fun us s2 ⟨xs,H2,I2,r2,q2⟩=>⟨x::xs,H2,I2,.cons r1 r2,q2⟩
def Hb(t:TA):TE:=fun σ H Q=>t σ H fun xs H1=>xs.length<=sizeLine/\∀p,H1 p=none->Q (.ref p) (upd H1 p (.tup xs))
def Hc(t:TA):TE:=fun σ H Q=>t σ H fun xs H1=>xs.length<=sizeLine/\∀p,H1 p=none->Q (.ref p) (upd H1 p (.lst xs))
theorem Ci{x1}(h:PA X es t):PE X (.Tuple es x1 pos) (Hb t):=by
 intro pr s σ H Q I hq;refine wpAny_Tuple_spliced (Iy (h pos pr s σ H _ I hq) fun us s1 ⟨xs,H1,I1,r,z,q⟩=>⟨by rw[<-r.length];exact z,?_⟩);have hf:H1 s1.heap.objs.size=none:=I1.hok.fresh (UZ _);refine⟨.ref s1.heap.objs.size,upd H1 s1.heap.objs.size (.tup xs),I1.laid (t':=s1.toks) (fun b u e=>UW _ e) (UZ _) ?_,rfl,q _ hf⟩;exact⟨z,us,r,⟨_,Vh _ rfl,rfl,⟨_,rfl⟩,rfl⟩⟩
theorem Cj(h:PA X es t):PE X (.List es pos) (Hc t):=by
 intro pr s σ H Q I hq;refine wpAny_List_spliced (Iy (h pos pr s σ H _ I hq) fun us s1 ⟨xs,H1,I1,r,z,q⟩=>⟨by rw[<-r.length];exact z,?_⟩);have hf:H1 s1.heap.objs.size=none:=I1.hok.fresh (UZ _);refine⟨.ref s1.heap.objs.size,upd H1 s1.heap.objs.size (.lst xs),I1.laid (t':=s1.toks) (fun b u e=>UW _ e) (UZ _) ?_,rfl,q _ hf⟩;exact⟨z,us,0,r,Vh _ rfl⟩
end
abbrev Sp:=List V->Hp->VK->XK->Prop
abbrev CXT:=List Env->Hp->Shared->XK->Value->Shared->Prop
structure Env0(P:Program)(w:World)(K:W.Frag)(mg:Str->Option Value)(base:Heap)(A:Around)(outer:List Env)(s:Shared)(H:Hp):Prop where
 frames:A.frames=some outer
 mod:Mod K mg base
 bs:∀b o,base.get? b=some o->s.heap.get? b=some o/\H b=none
 bsz:base.objs.size<=s.heap.objs.size
 funs:s.heap.FunFrames base outer
 frf:∀b∈Mo outer,H b=none
 hok:HOk P w H s.heap
 bare:AllBare s.gens
def CE(outer:List Env)(P:Program)(w:World)(H:Hp)(s:Shared)(Q:VK)(u:Value)(s':Shared):Prop:=
 ∃v H',s'.os=s.os/\AllBare s'.gens/\Un (Mo outer) [] H H' s.heap s'.heap/\HOk P w H' s'.heap/\RelV v u/\Q v H'
def CR(CX:CXT)(outer:List Env)(P:Program)(w:World)(H:Hp)(s:Shared)(Q:VK)(E:XK)(r:Result)(s':Shared):Prop:=
 match r with
 | .ok (.ret u)=>CE outer P w H s Q u s'
 | .ok _=>False
 | .error e=>CX outer H s E e s'
structure FnOk(P:Program)(w:World)(K:W.Frag)(mg:Str->Option Value)(base:Heap)(CX:CXT)(k:Nat)(f:Addr)(fd:FuncData)(ps:List Str)(sp:Sp):Prop where
 len:∀vs H Q E,sp vs H Q E->vs.length=ps.length
 run:∀(A:Around) (outer:List Env) (s:Shared) (H:Hp) (args:Args) (us:List Value) (vs:List V) (Q:VK) (E:XK),Room k A->Env0 P w K mg base A outer s H->BindsTo s fd args (ps.zip us)->Vals vs us->sp vs H Q E->
  codeAny (model P w) A (.call (.ref f) args) (CR CX outer P w H s Q E) s
variable{mg:Str->Option Value}{base:Heap}{CX:CXT}{fd:FuncData}{ps:List Str}{sp:Sp}
theorem FnOk.imp{k:Nat}{f:Addr}{T3:Sp}(F:FnOk P w K mg base CX k f fd ps sp)
  (h:∀vs H Q E,T3 vs H Q E->sp vs H Q E):FnOk P w K mg base CX k f fd ps T3:=
 ⟨fun vs H Q E q=>F.len vs H Q E (h _ _ _ _ q),fun A outer s H args us vs Q E hr he hb hv hs=>F.run A outer s H args us vs Q E hr he hb hv (h _ _ _ _ hs)⟩
section
theorem Inv.env0(I:Inv X pr σ H s):Env0 X.prog X.w X.K X.mg X.base X.A X.stack s H:=
 ⟨I.ok.frames,I.ok.mod,I.bs,Vq I.ok.bsz I.sz,I.stack,I.stkFree,I.hok,I.bare⟩
theorem Inv.after{Q:VK}(I:Inv X pr σ H s)(h:CE X.stack X.prog X.w H s Q u s'):EP X pr σ Q u s':=by
 obtain⟨v,H',os,bare,un,hok,r,q⟩:=h;obtain⟨hh,g,d,t,T4⟩:=s';obtain rfl:T4=s.os:=os;exact⟨v,H',I.call (h':=hh) (g':=g) (d':=d) (t':=t) (ch:=[]) un hok bare (fun b z=>absurd z (by simp)),r,q⟩
end
def tCall(sp:Sp)(O3:List V)(E:XK)(t:TA):TE:=fun σ H Q=>t σ H fun vs H1=>sp (vs++O3) H1 Q E
def Binds(K:W.Frag)(fd:FuncData)(ps:List Str)(ds:List Value):Prop:=
 ∀(s:Shared) (us:List Value),K.In s.heap->(us++ds).length=ps.length->BindsTo s fd ⟨us,[]⟩ (ps.zip (us++ds))
theorem Binds.all(h:∀us:List Value,us.length=ps.length->bindArgs fd ⟨us,[]⟩=pure (ps.zip us)):Binds K fd ps []:=fun s us _ hl=>by
 rw[Vu]at hl ⊢;exact .of_eq (h us hl)
def tX(CX:CXT)(X:Cx)(E:XK):Prop:=∀(pr:List (Addr×Obj)) (σ:St) (H:Hp) (s:Shared) (e:Value) (s':Shared),Inv X pr σ H s->CX X.stack H s E e s'->X.xe e s'
variable{p:Pos}{vs:List V}
section
variable{k:Nat}{f:Addr}{O3:List V}{ds:List Value}{E:XK}{m:Str}{apos:Pos}{o:Expr}{t:TA}
theorem Ck{Q:VK}(F:FnOk X.prog X.w X.K X.mg X.base CX k f fd ps sp)(hr:Room k X.A)(hb:Binds X.K fd ps ds)(hd:Vals O3 ds)(hx:tX CX X E)
  (I:Inv X pr σ H s) (r:Vals vs us) (h:sp (vs++O3) H Q E):wpAny (model X.prog X.w) X.A (call (.ref f) us) (EP X pr σ Q) X.xe s:=by
 have r2:Vals (vs++O3) (us++ds):=r.append hd;have hl:(us++ds).length=ps.length:=by rw[<-r2.length];exact F.len _ _ _ _ h
 refine wpAny_call (codeAny_mono (F.run X.A X.stack s H ⟨us,[]⟩ (us++ds) (vs++O3) Q E hr I.env0 (hb s us I.kIn hl) r2 h) fun r s' hq=>?_);cases r with
 |error e=>exact hx pr σ H s e s' I hq
 |ok fl=>
  cases fl with
  |ret u=>exact I.after hq
  |next=>exact False.elim hq
  |brk=>exact False.elim hq
  |cont=>exact False.elim hq
theorem zO(F:FnOk X.prog X.w X.K X.mg X.base CX k f fd ps sp)(hr:Room k X.A)(hg:Gl X x)(hm:X.mg x=some (.ref f))(hk:PySem.W.keepIn X.K (.ref f)=true)(hb:Binds X.K fd ps ds)(hd:Vals O3 ds)(hx:tX CX X E)
  (ha:PA X (e::es) t) (KY:(x==("__debug__" : Str))=false:=by decide) (he:starEach (e::es) X.env=(false,eval e X.env)::starEach es X.env:=by rfl) (JR:(backTo pos (starEach es X.env)).any (·.1)=false:=by rfl):
  PE X (.Call (.Name x p) (e::es) [] pos) (tCall sp O3 E t):=by
 intro pr s σ H Q I h;refine WM (zu I hg hm ?_ KY);refine PySem.W.callWith_K (h₀:=X.base) I.ok.mod.kin hk (Iy (ha pos pr s σ H _ I h) fun us s1 ⟨vs,H1,I1,r,q⟩=>⟨I1.kIn,?_⟩) he JR;exact Ck F hr hb hd hx I1 r q
end
section
variable{k:Nat}{f:Addr}{ks:List Str}{E:XK}{m:Str}{apos Rm:Pos}{o:Expr}{kws:List Keyword}{t tk:TA}{nm:Option Str}
variable{g:List Value->List Value->List Value}{gV:List V->List V->List V}
end
structure FnScope(N P:List Str)(sc:Scope):Prop where
 kind:sc.kind=.function
 co:sc.isCoroutine=false
 gen:sc.isGenerator=false
 nd:N.Nodup
 pre:N.take P.length=P
 par:∀x∈P,sc.names.lookup x=some .local\/sc.names.lookup x=some .cell
 nofree:∀y∈sc.names,y.2≠.free
theorem fs{N P:List Str}(a:sc.kind=.function:=by rfl)(b:sc.isCoroutine=false:=by rfl)(c:sc.isGenerator=false:=by rfl)(d:N.Nodup:=by decide +kernel)(e:N.take P.length=P:=by rfl)(f:∀x∈P,sc.names.lookup x=some .local\/sc.names.lookup x=some .cell:=by decide +kernel)(g:∀y∈sc.names,y.2≠.free:=by decide +kernel):FnScope N P sc:=⟨a,b,c,d,e,f,g⟩
theorem nL{kindOf:Str->Option NameKind}{x:Str}:∀{binds:List (Str×Value)}{m:Str->Option Value},(∀v,(x,v)∉binds)->bindL kindOf binds m x=m x
 |[],_,_=>rfl
 |(n,v)::r,m,h=>by
  unfold bindL;rw[nL fun w hw=>h w (U3 _ hw)];split
  ·have:x≠n:=by rintro rfl;exact h v UY
   simp[this]
  ·rfl
theorem nM{kindOf:Str->Option NameKind}{x:Str}:∀{binds:List (Str×Value)}{m:Str->Option Value},(∀v,(x,v)∉binds)->bindC kindOf binds m x=m x
 |[],_,_=>rfl
 |(n,v)::r,m,h=>by
  unfold bindC;rw[nM fun w hw=>h w (U3 _ hw)];split
  ·rfl
  ·have:x≠n:=by rintro rfl;exact h v UY
   simp[this]
theorem nN{kindOf:Str->Option NameKind}{x:Str}{v:Value}:∀{P:List Str}{vs:List Value}{i:Nat}{m:Str->Option Value},P.Nodup->P[i]?=some x->vs[i]?=some v->kindOf x=some .local->
  bindL kindOf (P.zip vs) m x=some v
 |[],_,_,_,_,h,_,_=>by simp at h
 |_::_,[],_,_,_,_,h,_=>by simp at h
 |p::P,w::vs,0,m,nd,h1,h2,hk=>by
  simp at h1 h2;subst h1;subst h2;show bindL kindOf ((p,w)::P.zip vs) m p=_;unfold bindL;rw[nL fun v hv=>(VP.mp nd).1 (Xd hv).1,U2 hk];simp
 |p::P,w::vs,i+1,m,nd,h1,h2,hk=>by
  show bindL kindOf ((p,w)::P.zip vs) m x=_;unfold bindL;exact nN (i:=i) (VP.mp nd).2 (by simpa using h1) (by simpa using h2) hk
theorem nO{kindOf:Str->Option NameKind}{x:Str}{v:Value}:∀{P:List Str}{vs:List Value}{i:Nat}{m:Str->Option Value},P.Nodup->P[i]?=some x->vs[i]?=some v->kindOf x≠some .local->
  bindC kindOf (P.zip vs) m x=some v
 |[],_,_,_,_,h,_,_=>by simp at h
 |_::_,[],_,_,_,_,h,_=>by simp at h
 |p::P,w::vs,0,m,nd,h1,h2,hk=>by
  simp at h1 h2;subst h1;subst h2;show bindC kindOf ((p,w)::P.zip vs) m p=_;unfold bindC;rw[nM fun v hv=>(VP.mp nd).1 (Xd hv).1,U9 hk];simp
 |p::P,w::vs,i+1,m,nd,h1,h2,hk=>by
  show bindC kindOf ((p,w)::P.zip vs) m x=_;unfold bindC;exact nO (i:=i) (VP.mp nd).2 (by simpa using h1) (by simpa using h2) hk
def start(N:List Str)(vs:List V):St:=vs.map some++List.replicate (N.length-vs.length) none
noncomputable def xj(CX:CXT)(P:Program)(w:World)(K:W.Frag)(mg:Str->Option Value)(base:Heap)(N:List Str)(qual:Str)(scope:Scope)(f:Addr)(cd:Value)(A:Around)(outer:List Env)(s:Shared)(H:Hp)(E:XK):Cx where
 prog:=P
 w:=w
 K:=K
 mg:=mg
 base:=base
 A:=A.deeper (envOfC qual scope s.heap.objs.size f cd)
 N:=N
 s₀:=s
 H₀:=H
 env:=envOfC qual scope s.heap.objs.size f cd
 outer:=outer
 stack:=envOfC qual scope s.heap.objs.size f cd::outer
 ex:=[]
 calm:=true
 fn:=fun _=>true
 pn:=[]
 xe:=fun e s'=>wpAny (model P w) (A.deeper (envOfC qual scope s.heap.objs.size f cd)) (leaving (envOfC qual scope s.heap.objs.size f cd) e) (fun _ SU=>CX outer H s E e SU) (fun e' SU=>CX outer H s E e' SU) s'
theorem qm(h:sc.names.lookup x=some .cell):∃c,(cellsFrom n sc.names []).lookup x=some c:=by
 have q:=Y7 sc.names n [] (.inl h);exact WN.mp q
variable{qual:Str}{scope:Scope}
theorem tY{f:Addr}{cd:Value}{outer:List Env}{s1:Shared}{E:XK}
  (S:FnScope N ps scope) (hd:A.handled=none) (e0:Env0 P w K mg base A outer s H) (hl:vs.length=ps.length) (r:Vals vs us)
  (x:InCallC s s.heap.objs.size (bindL (envOfC qual scope s.heap.objs.size f cd).kindOf (ps.zip us) fun _=>none) (cellsFrom (s.heap.objs.size+1) scope.names []) (bindC (envOfC qual scope s.heap.objs.size f cd).kindOf (ps.zip us) fun _=>none) s1):
  Inv (xj CX P w K mg base N qual scope f cd A outer s H E) [] (start N vs) H s1:=by
 have JR:ps.length<=N.length:=by have:=V7 List.length S.pre;rw[VE]at this;lia
 obtain⟨h1,tk,rfl,hk⟩:=x.done;have Rn:∀b:Addr,b∉(xj CX P w K mg base N qual scope f cd A outer s H E).ex:=fun b z=>absurd (show b∈([]:List Addr) from z) (by simp)
 refine⟨⟨e0.mod,S.kind,rfl,rfl,UZ _,fun y z c h1 h2=>?_,fun y hy=>?_,fun y c _ h=>?_,fun _=>hd,Around.frames_deeper e0.frames,.inr ⟨rfl,rfl⟩,fun b z=>absurd z (Rn b),e0.bs,e0.bsz,fun b _ _=>Rn b,fun b z=>absurd z (Rn b),e0.funs,e0.frf⟩,
  rfl,e0.bare,Un.kept hk,⟨_,x.toInCall.ns,fun i y v h1 h2 h3=>?_⟩,fun y c h=>⟨_,x.cell y c h⟩,e0.hok.fresh (UZ _),fun y c h=>?_,fun p hp=>absurd (show p∈([]:List (Addr×Obj)) from hp) (by simp),e0.hok.kept hk,?_⟩
 ·exact name_of_addr x.apart (Wo h1) (Wo h2)
 ·have hy:scope.names.lookup y=some .cell\/scope.names.lookup y=some .free:=hy;rcases hy with hy|hy
  ·exact qm hy
  ·exact absurd rfl (S.nofree _ (Wo hy))
 ·exact W7 (x.above y c (Wo h))
 ·have hi:i<vs.length:=by
   unfold start at h2;by_cases hi:i<vs.length
   ·exact hi
   ·rw[W0 (by simpa using hi)]at h2;rw[List.getElem?_replicate]at h2;split at h2 <;> cases h2
  have ha:vs[i]?=some v:=by
   unfold start at h2;rw[WK (by simpa using hi),Vg]at h2;cases e:vs[i]? with
   |none=>rw[e]at h2;cases h2
   |some a=>rw[e]at h2;cases h2;rfl
  obtain⟨u,hu,rv⟩:=r.get ha;have hp:ps[i]?=some y:=by
   rw[<-S.pre,List.getElem?_take_of_lt (by lia)];exact h1
  have T5:ps.Nodup:=by rw[<-S.pre];exact S.nd.sublist (List.take_sublist _ _)
  refine⟨u,rv,?_⟩;rcases S.par y (VU hp) with k|k
  ·exact .inl ⟨k,nN T5 hp hu k⟩
  ·obtain⟨c,e⟩:=qm (n:=s.heap.objs.size+1) k;refine .inr ⟨.inl k,c,e,?_⟩;have q:=x.cell y c e;rw[nO T5 hp hu (by show scope.names.lookup y≠_;rw[k];decide)]at q;exact q
 ·exact e0.hok.fresh (W7 (x.above y c (Wo h)))
 ·unfold start;show _=N.length;rw[VN,U8,Wq];lia
theorem E9{k:Nat}{f:Addr}{params:Arguments}{dV kV doc pm IJ ct oc:Value}{an od:Option Addr}
  {N1:Array (Option Value)}(lk:K.lookup f=some ⟨oc,od,.func (PySem.W.fnOf name qual params body scope dV kV doc pm an IJ ct),N1⟩) (LZ:PySem.W.codeIn K IJ qual=true) (S:FnScope N ps scope)
  (len:∀vs H Q E,sp vs H Q E->vs.length=ps.length)
  (Nh:∀(A:Around) (outer:List Env) (s:Shared) (H:Hp) (vs:List V) (Q:VK) (E:XK),Room k (A.deeper (envOfC qual scope s.heap.objs.size f IJ))->sp vs H Q E->
   ∃t,PSs (xj CX P w K mg base N qual scope f IJ A outer s H E) body t/\t {nx:=fun _ H'=>Q .non H',rt:=Q} (start N vs) H):
  FnOk P w K mg base CX (k+1) f (PySem.W.fnOf name qual params body scope dV kV doc pm an IJ ct) ps sp:=by
 refine⟨len,fun A outer s H args us vs Q E hr e0 hb r MZ=>?_⟩;have hl:=len _ _ _ _ MZ;have KX:K.In s.heap:=e0.mod.kin.keeps fun b o e=>(e0.bs b o e).1
 have lim:s.heap.NoLimit:=e0.mod.nolimit.keeps fun b o e=>(e0.bs b o e).1
 have L0:∀y∈ps.zip us,scope.names.lookup y.1=some .local\/(scope.names.lookup y.1=some .cell/\((cellsFrom (s.heap.objs.size+1) scope.names []).lookup y.1).isSome=true):=fun Ig hy=>by
  obtain⟨n,v⟩:=Ig;rcases S.par n (Xd hy).1 with q|q
  ·exact .inl q
  ·exact .inr ⟨q,Y7 _ _ _ (.inl q)⟩
 refine codeAny_call_function hr.depth (KX _ _ lk) rfl S.co S.gen rfl (PySem.W.codeRec_of KX LZ) (hb _ _ _ _ ?_);refine wpAny_newFunctionEnv_cells S.kind L0 fun env he s1 x=>?_
 subst he;refine⟨lim.keeps x.toInCall.keep,codeAny_func ?_⟩;obtain⟨t,ht,hq⟩:=Nh A outer s H vs Q E (hr.deeper _) MZ;have I:Inv (xj CX P w K mg base N qual scope f IJ A outer s H E) [] (start N vs) H s1:=tY S hr.hd e0 hl r x;refine Xz (ht [] s1 (start N vs) H _ I hq) (fun fl s' hs=>?_) fun e s' hs=>hs
 have fin:∀{σ':St}{H':Hp}{v:V}{u:Value},Inv (xj CX P w K mg base N qual scope f IJ A outer s H E) [] σ' H' s'->RelV v u->Q v H'->CE outer P w H s Q u s':=
  fun{σ' H' v u} J rv q=>⟨v,H',J.os,J.bare,J.base,J.hok,rv,q⟩
 cases fl with
 |ret u=>
  obtain⟨v,σ',H',J,rv,q⟩:=hs;exact fin J rv q
 |next=>
  obtain⟨σ',H',J,q⟩:=hs;exact fin (v:=V.non) (u:=Value.none) J rfl q
 |brk=>
  obtain⟨_,_,_,q⟩:=hs;exact False.elim q
 |cont=>
  obtain⟨_,_,_,q⟩:=hs;exact False.elim q
section
variable{t:TA}{id T:String}{r:List V->Hp->VK->Prop}
def SV(r:List V->Hp->VK->Prop)(t:TA):TE:=fun σ H Q=>t σ H fun vs H1=>r vs H1 Q
theorem qo(hc:eA X (.builtin id) r)(hg:Gl X x)(hm:X.mg x=none)(hv:bootBuiltins x=some (.builtin id))(ha:PA X (e::es) t)(hn:x≠"__name__":=by decide)(KY:(x==("__debug__" : Str))=false:=by decide)
  (he:starEach (e::es) X.env=(false,eval e X.env)::starEach es X.env:=by rfl) (JR:(backTo pos (starEach es X.env)).any (·.1)=false:=by rfl):PE X (.Call (.Name x p) (e::es) [] pos) (SV r t):=by
 intro pr s σ H Q I h;refine WM (jm I hg hm hv ?_ hn KY);exact PyProof.Rows.callWith_builtin1 (Iy (ha pos pr s σ H _ I h) fun us s1 ⟨vs,H1,I1,r1,q1⟩=>hc pr s1 σ H1 vs us Q I1 r1 q1) he JR
theorem tZ(hc:eA X (.type T) r)(hg:Gl X x)(hm:X.mg x=none)(hv:bootBuiltins x=some (.type T))(ha:PA X (e::es) t)(hn:x≠"__name__":=by decide)(KY:(x==("__debug__" : Str))=false:=by decide)
  (he:starEach (e::es) X.env=(false,eval e X.env)::starEach es X.env:=by rfl) (JR:(backTo pos (starEach es X.env)).any (·.1)=false:=by rfl):PE X (.Call (.Name x p) (e::es) [] pos) (SV r t):=by
 intro pr s σ H Q I h;refine WM (jm I hg hm hv ?_ hn KY);exact Wc (Iy (ha pos pr s σ H _ I h) fun us s1 ⟨vs,H1,I1,r1,q1⟩=>hc pr s1 σ H1 vs us Q I1 r1 q1) he JR
end
end L2
namespace HT
open PySem PyProof.Rows
section
open PySem.SeqAt
open PySem.AutoSeq1 (wpAny_loadPart')
open PySem.MeetsSeq PySem.MeetsSeq2 PySem.MeetsSeq3
end
section
variable{prog:Program}{w:World}{A:Around}{E:Value->Shared->Prop}{s:Shared}
theorem zP{t b:Addr}{vs ws:List Value}{Q:Value->Shared->Prop}(ht:IsTup s.heap t vs.toArray)(hb:IsTup s.heap b ws.toArray)(hv:vs≠[])
  (h1:ws=[]->Q (.ref t) s) (h2:ws≠[]->Q (.ref s.heap.objs.size) {s with heap:=s.heap.push {cls:=.type "tuple",data:=.seq (vs++ws).toArray}})
  (hsz:vs.length+ws.length<=sizeLine):wpAny (model prog w) A (binaryOp .Add (.ref t) (.ref b)) Q E s:=by
 obtain⟨⟨cls,dd,data,sl⟩,ho,hc,n,hd⟩:=id ht;obtain⟨⟨Ro,QV,data2,QX⟩,Kg,Ni,n2,hd2⟩:=id hb;simp only at hc hd Ni hd2;subst hc hd Ni hd2;have e:vs.toArray++ws.toArray=(vs++ws).toArray:=by simp
 by_cases hw:ws=[]
 ·exact Zj ⟨_,ho,rfl⟩ ⟨_,Kg,rfl⟩ Y2 Z2 X1 XW (XM _ _)
   (tuple_addW1 t b vs.toArray ws.toArray n n2 dd QV sl QX (by simpa using hv) (by simp[hw])) ⟨ho,Kg,h1 hw⟩
 ·refine Zj ⟨_,ho,rfl⟩ ⟨_,Kg,rfl⟩ Y2 Z2 X1 XW (XM _ _)
   (tuple_addW2 t b vs.toArray ws.toArray n n2 dd QV sl QX (by simpa using hv) (by simpa using hw) (by rw[UT,UT];exact hsz)) ⟨ho,Kg,?_⟩
  rw[e];exact h2 hw
def sIx(n d:Nat):Option Int->Nat
 |none=>d
 |some v=>if v<0 then(v+(n:Int)).toNat else min v.toNat n
theorem qp(n d:Nat):sIx n d none=d:=rfl
theorem zQ(n d k:Nat):sIx n d (some (k:Int))=min k n:=by
 show(if(k:Int)<0 then((k:Int)+(n:Int)).toNat else min (k:Int).toNat n)=min k n;rw[U9 (by lia),VV]
theorem ua(n d:Nat)(hd:d<=n)(o:Option Int):sIx n d o<=n:=by
 cases o with
 |none=>exact hd
 |some v=>
  show(if v<0 then(v+(n:Int)).toNat else min v.toNat n)<=n;by_cases hv:v<0
  ·rw[U2 hv];lia
  ·rw[U9 hv];exact Nat.min_le_right _ _
theorem ub(v:Int)(n d:Nat):(if v<0 then max (v+(n:Int)) 0 else min v (n:Int))=((sIx n d (some v):Nat):Int):=by
 show(if v<0 then max (v+(n:Int)) 0 else min v (n:Int))=(((if v<0 then(v+(n:Int)).toNat else min v.toNat n):Nat):Int)
 by_cases hv:v<0
 ·simp only[U2 hv];lia
 ·simp only[U9 hv];lia
theorem sf(lo hi:Option Int)(n:Nat):Builtin.Slice.sliceAdjust lo hi 1 (n:Int)=(((sIx n 0 lo:Nat):Int),((sIx n n hi:Nat):Int)):=by
 have h1:¬ ((1:Int)<0):=by lia
 unfold Builtin.Slice.sliceAdjust;simp only[h1,YT];refine Prod.ext ?_ ?_
 ·cases lo with
  |none=>rfl
  |some v=>exact ub v n 0
 ·cases hi with
  |none=>rfl
  |some v=>exact ub v n n
theorem si(i j:Nat):Builtin.Slice.slicePlaces (i:Int) (j:Int) 1=j-i:=by
 unfold Builtin.Slice.slicePlaces;have h1:(1:Int)>0:=by lia
 simp only[h1,Wt,Int.ediv_one];split <;> lia
theorem lp{v:Value}{o:Option Int}{Q:Option Int->Shared->Prop}(p:IsPart v o)(h:Q o s):wpAny (model prog w) A (Builtin.Slice.slicePartIndex v) Q E s:=by
 cases p with
 |none=>exact slicePart_none h
 |int i t=>exact slicePart_int h
theorem fU{sl:Addr}{vl vu:Value}{lo hi:Option Int}{n:Nat}{Q:Int×Int×Nat->Shared->Prop}(hs:s.heap.IsSliceOf sl vl vu .none)(pl:IsPart vl lo)(pu:IsPart vu hi)
  (h:Q (((sIx n 0 lo:Nat):Int),1,sIx n n hi-sIx n 0 lo) s):wpAny (model prog w) A (Builtin.Slice.sliceApplied (.ref sl) (pure (n:Int))) Q E s:=by
 obtain⟨os,Pq,Sn,Nj⟩:=id hs;unfold Builtin.Slice.sliceApplied Builtin.Slice.sliceFields;refine UR (UR (Wu Pq Nj (x:=vl) rfl (UR (Wu Pq Nj (x:=vu) rfl (UR (Wu Pq Nj (x:=.none) rfl (Va ?_)))))));refine UR (slicePart_none ?_);show wpAny _ _ (if((1:Int)==0)=true then _ else _) _ _ s;rw[U9 (by decide)];refine UR (lp pl (UR (lp pu (UR (Va ?_)))));show wpAny _ _ (match Builtin.Slice.sliceAdjust lo hi 1 (n:Int) with|(lo,hi)=>pure (lo,(1:Int),Builtin.Slice.slicePlaces lo hi 1)) _ _ s;rw[sf lo hi n];show wpAny _ _ (pure (((sIx n 0 lo:Nat):Int),(1:Int),Builtin.Slice.slicePlaces ((sIx n 0 lo:Nat):Int) ((sIx n n hi:Nat):Int) 1)) _ _ s;rw[si];exact Va h
theorem xk(xs:Array Value)(i k:Nat):((List.range k).filterMap fun(m:Nat)=>xs[((i:Int)+(m:Int)*1).toNat]?).toArray=((xs.toList.drop i).take k).toArray:=by
 have e:(fun(m:Nat)=>xs[((i:Int)+(m:Int)*1).toNat]?)=fun m=>xs[i+m]?:=by
  funext m
  have:((i:Int)+(m:Int)*1).toNat=i+m:=by lia
  rw[this]
 rw[e];have:=pick_run xs i k;rw[List.filterMap_map]at this;have e2:((fun x=>xs[x]?)∘fun x=>i+x)=fun m=>xs[i+m]?:=rfl
 rw[e2]at this;rw[this]
theorem i5{t sl:Addr}{items:Array Value}{vl vu:Value}{lo hi:Option Int}{Q:Value->Shared->Prop}(ht:IsTup s.heap t items)(hs:s.heap.IsSliceOf sl vl vu .none)(pl:IsPart vl lo)(pu:IsPart vu hi)
  (hw:¬ (sIx items.size 0 lo=0/\sIx items.size items.size hi=items.size))
  (h:Q (.ref s.heap.objs.size) {s with heap:=s.heap.push {cls:=.type "tuple",data:=.seq ((items.toList.drop (sIx items.size 0 lo)).take (sIx items.size items.size hi-sIx items.size 0 lo)).toArray}})
  (hsz:items.size<=sizeLine):wpAny (model prog w) A (getItem (.ref t) (.ref sl)) Q E s:=by
 have MO:sizeOk (.seq ((items.toList.drop (sIx items.size 0 lo)).take (sIx items.size items.size hi-sIx items.size 0 lo)).toArray):=by
  show((items.toList.drop (sIx items.size 0 lo)).take (sIx items.size items.size hi-sIx items.size 0 lo)).toArray.size<=sizeLine;rw[UT,VE,Wz,WE];lia
 have hj:sIx items.size items.size hi<=items.size:=ua _ _ (UZ _) hi;obtain⟨os,Pq,Sn,Nj⟩:=id hs;have SW:s.TypeIs (.ref sl) "slice":=⟨os,Pq,Sn⟩
 unfold getItem;try with_reducible refine XX ?_
 first|refine UR (Va ?_)|skip
 refine UR (wpAny_sequenceKey ht.typeIs (by decide) ?_);refine UR (Wi (name:=Str.ofString "__getitem__") ht.typeIs WH
  (W3 WH ht.typeIs entry_tuple_getitem ?_ (args_tuple_getitem _ _)))
 show wpAny _ _ (Builtin.Tuple.tupleItemsOf (.ref t) >>= _) _ _ s;refine UR (tupleItemsOf_ ht ?_);refine UR (Xt SW ?_);rw[U2 (by decide)];refine UR (fU hs pl pu ?_);have Pr:¬ ((((sIx items.size 0 lo:Nat):Int)==0&&(1:Int)==1&&(sIx items.size items.size hi-sIx items.size 0 lo)==items.size)=true):=by
  intro q;rw[Ve,Ve]at q;have q1:((sIx items.size 0 lo:Nat):Int)=0:=eq_of_beq q.1.1;have q2:sIx items.size items.size hi-sIx items.size 0 lo=items.size:=eq_of_beq q.2;exact hw ⟨by lia,by lia⟩
 show wpAny _ _ (if(((sIx items.size 0 lo:Nat):Int)==0&&(1:Int)==1&&(sIx items.size items.size hi-sIx items.size 0 lo)==items.size)=true then _ else _) _ _ s;rw[U9 Pr,xk];first
  |exact UR (m:=Builtin.Tuple.tupleExact _) (WI (Va ⟨_,rfl,Va h⟩) MO)
  |exact UR (m:=Builtin.Tuple.tupleExact _) (WI (UR (Va (Va ⟨_,rfl,Va h⟩))) MO)
  |exact UR (UR (m:=Builtin.Tuple.tupleExact _) (WI (Va (Va ⟨_,rfl,Va h⟩)) MO))
  |exact UR (UR (m:=Builtin.Tuple.tupleExact _) (WI (Va ⟨_,rfl,Va h⟩) MO))
end
end HT
namespace L2
open PySem PySem.Spec PyProof.Rows
abbrev TO:=St->Hp->(Option Int->Hp->Prop)->Prop
def PO(X:Cx)(e:Option Expr)(t:TO):Prop:=
 ∀(pr:List (Addr×Obj)) (s:Shared) (σ:St) (H:Hp) (Q:Option Int->Hp->Prop),Inv X pr σ H s->t σ H Q->
  wpAny (model X.prog X.w) X.A (evalPart e X.env) (fun u s'=>∃o H',Inv X pr σ H' s'/\IsPart u o/\Q o H') X.xe s
def zR:TO:=fun _ H Q=>Q none H
def Fb(t:TE):TO:=fun σ H Q=>t σ H fun x H1=>∃i,x=.int i/\Q (some i) H1
variable{X:Cx}{pos:Pos}{xs:List V}
section
variable{e:Expr}{te:TE}{lo hi:Option Expr}{tl th:TO}{p2:Pos}
theorem zS:PO X none zR:=by
 intro pr s σ H Q I h;rw[evalPart_none];exact Va ⟨none,H,I,.none,h⟩
theorem zT(h:PE X e te):PO X (some e) (Fb te):=by
 intro pr s σ H Q I hw;rw[evalPart_some];refine Iy (h pr s σ H _ I hw) fun u s1 Ir=>?_
 obtain⟨x,H1,I1,r1,q1⟩:=Ir;obtain⟨i,rfl,q⟩:=q1;obtain⟨t,rfl⟩:=r1;exact⟨some i,H1,I1,.int i t,q⟩
def Pt(X:Cx)(r:V->Option Int->Option Int->Hp->VK->Prop):Prop:=
 ∀(pr:List (Addr×Obj)) (s:Shared) (σ:St) (H:Hp) (x:V) (v vl vu:Value) (lo hi:Option Int) (sl:Addr) (Q:VK),Inv X pr σ H s->RelV x v->s.heap.IsSliceOf sl vl vu .none->IsPart vl lo->IsPart vu hi->r x lo hi H Q->
  ∃T id,typeLookup (.type T) "__getitem__" = pure (some (.builtin id))/\s.TypeIs v T/\wpAny (model X.prog X.w) X.A (getItem v (.ref sl)) (EP X pr σ Q) X.xe s
def tSl(r:V->Option Int->Option Int->Hp->VK->Prop)(te:TE)(tl th:TO):TE:=fun σ H Q=>te σ H fun x H1=>tl σ H1 fun l H2=>th σ H2 fun u H3=>r x l u H3 Q
theorem xl{r:V->Option Int->Option Int->Hp->VK->Prop}(hr:Pt X r)(he:PE X e te)(hl:PO X lo tl)(hu:PO X hi th):PE X (.Subscript e (.Slice lo hi none p2) pos) (tSl r te tl th):=by
 intro pr s σ H Q I h;refine Subscript_ (Iy (he pr s σ H _ I h) fun v s1 Ir=>?_);obtain⟨x,H1,I1,r1,q1⟩:=Ir;refine wpAny_Slice (Iy (hl pr s1 σ H1 _ I1 q1) fun vl s2 ⟨l,H2,I2,pl,q2⟩=>Iy (hu pr s2 σ H2 _ I2 q2) fun vu s3 Ir=>?_);obtain⟨u,H3,I3,pu,q3⟩:=Ir;rw[evalPart_none];refine Va ?_;have I4:Inv X pr σ H3 {s3 with heap:=s3.heap.push {cls:=.type "slice",data:=.fields #[vl,vu,.none]}}:=I3.kept (t':=s3.toks) fun b ob q=>UW _ q
 obtain⟨T,id,hT,ht,hg⟩:=hr pr {s3 with heap:=s3.heap.push {cls:=.type "slice",data:=.fields #[vl,vu,.none]}} σ H3 x v vl vu l u s3.heap.objs.size Q I4 r1 (Heap.IsSliceOf.new ..) pl pu q3;show wpAny (model X.prog X.w) X.A (subscriptTail e (.Slice lo hi none p2) v (.ref s3.heap.objs.size)) (EP X pr σ Q) X.xe {s3 with heap:=s3.heap.push {cls:=.type "slice",data:=.fields #[vl,vu,.none]}};exact tail_any (ops:=[.ref s3.heap.objs.size,v]) ht hT hg (by with_unfolding_all rfl)
def yC(xs:List V)(lo hi:Option Int):List V:=(xs.drop (HT.sIx xs.length 0 lo)).take (HT.sIx xs.length xs.length hi-HT.sIx xs.length 0 lo)
theorem jP(xs:List V)(lo hi:Option Int):(yC xs lo hi).length<=xs.length:=by
 unfold yC;rw[VE,Wz];lia
def Hd(K:W.Frag):V->Option Int->Option Int->Hp->VK->Prop:=fun x lo hi H Q=>∃a xs,x=.ref a/\SqT K H a xs/\
 ¬ (HT.sIx xs.length 0 lo=0/\HT.sIx xs.length xs.length hi=xs.length)/\∀p,H p=none->Q (.ref p) (upd H p (.tup (yC xs lo hi)))
theorem Cm:Pt X (Hd X.K):=by
 intro pr s σ H x v vl vu lo hi sl Q I rx hs pl pu h;obtain⟨a,xs,rfl,hx,hw,q⟩:=h;cases rx;obtain⟨HX,r,ht,hz⟩:=I.tuple hx;have hlen:HX.toArray.size=xs.length:=by rw[UT];exact r.length.symm
 refine⟨"tuple",_,PyProof.Rows.slot_tuple_getitem.lookup,ht.typeIs,?_⟩;refine HT.i5 ht hs pl pu (by rw[hlen];exact hw) ?_ (by rw[hlen];exact hz);rw[hlen];refine⟨.ref s.heap.objs.size,_,I.laid (t':=s.toks) (o:=.tup (yC xs lo hi)) (fun b ob q=>UW _ q) (UZ _) ?_,rfl,q _ (I.hok.fresh (UZ _))⟩;exact⟨Vq (jP xs lo hi) hz,_,(r.drop (HT.sIx xs.length 0 lo)).take (HT.sIx xs.length xs.length hi-HT.sIx xs.length 0 lo),IsTupN.new _ _⟩
def Fc(K:W.Frag):R2:=fun x y H Q=>∃a b xs ys,x=.ref a/\y=.ref b/\SqT K H a xs/\SqT K H b ys/\xs≠[]/\xs.length+ys.length<=sizeLine/\
 (ys=[]->Q (.ref a) H)/\(ys≠[]->∀p,H p=none->Q (.ref p) (upd H p (.tup (xs++ys))))
theorem Vals.nil_iff{us:List Value}(r:Vals xs us):us=[]<->xs=[]:=by
 cases r with
 |nil=>simp
 |cons _ _=>simp
theorem zU:IW X (binaryOp .Add) (Fc X.K):=by
 intro pr s σ H x y v u Q I rx ry h;obtain⟨a,b,xs,ys,rfl,rfl,ha,hb,hx,hz,q1,q2⟩:=h;cases rx;cases ry;obtain⟨HX,r1,p1,_⟩:=I.tuple ha;obtain⟨Nk,r2,p2,_⟩:=I.tuple hb;refine HT.zP p1 p2 (fun z=>hx (r1.nil_iff.mp z)) (fun z=>⟨.ref a,H,I,rfl,q1 (r2.nil_iff.mp z)⟩) (fun z=>?_) (by rw[<-r1.length,<-r2.length];exact hz);refine⟨.ref s.heap.objs.size,_,I.laid (t':=s.toks) (o:=.tup (xs++ys)) (fun b ob q=>UW _ q) (UZ _) ?_,rfl,q2 (fun w=>z (r2.nil_iff.mpr w)) _ (I.hok.fresh (UZ _))⟩;exact⟨by rw[VN];exact hz,_,r1.append r2,IsTupN.new _ _⟩
end
def ixN(n:Nat)(i:Int):Option Nat:=if 0<=i then(if i<n then some i.toNat else none) else if -(n:Int)<=i then some (i+n).toNat else none
def Kz{α:Type}(xs:List α)(i:Int):Option α:=(ixN xs.length i).bind fun j=>xs[j]?
variable{j n:Nat}{i:Int}
theorem uc(h:ixN n i=some j):seqIndex? i n=some j/\j<n/\-(n:Int)<=i/\i<n:=by
 unfold ixN at h;by_cases h0:0<=i
 ·rw[U2 h0]at h;by_cases h1:i<n
  ·rw[U2 h1]at h;have e:i.toNat=j:=Vy h;exact⟨by rw[seqIndex_of h0 h1,e],by lia,by lia,h1⟩
  ·rw[U9 h1]at h;cases h
 ·rw[U9 h0]at h;by_cases h1:-(n:Int)<=i
  ·rw[U2 h1]at h;have e:(i+n).toNat=j:=Vy h;exact⟨by rw[seqIndex_neg (by lia) h1,e],by lia,h1,by lia⟩
  ·rw[U9 h1]at h;cases h
variable{α:Type}
theorem pE{xs:List α}{v:α}(h:Kz xs i=some v):∃j,seqIndex? i xs.length=some j/\xs[j]?=some v/\j<xs.length/\-(xs.length:Int)<=i/\i<xs.length:=by
 unfold Kz at h;cases e:ixN xs.length i with
 |none=>rw[e]at h;cases h
 |some j=>
  rw[e]at h;obtain⟨h1,h2,h3,h4⟩:=uc e;exact⟨j,h1,h,h2,h3,h4⟩
theorem hW{xs:List α}{v:α}(h:xs[j]?=some v):Kz xs (j:Int)=some v:=by
 have hj:j<xs.length:=(U1.mp h).1;have e:ixN xs.length (j:Int)=some j:=by
  unfold ixN;rw[U2 (by lia),U2 (by lia)];simp
 unfold Kz;rw[e];exact h
def ud(b:Expr):Prop:=∀o i,subscripted b false o i=operate [o,i] (getItem o i)
def Rp(X:Cx)(r:R2):Prop:=
 ∀(value slice:Expr) (pr:List (Addr×Obj)) (s:Shared) (σ:St) (H:Hp) (x y:V) (v u:Value) (Q:VK),Inv X pr σ H s->RelV x v->RelV y u->r x y H Q->
  subscripted slice false v u=operate [v,u] (getItem v u)->wpAny (model X.prog X.w) X.A (subscriptTail value slice v u) (EP X pr σ Q) X.xe s
def So(X:Cx)(id:String)(r:V->List V->Hp->VK->Prop):Prop:=
 ∀(pr:List (Addr×Obj)) (s:Shared) (σ:St) (H:Hp) (x:V) (xs:List V) (v:Value) (us:List Value) (Q:VK),Inv X pr σ H s->RelV x v->Vals xs us->r x xs H Q->
  wpAny (model X.prog X.w) X.A (call (.builtin id) (v::us)) (EP X pr σ Q) X.xe s
variable{pr:List (Addr×Obj)}{σ:St}{H:Hp}{s:Shared}{p:Addr}{A:Around}{T:String}
section
variable{a b:Expr}{ta tb:TE}
theorem Fd{r:R2}(hr:Rp X r)(ha:PE X a ta)(hb:PE X b tb)(hs:ud b):PE X (.Subscript a b pos) (QR r ta tb):=by
 intro pr s σ H Q I h;exact Subscript_ (EW ha hb I h fun v u s2 x y H2 I2 rx ry q=>hr a b pr s2 σ H2 x y v u Q I2 rx ry q (hs _ _))
def He(K:W.Frag):R2:=fun x y H Q=>∃p xs i v,x=.ref p/\y=.int i/\SqL K H p xs/\Kz xs i=some v/\Q v H
def Hf(K:W.Frag):R2:=fun x y H Q=>∃p xs i v,x=.ref p/\y=.int i/\SqT K H p xs/\Kz xs i=some v/\Q v H
def Hg:R2:=fun x y H Q=>∃z i c,x=.str z/\y=.int i/\z.length<=sizeLine/\Kz z.cps.toList i=some c/\Q (.str ⟨#[c]⟩) H
theorem zV:Rp X (He X.K):=by
 intro value slice pr s σ H x y v u Q I rx ry h hs;obtain⟨p,xs,i,z,rfl,rfl,hq,he,q⟩:=h;cases rx;obtain⟨t,rfl⟩:=ry;obtain⟨HX,r,pl,hz⟩:=I.list hq;obtain⟨j,h1,h2,h3,h4,h5⟩:=pE he;obtain⟨w,ew,Mp⟩:=r.get h2;have hl:=r.length;have hn:=ll;have fin:EP X pr σ Q w s:=⟨z,H,I,Mp,q⟩
 by_cases h0:0<=i
 ·have hj:i.toNat=j:=by
   rw[seqIndex_of h0 h5]at h1;exact Vy h1
  exact item_listR pl.isList h0 (by lia) (by rw[hj];simpa using ew) fin hs
 ·have hj:(i+(HX.toArray.size:Int)).toNat=j:=by
   rw[seqIndex_neg (by lia) h4]at h1;rw[UT,<-hl];exact Vy h1
  exact subscriptTail_builtinR (x:=w) pl.isList.typeIs slot_list_getitem.lookup
   (wpAny_getItem_list_neg (Q:=fun r s'=>r=w/\EP X pr σ Q r s') pl.isList (by lia) (by rw[UT] <;> lia) (by lia) (by rw[hj];simpa using ew) ⟨rfl,fin⟩) hs
theorem Cn:Rp X (Hf X.K):=by
 intro value slice pr s σ H x y v u Q I rx ry h hs;obtain⟨p,xs,i,z,rfl,rfl,hq,he,q⟩:=h;cases rx;obtain⟨t,rfl⟩:=ry;obtain⟨HX,r,pl,hz⟩:=I.tuple hq;obtain⟨j,h1,h2,h3,h4,h5⟩:=pE he;obtain⟨w,ew,Mp⟩:=r.get h2;have hl:=r.length;have hn:=ll;have fin:EP X pr σ Q w s:=⟨z,H,I,Mp,q⟩
 exact subscriptTail_builtinR (x:=w) pl.typeIs slot_tuple_getitem.lookup
  (getItem_tuple (j:=j) (Q:=fun r s'=>r=w/\EP X pr σ Q r s') pl (by lia) (by lia) (by rw[UT,<-hl];exact h1) (by simpa using ew) ⟨rfl,fin⟩) hs
theorem Co:Rp X Hg:=by
 intro value slice pr s σ H x y v u Q I rx ry h hs;obtain⟨z,i,c,rfl,rfl,hz,he,q⟩:=h;obtain⟨t,rfl⟩:=rx;obtain⟨t',rfl⟩:=ry;obtain⟨j,h1,h2,h3,h4,h5⟩:=pE he;have hl:z.cps.toList.length=z.length:=by simp[Str.length]
 rw[hl]at h1 h4 h5;have hn:=ll;exact tail_any (Zy s z t) slot_str_getitem.lookup (getItem_str (c:=c) (by
  have e1:decide (i < -(2 ^ 63:Int))=false:=VG (by lia);have e2:decide (i>=2 ^ 63)=false:=VG (by lia);rw[e1,e2,Bool.or_false]) (by rw[h1];simpa using h2) ⟨.str ⟨#[c]⟩,H,I.tok _,⟨_,rfl⟩,q⟩) hs
theorem sj(HX:List Value)(n j:Nat)(u:Value):Obj.mapSeq (·.setIfInBounds j u) {cls:=.type "list",data:=.seq HX.toArray n}={cls:=.type "list",data:=.seq (HX.set j u).toArray n}:=by
 simp[Obj.mapSeq]
theorem Inv.lst(I:Inv X pr σ H s)(h:H p=some (.lst xs)):
  ∃(HX:List Value) (n:Nat),Vals xs HX/\s.heap.get? p=some {cls:=.type "list",data:=.seq HX.toArray n}/\xs.length<=sizeLine:=by
 obtain⟨z,HX,n,r,e⟩:=I.hok p _ h;exact⟨HX,n,r,e,z⟩
theorem Inv.lstUpd{ys:List V}{HX its':List Value}{n n':Nat}{f:Obj->Obj}(I:Inv X pr σ H s)(h:H p=some (.lst xs))
  (ho:s.heap.get? p=some {cls:=.type "list",data:=.seq HX.toArray n}) (hf:f {cls:=.type "list",data:=.seq HX.toArray n}={cls:=.type "list",data:=.seq its'.toArray n'}) (r:Vals ys its') (hz:ys.length<=sizeLine) (t:Nat):
  Inv X pr σ (upd H p (.lst ys)) {s with heap:=s.heap.update p f,toks:=t}:=by
 have e:(s.heap.update p f).get? p=some {cls:=.type "list",data:=.seq its'.toArray n'}:=by
  rw[X4 f ho (by rw[hf] <;> rfl),hf]
 refine I.write (x:=p) (e:=p) (by rw[h];trivial) (.inl rfl) (fun b u hb q=>(WC _ _ (WD hb)).trans q) ⟨_,e⟩ ?_;exact⟨hz,its',n',r,e⟩
def Cp:V->V->V->Hp->(Hp->Prop)->Prop:=fun o i v H Q=>∃p xs k j,o=.ref p/\i=.int k/\H p=some (.lst xs)/\ixN xs.length k=some j/\Q (upd H p (.lst (xs.set j v)))
theorem xm:GS X Cp:=by
 intro pr s σ H o i v ov iv u Q I ro ri rv h;obtain⟨p,xs,k,j,rfl,rfl,hp,hj,q⟩:=h;cases ro;obtain⟨t,rfl⟩:=ri;obtain⟨HX,n,r,ho,hz⟩:=I.lst hp;obtain⟨h1,h2,h3,h4⟩:=uc hj;have hl:=r.length;have hn:=ll;have I':Inv X pr σ (upd H p (.lst (xs.set j v))) {s with heap:=s.heap.update p (Obj.mapSeq (·.setIfInBounds j u))}:=
  I.lstUpd hp ho (sj HX n j u) (r.set rv j) (by rw[VI];exact hz) s.toks
 by_cases h0:0<=k
 ·have hk:k.toNat=j:=by
   rw[seqIndex_of h0 h4]at h1;exact Vy h1
  exact PySem.W.ki_setAt ho h0 (by lia) (by rw[UT,<-hl];exact h4) (by rw[hk];exact⟨_,I',q⟩)
 ·have hk:(k+(HX.toArray.size:Int)).toNat=j:=by
   rw[seqIndex_neg (by lia) h3]at h1;rw[UT,<-hl];exact Vy h1
  exact PySem.W.ki_setBack ho (by lia) (by rw[UT,<-hl];exact h3) (by lia) (by rw[hk];exact⟨_,I',q⟩)
theorem nP(lo hi:Option Int)(n:Nat):(sliceBounds lo hi none n).1=((HT.sIx n 0 lo:Nat):Int)/\(sliceBounds lo hi none n).2.1=((HT.sIx n n hi:Nat):Int)/\(sliceBounds lo hi none n).2.2=1:=by
 refine⟨?_,?_,rfl⟩
 ·cases lo with
  |none=>simp[sliceBounds,HT.sIx]
  |some i=>
   simp only[sliceBounds,HT.sIx,Option.getD_none,show(1:Int)>0 by decide,Wt];by_cases h:i<0
   ·simp only[h,Wt] <;> lia
   ·simp only[h,YT] <;> lia
 ·cases hi with
  |none=>simp[sliceBounds,HT.sIx]
  |some i=>
   simp only[sliceBounds,HT.sIx,Option.getD_none,show(1:Int)>0 by decide,Wt];by_cases h:i<0
   ·simp only[h,Wt] <;> lia
   ·simp only[h,YT] <;> lia
theorem lP(HX:List Value)(lo hi:Option Int):slicePick HX.toArray lo hi none=((HX.drop (HT.sIx HX.length 0 lo)).take (HT.sIx HX.length HX.length hi-HT.sIx HX.length 0 lo)).toArray:=by
 obtain⟨h1,h2,h3⟩:=nP lo hi HX.toArray.size;unfold slicePick;rw[h1,h2,h3];simp only[sliceRange_one,pick_run,UT] <;> rfl
def Hh(K:W.Frag):V->Option Int->Option Int->Hp->VK->Prop:=fun x lo hi H Q=>∃a xs,x=.ref a/\SqL K H a xs/\∀p,H p=none->Q (.ref p) (upd H p (.lst (yC xs lo hi)))
theorem zW:Pt X (Hh X.K):=by
 intro pr s σ H x v vl vu lo hi sl Q I rx hs pl pu h;obtain⟨a,xs,rfl,hx,q⟩:=h;cases rx;obtain⟨HX,r,ht,hz⟩:=I.list hx;have hlen:=r.length;refine⟨"list",_,slot_list_getitem.lookup,ht.isList.typeIs,?_⟩;refine wpAny_getItem_list_slice ht.isList hs pl pu .none (by simp) ?_ (by rw[UT] <;> lia);rw[lP,<-hlen];refine⟨.ref s.heap.objs.size,_,I.laid (t':=s.toks) (o:=.lst (yC xs lo hi)) (fun b ob q=>UW _ q) (UZ _) ?_,rfl,q _ (I.hok.fresh (UZ _))⟩;exact⟨Vq (jP xs lo hi) hz,_,0,(r.drop (HT.sIx xs.length 0 lo)).take (HT.sIx xs.length xs.length hi-HT.sIx xs.length 0 lo),Vh _ rfl⟩
def so:V->Bool
 | .non=>true
 | .bl _=>true
 | .int _=>true
 | .str _=>true
 |_=>false
def Sq:V->V->Bool
 | .non,.non=>true
 | .bl a,.bl b=>a==b
 | .bl a,.int b=>(if a then 1 else 0)==b
 | .int a,.bl b=>a==(if b then 1 else 0)
 | .int a,.int b=>a==b
 | .str a,.str b=>a==b
 |_,_=>false
theorem yD{y x:V}{u v:Value}(ry:RelV y u)(rx:RelV x v)(fy:so y=true)(fx:so x=true):SeqAt.EqAt A s u v (Sq y x):=by
 cases y with
 |non=>
  cases ry;cases x with
  |non=>cases rx;exact SeqAt.EqAt.same _
  |bl b=>cases rx;exact SeqAt.EqAt.none_bool b
  |int b=>obtain⟨t,rfl⟩:=rx;exact SeqAt.EqAt.none_int b t
  |str b=>obtain⟨t,rfl⟩:=rx;exact SeqAt.EqAt.none_str b t
  |_=>exact absurd (show false=true from fx) U7
 |bl a=>
  cases ry;cases x with
  |non=>cases rx;exact SeqAt.EqAt.bool_none a
  |bl b=>cases rx;exact SeqAt.EqAt.bool_bool a b
  |int b=>obtain⟨t,rfl⟩:=rx;exact SeqAt.EqAt.bool_int a b t
  |str b=>obtain⟨t,rfl⟩:=rx;exact SeqAt.EqAt.bool_str a b t
  |_=>exact absurd (show false=true from fx) U7
 |int a=>
  obtain⟨t',rfl⟩:=ry;cases x with
  |non=>cases rx;exact SeqAt.EqAt.int_none a t'
  |bl b=>cases rx;exact SeqAt.EqAt.int_bool a t' b
  |int b=>obtain⟨t,rfl⟩:=rx;exact SeqAt.EqAt.int_int a t' b t
  |str b=>obtain⟨t,rfl⟩:=rx;exact SeqAt.EqAt.int_str a t' b t
  |_=>exact absurd (show false=true from fx) U7
 |str a=>
  obtain⟨t',rfl⟩:=ry;cases x with
  |non=>cases rx;exact SeqAt.EqAt.str_none a t'
  |bl b=>cases rx;exact SeqAt.EqAt.str_bool a t' b
  |int b=>obtain⟨t,rfl⟩:=rx;exact SeqAt.EqAt.str_int a t' b t
  |str b=>obtain⟨t,rfl⟩:=rx;exact SeqAt.EqAt.str_str a t' b t
  |_=>exact absurd (show false=true from fx) U7
 |_=>exact absurd (show false=true from fy) U7
theorem jn:eA X (.builtin "len") (fun xs H Q=>∃p ys,xs=[.ref p]/\(SqL X.K H p ys\/SqT X.K H p ys)/\Q (.int ys.length) H):=by
 intro pr s σ H xs us Q I r h;obtain⟨p,ys,rfl,hq,q⟩:=h;obtain⟨u,rfl,rx⟩:=jB r;cases rx;have hn:=ll;rcases hq with hq|hq
 ·obtain⟨HX,r',pl,hz⟩:=I.list hq;have hlen:=r'.length;exact Calls.call_len_list pl.isList (by simp only[UT] <;> lia) ⟨.int ys.length,H,I.tok _,⟨s.toks+1,by rw[UT,hlen]⟩,q⟩
 ·obtain⟨HX,r',pl,hz⟩:=I.tuple hq;have hlen:=r'.length;exact len_tuple pl (by simp only[UT] <;> lia) ⟨.int ys.length,H,I.tok _,⟨s.toks+1,by rw[UT,hlen]⟩,q⟩
theorem nQ:eA X (.builtin "len") (fun xs H Q=>∃z,xs=[.str z]/\z.length<=sizeLine/\Q (.int z.length) H):=by
 intro pr s σ H xs us Q I r h;obtain⟨z,rfl,hz,q⟩:=h;obtain⟨u,rfl,t,rfl⟩:=jB r;have hn:=ll;exact len_str (by lia) ⟨.int z.length,H,I.tok _,⟨_,rfl⟩,q⟩
theorem jo:eA X (.type "list") (fun xs H Q=>∃p ys,xs=[.ref p]/\(SqL X.K H p ys\/SqT X.K H p ys)/\∀l,H l=none->Q (.ref l) (upd H l (.lst ys))):=by
 intro pr s σ H xs us Q I r h;obtain⟨p,ys,rfl,hq,q⟩:=h;obtain⟨u,rfl,rx⟩:=jB r;cases rx;have fin:∀(HX:List Value),Vals ys HX->ys.length<=sizeLine->∀(h':Heap) (c':Nat),(∀b o',s.heap.get? b=some o'->h'.get? b=some o')->
   h'.get? s.heap.objs.size=some {cls:=.type "list",dict:=none,data:=.seq HX.toArray c',slots:=#[]}->EP X pr σ Q (.ref s.heap.objs.size) {s with heap:=h'}:=fun HX r' hz h' c' kp e=>
  ⟨.ref s.heap.objs.size,_,I.laid (t':=s.toks) kp (UZ _) (show ObjOk X.prog X.w _ h' _ (.lst ys) from⟨hz,HX,c',r',e⟩),rfl,q _ (I.hok.fresh (UZ _))⟩
 rcases hq with hq|hq
 ·obtain⟨HX,r',pl,hz⟩:=I.list hq;have hlen:=r'.length;obtain⟨o,ho,hc,n,hd⟩:=pl.isList;exact call_list_seq p (.inl rfl) ho hc hd (fun h' c' kp e=>fin HX r' hz h' c' kp e) (by simp only[UT] <;> lia)
 ·obtain⟨HX,r',pl,hz⟩:=I.tuple hq;have hlen:=r'.length;obtain⟨o,ho,hc,n,hd⟩:=pl;exact call_list_seq p (.inr rfl) ho hc hd (fun h' c' kp e=>fin HX r' hz h' c' kp e) (by simp only[UT] <;> lia)
theorem iu:eA X (.type "tuple") (fun xs H Q=>∃p ys,xs=[.ref p]/\((SqL X.K H p ys/\∀l,H l=none->Q (.ref l) (upd H l (.tup ys)))\/(SqT X.K H p ys/\Q (.ref p) H))):=by
 intro pr s σ H xs us Q I r h;obtain⟨p,ys,rfl,h⟩:=h;obtain⟨u,rfl,rx⟩:=jB r;cases rx;rcases h with⟨hq,q⟩|⟨hq,q⟩
 ·obtain⟨HX,r',pl,hz⟩:=I.list hq;have hlen:=r'.length;refine call_tuple_list pl.isList (fun h' kp=>?_) (by simp only[UT] <;> lia);have I1:Inv X pr σ H {s with heap:=h'}:=I.kept (t':=s.toks) kp;have I2:Inv X pr σ (upd H h'.objs.size (.tup ys)) {s with heap:=h'.push {cls:=.type "tuple",data:=.seq HX.toArray}}:=
   I1.laid (t':=s.toks) (fun b o e=>UW _ e) (UZ _) (show ObjOk X.prog X.w _ _ _ (.tup ys) from⟨hz,HX,r',IsTupN.new _ _⟩)
  exact⟨.ref h'.objs.size,_,I2,rfl,q _ (I1.hok.fresh (UZ _))⟩
 ·obtain⟨HX,r',pl,hz⟩:=I.tuple hq;exact call_tuple_same pl ⟨.ref p,H,I,rfl,q⟩
def Sr(K:W.Frag)(T:String)(x:V)(H:Hp):Prop:=match x with
 | .str _=>T = "str"
 | .int _=>T = "int"
 | .ref p=>(T = "list"/\∃xs,SqL K H p xs)\/(T = "tuple"/\∃o,K.lookup p=some o/\o.cls=.type "tuple"/\o.dict=none)\/
   (T = "dict"/\((∃HS,H p=some (.dK HS))\/∃HS,H p=some (.dT HS)))\/(T = "set"/\∃S n,H p=some (.set S n))
 |_=>False
theorem yE{x:V}{v:Value}(I:Inv X pr σ H s)(r:RelV x v)(ty:Sr X.K T x H):
  s.TypeIs v T/\∀a,v=.ref a->∃ob,s.heap.get? a=some ob/\ob.dict=none:=by
 cases x with
 |str z=>
  obtain⟨t,rfl⟩:=r;cases(show T = "str" from ty);exact⟨Zy s z t,fun _ e=>nomatch e⟩
 |int i=>
  obtain⟨t,rfl⟩:=r;cases(show T = "int" from ty);exact⟨Yi s i t,fun _ e=>nomatch e⟩
 |ref p=>
  cases r;rcases ty with⟨rfl,xs,hq⟩|⟨rfl,o,hk,hc,hd⟩|⟨rfl,hk⟩|⟨rfl,S,n,hk⟩
  ·obtain⟨HX,_,pl,_⟩:=I.list hq;refine⟨pl.isList.typeIs,fun a e=>?_⟩;cases e;obtain⟨o,n,e,c,hd,_⟩:=pl;exact⟨o,e,hd⟩
  ·refine⟨⟨o,I.kIn p o hk,hc⟩,fun a e=>?_⟩;cases e;exact⟨o,I.kIn _ o hk,hd⟩
  ·have z:∃o,s.heap.get? p=some o/\o.ExactDict:=by
    rcases hk with⟨HS,hk⟩|⟨HS,hk⟩
    ·obtain⟨_,_,_,_,o,_,_,e,ex,_⟩:=I.hok p _ hk;exact⟨o,e,ex⟩
    ·obtain⟨_,_,_,_,o,_,_,e,ex,_⟩:=I.hok p _ hk;exact⟨o,e,ex⟩
   obtain⟨o,e,ex⟩:=z;refine⟨⟨o,e,ex.1⟩,fun a e2=>?_⟩;cases e2;exact⟨o,e,ex.2.1⟩
  ·obtain⟨o,_,_,_,e,ex,_⟩:=I.hok p _ hk;refine⟨⟨o,e,ex.1⟩,fun a e2=>?_⟩;cases e2;exact⟨o,e,ex.2.1⟩
 |_=>exact False.elim ty
def Hi(K:W.Frag)(T:String)(r:V->List V->Hp->VK->Prop)(to:TE):TE:=fun σ H Q=>to σ H fun x H1=>Sr K T x H1/\r x [] H1 Q
def tBM(K:W.Frag)(T:String)(r:V->List V->Hp->VK->Prop)(to:TE)(t:TA):TE:=fun σ H Q=>to σ H fun x H1=>Sr K T x H1/\t σ H1 fun xs H2=>r x xs H2 Q
variable{o e:Expr}{es:List Expr}{to:TE}{t:TA}{name:Str}{apos IG:Pos}{id:String}{r:V->List V->Hp->VK->Prop}
theorem Cq(pa:PlainAttrs T)(slot:Slot T name id)(Rq:typeOf (.builtin id)=pure (.type "method_descriptor"))(hm:So X id r)(ho:PE X o to)
  (JE:attributeBase o name X.env (eval o X.env)=eval o X.env:=by rfl) (JF:(apos.endLine==IG.line)=true:=by rfl):PE X (.Call (.Attribute o name apos) [] [] IG) (Hi X.K T r to):=by
 intro pr s σ H Q I h;refine wpAny_Call_method0_late JE JF (Iy (ho pr s σ H _ I h) fun v s1 Ir=>?_);obtain⟨x,H1,I1,r1,ty,q1⟩:=Ir;obtain⟨h1,h2⟩:=yE I1 r1 ty;exact⟨T,id,pa,slot,Rq,h1,h2,Calls.callWith_builtin rfl (PySem.evalArgs_none (hm pr s1 σ H1 x [] v [] Q I1 r1 .nil q1))⟩
theorem zX(pa:PlainAttrs T)(slot:Slot T name id)(Rq:typeOf (.builtin id)=pure (.type "method_descriptor"))(hm:So X id r)(ho:PE X o to)(ha:PA X (e::es) t)
  (JE:attributeBase o name X.env (eval o X.env)=eval o X.env:=by rfl)
  (KH:((backTo IG (starEach (e::es) X.env)).all (fun x=>!x.1)&&(backToKw IG (keywordEach [] X.env)).all (fun x=>x.1.isSome)
   && decide ((e::es).length+([]:List Keyword).length+(if([]:List Keyword).isEmpty then 0 else 1)<30))=true:=by rfl)
  (JF:(apos.endLine==IG.line)=true:=by rfl) (hs:starEach (e::es) X.env=(false,eval e X.env)::starEach es X.env:=by rfl) (Ka:(backTo IG (starEach es X.env)).any (·.1)=false:=by rfl):
  PE X (.Call (.Attribute o name apos) (e::es) [] IG) (tBM X.K T r to t):=by
 intro pr s σ H Q I h;refine wpAny_Call_method_late JE KH JF rfl (Iy (ho pr s σ H _ I h) fun v s1 Ir=>?_);obtain⟨x,H1,I1,r1,ty,q1⟩:=Ir;obtain⟨h1,h2⟩:=yE I1 r1 ty;refine⟨T,id,pa,slot,Rq,h1,h2,?_⟩;have hA:=ha IG pr s1 σ H1 _ I1 q1;rw[hs]at hA ⊢;refine Calls.callWith_builtin (by show(false||(backTo IG (starEach es X.env)).any (·.1))=false;rw[Ka] <;> rfl) (Calls.evalArgs_plain ?_);exact Iy hA fun us s2 ⟨vs,H2,I2,r2,q2⟩=>hm pr s2 σ H2 x vs v us Q I2 r1 r2 q2
end
def MtM(X:Cx)(id:String)(r:V->List V->Hp->VK->Prop):Prop:=
 ∀(pr:List (Addr×Obj)) (s:Shared) (σ:St) (H:Hp) (x:V) (xs:List V) (v:Value) (us:List Value) (Q:VK),Inv X pr σ H s->RelV x v->Vals xs us->r x xs H Q->
  wpAny (model X.prog X.w) X.A (call (.builtin id) (v::us)) (EP X pr σ Q) X.xe s
theorem Vals.one:∀{x:V}{us:List Value},Vals [x] us->∃u,us=[u]/\RelV x u
 |_,_,.cons r .nil=>⟨_,rfl,r⟩
theorem Vals.two:∀{x y:V}{us:List Value},Vals [x,y] us->∃u v,us=[u,v]/\RelV x u/\RelV y v
 |_,_,_,.cons r (.cons q .nil)=>⟨_,_,rfl,r,q⟩
theorem Vals.zero:∀{us:List Value},Vals [] us->us=[]
 |_,.nil=>rfl
theorem Vals.dropLast{xs:List V}{us:List Value}(h:Vals xs us):Vals xs.dropLast us.dropLast:=by
 induction h with
 |nil=>exact .nil
 |cons r t ih=>
  cases t with
  |nil=>exact .nil
  |cons q t'=>exact .cons r ih
theorem Vals.rep{xs:List V}{us:List Value}(h:Vals xs us):∀k:Nat,Vals (List.replicate k xs).flatten (List.replicate k us).flatten
 | 0=>.nil
 |k+1=>by
  rw[We,We,WW,WW];exact Vals.append h (Vals.rep h k)
theorem sr(l:List α):l.eraseIdx (l.length-1)=l.dropLast:=by
 induction l with
 |nil=>rfl
 |cons a r ih=>
  cases r with
  |nil=>rfl
  |cons b r=>
   have e:(a::b::r).length-1=((b::r).length-1)+1:=by
    have h1:(a::b::r).length=r.length+2:=rfl;have h2:(b::r).length=r.length+1:=rfl;lia
   rw[e,List.eraseIdx_cons_succ,ih];all_goals rfl
theorem jQ(HX:List Value):∀(k:Nat) (acc:List Value),
  List.foldl (fun x1 x2=>x1++x2) acc.toArray (List.replicate k HX.toArray)=(acc++(List.replicate k HX).flatten).toArray
 | 0,acc=>by simp
 |k+1,acc=>by
  have e:acc.toArray++HX.toArray=(acc++HX).toArray:=by simp
  have e2:(acc++HX)++(List.replicate k HX).flatten=acc++(List.replicate (k+1) HX).flatten:=by
   rw[We,WW,V2]
  rw[<-e2,<-jQ HX k (acc++HX),<-e,We,Ym]
section
variable{l b:Addr}{ys zs:List V}
theorem Inv.lset{HX its':List Value}{n:Nat}{f:Array Value->Array Value}{t':Nat}(I:Inv X pr σ H s)(hH:H l=some (.lst xs))
  (e:s.heap.get? l=some {cls:=.type "list",data:=.seq HX.toArray n}) (hf:f HX.toArray=its'.toArray) (hv:Vals ys its') (hz:ys.length<=sizeLine):
  Inv X pr σ (upd H l (.lst ys)) {s with heap:=s.heap.update l (Obj.mapSeq f),toks:=t'}:=by
 have q:=PySem.IsL.update e f;rw[hf]at q;refine I.write (x:=l) (e:=l) (by rw[hH];exact trivial) (.inl rfl) (fun b' u hb hu=>(WC s.heap (Obj.mapSeq f) (WD hb)).trans hu) ⟨_,q⟩ ?_;exact⟨hz,its',_,hv,q⟩
theorem Inv.lnew{HX:List Value}{t':Nat}(I:Inv X pr σ H s)(hv:Vals ys HX)(hz:ys.length<=sizeLine):
  Inv X pr σ (upd H s.heap.objs.size (.lst ys)) {s with heap:=s.heap.push {cls:=.type "list",data:=.seq HX.toArray},toks:=t'}:=
 I.laid (fun _ _ q=>UW _ q) (UZ _) ⟨hz,HX,0,hv,Vh _ rfl⟩
theorem Inv.fresh(I:Inv X pr σ H s):H s.heap.objs.size=none:=I.hok.fresh (UZ _)
theorem Inv.lstM(I:Inv X pr σ H s)(hH:H l=some (.lst xs)):xs.length<=sizeLine/\∃(HX:List Value) (n:Nat),Vals xs HX/\xs.length=HX.length/\s.heap.get? l=some {cls:=.type "list",data:=.seq HX.toArray n}:=by
 obtain⟨z,HX,n,r,e⟩:=I.hok l _ hH;exact⟨z,HX,n,r,r.length,e⟩
theorem xn(h:n<=sizeLine):Builtin.List.listTooLong n=false:=by
 unfold Builtin.List.listTooLong;exact VG (by lia)
end
section
def zY:V->List V->Hp->VK->Prop:=fun x vs H Q=>∃l xs y,x=.ref l/\vs=[y]/\H l=some (.lst xs)/\xs.length<sizeLine/\Q .non (upd H l (.lst (xs++[y])))
theorem jR:MtM X "list.append" zY:=by
 intro pr s σ H x vs v us Q I rx rv h;obtain⟨l,xs,y,rfl,rfl,hH,hz,q⟩:=h;cases rx;obtain⟨u,rfl,ru⟩:=rv.one;obtain⟨z,HX,n,r,hl,e⟩:=I.lstM hH;refine XN F.slot_list_append ⟨_,e,rfl⟩ F.entry_list_append (F.args_list_append_2 _ _) (PySem.list_append l HX.toArray n u (by rw[UT];lia)) ⟨e,?_⟩;refine⟨.non,_,I.lset (its':=HX++[u]) hH e (by simp) (r.append (.cons ru .nil)) ?_,rfl,q⟩;rw[VN,Vz];lia
def Hj:V->List V->Hp->VK->Prop:=fun x vs H Q=>∃l xs y,x=.ref l/\vs=[]/\H l=some (.lst xs)/\xs[xs.length-1]?=some y/\Q y (upd H l (.lst xs.dropLast))
theorem Cr:MtM X "list.pop" Hj:=by
 intro pr s σ H x vs v us Q I rx rv h;obtain⟨l,xs,y,rfl,rfl,hH,hy,q⟩:=h;cases rx;have hus:=rv.zero;subst hus;obtain⟨z,HX,n,r,hl,e⟩:=I.lstM hH;obtain⟨u,hu,ru⟩:=r.get hy;have hy':HX.toArray[HX.toArray.size-1]?=some u:=by
  show HX.toArray[HX.length-1]?=some u;rw[<-Zk,<-hl];exact hu
 refine XN F.slot_list_pop ⟨_,e,rfl⟩ F.entry_list_pop (F.args_list_pop_1 _) (MeetsSeq.list_pop_last l HX.toArray n u hy' (by rw[UT];lia)) ⟨e,?_⟩;refine⟨y,_,I.lset (its':=HX.dropLast) hH e ?_ r.dropLast ?_,ru,q⟩
 ·show HX.toArray.eraseIdxIfInBounds (HX.toArray.size-1)=HX.dropLast.toArray;rw[UT,List.eraseIdxIfInBounds_toArray,sr]
 ·rw[List.length_dropLast];lia
theorem jS(xs:List α)(k:Nat):(List.replicate k xs).flatten.length=k*xs.length:=by
 induction k with
 |zero=>simp
 |succ k ih=>rw[We,WW,VN,ih,Zl,Nat.add_comm]
end
section
variable{prog:Program}{w:World}{E:Value->Shared->Prop}
end
section
end
end L2
namespace Att
open PySem PySem.W PySem.Calls PyProof.Rows
theorem jT{P:Params}{h:Heap}:∀(ns:List Int) (vs:List Value),WellAll P h vs (ns.map WData.int)->IntsAre vs ns:=by
 intro ns;induction ns with
 |nil=>
  intro vs w;rw[V6]at w;cases w;exact .nil
 |cons n ns ih=>
  intro vs w;rw[Vo]at w;cases w with
  |cons a b=>
   cases a;exact .cons _ _ (ih _ b)
theorem ue{l:OpenLaw}{n:Nat}(hn:l.most=some n){P:Params}{h:Heap}{args:List WData}{lN:List Value}
  (N8:l.row.toRowW.claim.pre args=true) (Pu:WellAll P h lN args):
  ∃a vs ns,lN=[Value.ref a]/\args=[WData.list (ns.map WData.int)]/\h.get? a=some {cls:=.type "list",data:=.seq vs.toArray}/\IntsAre vs ns/\ns.length<=n:=by
 have hsh:WShape.hasAll [] args [.list .int]=true:=(pre_splitW N8).1;have hc:l.pre.holds [] {args:=args}=true:=(pre_splitW N8).2;obtain⟨d,r,rfl,h1,h2⟩:=hasAllW_cons hsh;obtain rfl:=hasAllW_nil h2;obtain⟨xs,rfl,h3⟩:=hasW_list h1;obtain⟨ns,rfl⟩:=items_int h3;have hlen:ns.length<=n:=by
  unfold OpenLaw.pre at hc;have h4:(WTm.not (.lt (.lit (.int (n:Int))) (.len (.arg 0)))).holds [] {args:=[.list (ns.map .int)]}=true:=by
   have h4:=(holds_andW hc).1;rw[hn]at h4;exact h4
  have h5:=condW_of h4 (w_not (w_lt w_lit (w_len_list (w_arg rfl))));rw[U8]at h5;refine Nat.le_of_not_lt fun q=>?_
  have q':(n:Int)<((ns.length:Nat):Int):=by lia
  first
   |(rw[VL q']at h5;exact absurd h5 (by decide))
   |(simp at h5;lia)
 cases Pu with
 |cons w1 w2=>
  cases w2;cases w1 with
  |list ho M0=>exact⟨_,_,ns,rfl,rfl,ho,jT ns _ M0,hlen⟩
theorem uf(l:OpenLaw)(args:List WData):l.row.toRowW.claim.post args (.bool true) args=true:=
 postW_of (r:=l.row.toRowW) (X:=(true==true))
  (show WShape.has [] (.bool true) .bool=true by first|rfl|decide|simp[WShape.has,WShape.arms,WShape.armsAll])
  (show(WTm.eq .res (.lit (.bool true))).value [] {args:=args,res:=some (.bool true),after:=args}=some (.bool (true==true)) from w_eq_bool (w_res rfl) w_lit) rfl
theorem attach_call{l:OpenLaw}{n:Nat}{q:Program}{loose:List Str}{XP:(Str->Option Value)->Heap->Prop}{YP:World->Heap->Prop}{d:DefRec}
  (hn:l.most=some n) (Rr:d.params.defaults=[])
  (call:∀(w:World) (s₀ s₁:Shared) (mg mb:Str->Option Value) (fa:Addr) (o:Obj) (pm cd doc:Value) (a:Addr) (vs:List Value) (ns:List Int),
   Ground q loose [] XP w s₀ mg mb s₁.heap->YP w s₁.heap->
   s₁.heap.get? fa=some o->o.data=.func (docDef d.name d.params d.body d.scope pm cd doc)->s₁.heap.CodeRec cd d.name->mg d.name=some (.ref fa)->
   s₁.heap.get? a=some {cls:=.type "list",data:=.seq vs.toArray}->IntsAre vs ns->ns.length<=n->s₁.gens = #[]->
   codeAny (model l.prog w) callerA (.call (.ref fa) ⟨[.ref a],[]⟩) (fun r s'=>r=.ok (.ret (.bool true))/\OldK s₁.heap s'.heap/\s'.os=s₁.os/\AllBare s'.gens) s₁):
  WalkO q loose XP YP l.row.toRowW d [] (fun f vs=>PySem.call f vs):=by
 intro w s₀ s₁ mg mb G Y fa o pm cd doc dV kV ho hd LZ hD Rt hg args lN as N8 hlay hrd Pu L1;obtain rfl:dV=.none:=Dflts.none hD Rr;obtain rfl:kV=.none:=Dflts.noKw hD;obtain⟨a,vs,ns,rfl,rfl,Pw,hints,hlen⟩:=ue hn N8 Pu;refine enter_call (codeAny_mono (call w s₀ s₁ mg mb fa o pm cd doc a vs ns G Y ho (fd_plain hd) LZ Rt Pw hints hlen hg) fun r s' hq=>?_);obtain⟨rfl,h2,h3,h4⟩:=hq;exact⟨.inl ⟨.bool true,.bool true,[],rfl,fun _=>rfl,.bool true,uf l _,fun _=>⟨List.Pairwise.nil,fun _ hm=>(nomatch hm)⟩⟩,h2,h3,h4⟩
section
variable{prog:Program}{w:World}{A:Around}{E:Value->Shared->Prop}{s:Shared}{K:Frag}
end
end Att
namespace L2
open PySem PySem.Spec PyProof.Rows
theorem nR:∀{vs:List Value}{ns:List Int},IntsAre vs ns->Vals (ns.map V.int) vs
 |_,_,.nil=>.nil
 |_,_,.cons n t h=>.cons ⟨t,rfl⟩ (nR h)
def Fe(H:Hp):Prop:=∀b,H b=none\/∃o xs,H b=some (.frz o (.lst xs))
variable{K:W.Frag}{mg:Str->Option Value}{x:Str}
theorem xo{P:Program}{w:World}{mb:Str->Option Value}{CX:CXT}{k:Nat}{fa a:Addr}{fd:FuncData}{sp:Sp}{s₁:Shared}{vs:List Value}{ns:List Int}
  (KX:K.In s₁.heap) (Ss:s₁.heap.Ns mainGlobals mg) (hb:s₁.heap.Ns builtinsNs mb) (QY:∀x:Str,x≠"__name__"->mb x=bootBuiltins x) (hlim:s₁.heap.NoLimit) (hg:s₁.gens = #[])
  (ha:s₁.heap.get? a=some {cls:=.type "list",data:=.seq vs.toArray}) (hi:IntsAre vs ns) (hl:ns.length<=sizeLine) (hr:Room k callerA)
  (F:∀base:Heap,K.In base->base.Ns mainGlobals mg->FnOk P w K mg base CX k fa fd [x] sp) (Ru:∀(s:Shared) (u:Value),BindsTo s fd ⟨[u],[]⟩ [(x,u)])
  (MZ:∀H:Hp,Fe H->SqL K H a (ns.map V.int)->sp [.ref a] H (fun v _=>v=.bl true) fun _ _ _=>False)
  (SX:∀H e s',CX [] H s₁ (fun _ _ _=>False) e s'->False):
  codeAny (model P w) callerA (.call (.ref fa) ⟨[.ref a],[]⟩) (fun r s'=>r=.ok (.ret (.bool true))/\OldK s₁.heap s'.heap/\s'.os=s₁.os/\AllBare s'.gens) s₁:=by
 have rv:=nR hi;have lenV:=hi.length;have core:∀H:Hp,Fe H->SqL K H a (ns.map V.int)->HOk P w H s₁.heap->(∀b,H b≠none->b=a)->(H a≠none->K.lookup a=none)->
   codeAny (model P w) callerA (.call (.ref fa) ⟨[.ref a],[]⟩) (fun r s'=>r=.ok (.ret (.bool true))/\OldK s₁.heap s'.heap/\s'.os=s₁.os/\AllBare s'.gens) s₁:=by
  intro H hO hS hok hA hK;have MP:∀{b:Addr}{o:Obj},s₁.heap.get? b=some o->H b=none->(w6 s₁.heap H).get? b=some o:=fun e n=>w9 e n
  have Rn:∀{b:Addr}{o:Obj}{es:Array DictEntry}{ep:Nat},s₁.heap.get? b=some o->o.data=.dict es ep->H b=none:=fun{b o es ep} e d=>by
   cases q:H b with
   |none=>rfl
   |some u=>
    have e':b=a:=hA b (by rw[q];simp);subst e';rw[ha]at e;cases e;have d':Data.seq vs.toArray _=Data.dict es ep:=d;cases d'
  have Su:∀{b:Addr}{m:Str->Option Value},s₁.heap.Ns b m->(w6 s₁.heap H).Ns b m:=fun{b m} ⟨o,es,ep,e,d,r⟩=>⟨o,es,ep,MP e (Rn e d),d,r⟩
  have T6:K.In (w6 s₁.heap H):=fun b o e=>MP (KX b o e) (by
   cases q:H b with
   |none=>rfl
   |some u=>
    have e':b=a:=hA b (by rw[q];simp);subst e';rw[hK (by rw[q];simp)]at e;cases e)
  have hM:Mod K mg (w6 s₁.heap H):=⟨T6,Su Ss,⟨mb,Su hb,QY⟩,let⟨mc,h1,h2⟩:=hlim;⟨mc,Su h1,h2⟩⟩
  have e0:Env0 P w K mg (w6 s₁.heap H) callerA [] s₁ H:=⟨rfl,hM,fun b o e=>zr e,Zm (tJ _ _),trivial,fun b hb=>absurd (show b∈([]:List Addr) from hb) (by simp),hok,.of_eq hg⟩
  refine codeAny_mono ((F _ T6 (Su Ss)).run callerA [] s₁ H ⟨[.ref a],[]⟩ [.ref a] [.ref a] _ _ hr e0 (Ru s₁ (.ref a)) (.cons rfl .nil) (MZ H hO hS)) fun r s' h=>?_
  cases r with
  |error e=>exact(SX H e s' h).elim
  |ok fl=>
   cases fl with
   |next=>exact False.elim h
   |brk=>exact False.elim h
   |cont=>exact False.elim h
   |ret u=>
    obtain⟨v,H',os,bare,un,hok',r',q⟩:=h;have q':v=.bl true:=q;subst q';obtain rfl:u=Value.bool true:=r';refine⟨rfl,OldK.of_keep fun b o e=>?_,os,bare⟩;cases q:H b with
    |none=>exact un.keep b o e q (by intro z;exact absurd (show b∈([]:List Addr) from z) (by simp)) (by simp)
    |some u=>
     rcases hO b with z|⟨ob,xs,z⟩
     ·rw[q]at z;cases z
     ·have z2:=un.frzs b ob _ z;obtain⟨e1,_⟩:=hok b _ z;obtain⟨e2,_⟩:=hok' b _ z2;rw[e]at e1;cases e1;exact e2
 cases hk:K.lookup a with
 |some o=>
  have e:=KX a o hk;rw[ha]at e;cases e;refine core (fun _=>none) (fun _=>.inl rfl) (.inr ⟨_,vs.toArray,_,hk,rfl,rfl,rfl,by rw[UT,lenV];exact hl,by simpa using rv⟩) (fun b u z=>by have z':(none:Option HO)=some u:=z;cases z') (fun b z=>absurd rfl z) fun z=>absurd rfl z
 |none=>
  refine core (fun b=>if b=a then some (.frz {cls:=.type "list",data:=.seq vs.toArray} (.lst (ns.map V.int))) else none) (fun b=>?_) (.inl (.inr ⟨{cls:=.type "list",data:=.seq vs.toArray},U2 rfl⟩)) (fun b u z=>?_) (fun b z=>?_) fun _=>hk
  ·by_cases hb:b=a
   ·exact .inr ⟨_,_,U2 hb⟩
   ·exact .inl (U9 hb)
  ·by_cases hb:b=a
   ·have z':=(U2 hb).symm.trans z;cases z';subst hb;exact⟨ha,by rw[U8];exact hl,vs,_,rv,ha⟩
   ·have z':=(U9 hb).symm.trans z;cases z'
  ·by_cases hb:b=a
   ·exact hb
   ·exact absurd (U9 hb) z
theorem zZ{l:PySem.W.OpenLaw}{n k:Nat}{q:Program}{loose:List Str}{XP:(Str->Option Value)->Heap->Prop}{YP:World->Heap->Prop}{d:DefRec}{K:Params->W.Frag}{CX:World->CXT}{sp:World->Sp}
  (hn:l.most=some n) (hn2:n<=sizeLine) (Rr:d.params.defaults=[]) (hr:Room k callerA)
  (hY:∀(w:World) (h:Heap),YP w h->(K w.params).In h)
  (F:∀(w:World) (mg:Str->Option Value) (fa:Addr) (h:Heap),(K w.params).In h->h.Ns mainGlobals mg->mg d.name=some (.ref fa)->
   ∃fd:FuncData,(∀(s:Shared) (u:Value),BindsTo s fd ⟨[u],[]⟩ [(x,u)])/\
    ∀base:Heap,(K w.params).In base->base.Ns mainGlobals mg->FnOk l.prog w (K w.params) mg base (CX w) k fa fd [x] (sp w))
  (MZ:∀(w:World) (H:Hp) (a:Addr) (ns:List Int),ns.length<=n->Fe H->SqL (K w.params) H a (ns.map V.int)->sp w [.ref a] H (fun v _=>v=.bl true) fun _ _ _=>False)
  (SX:∀(w:World) (H:Hp) (s:Shared) (e:Value) (s':Shared),CX w [] H s (fun _ _ _=>False) e s'->False):
  PySem.W.WalkO q loose XP YP l.row.toRowW d [] (fun f vs=>PySem.call f vs):=by
 refine Att.attach_call hn Rr fun w s₀ s₁ mg mb fa o pm cd doc a vs ns G Y ho hd LZ Rt Pw hints hlen hg=>?_
 have KX:=hY w _ Y;obtain⟨fd,hb,hF⟩:=F w mg fa _ KX G.T.g Rt;exact xo KX G.T.g G.T.b G.T.builtins G.T.nolimit hg Pw hints (Vq hlen hn2) hr hF hb (fun H hO hS=>MZ w H a ns hlen hO hS) fun H e s'=>SX w H s₁ e s'
def fu(s:Stmt):Arguments:=match s with
 | .FunctionDef _ a _ _ _ _ _ _ _ _=>a
 |_=>{posonlyargs:=[],args:=[],vararg:=none,kwonlyargs:=[],kw_defaults:=[],kwarg:=none,defaults:=[]}
def c8(s:Stmt):List Stmt:=match s with
 | .FunctionDef _ _ b _ _ _ _ _ _ _=>b
 |_=>[]
def defScope(s:Stmt):Scope:=match s with
 | .FunctionDef _ _ _ _ _ _ sc _ _ _=>sc
 |_=>{kind:=.function,names:=[],isGenerator:=false,isCoroutine:=false}
abbrev Nc:CXT:=fun _ _ _ _ _ _=>False
abbrev E0:XK:=fun _ _ _=>False
variable{X:Cx}
theorem Ff:tX Nc X E0:=fun _ _ _ _ _ _ _ h=>h.elim
structure Fun(K:W.Frag)(x qual:Str)(st:Stmt)(f:Addr)(fd:FuncData):Prop where
 ex:∃(oc:Value) (od:Option Addr) (kV doc pm:Value) (an:Option Addr) (IJ ct:Value) (N1:Array (Option Value)),
  fd=PySem.W.fnOf x qual (fu st) (c8 st) (defScope st) .none kV doc pm an IJ ct/\K.lookup f=some ⟨oc,od,.func fd,N1⟩/\PySem.W.codeIn K IJ qual=true
 kp:PySem.W.keepIn K (.ref f)=true
variable{qual:Str}{st:Stmt}{f:Addr}{fd:FuncData}{ps:List Str}
section
variable{P:Program}{w:World}{base:Heap}
theorem Fun.ok{N:List Str}{k:Nat}{sp:Sp}(F:Fun K x qual st f fd)(S:FnScope N ps (defScope st))(len:∀vs H Q E,sp vs H Q E->vs.length=ps.length)
  (Nh:∀(IJ:Value) (A:Around) (outer:List Env) (s:Shared) (H:Hp) (vs:List V) (Q:VK) (E:XK),Room k (A.deeper (envOfC qual (defScope st) s.heap.objs.size f IJ))->sp vs H Q E->
   ∃t,PSs (xj Nc P w K mg base N qual (defScope st) f IJ A outer s H E).nox (c8 st) t/\t {nx:=fun _ H'=>Q .non H',rt:=Q} (start N vs) H):FnOk P w K mg base Nc (k+1) f fd ps sp:=by
 obtain⟨oc,od,kV,doc,pm,an,IJ,ct,N1,rfl,lk,LZ⟩:=F.ex;refine E9 lk LZ S len fun A outer s H vs Q E hr MZ=>?_
 obtain⟨t,h,q⟩:=Nh IJ A outer s H vs Q E hr MZ;exact⟨t,h.nox,q⟩
theorem Fun.binds(F:Fun K x qual st f fd)
  (h:∀(kV doc pm:Value) (an:Option Addr) (IJ ct:Value) (us:List Value),us.length=ps.length->bindArgs (PySem.W.fnOf x qual (fu st) (c8 st) (defScope st) .none kV doc pm an IJ ct) ⟨us,[]⟩=pure (ps.zip us)):Binds K fd ps []:=by
 obtain⟨oc,od,kV,doc,pm,an,IJ,ct,N1,rfl,lk,LZ⟩:=F.ex;exact .all (h kV doc pm an IJ ct)
theorem yF{oc:Value}{od an:Option Addr}{N1:Array (Option Value)}{kV doc pm IJ ct:Value}(l:K.lookup f=some ⟨oc,od,.func (PySem.W.fnOf x qual (fu st) (c8 st) (defScope st) .none kV doc pm an IJ ct),N1⟩)
  (c:PySem.W.codeIn K IJ qual=true) (k:PySem.W.keepIn K (.ref f)=true):Fun K x qual st f (PySem.W.fnOf x qual (fu st) (c8 st) (defScope st) .none kV doc pm an IJ ct):=⟨⟨oc,od,kV,doc,pm,an,IJ,ct,N1,rfl,l,c⟩,k⟩
end
theorem hu_of{A:Around}{k:Nat}(hr:Room k A):A.units+1<cLine:=VX (Nat.add_le_add_left (by decide:1<=64) _) hr.units
section
theorem pv(i:Nat){pos:Pos}(hN:X.N[i]?=some x:=by rfl)(hv:SO X.env.scope x:=by first|exact Or.inl rfl|exact Or.inr (Or.inl rfl)|exact Or.inr (Or.inr rfl))(hd:(x==("__debug__" : Str))=false:=by decide)
  (LZ:(x==("__classdict__" : Str))=false:=by decide):PE X (.Name x pos) (ql i):=BR hN hv hd LZ
end
theorem iteF{A B:Prop}(h:B):if false=true then A else B:=by
 rw[U9 U7];exact h
theorem z3{A B:Prop}(h:A):if true=true then A else B:=by
 rw[U2 rfl];exact h
def Same(H H':Hp):Prop:=∀b o,H b=some o->H' b=some o
theorem Same.refl(H:Hp):Same H H:=fun _ _ h=>h
theorem Same.trans{H H1 H2:Hp}(a:Same H H1)(b:Same H1 H2):Same H H2:=fun c o h=>b c o (a c o h)
end L2
set_option maxHeartbeats 4000000
namespace NX
open PySem PySem.Spec PyProof.Rows L2
variable{X:Cx}{A:Around}{s:Shared}{us:List Value}
section
theorem xp(v:Int)(n:Nat):max (0:Int) (min (if v<0 then v+(n:Int) else v) (n:Int))=((HT.sIx n 0 (some v):Nat):Int):=by
 show _=(((if v<0 then(v+(n:Int)).toNat else min v.toNat n):Nat):Int)
 split <;> lia
theorem Cs(a b:Nat):sliceRange (a:Int) (b:Int) 1=(List.range (b-a)).map (fun k=>a+k):=by
 unfold sliceRange;rw[U2 (by decide:(1:Int)>0)];by_cases Iu:(a:Int)<b
 ·have e3:(((b:Int)-a+1-1) / 1).toNat=b-a:=by first|lia|(simp;done)|(simp;lia)
  simp only[Iu,Wt,e3];refine VY fun k _=>?_
  lia
 ·have:b-a=0:=by lia
  simp[Iu,this]
theorem Hk(lo hi:Option Int)(n:Nat):Builtin.Str.strSliceIndices lo hi 1 n=(List.range (HT.sIx n n hi-HT.sIx n 0 lo)).map (fun k=>HT.sIx n 0 lo+k):=by
 rw[<-Cs];unfold Builtin.Str.strSliceIndices;simp only[show(1:Int)>0 from by decide,Wt];cases lo with
 |none=>
  cases hi with
  |none=>rfl
  |some v=>exact V7 (fun z=>sliceRange 0 z 1) (xp v n)
 |some u=>
  cases hi with
  |none=>exact V7 (fun z=>sliceRange z (n:Int) 1) (xp u n)
  |some v=>exact(V7 (fun z=>sliceRange z _ 1) (xp u n)).trans (V7 (fun z=>sliceRange _ z 1) (xp v n))
def Cu(xs:List Nat)(lo hi:Option Int):List Nat:=(xs.drop (HT.sIx xs.length 0 lo)).take (HT.sIx xs.length xs.length hi-HT.sIx xs.length 0 lo)
theorem yG{α:Type}(l:List α):∀(n a:Nat),a+n<=l.length->((List.range n).map (fun k=>a+k)).filterMap (l[·]?)=(l.drop a).take n
 | 0,_,_=>by simp
 |n+1,a,h=>by
  have Iu:a+n<l.length:=by lia
  rw[Yn,Vt,List.filterMap_append,yG l n a (by lia),List.take_add_one,List.getElem?_drop];simp[US Iu]
theorem ug(x:Str)(lo hi:Option Int):(Txt.slice x lo hi).cps.toList=Cu x.cps.toList lo hi:=by
 have hl:x.cps.toList.length=x.length:=WE;have ha:=HT.ua x.length 0 (VH _) lo;have hb:=HT.ua x.length x.length (UZ _) hi;unfold Txt.slice Cu;rw[Hk,hl];split
 ·rename_i h;have h2:HT.sIx x.length x.length hi-HT.sIx x.length 0 lo=x.length:=by simpa using h
  have ez:HT.sIx x.length 0 lo=0\/x.length=0:=by lia
  rcases ez with e|e
  ·rw[h2,e,XG,Wb (by lia)]
  ·have:x.cps.toList=[]:=VW (by lia);rw[this];simp
 ·have hk:∀(f:List Nat),f.filterMap (x.cps[·]?)=f.filterMap (x.cps.toList[·]?):=fun f=>by
   congr 1
   funext i
   simp
  show(List.filterMap _ _).toArray.toList=_;rw[Yo,hk];by_cases hle:HT.sIx x.length 0 lo<=HT.sIx x.length x.length hi
  ·rw[yG _ _ _ (by lia)]
  ·have e0:HT.sIx x.length x.length hi-HT.sIx x.length 0 lo=0:=by lia
   rw[e0];rfl
abbrev S(l:List Nat):Str:=⟨l.toArray⟩
theorem pF(x:Str):S x.cps.toList=x:=by cases x;simp[S]
theorem z4{a b:List Nat}(h:S a=S b):a=b:=by
 have:=V7 (fun z:Str=>z.cps.toList) h;simpa[S] using this
theorem su(l:List Nat):(S l).length=l.length:=by simp[S,Str.length]
theorem gm(l:List Nat):(S l).cps.toList=l:=by simp[S]
theorem Fg(a b:List Nat):S a++S b=S (a++b):=by
 rw[<-pF (S a++S b),PySem.W.KT.app_list,gm,gm]
def Hl:V->Option Int->Option Int->Hp->VK->Prop:=fun x lo hi H Q=>∃l,x=.str (S l)/\l.length<=sizeLine/\Q (.str (S (Cu l lo hi))) H
theorem Cv:Pt X Hl:=by
 intro pr s σ H x v vl vu lo hi sl Q I rx hs pl pu h;obtain⟨l,rfl,hz,q⟩:=h;obtain⟨t,rfl⟩:=rx;have hz':(S l).length<=sizeLine:=by rw[su];exact hz
 have e:∀t' k,EP X pr σ Q (.str (Txt.slice (S l) lo hi) t') {s with toks:=k}:=fun t' k=>by
  refine⟨.str (S (Cu l lo hi)),H,I.tok _,⟨t',?_⟩,q⟩;have e1:=ug (S l) lo hi;rw[gm]at e1;rw[<-e1,pF]
 refine⟨"str",_,PySem.F.slot_str_getitem.lookup,Zy _ _ _,?_⟩;have key:∀(Px Sv:Option (Int×Tok)),partValue Px=vl->partValue Sv=vu->Px.map (·.1)=lo->Sv.map (·.1)=hi->
   wpAny (model X.prog X.w) X.A (getItem (.str (S l) t) (.ref sl)) (EP X pr σ Q) X.xe s:=by
  rintro Px Sv rfl rfl rfl rfl;exact wpAny_getItem_str_slice (l:=Px) (u:=Sv) (st:=none) hs rfl (post_val_or_str ⟨Vq (Txt.slice_le (S l) _ _) hz',fun t' k=>e t' k⟩)
 cases pl with
 |none=>
  cases pu with
  |none=>exact key none none rfl rfl rfl rfl
  |int j uj=>exact key none (some (j,uj)) rfl rfl rfl rfl
 |int i ui=>
  cases pu with
  |none=>exact key (some (i,ui)) none rfl rfl rfl rfl
  |int j uj=>exact key (some (i,ui)) (some (j,uj)) rfl rfl rfl rfl
theorem uh{xs:List V}{j:Nat}{x:V}(h:xs[j]?=some x):xs.getD j .non=x:=by rw[UQ,h];rfl
theorem vals_at{xs ys:List V}{ws:List Value}(r:Vals xs us)(r':Vals ys ws)(f:xs.all so=true)(f':ys.all so=true)(j:Nat)(h1:j<us.toArray.size)(h2:j<ws.toArray.size):
  SeqAt.EqAt A s us.toArray[j] ws.toArray[j] (Sq (xs.getD j .non) (ys.getD j .non)):=by
 have l1:=r.length;have l2:=r'.length;simp only[UT]at h1 h2;have e1:xs[j]?=some (xs[j]'(by lia)):=US _;have e2:ys[j]?=some (ys[j]'(by lia)):=US _;obtain⟨u,hu,ru⟩:=r.get e1;obtain⟨w',hw,Mp⟩:=r'.get e2;have q1:us.toArray[j]=u:=by
  rw[US h1]at hu;simpa using hu
 have q2:ws.toArray[j]=w':=by
  rw[US h2]at hw;simpa using hw
 rw[q1,q2,uh e1,uh e2];exact yD ru Mp (VA.mp f _ (VU e1)) (VA.mp f' _ (VU e2))
end
def Def(K:W.Frag)(mg:Str->Option Value)(x:Str)(st:Stmt):Prop:=∃f fd,Fun K x x st f fd/\mg x=some (.ref f)
def Ct(P:Program)(w:World)(K:W.Frag)(mg:Str->Option Value)(base:Heap)(x:Str)(k:Nat)(sp:Sp):Prop:=
 ∃f fd ps,FnOk P w K mg base Nc k f fd ps sp/\mg x=some (.ref f)/\PySem.W.keepIn K (.ref f)=true/\Binds K fd ps []
variable{e:Expr}{es:List Expr}{x:Str}{pos:Pos}
section
variable{t:TA}{p:Pos}{k:Nat}{sp:Sp}
theorem Cw(C:Ct X.prog X.w X.K X.mg X.base x k sp)(hr:Room k X.A)(hg:Gl X x)(ha:PA X (e::es) t)(KY:(x==("__debug__" : Str))=false:=by decide)
  (he:starEach (e::es) X.env=(false,eval e X.env)::starEach es X.env:=by rfl) (JR:(backTo pos (starEach es X.env)).any (·.1)=false:=by rfl):
  PE X (.Call (.Name x p) (e::es) [] pos) (tCall sp [] E0 t):=by
 obtain⟨f,fd,ps,G,m,kp,b⟩:=C;exact zO G hr hg m kp b .nil Ff ha KY he JR
end
theorem bt_len:bootBuiltins "len" = some (.builtin "len"):=by decide +kernel
theorem lQ:bootBuiltins "isinstance" = some (.builtin "isinstance"):=by decide +kernel
theorem pG:bootBuiltins "list" = some (.type "list"):=by decide +kernel
theorem Cy:bootBuiltins "int" = some (.type "int"):=by decide +kernel
theorem dY:bootBuiltins "tuple" = some (.type "tuple"):=by decide +kernel
theorem z5:bootBuiltins "bool" = some (.type "bool"):=by decide +kernel
theorem line_eq:sizeLine=16777216:=Wd
theorem flat_strs(a:List (List Nat)):(a.map fun l=>V.str (S l)).all so=true:=by
 rw[VA];intro v hv;obtain⟨l,_,rfl⟩:=Xu.mp hv;rfl
section
variable{st:Stmt}
end
def clOf(scope:Scope)(env:Env):List (Str×Addr):=scope.names.foldl (fun cs y=>if y.2==NameKind.free then(y.1,(env.cells.lookup y.1).getD 0)::cs else cs) []
def cT(scope:Scope)(env:Env):Bool:=scope.names.all fun y=>y.2 != NameKind.free||env.kindOf y.1==some .cell||env.kindOf y.1==some .free
theorem dI(env:Env):∀(l:List (Str×NameKind)) (cs:List (Str×Addr)),(∀y∈l,y.2=.free->∃c,env.cells.lookup y.1=some c)->
  (forIn l cs fun(y:Str×NameKind) (r:List (Str×Addr))=>(do
   if y.2==NameKind.free then
    let a <-cellOf env y.1
    pure (ForInStep.yield ((y.1,a)::r))
   else pure (ForInStep.yield r):Sem (ForInStep (List (Str×Addr)))))=pure (l.foldl (fun cs y=>if y.2==NameKind.free then(y.1,(env.cells.lookup y.1).getD 0)::cs else cs) cs)
 |[],cs,_=>by simp
 |y::l,cs,h=>by
  rw[Zn,Ym];by_cases k:y.2=.free
  ·obtain⟨c,e⟩:=h y UY k;have e2:cellOf env y.1=pure c:=by unfold cellOf;rw[e]
   simp only[k,V0,Wt,e2,e,Option.getD_some,pure_bind];exact dI env l _ fun z hz=>h z (U3 _ hz)
  ·have kb:(y.2==NameKind.free)=false:=by simpa using k
   simp only[kb,Xp,YT,pure_bind];exact dI env l _ fun z hz=>h z (U3 _ hz)
theorem gY(env:Env)(x:Str)(c:Addr):∀(l:List (Str×NameKind)) (cs:List (Str×Addr)),(∀y∈l,y.2=.free->∃c,env.cells.lookup y.1=some c)->(cs.lookup x=some c->env.cells.lookup x=some c)->
  (l.foldl (fun cs y=>if y.2==NameKind.free then(y.1,(env.cells.lookup y.1).getD 0)::cs else cs) cs).lookup x=some c->env.cells.lookup x=some c
 |[],_,_,h,e=>h e
 |y::l,cs,hf,h,e=>by
  rw[Ym]at e;refine gY env x c l _ (fun z hz=>hf z (U3 _ hz)) (fun q=>?_) e;split at q
  ·rename_i k;have k:y.2=.free:=by simpa using k
   obtain⟨d,ed⟩:=hf y UY k;rw[Vv]at q;cases hx:x==y.1 with
   |true=>
    rw[hx]at q;have exy:x=y.1:=by simpa using hx
    rw[ed,Option.getD_some]at q;rw[exy,ed];exact q
   |false=>
    rw[hx]at q;exact h q
  ·exact h q
theorem jU(env:Env)(x:Str):∀(l:List (Str×NameKind)) (cs:List (Str×Addr)),((∃d,cs.lookup x=some d)\/(x,NameKind.free)∈l)->
  ∃d,(l.foldl (fun cs y=>if y.2==NameKind.free then(y.1,(env.cells.lookup y.1).getD 0)::cs else cs) cs).lookup x=some d
 |[],_,h=>by
  rcases h with h|h
  ·exact h
  ·cases h
 |y::l,cs,h=>by
  rw[Ym];refine jU env x l _ ?_;rcases h with⟨d,h⟩|h
  ·refine .inl ?_;split
   ·rw[Vv];cases hx:x==y.1 with
    |true=>exact⟨_,rfl⟩
    |false=>exact⟨d,h⟩
   ·exact⟨d,h⟩
  ·rcases U6.mp h with h|h
   ·refine .inl ?_;rw[<-h];refine⟨(env.cells.lookup x).getD 0,?_⟩;show List.lookup x ((x,_)::cs)=_;rw[Vv,V0]
   ·exact .inr h
noncomputable def ba(X:Cx)(scope:Scope)(N:List Str)(C:Addr)(s:Shared)(H:Hp)(fp:List Addr)(pn:List (Addr×Obj)):Cx:=
 {X with N:=N,s₀:=s,H₀:=H,env:=compEnvC scope (clOf scope X.env) C X.env,outer:=X.stack,ex:=fp,fn:=fun _=>false,pn:=pn,xe:=fun _ _=>False}
def dn(ix:List (Option Nat))(σ:L2.St):L2.St:=ix.map fun i=>i.bind fun i=>(σ[i]?).bind id
noncomputable def nS(wi:TI)(ix:List (Option Nat))(g:TG)(tc:TT)(te:TE):TE:=fun σ H Q=>wi σ H fun J H1=>∀D,H1 D=none->∃W:Nat->Nat->L2.St->Hp->Prop,(∃m,W 0 m (dn ix σ) (upd H1 D (.lst [])))/\
 ∀i m σ1 H2,W i m σ1 H2->(J.stop i H2/\Q (.ref D) H2)\/(J.go i H2/\∀x H3,J.yld i H2 x H3->g x σ1 H3 fun σ2 H4=>tc σ2 H4 fun b H5=>if b=true then te σ2 H5 fun v H6=>
  ∃ys,H6 D=some (.lst ys)/\ys.length<sizeLine/\∃m',m'<m/\W (i+1) m' σ2 (upd H6 D (.lst (ys++[v]))) else ∃m',m'<m/\W (i+1) m' σ2 H5)
abbrev Nl:Value->Shared->Prop:=fun _ _=>False
variable{α:Type}{E:Value->Shared->Prop}
theorem QZ{M:Model}{t:Sem α}{Q Q':α->Shared->Prop}(h:wpAny M A t Q Nl s)(k:∀a s,Q a s->Q' a s):wpAny M A t Q' E s:=Xz h k fun _ _ z=>z.elim
variable{prog:Program}{w:World}{elt iter:Expr}{ifs:List Expr}{scope:Scope}{env:Env}
theorem nU{R:Result->Shared->Prop}{target:Expr}{it acc:Value}(I:Nat->Shared->Prop)
  (turn:∀n s,I n s->wpAny (model prog w) A (pyNext it) (fun r s₁=>match r with
   |none=>R (.ok .next) s₁
   |some v=>wpAny (model prog w) A (letOwnedTupleGo target it v) (fun _ s₂=>wpAny (model prog w) A (assign target env v) (fun _ s₃=>
     wpAny (model prog w) A (forIn ifs true fun c r=>if r=true then do let ok <-isTrue c env (eval c env);pure (ForInStep.yield ok) else pure (ForInStep.yield r)) (fun ok s₄=>
      if ok=true then wpAny (model prog w) A (eval elt env) (fun x s₅=>
       wpAny (model prog w) A (call (.builtin "list.append") [acc,x]) (fun _ s₆=>∃m,m<n/\I m s₆) Nl s₅) Nl s₄
      else ∃m,m<n/\I m s₄) Nl s₃) Nl s₂) Nl s₁) Nl s)
  (n:Nat) (h:I n s):codeAny (model prog w) A (.compLoop (.ListComp elt [⟨target,iter,ifs,0⟩] scope pos) 0 it acc env) R s:=by
 refine codeAny_loop rfl I (fun n s hI=>?_) n h;show wpAny _ A ((compTurn (.ListComp elt [⟨target,iter,ifs,0⟩] scope pos) 0 it acc env).onRaise (fun x=>do noteFrame x env;theTreesLotGoes x)) _ _ s;refine wpAny_noted ?_;rw[compTurn_list];refine UR (Z4 (UR (QZ (turn n s hI) fun r s₁ h₁=>?_)));cases r with
 |none=>exact Va h₁
 |some v=>
  refine UR (QZ h₁ fun _ s₂ h₂=>UR (QZ h₂ fun _ s₃ h₃=>UR (QZ h₃ fun ok s₄ h₄=>?_)));cases ok with
  |false=>exact Va ⟨rfl,h₄⟩
  |true=>exact UR (UR (QZ h₄ fun x s₅ h₅=>UR (QZ h₅ fun _ s₆ h₆=>Va (Va ⟨rfl,h₆⟩))))
def N9(X:Cx)(ifs:List Expr)(t:TT):Prop:=
 ∀(pr:List (Addr×Obj)) (s:Shared) (σ:L2.St) (H:Hp) (Q:Bool->Hp->Prop),Inv X pr σ H s->t σ H Q->
  wpAny (model X.prog X.w) X.A (forIn ifs true fun c r=>if r=true then do let ok <-isTrue c X.env (eval c X.env);pure (ForInStep.yield ok) else pure (ForInStep.yield r)) (TP X pr σ Q) X.xe s
def Hm:TT:=fun _ H Q=>Q true H
theorem z6:N9 X [] Hm:=fun _ _ _ H _ I h=>wpAny_tests_nil ⟨H,I,h⟩
theorem z7{c:Expr}{t:TT}(h:PT X c t):N9 X [c] t:=fun pr s σ H Q I k=>wpAny_tests_one (h pr s σ H Q I k)
def lq(X:Cx)(scope:Scope)(N:List Str)(ix:List (Option Nat)):Bool:=
 N.length==ix.length&&(N.zip ix).all fun y=>match y.2 with
  |none=>true
  |some j=>X.N[j]?==some y.1&&scope.names.lookup y.1==some .free
theorem jq(h:scope.names.lookup x=some .free):(relabel scope env).names.lookup x=some .cell\/(relabel scope env).names.lookup x=some .free:=by
 unfold relabel;dsimp only;generalize scope.names=l at h;induction l with
 |nil=>cases h
 |cons y l ih=>
  obtain⟨n,k⟩:=y;rw[Vv]at h;rw[Vo];cases hx:x==n with
  |true=>
   rw[hx]at h;have hk:k=.free:=Vy h;subst hk;dsimp only;split
   ·exact .inl (by rw[Vv,hx])
   ·exact .inr (by rw[Vv,hx])
  |false=>
   rw[hx]at h;dsimp only;split
   ·rw[Vv,hx];exact ih h
   ·rw[Vv,hx];exact ih h
theorem nV(hc:∀y∈scope.names,y.2≠.cell)(h:(relabel scope env).names.lookup x=some .cell\/(relabel scope env).names.lookup x=some .free):(x,NameKind.free)∈scope.names:=by
 unfold relabel at h;dsimp only at h;generalize scope.names=l at h hc;induction l with
 |nil=>rcases h with h|h <;> cases h
 |cons y l ih=>
  obtain⟨n,k⟩:=y;rw[Vo]at h;dsimp only at h;have nk:k≠.cell:=hc (n,k) UY;have T7:=ih (hc:=fun z hz=>hc z (U3 _ hz));by_cases cnd:(k==NameKind.free&&env.scope.kind==.function&&env.kindOf n==some .cell)=true
  ·rw[U2 cnd,Vv]at h;have kf:k=.free:=by
    have:(k==NameKind.free)=true:=by
     simp only[Ve]at cnd;exact cnd.1.1
    simpa using this
   cases hx:x==n with
   |true=>
    have:x=n:=by simpa using hx
    rw[this,kf];exact UY
   |false=>
    rw[hx]at h;exact U3 _ (T7 h)
  ·rw[U9 cnd,Vv]at h;cases hx:x==n with
   |true=>
    rw[hx]at h;have:x=n:=by simpa using hx
    rcases h with h|h
    ·exact absurd (Vy h) nk
    ·rw[this,<-Vy h];exact UY
   |false=>
    rw[hx]at h;exact U3 _ (T7 h)
variable{pr:List (Addr×Obj)}{σ:L2.St}{H:Hp}{N:List Str}{ix:List (Option Nat)}{fp:List Addr}
section
theorem iw(ok:X.Ok)(hf:cT scope X.env=true):∀y∈scope.names,y.2=.free->∃c,X.env.cells.lookup y.1=some c:=fun y hy k=>by
 have:=VA.mp hf y hy;rw[k]at this;simp only[YK,Z5,Zo,VD]at this;exact ok.has y.1 this
theorem fV(ok:X.Ok)(hf:cT scope X.env=true){c:Addr}(h:(clOf scope X.env).lookup x=some c):X.env.cells.lookup x=some c:=
 gY X.env x c scope.names [] (iw ok hf) (fun z=>nomatch z) h
theorem lR(ok:X.Ok)(hf:cT scope X.env=true)(h:(x,NameKind.free)∈scope.names):∃c,(clOf scope X.env).lookup x=some c/\X.env.cells.lookup x=some c:=by
 obtain⟨c,e⟩:=jU X.env x scope.names [] (.inr h);exact⟨c,e,fV ok hf e⟩
theorem _root_.L2.Inv.block(I:Inv X pr σ H s)(hf:cT scope X.env=true)(hk:scope.kind=.function)(Ih:∀y∈scope.names,y.2≠.cell)(Ji:lq X scope N ix=true)(fo:∀b∈fp,nJ X pr H b)(fin:∀b∈fp,∃o,s.heap.get? b=some o)
  {h1:Heap}{t1:Nat}{D C:Addr}(hD:D=s.heap.objs.size) (hC:C=s.heap.objs.size+1) (old:∀b o,s.heap.get? b=some o->h1.get? b=some o) {n:Nat}(acc:h1.get? D=some {cls:=.type "list",data:=.seq #[] n})
  {m:Str->Option Value}(ns:h1.Ns C m):Inv (ba X scope N C s H fp (X.pn++pr)) [] (dn ix σ) (upd H D (.lst [])) {s with heap:=h1,toks:=t1}:=by
 have Jb:s.heap.objs.size<=C:=by rw[hC];exact WJ _
 have freshD:s.heap.objs.size<=D:=by rw[hD];exact UZ _
 have nD:H D=none:=I.hok.fresh freshD;have DC:D≠C:=by rw[hD,hC];exact Vf (VB _)
 have L3:∀b,H b=none->b≠D->upd H D (.lst []) b=none:=fun b n z=>by rw[aq z];exact n
 have Oa:∀b o,s.heap.get? b=some o->b≠D:=fun b o e=>Vf (U0 (U5 e) freshD)
 have LX:∀b o,s.heap.get? b=some o->b≠C:=fun b o e=>Vf (U0 (U5 e) Jb)
 have cellAt:∀x c,(clOf scope X.env).lookup x=some c->∃v o,s.heap.get? c=some o/\o.data=.cell v:=fun x c e=>by
  obtain⟨v,o,ho,hd⟩:=I.cell x c (fV I.ok hf e);exact⟨v,o,ho,hd⟩
 have SY:(ba X scope N C s H fp (X.pn++pr)).Ok:=by
  refine⟨I.ok.mod,hk,I.ok.glob,I.ok.blt,Jb,fun x y c e1 e2=>?_,fun x hx=>?_,fun x c z _=>?_,I.ok.hd,I.ok.frames,.inl rfl,fun b hb=>?_,I.bs,?_,fun b o e hb=>?_,fun b hb hs=>?_,I.stack,I.stkFree⟩
  ·exact I.ok.inj x y c (fV I.ok hf e1) (fV I.ok hf e2)
  ·obtain⟨c,e,_⟩:=lR I.ok hf (nV Ih hx);exact⟨c,e⟩
  ·exact absurd (show false=true from z) U7
  ·obtain⟨f0,f1,f2,f3,f4,f5⟩:=fo b hb;refine⟨?_,fun x c e=>f4 x c (fV I.ok hf e)⟩;intro z;have z:b=C:=z;obtain⟨o,ho⟩:=fin b hb;exact LX b o ho z
  ·exact Vq I.ok.bsz I.sz
  ·obtain⟨f0,f1,f2,f3,f4,f5⟩:=fo b hb;rcases f3 with q|q
   ·exact I.ok.noex b o e q
   ·exact absurd (U0 (U5 e) (Vq I.ok.bsz q)) (Wm _)
  ·obtain⟨f0,f1,f2,_⟩:=fo b hb;exact(U6.mp (I.stkSub b hs)).elim f1 f2
 refine⟨SY,rfl,I.bare,Un.laid old freshD nD,⟨m,ns,fun i x v e1 e2 e3=>?_⟩,fun x c e=>?_,?_,fun x c e=>?_,fun p hp=>?_,I.hok.laid old freshD ⟨VH _,[],n,.nil,acc⟩,?_⟩
 ·
  have e2:(ix.map fun i=>i.bind fun i=>(σ[i]?).bind id)[i]?=some (some v):=e2;have e1:N[i]?=some x:=e1;unfold lq at Ji;rw[Ve]at Ji;rw[Vg]at e2;cases q:ix[i]? with
  |none=>rw[q]at e2;cases e2
  |some o=>
   rw[q]at e2;have e2:(o.bind fun i=>(σ[i]?).bind id)=some v:=Vy e2;cases o with
   |none=>cases e2
   |some j=>
    have e2:(σ[j]?).bind id=some v:=e2;have hσ:σ[j]?=some (some v):=by
     cases w':σ[j]? with
     |none=>rw[w']at e2;cases e2
     |some y=>rw[w']at e2;exact V7 some e2
    have hz:(N.zip ix)[i]?=some (x,some j):=by
     rw[Xb];exact⟨e1,q⟩
    have hy:=VA.mp Ji.2 _ (VU hz);simp only[Ve,VD]at hy;have Rv:(x,NameKind.free)∈scope.names:=Wo hy.2;obtain⟨c,c1,c2⟩:=lR I.ok hf Rv;have Rw:X.env.kindOf x=some .cell\/X.env.kindOf x=some .free:=by
     have:=VA.mp hf _ Rv;simpa using this
    obtain⟨mo,Pr,L1⟩:=I.loc;obtain⟨u,r,l⟩:=L1 j x v hy.1 hσ (.inr Rw);refine⟨u,r,.inr ⟨jq hy.2,c,c1,?_⟩⟩;rcases l with⟨k1,_⟩|⟨_,c',e',Ng⟩
    ·rcases Rw with k2|k2 <;> (rw[k1]at k2;cases k2)
    ·rw[c2]at e';cases e';obtain⟨o,ho,hd⟩:=Ng;exact⟨o,old c o ho,hd⟩
 ·obtain⟨v,o,ho,hd⟩:=cellAt x c e;exact⟨v,o,old c o ho,hd⟩
 ·exact L3 C (I.hok.fresh Jb) (WD DC)
 ·obtain⟨v,o,ho,hd⟩:=cellAt x c e;exact L3 c (I.freeC x c (fV I.ok hf e)) (Oa c o ho)
 ·have hp:p∈X.pn++pr:=by
   have:p∈(X.pn++pr)++[]:=hp
   rwa [Vu]at this
  obtain⟨e,nn,ne,nf,d⟩:=I.pin p hp;refine⟨old _ _ e,L3 _ nn (Oa _ _ e),LX _ _ e,fun z=>?_,d⟩;exact(U6.mp (I.stkSub p.1 z)).elim ne nf
 ·unfold lq at Ji;rw[Ve]at Ji;have:N.length=ix.length:=by simpa using Ji.1
  show(ix.map _).length=N.length;rw[U8,this]
theorem _root_.L2.Inv.unblock{C:Addr}{σ1:L2.St}{H1:Hp}{s1:Shared}{h2:Heap}(I:Inv X pr σ H s)(fo:∀b∈fp,nJ X pr H b)(hC:s.heap.objs.size<=C)(J:Inv (ba X scope N C s H fp (X.pn++pr)) [] σ1 H1 s1)(hs:Heap.SameBut C s1.heap h2):
  Inv X pr σ H1 {s1 with heap:=h2}:=by
 have LX:∀b o,s.heap.get? b=some o->b≠C:=fun b o e=>Vf (U0 (U5 e) hC)
 have bb:Un (Mo X.stack) fp H H1 s.heap s1.heap:=J.base;have jf:H1 C=none:=J.free;refine I.call' (s':={s1 with heap:=h2}) (ch:=fp) J.os ⟨fun b o e n hb hx=>?_,fun b o e n hb hx=>?_,bb.free,fun b o e hx=>?_,bb.tups,bb.frzs,bb.tbls⟩ (fun b ob e=>?_) J.bare fun b hb=>?_
 ·exact(hs.2 b (LX b o e)).trans (bb.keep b o e n hb hx)
 ·obtain⟨sl,q⟩:=bb.slot b o e n hb hx;exact⟨sl,(hs.2 b (LX b o e)).trans q⟩
 ·obtain⟨o',q⟩:=bb.there b o e hx;exact⟨o',(hs.2 b (LX b o e)).trans q⟩
 ·refine(J.hok b ob e).stay (fun c w' hc q=>(hs.2 c ?_).trans q) (fun _ q=>q) fun _ _ q=>q
  rintro rfl;rcases hc with rfl|hc
  ·rw[jf]at e;cases e
  ·rw[jf]at hc;cases hc
 ·obtain⟨f0,f1,f2,f3,f4,f5⟩:=fo b hb;exact⟨f3,f1,f4,f5⟩
end
variable{tg:Expr}{wi:TI}{g:TG}{tc:TT}{te:TE}
section
theorem lr{H2:Hp}{s2:Shared}{J:It}{it:Addr}{tn:Nat->Heap->Prop}{Q:VK}{RR:Value->Addr->Result->Shared->Prop}{E:Value->Shared->Prop}
  (hc:X.calm=true) (I2:Inv X pr σ H2 s2) (T:Turn X.prog X.w X.K tg J fp it tn) (Ib:tn 0 s2.heap) (f2:∀b∈fp,nJ X pr H2 b)
  (hg:∀C s H fp pn,PG (ba X scope N C s H fp pn) tg g) (ht:∀C s H fp pn,N9 (ba X scope N C s H fp pn) ifs tc) (he:∀C s H fp pn,PE (ba X scope N C s H fp pn) elt te)
  (hf:cT scope X.env=true) (hk:scope.kind=.function) (Ih:∀y∈scope.names,y.2≠.cell) (Ji:lq X scope N ix=true)
  (q:∀D,H2 D=none->∃W:Nat->Nat->L2.St->Hp->Prop,(∃m,W 0 m (dn ix σ) (upd H2 D (.lst [])))/\
   ∀i m σ1 H3,W i m σ1 H3->(J.stop i H3/\Q (.ref D) H3)\/(J.go i H3/\∀x H4,J.yld i H3 x H4->g x σ1 H4 fun σ2 H5=>tc σ2 H5 fun b H6=>if b=true then te σ2 H6 fun v H7=>
    ∃ys,H7 D=some (.lst ys)/\ys.length<sizeLine/\∃m',m'<m/\W (i+1) m' σ2 (upd H7 D (.lst (ys++[v]))) else ∃m',m'<m/\W (i+1) m' σ2 H6))
  (S1:∀(D C:Addr) (σ1:L2.St) (H1:Hp) (s1:Shared),s2.heap.objs.size<=C->Inv (ba X scope N C s2 H2 fp (X.pn++pr)) [] σ1 H1 s1->Q (.ref D) H1->RR (.ref D) C (.ok .next) s1):
  wpAny (model X.prog X.w) X.A (newList []) (fun acc s₃=>wpAny (model X.prog X.w) X.A (newFunctionEnv scope X.env.globals (clOf scope X.env) [] X.env.qual none .none (some X.env)) (fun Nm s₄=>
   codeAny (model X.prog X.w) X.A (.compStart (.ListComp elt [⟨tg,iter,ifs,0⟩] scope pos) 0 (.ref it) acc {Nm with scope:=relabel scope X.env}) (RR acc Nm.locals) s₄) E s₃) E s2:=by
 refine WI (wpAny_newFunctionEnv Ih (by intro y hy;simp at hy) (fun h₁ hns₁ hsb₁=>?_) hk);dsimp only at hns₁ hsb₁ ⊢;generalize hH2:s2.heap.push {cls:=.type "list",dict:=none,data:=.seq ([]:List Value).toArray}=HH at hns₁ hsb₁ ⊢;have hC:HH.objs.size=s2.heap.objs.size+1:=by rw[<-hH2,V4]
 have T8:s2.heap.objs.size≠HH.objs.size:=by rw[hC];exact Vf (VB _)
 have M1:s2.heap.objs.size<=HH.objs.size:=by rw[hC];exact WJ _
 have LX:∀b o,s2.heap.get? b=some o->b≠HH.objs.size:=fun b o e=>Vf (U0 (U5 e) M1)
 have old:∀b o,s2.heap.get? b=some o->h₁.get? b=some o:=fun b o e=>hsb₁.extBut b o (LX b o e) (UW _ (hH2▸UW _ e))
 have Le:h₁.get? s2.heap.objs.size=some {cls:=.type "list",data:=.seq #[] 0}:=hsb₁.extBut _ _ T8 (UW _ (hH2▸Vh _ rfl));obtain⟨W,⟨m0,w0⟩,turn⟩:=q s2.heap.objs.size (I2.hok.fresh (UZ _));have fin:∀b∈fp,∃o,s2.heap.get? b=some o:=fun b hb=>let⟨o,e,_⟩:=T.obj 0 _ Ib b hb;⟨o,e⟩
 have KW:∀{H':Hp},(∀b∈fp,H' b=none)->∀b∈fp,nJ (ba X scope N HH.objs.size s2 H2 fp (X.pn++pr)) [] H' b:=fun{H'} hn b hb=>by
  obtain⟨f0,f1,ff,f3,f4,f5⟩:=f2 b hb;refine⟨hn b hb,?_,fun z=>?_,.inl hb,fun x c e=>f4 x c (fV I2.ok hf e),fun p hp=>?_⟩
  ·intro z;have z:b=HH.objs.size:=z;obtain⟨o,ho⟩:=fin b hb;exact LX b o ho z
  ·exact(U6.mp (I2.stkSub b z)).elim f1 ff
  ·have hp:p∈X.pn++pr:=by
    have:p∈(X.pn++pr)++[]:=hp
    rwa [Vu]at this
   exact f5 p hp
 have loop:∀s₃:Shared,s₃={s2 with heap:=h₁,toks:=s2.toks+([]:List (Str×Value)).length}->
   codeAny (model X.prog X.w) X.A (.compLoop (.ListComp elt [⟨tg,iter,ifs,0⟩] scope pos) 0 (.ref it) (.ref s2.heap.objs.size) (compEnvC scope (clOf scope X.env) HH.objs.size X.env)) (RR (.ref s2.heap.objs.size) HH.objs.size) s₃:=by
  rintro s₃ rfl;refine nU (fun n s'=>∃i σ' H',Inv (ba X scope N HH.objs.size s2 H2 fp (X.pn++pr)) [] σ' H' s'/\tn i s'.heap/\(∀b∈fp,H' b=none)/\W i n σ' H') ?_ m0
   ⟨0,_,_,I2.block hf hk Ih Ji f2 fin rfl hC old Le hns₁,T.keep 0 _ _ Ib fun b _ o e=>old b o e,fun b hb=>?_,w0⟩
  ·rintro n s3 ⟨i,σ3,H3,I3,IL,O2,w3⟩;rcases turn i n σ3 H3 w3 with⟨stop,qn⟩|⟨go,step⟩
   ·refine Iy (T.done (ba X scope N HH.objs.size s2 H2 fp (X.pn++pr)) rfl rfl rfl hc i [] s3 σ3 H3 Nl I3 (KW O2) IL stop) fun r s4 Ir=>?_
    obtain⟨hr,I4⟩:=Ir;subst hr;exact S1 _ _ σ3 H3 s4 M1 I4 qn
   ·refine Iy (T.item (ba X scope N HH.objs.size s2 H2 fp (X.pn++pr)) rfl rfl rfl hc i [] s3 σ3 H3 Nl I3 (KW O2) IL go) fun r s4 Ir=>?_
    obtain⟨u,hr,h4⟩:=Ir;subst hr;refine Iy h4 fun _ s5 Ir=>?_
    obtain⟨x,H5,I5,r5,y5,Js,Rk⟩:=Ir;have Rl:=I5.pinned (KW Rk) (T.obj _ _ Js);refine Iy (hg _ _ _ _ _ _ s5 σ3 H5 x u _ Rl r5 (step x H5 y5)) fun _ s6 Ir=>?_
    obtain⟨σ6,H6,I6,q6⟩:=Ir;refine Iy (ht _ _ _ _ _ _ s6 σ6 H6 _ I6 q6) fun ok s7 Ir=>?_
    obtain⟨H7,I7,q7⟩:=Ir;have again:∀{H8:Hp}{s8:Shared},Inv (ba X scope N HH.objs.size s2 H2 fp (X.pn++pr)) ([]++lj fp s5.heap) σ6 H8 s8->(∃m',m'<n/\W (i+1) m' σ6 H8)->
      ∃m,m<n/\∃i σ' H',Inv (ba X scope N HH.objs.size s2 H2 fp (X.pn++pr)) [] σ' H' s8/\tn i s8.heap/\(∀b∈fp,H' b=none)/\W i m σ' H':=fun{H8 s8} I8 ⟨m',hm,w8⟩=>by
     refine⟨m',hm,i+1,σ6,H8,I8.unpinned,T.keep _ _ _ Js fun b hb o e=>(I8.pin (b,o) (UX _ (UX _ (dH hb e)))).1,fun b hb=>?_,w8⟩;obtain⟨o,e,d⟩:=T.obj _ _ Js b hb;exact(I8.pin (b,o) (UX _ (UX _ (dH hb e)))).2.1
    cases ok with
    |false=>exact again I7 q7
    |true=>
     show wpAny _ _ _ _ _ _;refine Iy (he _ _ _ _ _ _ s7 σ6 H7 _ I7 q7) fun x8 s8 Ir=>?_
     obtain⟨v8,H8,I8,r8,ys,S2,Iu,q8⟩:=Ir;refine Iy (jR _ s8 σ6 H8 (.ref s2.heap.objs.size) [v8] (.ref s2.heap.objs.size) [x8] (fun _ H9=>∃m',m'<n/\W (i+1) m' σ6 H9) I8 rfl (.cons r8 .nil) ⟨_,ys,v8,rfl,rfl,S2,Iu,q8⟩) fun _ s9 Ir=>?_
     obtain⟨_,H9,I9,_,q9⟩:=Ir;exact again I9 q9
  ·rw[aq (fun z=>by
    obtain⟨o,ho⟩:=fin b hb;exact absurd z (Vf (U5 ho)))]
   exact(f2 b hb).1
 exact codeAny_compStart_list (loop _ rfl) (T.self _ 0 _ _ _ (T.keep 0 _ _ Ib fun b _ o e=>old b o e) (loop _ rfl))
theorem lS(ix:List (Option Nat))(N:List Str)(hc:X.calm=true)(hi:PI X tg iter wi)(hg:∀C s H fp pn,PG (ba X scope N C s H fp pn) tg g)(ht:∀C s H fp pn,N9 (ba X scope N C s H fp pn) ifs tc)(he:∀C s H fp pn,PE (ba X scope N C s H fp pn) elt te)
  (hf:cT scope X.env=true:=by rfl) (hk:scope.kind=.function:=by rfl) (Ih:∀y∈scope.names,y.2≠.cell:=by decide +kernel) (Io:∀y∈scope.names,y.2=.local->scope.names.lookup y.1=some .local:=by decide +kernel) (Ji:lq X scope N ix=true:=by rfl)
  (hs:∀x,foldedSetIterable iter X.env x=pure x:=by intro _;rfl):PE X (.ListComp elt [⟨tg,iter,ifs,0⟩] scope pos) (nS wi ix g tc te):=by
 intro pr s σ H Q I h;rw[eval_ListComp];have KZ:closureFor scope X.env=pure (clOf scope X.env):=by
  unfold closureFor clOf;have:=dI X.env scope.names [] (iw I.ok hf);simpa using this
 refine Xe (use:=none) rfl hs KZ hk Io (Iy (hi pr s σ H _ I h) fun v s1 h1=>Iy h1 fun QM s2 h2=>?_);obtain⟨it,fp,tn,J,H2,e,I2,T,Ib,f2,q⟩:=h2;subst e;refine lr (RR:=fun acc C=>compPost (model X.prog X.w) X.A X.xe none (EP X pr σ Q) acc C) (Q:=Q) (iter:=iter) hc I2 T Ib f2 hg ht he hf hk Ih Ji q fun D C σ1 H1 s1 hC J1 q1=>?_
 obtain⟨m,ns,_⟩:=J1.loc;exact⟨m,ns,fun h' Py=>⟨.ref D,H1,I2.unblock f2 hC J1 Py,rfl,q1⟩⟩
end
variable{i:Nat}
section
theorem uk{y:Str}{py Kh:Pos}(ix:List (Option Nat))(N:List Str)(hN:X.N.Nodup)(Ob:X.N[i]?=some y)(hy:Loc X.env.scope y)(hc:X.calm=true)(hi:PI X tg iter wi)(hg:∀C s H fp pn,PG (ba X scope N C s H fp pn) tg g)(ht:∀C s H fp pn,N9 (ba X scope N C s H fp pn) ifs tc)
  (he:∀C s H fp pn,PE (ba X scope N C s H fp pn) elt te) (Nn:swapsWith (.ListComp elt [⟨tg,iter,ifs,0⟩] scope pos) (some (.Name y py)) Kh.line X.env=pure true:=by rfl)
  (hf:cT scope X.env=true:=by rfl) (hk:scope.kind=.function:=by rfl) (Ih:∀y∈scope.names,y.2≠.cell:=by decide +kernel) (Io:∀y∈scope.names,y.2=.local->scope.names.lookup y.1=some .local:=by decide +kernel) (Ji:lq X scope N ix=true:=by rfl)
  (hs:∀x,foldedSetIterable iter X.env x=pure x:=by intro _;rfl) (Mj:X.fn y=true\/X.env.scope.names.lookup y=some .local:=by first|exact .inl rfl|exact .inr rfl):
  PS X (.Assign [.Name y py] (.ListComp elt [⟨tg,iter,ifs,0⟩] scope pos) Kh) (fun D σ H=>nS wi ix g tc te σ H fun v H'=>D.nx (σ.set i (some v)) H'):=by
 intro pr s σ H Dd I h;rw[exec_Assign_Name_used _ _ _ _ Nn];have KZ:closureFor scope X.env=pure (clOf scope X.env):=by
  unfold closureFor clOf;have:=dI X.env scope.names [] (iw I.ok hf);simpa using this
 refine UR (Z4 (UR ?_));show wpAny _ X.A (do let _ <-comprehension (.ListComp elt [⟨tg,iter,ifs,0⟩] scope pos) scope X.env _ (newList []) false (eval iter X.env) (some (assign (.Name y py) X.env))) _ _ s;refine UR (Xz (Xe (use:=some (assign (.Name y py) X.env)) (Q:=fun _ s'=>SP X pr Dd .next s') rfl hs KZ hk Io
  (Iy (hi pr s σ H _ I h) fun v s1 h1=>Iy h1 fun QM s2 h2=>?_)) (fun _ s' hq=>Va (Va hq)) fun _ _ e=>e)
 obtain⟨it,fp,tn,J,H2,e,I2,T,Ib,f2,q⟩:=h2;subst e;refine lr (RR:=fun acc C=>compPost (model X.prog X.w) X.A X.xe (some (assign (.Name y py) X.env)) (fun _ s'=>SP X pr Dd .next s') acc C) (Q:=fun v H'=>Dd.nx (σ.set i (some v)) H') (iter:=iter) hc I2 T Ib f2 hg ht he hf hk Ih Ji q fun D C σ1 H1 s1 hC J1 q1=>?_
 obtain⟨m,ns,_⟩:=id J1.loc;have ns:s1.heap.Ns C m:=ns;have I3:Inv X pr σ H1 s1:=I2.unblock f2 hC J1 (.refl ..);show wpAny _ X.A (assign (.Name y py) X.env (.ref D)) _ _ s1;refine YJ (jO I3 hN Ob hy (v:=.ref D) rfl (fun s4 I4 ⟨a,sb,ha⟩=>?_) Mj);have aC:C≠a:=by
  intro z;rcases ha with ha|ha
  ·exact Vf (U0 I2.lt hC) (ha▸z.symm)
  ·obtain⟨v,o,ho,_⟩:=I2.cell y a ha;exact Vf (U0 (U5 ho) hC) z.symm
 refine⟨m,ns.sameBut sb aC,fun h' Py=>?_⟩;have jf:H1 C=none:=J1.free;have kk:∀b o,b≠C->s4.heap.get? b=some o->h'.get? b=some o:=fun b o hb e=>(Py.2 b hb).trans e
 refine⟨σ.set i (some (.ref D)),H1,?_,q1⟩;have z:=I4.turned (t':=s4.toks) kk jf (fun z=>Vf (U0 I2.lt hC) z.symm) (.inr (Vq I2.sz hC)) (fun x c e z=>by
  obtain⟨v,o,ho,_⟩:=I2.cell x c e;exact Vf (U0 (U5 ho) hC) z) (fun p hp z=>Vf (U0 (U5 (I2.pin p hp).1) hC) z)
 exact z
end
variable{h':Heap}
section
theorem xq{p:Addr}{xs:List V}{E:Value->Shared->Prop}{R:Value->Shared->Prop}(hc:X.calm=true)(I:Inv X pr σ H s)(h:SqL X.K H p xs\/SqT X.K H p xs)
  (k:∀(it:Addr) (fp:List Addr) (o:Obj) (us:List Value) (Sx:Nat->Heap->Prop),Vals xs us->Walks X.prog X.w X.A.in1 it fp [it] us.length (fun i v=>us[i]?=some v) Sx->Sx 0 (s.heap.push o)->(∀b∈fp,b<(s.heap.push o).objs.size)->it=s.heap.objs.size->R (.ref it) {s with heap:=s.heap.push o}):
  wpAny (model X.prog X.w) X.A.in1 (pyIter (.ref p)) R E s:=by
 have hh:X.A.in1.handled=none:=I.ok.hd hc;rcases h with h|h
 ·obtain⟨us,r,pl,hz⟩:=I.list h;have Iu:p<s.heap.objs.size:=by obtain⟨o,ho,_⟩:=pl.isList;exact U5 ho
  refine WG pl.isList (k s.heap.objs.size [s.heap.objs.size,p] _ us (fun i h=>h.IsListIter s.heap.objs.size p i/\h.IsList p us.toArray) r (by
   have W:=Walks.list (prog:=X.prog) (w:=X.w) hh s.heap.objs.size p (Vf Iu) us.toArray;simpa using W) ⟨⟨_,Vh _ rfl,rfl,rfl⟩,pl.isList.at fun o e=>UW _ e⟩ (fun b hb=>?_) rfl)
  rw[V4];rcases U6.mp hb with rfl|hb
  ·exact VB _
  ·rw[VC]at hb;rw[hb];exact Xf Iu
 ·obtain⟨us,r,pl,hz⟩:=I.tuple h;have Px:s.heap.IsTuple p us.toArray:=pl;have Iu:p<s.heap.objs.size:=by obtain⟨o,ho,_⟩:=pl;exact U5 ho
  refine Ws Px (k s.heap.objs.size [s.heap.objs.size,p] _ us (fun i h=>h.IsTupleIter s.heap.objs.size p i/\h.IsTuple p us.toArray) r (by
   have W:=Walks.tuple (prog:=X.prog) (w:=X.w) hh s.heap.objs.size p (Vf Iu) us.toArray;simpa using W) ⟨⟨_,Vh _ rfl,rfl,rfl⟩,Px.at fun o e=>UW _ e⟩ (fun b hb=>?_) rfl)
  rw[V4];rcases U6.mp hb with rfl|hb
  ·exact VB _
  ·rw[VC]at hb;rw[hb];exact Xf Iu
theorem sv{o:Obj}{tk:Nat}(I:Inv X pr σ H s)(kk:∀b ob,b∉[s.heap.objs.size]->(s.heap.push o).get? b=some ob->h'.get? b=some ob):
  Inv X pr σ H {s with heap:=h',toks:=tk}:=I.kept fun b ob e=>kk b ob (fun z=>Vf (U5 e) (by simpa using z)) (UW _ e)
theorem cp(l:List α)(i:Nat)(d:α)(h:i<l.length):l.getD i d=l[i]:=by
 rw[UQ,US h];rfl
theorem lT{ns:List Int}(r:Vals (ns.map V.int) us){v:Value}(h:us[i]?=some v):∃t,v=.int (ns.getD i 0) t:=by
 have hl:=r.length;rw[U8]at hl;obtain⟨hi,_⟩:=U1.mp h;have e1:(ns.map V.int)[i]?=some (.int (ns.getD i 0)):=by
  rw[Vg,US (by lia),cp _ _ _ (by lia)];rfl
 obtain⟨u,hu,t,rfl⟩:=r.get e1;rw[h]at hu;exact⟨t,Vy hu⟩
def Cz(ns:List Int):Int:=ns.foldl max (ns.headD 0)
def Fh(ns:List Int):Int:=ns.foldl min (ns.headD 0)
theorem nW(ns:List Int):∀k,k<=ns.length->preSum (fun i=>ns.getD i 0) k=(ns.take k).sum
 | 0,_=>by simp[preSum]
 |k+1,h=>by
  have et:ns.take (k+1)=ns.take k++[ns.getD k 0]:=by
   rw[List.take_add_one,US (by lia),cp _ _ _ (by lia)];rfl
  rw[et,List.sum_append,<-nW ns k (by lia)];simp[preSum]
theorem um(hc:X.calm=true):eA X (.builtin "sum") (fun vs H Q=>∃(p:Addr) (ns:List Int),vs=[.ref p]/\(SqL X.K H p (ns.map V.int)\/SqT X.K H p (ns.map V.int))/\Q (.int ns.sum) H):=by
 intro pr s σ H vs us Q I r h;obtain⟨p,ns,rfl,hp,q⟩:=h;obtain⟨u,rfl,r1⟩:=jB r;cases r1;refine call_sum_walkG (xq hc I hp fun it fp o ws Sx rv W st hf hit=>?_);have hl:=rv.length;rw[U8]at hl;refine⟨it,fp,[it],_,_,Sx,fun i=>ns.getD i 0,rfl,W,st,hf,fun i v hv=>lT rv hv,fun h' tk t' kk=>?_⟩;subst hit;refine⟨.int ns.sum,H,sv (s:=s) I kk,⟨t',?_⟩,q⟩;rw[<-hl,nW ns _ (UZ _),Y3]
end
section
variable{R:Result->Shared->Prop}{it:Addr}{wr:List Addr}{n:Nat}{Pv:Nat->Value->Prop}{Sx:Nat->Heap->Prop}{kw:List (Str×Value)}
end
section
variable{k:Expr}{tk:TE}{p Rm:Pos}
def maxD(ns:List Int)(d:Int):Int:=if ns=[] then d else Cz ns
end
variable{items xs ys:Array Value}{Q:Value->Shared->Prop}{h:Heap}{l l1 l2:Addr}{k1 k2:Bool}
section
theorem xr{it t:Addr}{x:Value}(hi:s.heap.IsTupleIter it t i)(ht:s.heap.IsTuple t items)(hx:items[i]?=some x)
  (k:∀h',h'.IsTupleIter it t (i+1)->Heap.SameBut it s.heap h'->Q x {s with heap:=h'}):wpAny (model prog w) A (Builtin.SmallTypes.nextOf (.ref it)) Q E s:=by
 obtain⟨o,ho,oc,od⟩:=id hi;obtain⟨q,hq,_,n,qd⟩:=ht;unfold Builtin.SmallTypes.nextOf;refine UR (Wi (name:=Str.ofString "__next__") hi.typeIs W2 (W3 W2 hi.typeIs Yp ?_ (Ye _)));show wpAny _ _ (field (.ref it) 0 >>= _) _ _ s;refine UR (Wu ho od (x:=.ref t) rfl ?_);show wpAny _ _ (if(Value.ref t==Value.none)=true then _ else _) _ _ s;rw[U9 (fun z:(Value.ref t==Value.none)=true=>U7 z)];show wpAny _ _ (field (.ref it) 1 >>= _) _ _ s;refine UR (Wu ho od (x:=.int i 0) rfl (UR (WT hq qd ?_)));simp only[VV,hx];refine UR (wpAny_setField ho od (by simp) (Va ⟨x,rfl,Va (k _ ⟨_,X4 _ ho (Obj.isFreed_of_fields (Obj.data_mapFields od _)),(Obj.cls_mapFields ..).trans oc,?_⟩ (Heap.SameBut.update ..))⟩));rw[Obj.data_mapFields od];simp[rawInt]
theorem z8{it t:Addr}{Q:Value->Shared->Prop}(hh:A.handled=none)(hi:s.heap.IsTupleIter it t i)(ht:s.heap.IsTuple t items)(hx:items[i]?=none)
  (k:∀h' e,Heap.ExtBut it s.heap h'->(∃o,h'.get? e=some o/\o.cls=.type "StopIteration")->E (.ref e) {s with heap:=h'}):wpAny (model prog w) A (Builtin.SmallTypes.nextOf (.ref it)) Q E s:=by
 obtain⟨o,ho,oc,od⟩:=id hi;obtain⟨q,hq,_,n,qd⟩:=ht;unfold Builtin.SmallTypes.nextOf;refine UR (Wi (name:=Str.ofString "__next__") hi.typeIs W2 (W3 W2 hi.typeIs Yp ?_ (Ye _)));show wpAny _ _ (field (.ref it) 0 >>= _) _ _ s;refine UR (Wu ho od (x:=.ref t) rfl ?_);show wpAny _ _ (if(Value.ref t==Value.none)=true then _ else _) _ _ s;rw[U9 (fun z:(Value.ref t==Value.none)=true=>U7 z)];show wpAny _ _ (field (.ref it) 1 >>= _) _ _ s;refine UR (Wu ho od (x:=.int i 0) rfl (UR (WT hq qd ?_)));simp only[VV,hx];refine UR (wpAny_rule (UR (wpAny_setField ho od (by simp) ?_)));show wpAny _ _ (newExc (.type "StopIteration") [] >>= _) _ _ _;refine UR ?_;simp only[newExc,newTuple];refine UR (WI (UR (m:=firstArgMember _ _) (wpAny_of_eq (a:=Value.none) (by first|rfl|(simp only[firstArgMember];rfl)) (WI ?_ (by size_fits)))) (by size_fits));simp only[raiseNew];refine UR (wpAny_handled ?_);first
  |rw[show A.in1.handled=none from hh]
  |rw[hh]
 exact UR (Va (wpAny_throw (k _ _ (((Heap.SameBut.update ..).extBut.push _).push _) ⟨_,Vh _ rfl,rfl⟩)))
def IsIt(k:Bool)(h:Heap)(it l:Addr)(i:Nat):Prop:=match k with
 |true=>h.IsListIter it l i
 |false=>h.IsTupleIter it l i
def IsSq(k:Bool)(h:Heap)(l:Addr)(xs:Array Value):Prop:=match k with
 |true=>h.IsList l xs
 |false=>h.IsTuple l xs
theorem IsIt.at{k:Bool}{it:Addr}(x:IsIt k h it l i)(e:∀o,h.get? it=some o->h'.get? it=some o):IsIt k h' it l i:=by
 cases k with
 |true=>obtain⟨o,ho,r⟩:=(show h.IsListIter it l i from x);exact(show h'.IsListIter it l i from⟨o,e o ho,r⟩)
 |false=>obtain⟨o,ho,r⟩:=(show h.IsTupleIter it l i from x);exact(show h'.IsTupleIter it l i from⟨o,e o ho,r⟩)
theorem IsSq.at{k:Bool}(x:IsSq k h l xs)(e:∀o,h.get? l=some o->h'.get? l=some o):IsSq k h' l xs:=by
 cases k with
 |true=>obtain⟨o,ho,r⟩:=(show h.IsList l xs from x);exact(show h'.IsList l xs from⟨o,e o ho,r⟩)
 |false=>obtain⟨o,ho,r⟩:=(show h.IsTuple l xs from x);exact(show h'.IsTuple l xs from⟨o,e o ho,r⟩)
theorem IsIt.obj{k:Bool}{it:Addr}(x:IsIt k h it l i):∃o,h.get? it=some o/\∀v,o.data≠.cell v:=by
 cases k with
 |true=>obtain⟨o,ho,_,d⟩:=(show h.IsListIter it l i from x);exact⟨o,ho,fun v z=>by rw[d]at z;cases z⟩
 |false=>obtain⟨o,ho,_,d⟩:=(show h.IsTupleIter it l i from x);exact⟨o,ho,fun v z=>by rw[d]at z;cases z⟩
theorem IsSq.get{k:Bool}{h:Heap}{l:Addr}{xs:Array Value}(x:IsSq k h l xs):∃o,h.get? l=some o:=by
 cases k with
 |true=>obtain⟨o,ho,_⟩:=(show h.IsList l xs from x);exact⟨o,ho⟩
 |false=>obtain⟨o,ho,_⟩:=(show h.IsTuple l xs from x);exact⟨o,ho⟩
theorem lU{k:Bool}{it:Addr}{x:Value}(hi:IsIt k s.heap it l i)(hl:IsSq k s.heap l xs)(hx:xs[i]?=some x)
  (q:∀h',IsIt k h' it l (i+1)->Heap.SameBut it s.heap h'->Q x {s with heap:=h'}):wpAny (model prog w) A (Builtin.SmallTypes.nextOf (.ref it)) Q E s:=by
 cases k with
 |true=>exact wpAny_nextOf_list_item hi hl hx q
 |false=>exact xr hi hl hx q
theorem uo{k:Bool}{it:Addr}{Q:Value->Shared->Prop}(hh:A.handled=none)(hi:IsIt k s.heap it l i)(hl:IsSq k s.heap l xs)(hx:xs[i]?=none)
  (q:∀h' e,Heap.ExtBut it s.heap h'->(∃o,h'.get? e=some o/\o.cls=.type "StopIteration")->E (.ref e) {s with heap:=h'}):wpAny (model prog w) A (Builtin.SmallTypes.nextOf (.ref it)) Q E s:=by
 cases k with
 |true=>exact wpAny_nextOf_list_end hh hi hl hx q
 |false=>exact z8 hh hi hl hx q
theorem z9{z TI TO i1 i2:Addr}{x y a b:Value}(D:ZipApart z TI TO i1 i2 l1 l2)(hz:IsZip s.heap z TI TO .none)(Mq:IsPair s.heap TI (.ref i1) (.ref i2))(M3:IsPair s.heap TO a b)
  (h1:IsIt k1 s.heap i1 l1 i) (h2:IsIt k2 s.heap i2 l2 i) (g1:IsSq k1 s.heap l1 xs) (g2:IsSq k2 s.heap l2 ys) (hx:xs[i]?=some x) (hy:ys[i]?=some y)
  (q:∀h',IsZip h' z TI TO (rawInt s.heap.objs.size)->IsPair h' TO x y->IsIt k1 h' i1 l1 (i+1)->IsIt k2 h' i2 l2 (i+1)->IsPair h' s.heap.objs.size x y->
   (∀c o,c≠z->c≠TO->c≠i1->c≠i2->s.heap.get? c=some o->h'.get? c=some o)->Q (.ref s.heap.objs.size) {s with heap:=h'}):
  wpAny (model prog w) A (Builtin.«zip.__next__» ⟨[.ref z],[]⟩) (fun fin s'=>∃v,fin=.done (.ret v)/\Q v s') E s:=by
 show wpAny _ _ (field (.ref z) 2 >>= _) _ _ _;refine UR (Wu hz rfl (x:=.bool false) rfl ?_);show wpAny _ _ (field (.ref z) 3 >>= _) _ _ _;refine UR (Wu hz rfl (x:=.ref TI) rfl (UR (WT Mq rfl ?_)));show wpAny _ _ (Builtin.SmallTypes.ownedTupleIsFree (.ref z) >>= _) _ _ _;refine UR ?_;unfold Builtin.SmallTypes.ownedTupleIsFree;refine UR (Wu hz rfl (x:=.none) rfl (Va ?_));rw[U2 (by rfl)];refine UR (wpAny_rule (UR (Wu hz rfl (x:=.ref TO) rfl (UR (W8 hz (by simp) fun hA zA sA=>?_)))));have zA:IsZip hA z TI TO .ellipsis:=zA;refine UR ?_;simp only[Xj,List.zipIdx_nil,Zn,ZF];refine UR (UR (YU ?_));show wpAny _ _ (Builtin.SmallTypes.nextOf (.ref i1) >>= _) _ _ _;refine UR (lU (h1.at fun o e=>sA.extBut _ _ D.i1z e) (g1.at fun o e=>sA.extBut _ _ D.l1z e) hx fun hB iB sB=>Va ?_);have tB:IsPair hB TO a b:=sB.extBut _ _ D.TOi1 (sA.extBut _ _ D.TOz M3);refine UR (WT tB rfl (UR (Yb tB fun hC tC sC=>UR (YV (Va ?_)))));have tC:IsPair hC TO x b:=tC;refine UR (UR (YU ?_));show wpAny _ _ (Builtin.SmallTypes.nextOf (.ref i2) >>= _) _ _ _;refine UR (lU (h2.at fun o e=>sC.extBut _ _ D.TOi2.symm (sB.extBut _ _ D.i12.symm (sA.extBut _ _ D.i2z e))) (g2.at fun o e=>sC.extBut _ _ D.l2TO (sB.extBut _ _ D.l2i1 (sA.extBut _ _ D.l2z e))) hy fun hD iD sD=>Va ?_);have tD:IsPair hD TO x b:=sD.extBut _ _ D.TOi2 tC;refine UR (WT tD rfl (UR (Yb tD fun hE tE sE=>UR (YV (Va (Va ?_))))));have tE:IsPair hE TO x y:=tE;refine UR (WT tE rfl (UR (wpAny_newTuple ?_)));have ez:hE.objs.size=s.heap.objs.size:=by rw[sE.1,sD.1,sC.1,sB.1,sA.1]
 have zE:IsZip hE z TI TO .ellipsis:=sE.extBut _ _ D.TOz.symm (sD.extBut _ _ D.i2z.symm (sC.extBut _ _ D.TOz.symm (sB.extBut _ _ D.i1z.symm zA)));have kE:∀c o,c≠z->c≠TO->c≠i1->c≠i2->s.heap.get? c=some o->hE.get? c=some o:=fun c o c1 c2 c3 c4 e=>sE.extBut _ _ c2 (sD.extBut _ _ c4 (sC.extBut _ _ c2 (sB.extBut _ _ c3 (sA.extBut _ _ c1 e))))
 have i1E:IsIt k1 hE i1 l1 (i+1):=iB.at fun o e=>sE.extBut _ _ D.TOi1.symm (sD.extBut _ _ D.i12 (sC.extBut _ _ D.TOi1.symm e))
 have i2E:IsIt k2 hE i2 l2 (i+1):=iD.at fun o e=>sE.extBut _ _ D.TOi2.symm e
 show wpAny _ _ (Builtin.SmallTypes.ownedTupleHandOut (.ref z) (.ref hE.objs.size) >>= _) _ _ _;refine UR ?_;unfold Builtin.SmallTypes.ownedTupleHandOut;have zF:IsZip (hE.push {cls:=.type "tuple",data:=.seq #[x,y]}) z TI TO .ellipsis:=UW _ zE;refine UR (W8 zF (by simp) fun hG zG sG=>?_);have zG:IsZip hG z TI TO (rawInt hE.objs.size):=zG;refine W8 zG (by simp) fun hK zK sK=>?_
 have zK:IsZip hK z TI TO (rawInt hE.objs.size):=zK;have up:∀c o,c≠z->hE.get? c=some o->hK.get? c=some o:=fun c o c1 e=>sK.extBut _ _ c1 (sG.extBut _ _ c1 (UW _ e))
 have nz:hE.objs.size≠z:=Xs (U5 zE);have tK:IsPair hK hE.objs.size x y:=sK.extBut _ _ nz (sG.extBut _ _ nz (Vh _ rfl));rw[ez]at zK tK;refine Va ⟨_,rfl,?_⟩;show Q (.ref hE.objs.size) _;rw[ez];exact q hK zK (up _ _ D.TOz tE) (i1E.at fun o e=>up _ o D.i1z e) (i2E.at fun o e=>up _ o D.i2z e) tK fun c o c1 c2 c3 c4 e=>up c o c1 (kE c o c1 c2 c3 c4 e)
theorem CA{z TI TO i1 i2:Addr}{a b:Value}{Q:Fin->Shared->Prop}(hh:A.handled=none)(D:ZipApart z TI TO i1 i2 l1 l2)(hz:IsZip s.heap z TI TO .none)(Mq:IsPair s.heap TI (.ref i1) (.ref i2))(M3:IsPair s.heap TO a b)
  (h1:IsIt k1 s.heap i1 l1 i) (h2:IsIt k2 s.heap i2 l2 i) (g1:IsSq k1 s.heap l1 xs) (g2:IsSq k2 s.heap l2 ys) (he:xs[i]?=none\/ys[i]?=none)
  (q:∀h' e,(∀c o,c≠z->c≠TO->c≠i1->c≠i2->s.heap.get? c=some o->h'.get? c=some o)->(∃o,h'.get? e=some o/\o.cls=.type "StopIteration")->E (.ref e) {s with heap:=h'}):
  wpAny (model prog w) A (Builtin.«zip.__next__» ⟨[.ref z],[]⟩) Q E s:=by
 show wpAny _ _ (field (.ref z) 2 >>= _) _ _ _;refine UR (Wu hz rfl (x:=.bool false) rfl ?_);show wpAny _ _ (field (.ref z) 3 >>= _) _ _ _;refine UR (Wu hz rfl (x:=.ref TI) rfl (UR (WT Mq rfl ?_)));show wpAny _ _ (Builtin.SmallTypes.ownedTupleIsFree (.ref z) >>= _) _ _ _;refine UR ?_;unfold Builtin.SmallTypes.ownedTupleIsFree;refine UR (Wu hz rfl (x:=.none) rfl (Va ?_));rw[U2 (by rfl)];refine UR (wpAny_rule (UR (Wu hz rfl (x:=.ref TO) rfl (UR (W8 hz (by simp) fun hA zA sA=>?_)))));have zA:IsZip hA z TI TO .ellipsis:=zA;refine UR ?_;simp only[Xj,List.zipIdx_nil,Zn,ZF];refine UR (UR (YU ?_));show wpAny _ _ (Builtin.SmallTypes.nextOf (.ref i1) >>= _) _ _ _;cases hx:xs[i]? with
 |none=>
  refine UR (uo hh (h1.at fun o e=>sA.extBut _ _ D.i1z e) (g1.at fun o e=>sA.extBut _ _ D.l1z e) hx fun hB e sB Ir=>?_);obtain⟨oe,ge,ce⟩:=Ir;have zB:IsZip hB z TI TO .ellipsis:=sB _ _ D.i1z.symm zA;have ne:e≠z:=fun x=>by subst x;rw[zB]at ge;cases ge;simp at ce
  exact W8 zB (by simp) fun hC _ sC=>q hC e (fun c o c1 _ c3 _ x=>sC.extBut _ _ c1 (sB _ _ c3 (sA.extBut _ _ c1 x))) ⟨oe,sC.extBut _ _ ne ge,ce⟩
 |some x=>
  have hy:ys[i]?=none:=by
   rcases he with z|z
   ·rw[hx]at z;cases z
   ·exact z
  refine UR (lU (h1.at fun o e=>sA.extBut _ _ D.i1z e) (g1.at fun o e=>sA.extBut _ _ D.l1z e) hx fun hB iB sB=>Va ?_);have tB:IsPair hB TO a b:=sB.extBut _ _ D.TOi1 (sA.extBut _ _ D.TOz M3);refine UR (WT tB rfl (UR (Yb tB fun hC tC sC=>UR (YV (Va ?_)))));refine UR (UR (YU ?_));show wpAny _ _ (Builtin.SmallTypes.nextOf (.ref i2) >>= _) _ _ _;refine UR (uo hh (h2.at fun o e=>sC.extBut _ _ D.TOi2.symm (sB.extBut _ _ D.i12.symm (sA.extBut _ _ D.i2z e))) (g2.at fun o e=>sC.extBut _ _ D.l2TO (sB.extBut _ _ D.l2i1 (sA.extBut _ _ D.l2z e))) hy fun hD e sD Ir=>?_);obtain⟨oe,ge,ce⟩:=Ir;have zD:IsZip hD z TI TO .ellipsis:=sD _ _ D.i2z.symm (sC.extBut _ _ D.TOz.symm (sB.extBut _ _ D.i1z.symm zA));have ne:e≠z:=fun x=>by subst x;rw[zD]at ge;cases ge;simp at ce
  exact W8 zD (by simp) fun hF _ sF=>q hF e (fun c o c1 c2 c3 c4 x=>sF.extBut _ _ c1 (sD _ _ c4 (sC.extBut _ _ c2 (sB.extBut _ _ c3 (sA.extBut _ _ c1 x))))) ⟨oe,sF.extBut _ _ ne ge,ce⟩
end
def itObj(k:Bool)(l:Addr):Obj:=match k with
 |true=>{cls:=.type "list_iterator",data:=.fields #[.ref l,.int 0 0]}
 |false=>{cls:=.type "tuple_iterator",data:=.fields #[.ref l,.int 0 0]}
theorem lV(k:Bool)(h:Heap)(l:Addr):IsIt k (h.push (itObj k l)) h.objs.size l 0:=by
 cases k with
 |true=>exact⟨_,Vh _ rfl,rfl,rfl⟩
 |false=>exact⟨_,Vh _ rfl,rfl,rfl⟩
abbrev zA(h:Heap)(k1:Bool)(l1:Addr):Heap:=h.push (itObj k1 l1)
abbrev zB(h:Heap)(k1 k2:Bool)(l1 l2:Addr):Heap:=(zA h k1 l1).push (itObj k2 l2)
abbrev zC(h:Heap)(k1 k2:Bool)(l1 l2:Addr):Heap:=(zB h k1 k2 l1 l2).push {cls:=.type "tuple",data:=.seq #[.ref h.objs.size,.ref (zA h k1 l1).objs.size]}
abbrev zD(h:Heap)(k1 k2:Bool)(l1 l2:Addr):Heap:=(zC h k1 k2 l1 l2).push {cls:=.type "tuple",data:=.seq #[.none,.none]}
abbrev zE(h:Heap)(k1 k2:Bool)(l1 l2:Addr):Heap:=(zD h k1 k2 l1 l2).push {cls:=.type "zip",data:=.fields #[.none,.bool false,.bool false,.ref (zB h k1 k2 l1 l2).objs.size,.ref (zC h k1 k2 l1 l2).objs.size]}
set_option maxHeartbeats 8000000 in
theorem CB(k1 k2:Bool)(l1 l2:Addr)(xs ys:Array Value):
  Meets (Builtin.«zip.__new__» ⟨[.type "zip",.ref l1,.ref l2],[]⟩) (fun _ R s=>IsSq k1 s.heap l1 xs/\IsSq k2 s.heap l2 ys/\R (.ok (.ret (.ref (zD s.heap k1 k2 l1 l2).objs.size))) {s with heap:=zE s.heap k1 k2 l1 l2}):=
 .of_wp fun prog w A R s h=>by
  obtain⟨hp,g,d,tk,os⟩:=s;obtain⟨g1,g2,q⟩:=h;have hsub:=sub_zip;cases k1 with
  |true=>
   have e1:Heap.IsList (Shared.heap ⟨hp,g,d,tk,os⟩) l1 xs:=g1;cases k2 with
   |true=>
    have e2:Heap.IsList (Shared.heap ⟨hp.push {cls:=.type "list_iterator",data:=.fields #[.ref l1,.int 0 0]},g,d,tk,os⟩) l2 ys:=Heap.IsList.push g2 _
    wp_walk using WG e1,WG e2
    exact⟨_,rfl,q⟩
   |false=>
    have e2:Heap.IsTuple (Shared.heap ⟨hp.push {cls:=.type "list_iterator",data:=.fields #[.ref l1,.int 0 0]},g,d,tk,os⟩) l2 ys:=Heap.IsTuple.push g2 _
    wp_walk using WG e1,Ws e2
    exact⟨_,rfl,q⟩
  |false=>
   have e1:Heap.IsTuple (Shared.heap ⟨hp,g,d,tk,os⟩) l1 xs:=g1;cases k2 with
   |true=>
    have e2:Heap.IsList (Shared.heap ⟨hp.push {cls:=.type "tuple_iterator",data:=.fields #[.ref l1,.int 0 0]},g,d,tk,os⟩) l2 ys:=Heap.IsList.push g2 _
    wp_walk using Ws e1,WG e2
    exact⟨_,rfl,q⟩
   |false=>
    have e2:Heap.IsTuple (Shared.heap ⟨hp.push {cls:=.type "tuple_iterator",data:=.fields #[.ref l1,.int 0 0]},g,d,tk,os⟩) l2 ys:=Heap.IsTuple.push g2 _
    wp_walk using Ws e1,Ws e2
    exact⟨_,rfl,q⟩
def ZS(k1 k2:Bool)(z TI TO i1 i2 l1 l2:Addr)(i:Nat)(h:Heap):Prop:=IsZip h z TI TO .none/\IsPair h TI (.ref i1) (.ref i2)/\(∃a b,IsPair h TO a b)/\IsIt k1 h i1 l1 i/\IsIt k2 h i2 l2 i
theorem Aa{prog:Program}{w:World}{A:Around}{E:Value->Shared->Prop}(g1:IsSq k1 s.heap l1 xs)(g2:IsSq k2 s.heap l2 ys)
  (q:∀h',ZS k1 k2 (s.heap.objs.size+4) (s.heap.objs.size+2) (s.heap.objs.size+3) s.heap.objs.size (s.heap.objs.size+1) l1 l2 0 h'->(∀c o,s.heap.get? c=some o->h'.get? c=some o)->Q (.ref (s.heap.objs.size+4)) {s with heap:=h'}):
  wpAny (model prog w) A (call (.type "zip") [.ref l1,.ref l2]) Q E s:=by
 refine callType_new F.called_zip (by decide) (F.typeCall_zip_2 _ _) (F.newCall_zip_2 _ _) (fun obj=>F.args_object_init_3 obj _ _) F.entry_zip_new (CB k1 k2 l1 l2 xs ys) ⟨g1,g2,?_⟩;have nA:(zA s.heap k1 l1).objs.size=s.heap.objs.size+1:=V4 ..;have nB:(zB s.heap k1 k2 l1 l2).objs.size=s.heap.objs.size+2:=by rw[V4,nA]
 have nC:(zC s.heap k1 k2 l1 l2).objs.size=s.heap.objs.size+3:=by rw[V4,nB]
 have nD:(zD s.heap k1 k2 l1 l2).objs.size=s.heap.objs.size+4:=by rw[V4,nC]
 have pu:∀{h:Heap}{o:Obj}{c:Addr}{v:Obj},h.get? c=some v->(h.push o).get? c=some v:=fun e=>UW _ e
 have gz:(zE s.heap k1 k2 l1 l2).get? (zD s.heap k1 k2 l1 l2).objs.size=some _:=Vh _ rfl;have go:(zE s.heap k1 k2 l1 l2).get? (zC s.heap k1 k2 l1 l2).objs.size=some _:=pu (Vh _ rfl);have gi:(zE s.heap k1 k2 l1 l2).get? (zB s.heap k1 k2 l1 l2).objs.size=some _:=pu (pu (Vh _ rfl));have j2:IsIt k2 (zE s.heap k1 k2 l1 l2) (zA s.heap k1 l1).objs.size l2 0:=(lV k2 (zA s.heap k1 l1) l2).at fun o e=>pu (pu (pu e))
 have j1:IsIt k1 (zE s.heap k1 k2 l1 l2) s.heap.objs.size l1 0:=(lV k1 s.heap l1).at fun o e=>pu (pu (pu (pu e)))
 show _/\_;rw[nB,nC,nD]at gz;rw[nA,nB]at gi;rw[nC]at go;rw[nA]at j2;rw[nD];exact⟨⟨_,gz,rfl⟩,q _ ⟨gz,gi,⟨_,_,go⟩,j1,j2⟩ fun c o x=>pu (pu (pu (pu (pu x))))⟩
noncomputable def S3(K:W.Frag)(k1 k2:Bool)(a b:Addr):It:=
 ⟨fun i H=>∃xs ys x y,(if k1 then SqL K H a xs else SqT K H a xs)/\(if k2 then SqL K H b ys else SqT K H b ys)/\xs[i]?=some x/\ys[i]?=some y,
  fun i H v H'=>∃T,H T=none/\v=.ref T/\∀xs ys x y,(if k1 then SqL K H a xs else SqT K H a xs)->(if k2 then SqL K H b ys else SqT K H b ys)->xs[i]?=some x->ys[i]?=some y->H'=upd H T (.tup [x,y]),
  fun i H=>∃xs ys,(if k1 then SqL K H a xs else SqT K H a xs)/\(if k2 then SqL K H b ys else SqT K H b ys)/\i=min xs.length ys.length⟩
variable{a:Addr}
section
theorem lW(I:Inv X pr σ H s){k:Bool}{xs:List V}(h:if k then SqL X.K H a xs else SqT X.K H a xs):∃us:List Value,Vals xs us/\IsSq k s.heap a us.toArray:=by
 cases k with
 |true=>
  obtain⟨us,r,p,_⟩:=I.list (show SqL X.K H a xs from h);exact⟨us,r,p.isList⟩
 |false=>
  obtain⟨us,r,p,_⟩:=I.tuple (show SqT X.K H a xs from h);exact⟨us,r,(show s.heap.IsTuple a us.toArray from p)⟩
theorem uq(I:Inv X pr σ H s){k:Bool}{xs ys:List V}(h:if k then SqL X.K H a xs else SqT X.K H a xs)(h':if k then SqL X.K H a ys else SqT X.K H a ys):xs=ys:=by
 cases k with
 |true=>exact I.list_inj (show SqL X.K H a xs from h) (show SqL X.K H a ys from h')
 |false=>exact I.tuple_inj (show SqT X.K H a xs from h) (show SqT X.K H a ys from h')
theorem fw(I:Inv X pr σ H s){k:Bool}{b:Addr}{xs:List V}(h:if k then SqL X.K H a xs else SqT X.K H a xs)(f:nJ X pr H b):a≠b:=by
 rintro rfl;obtain⟨f0,_,_,f3,_⟩:=f;have nb:∀o,X.K.lookup a=some o->False:=fun o hk=>by
  have e:=I.ok.mod.kin a o hk;rcases f3 with z|z
  ·exact I.ok.noex a o e z
  ·exact absurd (U0 (U5 e) (Vq I.ok.bsz z)) (Wm _)
 cases k with
 |true=>
  rcases(show SqL X.K H a xs from h) with(h|⟨o,h⟩)|⟨o,HX,n,hk,_⟩
  ·rw[f0]at h;cases h
  ·rw[f0]at h;cases h
  ·exact nb o hk
 |false=>
  rcases(show SqT X.K H a xs from h) with(h|⟨o,h⟩)|⟨o,HX,n,hk,_⟩
  ·rw[f0]at h;cases h
  ·rw[f0]at h;cases h
  ·exact nb o hk
end
theorem nx_zip_item{prog:Program}{w:World}{A:Around}{E:Value->Shared->Prop}{z TI TO i1 i2:Addr}{x y:Value}{Q:Option Value->Shared->Prop}(D:ZipApart z TI TO i1 i2 l1 l2)(st:ZS k1 k2 z TI TO i1 i2 l1 l2 i s.heap)
  (g1:IsSq k1 s.heap l1 xs) (g2:IsSq k2 s.heap l2 ys) (hx:xs[i]?=some x) (hy:ys[i]?=some y)
  (q:∀h',IsZip h' z TI TO (rawInt s.heap.objs.size)->IsPair h' TO x y->IsIt k1 h' i1 l1 (i+1)->IsIt k2 h' i2 l2 (i+1)->IsPair h' s.heap.objs.size x y->
   (∀c o,c≠z->c≠TO->c≠i1->c≠i2->s.heap.get? c=some o->h'.get? c=some o)->Q (some (.ref s.heap.objs.size)) {s with heap:=h'}):wpAny (model prog w) A (pyNext (.ref z)) Q E s:=by
 obtain⟨hz,Mq,⟨a,b,M3⟩,h1,h2⟩:=st;have ty:s.TypeIs (.ref z) "zip":=⟨_,hz,rfl⟩
 unfold pyNext;exact UR (wpAny_attempt (Wi (name:=Str.ofString "__next__") ty Yq (W3 Yq ty F.entry_zip_next (z9 D hz Mq M3 h1 h2 g1 g2 hx hy fun h' a1 a2 a3 a4 a5 a6=>Va (q h' a1 a2 a3 a4 a5 a6)) (F.args_zip_next_1 _))))
theorem sx{prog:Program}{w:World}{E:Value->Shared->Prop}{z TI TO i1 i2:Addr}{Q:Option Value->Shared->Prop}(hh:A.handled=none)(D:ZipApart z TI TO i1 i2 l1 l2)(st:ZS k1 k2 z TI TO i1 i2 l1 l2 i s.heap)
  (g1:IsSq k1 s.heap l1 xs) (g2:IsSq k2 s.heap l2 ys) (he:xs[i]?=none\/ys[i]?=none) (q:∀h',(∀c o,c≠z->c≠TO->c≠i1->c≠i2->s.heap.get? c=some o->h'.get? c=some o)->Q none {s with heap:=h'}):wpAny (model prog w) A (pyNext (.ref z)) Q E s:=by
 obtain⟨hz,Mq,⟨a,b,M3⟩,h1,h2⟩:=st;have ty:s.TypeIs (.ref z) "zip":=⟨_,hz,rfl⟩
 unfold pyNext;refine UR (wpAny_attempt (Wi (name:=Str.ofString "__next__") ty Yq (W3 Yq ty F.entry_zip_next (CA hh D hz Mq M3 h1 h2 g1 g2 he fun h' e kk ⟨o,ho,oc⟩=>?_) (F.args_zip_next_1 _))));exact UR (wpAny_isInstance (T:="StopIteration") (b:=true) ⟨o,ho,oc⟩ isSubtype_stop (Va (q _ kk)))
variable{kt:Nat}
theorem xt{P:Program}{K:W.Frag}{pt:Pos}(k1 k2:Bool)(a b z TI TO i1 i2:Addr)(ne:z≠TI/\z≠TO/\z≠i1/\z≠i2/\TI≠TO/\TI≠i1/\TI≠i2/\TO≠i1/\TO≠i2/\i1≠i2):
  Turn P w K (.Tuple es kt pt) (S3 K k1 k2 a b) [z,TI,TO,i1,i2] z (ZS k1 k2 z TI TO i1 i2 a b) where
 mem:=by simp
 obj:=fun i h st c hc=>by
  obtain⟨hz,Mq,⟨x,y,M3⟩,h1,h2⟩:=st;simp only[U6,V1,Yf]at hc;rcases hc with rfl|rfl|rfl|rfl|rfl
  ·exact⟨_,hz,fun v q=>by cases q⟩
  ·exact⟨_,Mq,fun v q=>by cases q⟩
  ·exact⟨_,M3,fun v q=>by cases q⟩
  ·exact h1.obj
  ·exact h2.obj
 keep:=fun i h h' st k=>by
  obtain⟨hz,Mq,⟨x,y,M3⟩,h1,h2⟩:=st;exact⟨k z (by simp) _ hz,k TI (by simp) _ Mq,⟨x,y,k TO (by simp) _ M3⟩,h1.at fun o e=>k i1 (by simp) o e,h2.at fun o e=>k i2 (by simp) o e⟩
 item:=by
  intro X hP hw hK hc i pr s σ H E I hf st hg;subst hP hw hK;obtain⟨xs,ys,x,y,s1,s2,hx,hy⟩:=hg;obtain⟨us,r1,q1⟩:=lW I s1;obtain⟨ws,r2,q2⟩:=lW I s2;obtain⟨u,hu,ru⟩:=r1.get hx;obtain⟨v,hv,rv⟩:=r2.get hy;obtain⟨n1,n2,n3,n4,n5,n6,n7,n8,n9,S4⟩:=ne;have f:=fun c hc=>hf c hc
  have D:ZipApart z TI TO i1 i2 a b:=⟨n1.symm,n2.symm,n3.symm,n4.symm,n5,n6,n7,n8,n9,S4,fw I s1 (f z (by simp)),fw I s1 (f TO (by simp)),fw I s1 (f i1 (by simp)),fw I s1 (f i2 (by simp)),
   fw I s2 (f z (by simp)),fw I s2 (f TO (by simp)),fw I s2 (f i1 (by simp)),fw I s2 (f i2 (by simp))⟩
  have Mq:=st.2.1;refine nx_zip_item D st q1 q2 (by simpa using hu) (by simpa using hv) fun h' z1 t1 j1 j2 tp kk=>⟨_,rfl,?_⟩
  refine wpAny_letOwnedTupleGo_zip z1 fun h2 z2 sb=>?_
  have nT:H s.heap.objs.size=none:=I.hok.fresh (UZ _);have tT:s.heap.objs.size≠z:=Xs (U5 st.1);have all:∀c o,c≠z->c≠TO->c≠i1->c≠i2->s.heap.get? c=some o->h2.get? c=some o:=fun c o c1 c2 c3 c4 e=>(sb.2 c c1).trans (kk c o c1 c2 c3 c4 e)
  have fz:=f z (by simp);have fo:=f TO (by simp);have f1:=f i1 (by simp);have f2:=f i2 (by simp);have Mr:∀c ob,H c=some ob->c≠z/\c≠TO/\c≠i1/\c≠i2:=fun c ob e=>⟨(fun q=>by rw[q,fz.1]at e;cases e),(fun q=>by rw[q,fo.1]at e;cases e),(fun q=>by rw[q,f1.1]at e;cases e),(fun q=>by rw[q,f2.1]at e;cases e)⟩
  refine⟨.ref s.heap.objs.size,upd H s.heap.objs.size (.tup [x,y]),?_,rfl,⟨_,nT,rfl,fun Jj ys' x' y' a1 a2 a3 a4=>?_⟩,⟨z2,?_,⟨u,v,(sb.2 TO n2.symm).trans t1⟩,j1.at fun o e=>(sb.2 i1 n3.symm).trans e,j2.at fun o e=>(sb.2 i2 n4.symm).trans e⟩,fun c hc=>?_⟩
  ·have Pz:h2.get? s.heap.objs.size=some {cls:=.type "tuple",data:=.seq #[u,v]}:=(sb.2 _ tT).trans tp;have S0:Inv X pr σ (upd H s.heap.objs.size (.tup [x,y])) {s with heap:=h2,gens:=s.gens,drawn:=s.drawn,toks:=s.toks}:=by
    refine I.step (ch:=[z,TO,i1,i2]) (fun c hc=>?_) (fun c o _ _ nc e _=>all c o (fun q=>nc (by simp[q])) (fun q=>nc (by simp[q])) (fun q=>nc (by simp[q])) (fun q=>nc (by simp[q])) e)
     (fun c o _ _ nc e _=>⟨o.slots,all c o (fun q=>nc (by simp[q])) (fun q=>nc (by simp[q])) (fun q=>nc (by simp[q])) (fun q=>nc (by simp[q])) e⟩) (fun c o _ e n=>by rw[aq (Vf (U5 e))];exact n)
     (fun c o nc e=>⟨o,all c o (fun q=>nc (by simp[q])) (fun q=>nc (by simp[q])) (fun q=>nc (by simp[q])) (fun q=>nc (by simp[q])) e⟩) (fun c l e=>by rw[aq (aN e nT)];exact e) (fun c o u' e=>by rw[aq (aN e nT)];exact e)
     (fun c ps e=>⟨#[],by rw[aq (aN e nT),e];simp⟩) (fun m hm=>?_) (fun c ob e=>?_) I.bare
    ·simp only[U6,V1,Yf]at hc;rcases hc with rfl|rfl|rfl|rfl
     ·exact⟨fz.2.2.2.1,fz.2.1,fz.2.2.2.2.1,fz.2.2.2.2.2⟩
     ·exact⟨fo.2.2.2.1,fo.2.1,fo.2.2.2.2.1,fo.2.2.2.2.2⟩
     ·exact⟨f1.2.2.2.1,f1.2.1,f1.2.2.2.2.1,f1.2.2.2.2.2⟩
     ·exact⟨f2.2.2.2.1,f2.2.1,f2.2.2.2.2.1,f2.2.2.2.2.2⟩
    ·obtain⟨o,es,ep,ho,r⟩:=hm;exact⟨o,es,ep,all _ o (WD fz.2.1) (WD fo.2.1) (WD f1.2.1) (WD f2.2.1) ho,r⟩
    ·by_cases ec:c=s.heap.objs.size
     ·subst ec;rw[aH]at e;cases e;exact⟨by simp only[Vb,V3];rw[Wd];decide,[u,v],.cons ru (.cons rv .nil),⟨_,Pz,rfl,⟨0,rfl⟩,rfl⟩⟩
     ·rw[aq ec]at e;refine(I.hok c ob e).stay (fun d w' hd q=>?_) (fun d q=>by rw[aq (aN q nT)];exact q) fun d l q=>by rw[aq (aN q nT)];exact q
      have N7:∃oo,H d=some oo:=by
       rcases hd with rfl|hd
       ·exact⟨_,e⟩
       ·exact⟨_,hd⟩
      obtain⟨oo,PB⟩:=N7;obtain⟨m1,m2,m3,m4⟩:=Mr d oo PB;exact all d w' m1 m2 m3 m4 q
   exact S0
  ·have e1:=uq I a1 s1;have e2:=uq I a2 s2;subst e1 e2;rw[hx]at a3;rw[hy]at a4;cases a3;cases a4;rfl
  ·exact(sb.2 TI n1.symm).trans (kk TI _ n1.symm n5 n6 n7 Mq)
  ·have hc0:=(f c hc).1;have cs:c≠s.heap.objs.size:=by
    have:=(fun i h st=>by
     exact(by
      obtain⟨hz,Mq,⟨x,y,M3⟩,h1,h2⟩:=st;simp only[U6,V1,Yf]at hc;rcases hc with rfl|rfl|rfl|rfl|rfl
      ·exact⟨_,hz⟩
      ·exact⟨_,Mq⟩
      ·exact⟨_,M3⟩
      ·obtain⟨o,e,_⟩:=h1.obj;exact⟨o,e⟩
      ·obtain⟨o,e,_⟩:=h2.obj;exact⟨o,e⟩:∃o,h.get? c=some o):∀i h,ZS k1 k2 z TI TO i1 i2 a b i h->∃o,h.get? c=some o) i s.heap st
    obtain⟨o,e⟩:=this;exact Vf (U5 e)
   rw[aq cs];exact hc0
 done:=by
  intro X hP hw hK hc i pr s σ H E I hf st hg;subst hP hw hK;obtain⟨xs,ys,s1,s2,hi⟩:=hg;obtain⟨us,r1,q1⟩:=lW I s1;obtain⟨ws,r2,q2⟩:=lW I s2;have l1:=r1.length;have l2:=r2.length;obtain⟨n1,n2,n3,n4,n5,n6,n7,n8,n9,S4⟩:=ne;have f:=fun c hc=>hf c hc
  have D:ZipApart z TI TO i1 i2 a b:=⟨n1.symm,n2.symm,n3.symm,n4.symm,n5,n6,n7,n8,n9,S4,fw I s1 (f z (by simp)),fw I s1 (f TO (by simp)),fw I s1 (f i1 (by simp)),fw I s1 (f i2 (by simp)),
   fw I s2 (f z (by simp)),fw I s2 (f TO (by simp)),fw I s2 (f i1 (by simp)),fw I s2 (f i2 (by simp))⟩
  have fz:=f z (by simp);have fo:=f TO (by simp);have f1:=f i1 (by simp);have f2:=f i2 (by simp);refine sx (I.ok.hd hc) D st q1 q2 (by
   rcases Nat.le_total us.length ws.length with q|q
   ·exact .inl (by simp;lia)
   ·exact .inr (by simp;lia)) fun h' kk=>⟨rfl,?_⟩
  have Mr:∀c ob,H c=some ob->c≠z/\c≠TO/\c≠i1/\c≠i2:=fun c ob e=>⟨(fun q=>by rw[q,fz.1]at e;cases e),(fun q=>by rw[q,fo.1]at e;cases e),(fun q=>by rw[q,f1.1]at e;cases e),(fun q=>by rw[q,f2.1]at e;cases e)⟩
  have S0:Inv X pr σ H {s with heap:=h',gens:=s.gens,drawn:=s.drawn,toks:=s.toks}:=by
   refine I.step (ch:=[z,TO,i1,i2]) (fun c hc=>?_) (fun c o _ _ nc e _=>kk c o (fun q=>nc (by simp[q])) (fun q=>nc (by simp[q])) (fun q=>nc (by simp[q])) (fun q=>nc (by simp[q])) e)
    (fun c o _ _ nc e _=>⟨o.slots,kk c o (fun q=>nc (by simp[q])) (fun q=>nc (by simp[q])) (fun q=>nc (by simp[q])) (fun q=>nc (by simp[q])) e⟩) (fun c o _ e n=>n)
    (fun c o nc e=>⟨o,kk c o (fun q=>nc (by simp[q])) (fun q=>nc (by simp[q])) (fun q=>nc (by simp[q])) (fun q=>nc (by simp[q])) e⟩) (fun c l e=>e) (fun c o u' e=>e)
    (fun c ps e=>⟨#[],by rw[e];simp⟩) (fun m hm=>?_) (fun c ob e=>?_) I.bare
   ·simp only[U6,V1,Yf]at hc;rcases hc with rfl|rfl|rfl|rfl
    ·exact⟨fz.2.2.2.1,fz.2.1,fz.2.2.2.2.1,fz.2.2.2.2.2⟩
    ·exact⟨fo.2.2.2.1,fo.2.1,fo.2.2.2.2.1,fo.2.2.2.2.2⟩
    ·exact⟨f1.2.2.2.1,f1.2.1,f1.2.2.2.2.1,f1.2.2.2.2.2⟩
    ·exact⟨f2.2.2.2.1,f2.2.1,f2.2.2.2.2.1,f2.2.2.2.2.2⟩
   ·obtain⟨o,es,ep,ho,r⟩:=hm;exact⟨o,es,ep,kk _ o (WD fz.2.1) (WD fo.2.1) (WD f1.2.1) (WD f2.2.1) ho,r⟩
   ·refine(I.hok c ob e).stay (fun d w' hd q=>?_) (fun d q=>q) fun d l q=>q
    have N7:∃oo,H d=some oo:=by
     rcases hd with rfl|hd
     ·exact⟨_,e⟩
     ·exact⟨_,hd⟩
    obtain⟨oo,PB⟩:=N7;obtain⟨m1,m2,m3,m4⟩:=Mr d oo PB;exact kk d w' m1 m2 m3 m4 q
  exact S0
 self:=fun _ _ _ _ _ st h=>wpAny_pyIter_zip st.1 h
section
variable{pt:Pos}
def Hn(K:W.Frag)(k1 k2:Bool)(ta:TA):TI:=fun σ H R=>ta σ H fun vs H1=>∃a b xs ys,vs=[.ref a,.ref b]/\(if k1 then SqL K H1 a xs else SqT K H1 a xs)/\(if k2 then SqL K H1 b ys else SqT K H1 b ys)/\R (S3 K k1 k2 a b) H1
theorem CF(k1 k2:Bool){e1 e2:Expr}{ta:TA}{p pos:Pos}(hg:Gl X "zip")(hm:X.mg "zip" = none)(ha:PA X [e1,e2] ta)(he:starEach [e1,e2] X.env=(false,eval e1 X.env)::starEach [e2] X.env:=by rfl)(JR:(backTo pos (starEach [e2] X.env)).any (·.1)=false:=by rfl):
  PI X (.Tuple es kt pt) (.Call (.Name "zip" p) [e1,e2] [] pos) (Hn X.K k1 k2 ta):=by
 intro pr s σ H R I h;refine WM (jm I hg hm (by decide +kernel:bootBuiltins "zip" = some (.type "zip")) ?_ (by decide) (by decide));refine Wc (Iy (ha pos pr s σ H _ I h) fun us s1 ⟨vs,H1,I1,r1,a,b,xs,ys,e,S5,s2',q⟩=>?_) he JR;subst e;obtain⟨u,w',rfl,ra,rb⟩:=Cg r1;cases ra;cases rb;obtain⟨us,v1,q1⟩:=lW I1 S5;obtain⟨ws,v2,q2⟩:=lW I1 s2';refine Aa q1 q2 fun h' st kk=>?_
 refine wpAny_pyIter_zip st.1 ?_;have fr:∀j,nJ X pr H1 (s1.heap.objs.size+j):=fun j=>I1.fpOk (X7 _ _) (I1.hok.fresh (X7 _ _))
 have nn:∀i j:Nat,i≠j->s1.heap.objs.size+i≠s1.heap.objs.size+j:=fun i j h z=>h (ZK z)
 refine⟨_,_,_,_,H1,rfl,I1.kept (t':=s1.toks) kk,xt k1 k2 a b (s1.heap.objs.size+4) (s1.heap.objs.size+2) (s1.heap.objs.size+3) (s1.heap.objs.size+0) (s1.heap.objs.size+1)
  ⟨nn 4 2 (by decide),nn 4 3 (by decide),nn 4 0 (by decide),nn 4 1 (by decide),nn 2 3 (by decide),nn 2 0 (by decide),nn 2 1 (by decide),nn 3 0 (by decide),nn 3 1 (by decide),nn 0 1 (by decide)⟩,st,fun c hc=>?_,q⟩
 simp only[U6,V1,Yf]at hc;rcases hc with rfl|rfl|rfl|rfl|rfl
 ·exact fr 4
 ·exact fr 2
 ·exact fr 3
 ·exact fr 0
 ·exact fr 1
end
end NX
namespace NX
open PySem PySem.W PyProof.Rows
variable{p:Array Nat}{IT i:Nat}{Q:Nat×Array Nat->Shared->Prop}{s:Shared}
section
variable{n:Nat}{O:KeyOrd}{κ:Nat->O.α}{cmp:Nat->Nat->(Bool->Shared->Prop)->Shared->Prop}{Good:Shared->Prop}
def kk(κ:Nat->O.α)(p:Array Nat)(i:Nat):O.α:=κ (p.getD i 0)
structure POk(n:Nat)(p:Array Nat):Prop where
 perm:p.toList.Perm (List.range n)
theorem POk.size{p:Array Nat}(h:POk n p):p.size=n:=by
 have:=h.perm.length_eq;simpa using this
theorem POk.lt(h:POk n p)(hi:i<n):p.getD i 0<n:=by
 have hs:=h.size;have PD:i<p.size:=by lia
 have e:p.getD i 0=p[i]:=by simp[Array.getD,PD]
 rw[e];exact V8.mp (h.perm.mem_iff.mp (Array.getElem_mem_toList PD))
theorem POk.of{q:Array Nat}(h:POk n p)(hq:q.Perm p):POk n q:=⟨(Array.perm_iff_toList_perm.mp hq).trans h.perm⟩
def bx(κ:Nat->O.α)(p:Array Nat)(m:Nat):Prop:=∀i j,i<=j->j<m->O.kle (kk κ p i) (kk κ p j)
def fA(κ:Nat->O.α)(p:Array Nat)(m:Nat):Prop:=∀i j,i<=j->j<m->O.kle (kk κ p j) (kk κ p i)
theorem eS{q:Array Nat}{j:Nat}(h:p[i]?=q[j]?):p.getD i 0=q.getD j 0:=by
 rw[Yr,Yr,h]
theorem qq{j:Nat}(hj:j<=p.size)(k:Nat):kk κ (kas_rev p i j) k=if i<=k/\k<j then kk κ p (i+j-1-k) else kk κ p k:=by
 have e:=getElem?_mirror_all (i:=i) hj k;unfold kk kas_rev;split
 ·rename_i h;rw[U2 h]at e;rw[eS e]
 ·rename_i h;rw[U9 h]at e;rw[eS e]
theorem yH{src d:Nat}(hs:src<p.size)(hd:d<=src)(k:Nat):kk κ (bubble p src d) k=if k=src-d then kk κ p src else if src-d<k/\k<=src then kk κ p (k-1) else kk κ p k:=by
 have e:=getElem?_bubble hs d hd k;by_cases h:k=src-d
 ·rw[U2 h]at e ⊢;exact V7 κ (eS e)
 ·rw[U9 h]at e ⊢;by_cases h2:src-d<k/\k<=src
  ·rw[U2 h2]at e ⊢;exact V7 κ (eS e)
  ·rw[U9 h2]at e ⊢;exact V7 κ (eS e)
theorem POk.rev(h:POk n p)(i j:Nat):POk n (kas_rev p i j):=h.of (mirror_perm _ _ _ _)
theorem POk.bub(h:POk n p)(i j:Nat):POk n (bubble p i j):=h.of (bubble_perm _ _ _)
theorem sy(p:Array Nat):bx κ p 1:=fun i j a b=>by
 have e:i=j:=by lia
 rw[e];exact WX _
theorem pH{m:Nat}(h1:1<=m)(h:bx κ p m)(hm:O.kle (kk κ p (m-1)) (kk κ p m)):bx κ p (m+1):=by
 intro i j Ms hj;by_cases e:j=m
 ·subst e;by_cases e2:i=j
  ·subst e2;exact WX _
  ·exact X8 (h i (j-1) (by lia) (by lia)) hm
 ·exact h i j Ms (by lia)
theorem eT{m:Nat}(h1:1<=m)(h:fA κ p m)(hm:O.kle (kk κ p m) (kk κ p (m-1))):fA κ p (m+1):=by
 intro i j Ms hj;by_cases e:j=m
 ·subst e;by_cases e2:i=j
  ·subst e2;exact WX _
  ·exact X8 hm (h i (j-1) (by lia) (by lia))
 ·exact h i j Ms (by lia)
variable(hc:∀i j,i<n->j<n->∀(Q:Bool->Shared->Prop) s,Good s->(∀s',Good s'->Q (O.blt (κ i) (κ j)) s')->cmp i j Q s)
include hc
theorem ur{p:Array Nat}(hp:POk n p){IT:Nat}(hn:IT<=n){Q:Nat->Shared->Prop}:∀(f m:Nat) (s:Shared),Good s->1<=m->m+f=IT->bx κ p m->
  (∀r s',Good s'->m<=r->r<=IT->bx κ p r->(r<IT->O.klt (kk κ p r) (kk κ p (r-1)))->Q r s')->(kas_asc p f m).kasWp cmp Q s
 | 0,m,s,g,h1,hf,hs,k=>k m s g (UZ _) (by lia) hs (fun z=>by lia)
 |f+1,m,s,g,h1,hf,hs,k=>by
  show cmp (p.getD m 0) (p.getD (m-1) 0) _ s;refine hc _ _ (hp.lt (by lia)) (hp.lt (by lia)) _ s g fun s' g'=>?_
  cases e:O.blt (κ (p.getD m 0)) (κ (p.getD (m-1) 0)) with
  |true=>
   (try dsimp only)
   rw[U2 rfl];exact k m s' g' (UZ _) (by lia) hs fun _=>e
  |false=>
   (try dsimp only)
   rw[U9 U7];exact ur hp hn f (m+1) s' g' (by lia) (by lia) (pH h1 hs e) fun r s2 g2 a b c d=>k r s2 g2 (by lia) b c d
def Ab(κ:Nat->O.α)(p:Array Nat)(m q:Nat):Prop:=∀k,m-(q+1)<=k->k<m->kk κ p k=kk κ p (m-1)
omit hc in
theorem nX{m q:Nat}(hm:m<=p.size)(h:Ab κ p m q)(k:Nat):kk κ (kas_rev p (m-(q+1)) m) k=kk κ p k:=by
 rw[qq hm];split
 ·rename_i hk;rw[h _ (by lia) (by lia),h k hk.1 hk.2]
 ·rfl
omit hc in
theorem i6{p':Array Nat}{m:Nat}(e:∀k,kk κ p' k=kk κ p k)(h:fA κ p m):fA κ p' m:=fun i j a b=>by rw[e,e];exact h i j a b
theorem lX{IT:Nat}(hn:IT<=n){Q:Array Nat×Nat×Nat->Shared->Prop}:∀(f:Nat) (p:Array Nat) (m q:Nat) (s:Shared),POk n p->Good s->1<=m->q+1<=m->m+f=IT->fA κ p m->Ab κ p m q->
  (∀p' m' q' s',POk n p'->Good s'->m<=m'->m'<=IT->q'+1<=m'->fA κ p' m'->Ab κ p' m' q'->Q (p',m',q') s')->(kas_desc f p m q).kasWp cmp Q s
 | 0,p,m,q,s,hp,g,h1,hq,hf,hs,ha,k=>k p m q s hp g (UZ _) (by lia) hq hs ha
 |f+1,p,m,q,s,hp,g,h1,hq,hf,hs,ha,k=>by
  show cmp (p.getD m 0) (p.getD (m-1) 0) _ s;refine hc _ _ (hp.lt (by lia)) (hp.lt (by lia)) _ s g fun s' g'=>?_
  have hsz:=hp.size;cases e:O.blt (κ (p.getD m 0)) (κ (p.getD (m-1) 0)) with
  |true=>
   (try dsimp only)
   rw[U2 rfl];have le:O.kle (kk κ p m) (kk κ p (m-1)):=X2 e;by_cases h0:q>0
   ·rw[U2 h0];have same:=nX (κ:=κ) (p:=p) (m:=m) (q:=q) (by lia) ha;refine lX hn f _ (m+1) 0 s' (hp.rev _ _) g' (by lia) (by lia) (by lia) (eT h1 (i6 same hs) (by rw[same,same];exact le)) ?_ fun p' m' q' s2 a b c d e' f' g2=>k p' m' q' s2 a b (by lia) d e' f' g2
    intro k' a b;have:k'=m:=by lia
    rw[this];rfl
   ·rw[U9 h0];refine lX hn f p (m+1) 0 s' hp g' (by lia) (by lia) (by lia) (eT h1 hs le) ?_ fun p' m' q' s2 a b c d e' f' g2=>k p' m' q' s2 a b (by lia) d e' f' g2
    intro k' a b;have:k'=m:=by lia
    rw[this];rfl
  |false=>
   (try dsimp only)
   rw[U9 U7];show cmp (p.getD (m-1) 0) (p.getD m 0) _ s';refine hc _ _ (hp.lt (by lia)) (hp.lt (by lia)) _ s' g' fun s2 g2=>?_
   cases e2:O.blt (κ (p.getD (m-1) 0)) (κ (p.getD m 0)) with
   |true=>
    (try dsimp only)
    rw[U2 rfl];exact k p m q s2 hp g2 (UZ _) (by lia) hq hs ha
   |false=>
    (try dsimp only)
    rw[U9 U7];have eq:kk κ p (m-1)=kk κ p m:=KeyOrd.kle_antisymm (O:=O) e e2;refine lX hn f p (m+1) (q+1) s2 hp g2 (by lia) (by lia) (by lia) (eT h1 hs (by rw[eq];exact WX _)) ?_ fun p' m' q' s3 a b c d e' f' g3=>k p' m' q' s3 a b (by lia) d e' f' g3
    intro k' a b;show kk κ p k'=kk κ p m;by_cases z:k'=m
    ·rw[z]
    ·rw[ha k' (by lia) (by lia),eq]
omit hc in
theorem sH{m:Nat}(hm:m<=p.size)(h:fA κ p m):bx κ (kas_rev p 0 m) m:=by
 intro i j a b;rw[qq hm,qq hm,U2 (by lia),U2 (by lia)];exact h _ _ (by lia) (by lia)
theorem uu(hp:POk n p){m:Nat}(hn:IT<=n)(h1:1<=m)(hm:m<=IT)(hs:fA κ p m)(g:Good s)
  (k:∀r p' s',POk n p'->Good s'->1<=r->r<=IT->bx κ p' r->Q (r,p') s'):(kas_tail3 m IT p).kasWp cmp Q s:=by
 unfold kas_tail3;rw[KasT.kasWp_bind];have hsz:=hp.size;refine ur hc (hp.rev 0 m) hn (IT-m) m s g h1 (by lia) (sH (by lia) hs) fun r s' g' a b c _=>?_
 exact k r _ s' (hp.rev 0 m) g' (by lia) b c
theorem jV(hp:POk n p){m:Nat}(hn:IT<=n)(h1:1<=m)(hm:m+1<=IT)(hs:fA κ p (m+1))(g:Good s)
  (k:∀r p' s',POk n p'->Good s'->1<=r->r<=IT->bx κ p' r->Q (r,p') s'):(kas_descPart m IT p).kasWp cmp Q s:=by
 unfold kas_descPart;rw[KasT.kasWp_bind];refine lX hc hn (IT-(m+1)) p (m+1) 0 s hp g (by lia) (by lia) (by lia) hs ?_ fun p' m' q' s' a b c d e f g2=>?_
 ·intro k' a b;have:k'=m:=by lia
  rw[this];rfl
 ·have hsz:=a.size;dsimp only;split
  ·have same:=nX (κ:=κ) (p:=p') (m:=m') (q:=q') (by lia) g2;exact uu hc (a.rev _ _) hn (by lia) d (i6 same f) b k
  ·exact uu hc a hn (by lia) d f b k
theorem xu(hp:POk n p)(hn:IT<=n)(h1:1<=IT)(g:Good s)
  (k:∀r p' s',POk n p'->Good s'->1<=r->r<=IT->bx κ p' r->Q (r,p') s'):(kas_count IT p).kasWp cmp Q s:=by
 unfold kas_count;rw[KasT.kasWp_bind];have hsz:=hp.size;refine ur hc hp hn (IT-1) 1 s g (UZ _) (by lia) (sy p) fun m s' g' a b c d=>?_
 by_cases e:m=IT
 ·rw[U2 (by simpa using e)];exact k m p s' hp g' (by lia) (by lia) c
 ·rw[U9 (by simpa using e)];have dd:=d (by lia);by_cases h2:m>1
  ·rw[U2 h2];show cmp (p.getD 0 0) (p.getD (m-1) 0) _ s';refine hc _ _ (hp.lt (by lia)) (hp.lt (by lia)) _ s' g' fun s2 g2=>?_
   cases e2:O.blt (κ (p.getD 0 0)) (κ (p.getD (m-1) 0)) with
   |true=>
    (try dsimp only)
    rw[U2 rfl];exact k m p s2 hp g2 (by lia) b c
   |false=>
    (try dsimp only)
    rw[U9 U7];have eq:∀i,i<m->kk κ p i=kk κ p 0:=fun i hi=>by
     have x1:=c 0 i (by lia) hi;have x2:=c i (m-1) (by lia) (by lia);exact KeyOrd.kle_antisymm (O:=O) (X8 x2 e2) x1
    have same:∀i,kk κ (kas_rev p 0 m) i=kk κ p i:=fun i=>by
     rw[qq (by lia)];split
     ·rw[eq _ (by lia),eq i (by lia)]
     ·rfl
    refine jV hc (hp.rev 0 m) hn (by lia) (by lia) ?_ g2 k;refine i6 same (eT (by lia) (fun i j x y=>?_) (X2 dd));rw[eq i (by lia),eq j y];exact WX _
  ·rw[U9 h2];refine jV hc hp hn (by lia) (by lia) (eT (by lia) (fun i j x y=>?_) (X2 dd)) g' k;have:i=j:=by lia
   rw[this];exact WX _
theorem lY{p:Array Nat}(hp:POk n p){t:Nat}(ht:t<n)(hs:bx κ p t){Q:Nat->Shared->Prop}:∀(f l r:Nat) (s:Shared),Good s->l<=r->r<=t->r-l<=f->(∀i,i<l->O.kle (kk κ p i) (kk κ p t))->(∀i,r<=i->i<t->O.klt (kk κ p t) (kk κ p i))->
  (∀x s',Good s'->x<=t->(∀i,i<x->O.kle (kk κ p i) (kk κ p t))->(∀i,x<=i->i<t->O.klt (kk κ p t) (kk κ p i))->Q x s')->(kas_place p t f l r).kasWp cmp Q s
 | 0,l,r,s,g,h1,h2,h3,lo,hi,k=>k l s g (by lia) lo fun i a b=>hi i (by lia) b
 |f+1,l,r,s,g,h1,h2,h3,lo,hi,k=>by
  unfold kas_place;by_cases e:l>=r
  ·rw[U2 e];exact k l s g (by lia) lo fun i a b=>hi i (by lia) b
  ·rw[U9 e];show cmp (p.getD t 0) (p.getD ((l+r) / 2) 0) _ s;refine hc _ _ (hp.lt ht) (hp.lt (by lia)) _ s g fun s' g'=>?_
   cases e2:O.blt (κ (p.getD t 0)) (κ (p.getD ((l+r) / 2) 0)) with
   |true=>
    (try dsimp only)
    rw[U2 rfl];refine lY hp ht hs f l ((l+r) / 2) s' g' (by lia) (by lia) (by lia) lo (fun i a b=>?_) k;exact KeyOrd.klt_of_klt_of_kle (O:=O) e2 (hs _ i a b)
   |false=>
    (try dsimp only)
    rw[U9 U7];refine lY hp ht hs f ((l+r) / 2+1) r s' g' (by lia) (by lia) (by lia) (fun i a=>?_) hi k;exact X8 (O:=O) (hs i ((l+r) / 2) (by lia) (by lia)) e2
theorem yI{Q:Array Nat->Shared->Prop}:∀(f:Nat) (p:Array Nat) (t:Nat) (s:Shared),POk n p->Good s->t+f=n->bx κ p t->(∀p' s',POk n p'->Good s'->bx κ p' n->Q p' s')->(kas_bin f p t).kasWp cmp Q s
 | 0,p,t,s,hp,g,hf,hs,k=>k p s hp g (by rw[show n=t by lia];exact hs)
 |f+1,p,t,s,hp,g,hf,hs,k=>by
  unfold kas_bin;rw[KasT.kasWp_bind];have hsz:=hp.size;refine lY hc hp (by lia) hs t 0 t s g (VH _) (UZ _) (by lia) (fun i a=>by lia) (fun i a b=>by lia) fun x s' g' hx lo hi=>?_
  refine yI f _ (t+1) s' (hp.bub _ _) g' (by lia) ?_ k;have ex:t-(t-x)=x:=by lia
  intro i j a b;rw[yH (by lia) (by lia),yH (by lia) (by lia),ex];have lo':=lo;by_cases i1:i=x
  ·by_cases j1:j=x
   ·rw[U2 i1,U2 j1];exact WX _
   ·rw[U2 i1,U9 j1,U2 (by lia)];exact X2 (hi (j-1) (by lia) (by lia))
  ·rw[U9 i1];by_cases i2:x<i/\i<=t
   ·rw[U2 i2,U9 (by lia),U2 (by lia)];exact hs (i-1) (j-1) (by lia) (by lia)
   ·rw[U9 i2];by_cases j1:j=x
    ·rw[U2 j1];exact lo i (by lia)
    ·rw[U9 j1];by_cases j2:x<j/\j<=t
     ·rw[U2 j2];exact hs i (j-1) (by lia) (by lia)
     ·rw[U9 j2];exact hs i j a (by lia)
theorem Ac(h1:1<=n){Q:Array Nat->Shared->Prop}(g:Good s)(k:∀p s',POk n p->Good s'->bx κ p n->Q p s'):(kas_sort n).kasWp cmp Q s:=by
 unfold kas_sort;rw[KasT.kasWp_bind];refine xu hc (p:=List.toArray (List.range n)) ⟨by simp⟩ (UZ _) h1 g fun r p' s' hp g' a b c=>?_
 dsimp only;split
 ·have e:max r 1=r:=by lia
  rw[e];exact yI hc (n-r) p' r s' hp g' (by lia) c k
 ·exact k p' s' hp g' (by rw[show n=r by lia];exact c)
end
end NX
namespace NX
open PySem PySem.W PySem.Spec PyProof.Rows L2
variable{prog:Program}{w:World}{A:Around}{s:Shared}{kd:SortKind}{a:Addr}{vs:List Value}
section
variable{E:Value->Shared->Prop}
theorem qr(n:Nat):POk n (List.toArray (List.range n)):=⟨by simp⟩
theorem lZ{O:KeyOrd}{key:Nat->O.α}{n:Nat}{P:PySem.Fin->Shared->Prop}(ho:s.heap.get? a=some (seqObj "list" vs.toArray n))(PF:vs.length<64)
  (L0:2<=vs.length->∀(h':Heap),(∀b o,b≠a->s.heap.get? b=some o->h'.get? b=some o)->∀Q:SortKind->Shared->Prop,Q kd {s with heap:=h'}->wpAny (model prog w) A (keyKind' vs.toArray) Q E {s with heap:=h'})
  (PH:∀i j,i<vs.length->j<vs.length->∀(h':Heap),(∀b o,b≠a->s.heap.get? b=some o->h'.get? b=some o)->∀C:Bool->Shared->Prop,C (O.blt (key i) (key j)) {s with heap:=h'}->kas_ask prog w A kd vs i j C {s with heap:=h'})
  (h:∀p h',POk vs.length p->bx key p vs.length->(∃e,h'.get? a=some (seqObj "list" (List.toArray (p.toList.map fun i=>vs.getD i .none)) e))->(∀b o,b≠a->s.heap.get? b=some o->h'.get? b=some o)->P (.done (.ret .none)) {s with heap:=h'}):
  wpAny (model prog w) A (Builtin.«list.sort» ⟨[.ref a],[]⟩) P E s:=by
 rw[list_sort_plain];have la:a<s.heap.objs.size:=U5 ho;have zs:vs.toArray.size=vs.length:=by simp
 refine UR (listItems_at ho rfl (UR (listUpdate_at ho rfl ?_ (by rw[zs,Wd];lia) (VH _))));obtain⟨e1,h1⟩:∃e1,(s.heap.update a (Obj.mapSeq fun _=>#[])).get? a=some (seqObj "list" #[] e1):=⟨_,get?_update_seq ho (fun _=>#[])⟩
 refine UR (seqEpoch_at h1 rfl (UR (wpAny_newTuple (UR (wpAny_newList (XX ?_))) (by simp only[Yo];rw[Wd];lia))));generalize e6:((s.heap.update a (Obj.mapSeq fun _=>#[])).push {cls:=.type "tuple",data:=.seq vs.toArray.toList.toArray}).push {cls:=.type "list",data:=.seq ([]:List Value).toArray}=h6;have k6:∀b o,b≠a->s.heap.get? b=some o->h6.get? b=some o:=fun b o nb e=>by
  rw[<-e6];exact UW _ (UW _ ((WC _ _ (WD nb)).trans e))
 have Rx:h6.get? a=some (seqObj "list" #[] e1):=by
  rw[<-e6];exact UW _ (UW _ h1)
 dsimp only;have fin:∀(p:Array Nat),POk vs.length p->bx key p vs.length->∀out:Array Value,out=List.toArray (p.toList.map fun i=>vs.getD i .none)->
   P (.done (.ret .none)) {s with heap:=h6.update a (Obj.mapSeq fun _=>out)}:=fun p hp hs out eo=>by
  subst eo;exact h p _ hp hs ⟨_,get?_update_seq Rx _⟩ fun b o nb e=>(WC _ _ (WD nb)).trans (k6 b o nb e)
 have fits:∀{out:Array Value}{p:Array Nat},POk vs.length p->out=List.toArray (p.toList.map fun i=>vs.getD i .none)->out.size<=sizeLine+1:=fun{out p} hp e=>by
  rw[e,UT,U8,hp.perm.length_eq,Vi,Wd];lia
 by_cases h2:vs.toArray.size<2
 ·rw[U2 h2,U2 h2];refine UR (Va ?_);rw[StateT.run_pure];refine UR (Va ?_);dsimp only;have eo:(arrOf (SortSt.mk' general' (vs.toArray.zip vs.toArray) #[] 7 none)).map (·.2)=List.toArray ((List.toArray (List.range vs.length)).toList.map fun i=>vs.getD i .none):=by
   show(vs.toArray.zip vs.toArray).map (·.2)=_;apply Array.toList_inj.mp;simp only[Array.toList_map,Array.toList_zip,Yo];have a1:(vs.zip vs).map (·.2)=vs:=by
    rw[List.map_snd_zip];exact UZ _
   rw[a1];apply YL;intro i;by_cases hi:i<vs.length
   ·simp[hi]
   ·simp[hi]
  refine UR (seqEpoch_at Rx rfl (UR (listUpdate_at Rx rfl ?_ (VH _) (fits (qr _) eo))));simp only[YK,Xp,YT];refine Va (fin _ (qr _) ?_ _ eo);intro i j x y;have:i=j:=by lia
  rw[this];exact WX _
 ·rw[U9 h2,U9 h2];have T9:2<=vs.length:=by lia
  refine UR (L0 T9 h6 k6 _ ?_);refine UR (Xz (kat_run (ks:=vs) (vs:=vs) (Q:=fun LV s'=>∃p,POk vs.length p/\bx key p vs.length/\arrOf LV=p.map (kas_item (vs.toArray.zip vs.toArray))/\failedOf LV=none/\s'={s with heap:=h6})
   (G:=fun p s'=>POk vs.length p/\bx key p vs.length/\s'={s with heap:=h6}) rfl T9 PF (fun p LV s' hz Q0 hf hg=>⟨p,hg.1,hg.2.1,Q0,hf,hg.2.2⟩)
   (Ac (n:=vs.length) (O:=O) (κ:=key) (Good:=fun s'=>s'={s with heap:=h6}) (fun i j hi hj Q s' g k=>?_) (by lia) rfl fun p s' hp g hs=>⟨hp,hs,g⟩)) (fun r s' hq=>?_) fun _ _ e=>e)
  ·subst g;exact PH i j hi hj h6 k6 Q (k _ rfl)
  ·obtain⟨p,hp,hs,Q0,hf,rfl⟩:=hq;have eo:=kat_snds (ks:=vs) (vs:=vs) rfl Q0;refine UR (seqEpoch_at Rx rfl (UR (listUpdate_at Rx rfl ?_ (VH _) (fits hp eo))));rw[hf];simp only[YK,Xp,YT];exact Va (fin p hp hs _ eo)
theorem i7{O:KeyOrd}{key:Nat->O.α}{l:Addr}{Q:Value->Shared->Prop}(hl:s.heap.IsList l vs.toArray)(PF:vs.length<64)
  (L0:2<=vs.length->∀(A':Around) (E':Value->Shared->Prop) (h':Heap),(∀b o,s.heap.get? b=some o->h'.get? b=some o)->∀Q:SortKind->Shared->Prop,Q kd {s with heap:=h'}->wpAny (model prog w) A' (keyKind' vs.toArray) Q E' {s with heap:=h'})
  (PH:∀i j,i<vs.length->j<vs.length->∀(h':Heap),(∀b o,s.heap.get? b=some o->h'.get? b=some o)->∀C:Bool->Shared->Prop,C (O.blt (key i) (key j)) {s with heap:=h'}->kas_ask prog w A.in1.in1 kd vs i j C {s with heap:=h'})
  (h:∀p h' e,POk vs.length p->bx key p vs.length->h'.get? (s.heap.objs.size+1)=some (seqObj "list" (List.toArray (p.toList.map fun i=>vs.getD i .none)) e)->(∀b o,s.heap.get? b=some o->h'.get? b=some o)->Q (.ref (s.heap.objs.size+1)) {s with heap:=h'}):
  wpAny (model prog w) A (call (.builtin "sorted") [.ref l]) Q E s:=by
 refine YD kind_sorted plain_sorted entry_sorted (args_sorted1 _) ?_;unfold Builtin.«sorted»;refine UR (m:=checkCount "sorted" 1 1 _) (Va (UR (collect_list hl (UR (wpAny_newList ?_ (by rw[Wd];lia))) (by rw[Wd];lia))));have zz:((s.heap.push (seqObj "list" #[] 0)).update s.heap.objs.size (Obj.mapSeq (·++vs.toArray))).objs.size=s.heap.objs.size+1:=by rw[Heap.size_update,size_push']
 generalize e5:(s.heap.push (seqObj "list" #[] 0)).update s.heap.objs.size (Obj.mapSeq (·++vs.toArray))=h5 at zz ⊢;have k5:∀b o,s.heap.get? b=some o->(h5.push (seqObj "list" vs.toArray 0)).get? b=some o:=fun b o e=>by
  rw[<-e5];exact UW _ ((WC _ _ (WD (Vf (U5 e)))).trans (UW _ e))
 have hL:(h5.push (seqObj "list" vs.toArray 0)).get? (s.heap.objs.size+1)=some (seqObj "list" vs.toArray 0):=by
  rw[<-zz];exact Vh _ rfl
 have ne:∀b o,s.heap.get? b=some o->b≠s.heap.objs.size+1:=fun b o e=>Vf (Xf (U5 e))
 show wpAny _ _ _ _ _ {s with heap:=h5.push (seqObj "list" vs.toArray 0)};rw[zz];refine UR (XX (W3 slot_list_sort ⟨_,hL,rfl⟩ entry_list_sort (lZ (key:=key) (kd:=kd) hL PF (fun h2 h' kk Q' q=>L0 h2 _ _ h' (fun b o e=>kk b o (ne b o e) (k5 b o e)) Q' q)
  (fun i j hi hj h' kk C q=>PH i j hi hj h' (fun b o e=>kk b o (ne b o e) (k5 b o e)) C q) fun p h' hp hs ⟨e,he⟩ kk=>⟨_,rfl,?_⟩) (args_list_sort _)))
 exact Va ⟨_,rfl,h p h' e hp hs he fun b o q=>kk b o (ne b o q) (k5 b o q)⟩
end
def intO:KeyOrd where
 α:=Int
 blt a b:=decide (a<b)
 irrefl a:=by simp
 trans a b c h1 h2:=by simp only[Vl] at *;lia
 negTrans a b c h:=by simp only[Vl] at *;lia
 total a b h1 h2:=by simp only[VJ] at *;lia
abbrev Gk:KeyOrd:=strKind.toKeyOrd
noncomputable def tq:KeyOrd where
 α:=Key
 blt a b:=match a,b with
  | .inl i,.inl j=>decide (i<j)
  | .inr x,.inr y=>decide (x.cps.toList<y.cps.toList)
  | .inl _,.inr _=>true
  | .inr _,.inl _=>false
 irrefl a:=by
  cases a with
  |inl i=>simp
  |inr x=>simpa using List.lt_irrefl x.cps.toList
 trans a b c h1 h2:=by
  cases a <;> cases b <;> cases c <;> simp_all
  ·lia
  ·exact List.lt_trans h1 h2
 negTrans a b c h:=by
  cases a <;> cases b <;> cases c <;> simp_all
  ·lia
  ·rename_i x y z;by_cases q:x.cps.toList<y.cps.toList
   ·exact .inl q
   ·exact .inr (List.lt_of_le_of_lt (YW.mp q) h)
 total a b h1 h2:=by
  cases a <;> cases b <;> simp_all
  ·lia
  ·rename_i x y;have e:x.cps.toList=y.cps.toList:=List.le_antisymm (by first|exact h2|exact YW.mp h2) (by first|exact h1|exact YW.mp h1);rw[<-pF x,<-pF y,e]
def jr:List Key->List Key->Bool
 |[],[]=>false
 |[],_::_=>true
 |_::_,[]=>false
 |a::r,b::t=>if a=b then jr r t else tq.blt a b
theorem hZ:∀a:List Key,jr a a=false
 |[]=>rfl
 |a::r=>by
  show(if a=a then jr r r else _)=false;rw[U2 rfl];exact hZ r
theorem Ad{a b:Key}(h:tq.blt a b=true):a≠b:=by
 rintro rfl;have:=tq.irrefl a;rw[h]at this;cases this
theorem gL:∀a b c:List Key,jr a b=true->jr b c=true->jr a c=true
 |[],[],_,h,_=>by cases h
 |[],_::_,[],_,h=>by cases h
 |[],_::_,_::_,_,_=>rfl
 |_::_,[],_,h,_=>by cases h
 |_::_,_::_,[],_,h=>by cases h
 |a::r,b::t,c::u,h1,h2=>by
  have h1:(if a=b then jr r t else tq.blt a b)=true:=h1;have h2:(if b=c then jr t u else tq.blt b c)=true:=h2;show(if a=c then jr r u else tq.blt a c)=true;by_cases e1:a=b
  ·by_cases e2:b=c
   ·rw[U2 e1]at h1;rw[U2 e2]at h2;rw[U2 (e1.trans e2)];exact gL r t u h1 h2
   ·rw[U9 e2]at h2;rw[e1,U9 e2];exact h2
  ·rw[U9 e1]at h1;by_cases e2:b=c
   ·rw[<-e2,U9 e1];exact h1
   ·rw[U9 e2]at h2;have h3:=tq.trans a b c h1 h2;rw[U9 (Ad h3)];exact h3
theorem gM:∀a b:List Key,jr a b=false->jr b a=false->a=b
 |[],[],_,_=>rfl
 |[],_::_,h,_=>by cases h
 |_::_,[],_,h=>by cases h
 |a::r,b::t,h1,h2=>by
  have h1:(if a=b then jr r t else tq.blt a b)=false:=h1;have h2:(if b=a then jr t r else tq.blt b a)=false:=h2;by_cases e:a=b
  ·rw[U2 e]at h1;rw[U2 e.symm]at h2;rw[e,gM r t h1 h2]
  ·rw[U9 e]at h1;rw[U9 (WD e)]at h2;exact absurd (tq.total a b h1 h2) e
theorem xv(a b c:List Key)(h:jr a c=true):jr a b=true\/jr b c=true:=by
 cases e:jr a b with
 |true=>exact .inl rfl
 |false=>
  refine .inr ?_;cases e2:jr b a with
  |true=>exact gL b a c e2 h
  |false=>
   rw[<-gM a b e e2];exact h
def Gm:KeyOrd where
 α:=List Key
 blt:=jr
 irrefl:=hZ
 trans:=gL
 negTrans:=xv
 total:=gM
variable{α:Type}{p:Array Nat}{xs:List V}{us:List Value}
section
variable{O:KeyOrd}
def wY(p:Array Nat)(xs:List V):List V:=p.toList.map fun i=>xs.getD i .non
theorem kR(xs:List α)(d:α):((List.range xs.length).map fun i=>xs.getD i d)=xs:=by
 apply YL;intro i;by_cases hi:i<xs.length
 ·simp[hi]
 ·simp[hi]
theorem l5{xs:List α}(d:α)(hp:POk xs.length p):(p.toList.map fun i=>xs.getD i d).Perm xs:=by
 have:=hp.perm.map (fun i=>xs.getD i d)
 rwa [kR]at this
theorem i8{xs:List α}(d:α)(key:α->O.α)(hp:POk xs.length p)(hs:bx (O:=O) (fun i=>key (xs.getD i d)) p xs.length):(p.toList.map fun i=>xs.getD i d).Pairwise fun a b=>O.kle (key a) (key b):=by
 rw[YE];intro i j hi hj Ms;have hsz:=hp.size;have PD:i<p.size:=by simpa using hi
 have Q1:j<p.size:=by simpa using hj
 have h:=hs i j (W7 Ms) (by lia);unfold kk at h;simp only[Xk,Array.getElem_toList];have e1:p.getD i 0=p[i]:=by simp[Array.getD,PD]
 have e2:p.getD j 0=p[j]:=by simp[Array.getD,Q1]
 rw[e1,e2]at h;exact h
theorem vals_pick{xs:List V}{us:List Value}(r:Vals xs us):∀l:List Nat,(∀i∈l,i<xs.length)->Vals (l.map fun i=>xs.getD i .non) (l.map fun i=>us.getD i .none)
 |[],_=>.nil
 |i::l,h=>by
  refine .cons ?_ (vals_pick r l fun j hj=>h j (U3 _ hj));have hi:=h i UY;have e1:xs[i]?=some (xs.getD i .non):=by rw[cp _ _ _ hi];exact US hi
  obtain⟨u,hu,ru⟩:=r.get e1;have e2:us.getD i .none=u:=by rw[UQ,hu];rfl
  show L2.RelV (xs.getD i .non) (us.getD i .none);rw[e2];exact ru
theorem l6(r:Vals xs us)(hp:POk xs.length p):Vals (wY p xs) (p.toList.map fun i=>us.getD i .none):=
 vals_pick r _ fun i hi=>V8.mp (hp.perm.mem_iff.mp hi)
end
variable{X:Cx}{pr:List (Addr×Obj)}{σ:L2.St}{H:Hp}{h':Heap}{i:Nat}
section
theorem jW{ys:List V}{e:Nat}{D:Addr}(I:Inv X pr σ H s)(kk:∀b o,s.heap.get? b=some o->h'.get? b=some o)(hD:s.heap.objs.size<=D)
  (ho:h'.get? D=some (seqObj "list" (List.toArray us) e)) (r:Vals ys us) (hz:ys.length<=sizeLine):Inv X pr σ (upd H D (.lst ys)) {s with heap:=h'}:=
 I.laid (t':=s.toks) kk hD ⟨hz,us,e,r,ho⟩
theorem jC(hc:X.calm=true):eA X (.builtin "sorted") (fun vs H Q=>∃(p:Addr) (ns:List Int),vs=[.ref p]/\SqL X.K H p (ns.map V.int)/\ns.length<64/\∀(D:Addr) (ms:List Int),H D=none->ms.Perm ns->ms.Pairwise (·<=·)->Q (.ref D) (upd H D (.lst (ms.map V.int)))):=by
 intro pr s σ H vs us Q I r h;obtain⟨p,ns,rfl,hp,PF,q⟩:=h;obtain⟨u,rfl,r1⟩:=jB r;cases r1;obtain⟨ws,rv,pl,hz⟩:=I.list hp;have hl:=rv.length;rw[U8]at hl;have isI:∀v∈ws,∃n t,v=.int n t:=fun v hv=>by
  obtain⟨i,hi⟩:=W9.mp hv;obtain⟨t,e⟩:=lT rv hi;exact⟨_,t,e⟩
 refine i7 (O:=intO) (key:=fun i=>ns.getD i 0) (kd:=oneType') pl.isList (by lia) (fun h2 A' E' h' kk Q' q'=>?_) (fun i j hi hj h' kk C q'=>?_) fun pp h' e Ly hs he kk=>?_
 ·refine kas_kind h2 (T:=.type "int") (fun v hv=>?_) (by decide) (by decide) q';obtain⟨n,t,rfl⟩:=isI v hv;exact fun A Q E s _ q=>Xt (Yi s n t) q
 ·unfold kas_ask;have e1:ws[i]?=some (ws.getD i .none):=by rw[cp _ _ _ hi];exact US hi
  have e2:ws[j]?=some (ws.getD j .none):=by rw[cp _ _ _ hj];exact US hj
  obtain⟨t,S6⟩:=lT rv e1;obtain⟨t',S7⟩:=lT rv e2;rw[S6,S7];exact kat_lt_int q'
 ·rw[<-hl]at Ly hs;have Ry:POk (ns.map V.int).length pp:=by rw[U8];exact Ly
  have eo:wY pp (ns.map V.int)=(pp.toList.map fun i=>ns.getD i 0).map V.int:=by
   unfold wY;rw[Vm];refine VY fun i hi=>?_
   have hi:=V8.mp (Ly.perm.mem_iff.mp hi);show(ns.map V.int).getD i .non=V.int (ns.getD i 0);rw[cp _ _ _ (by rw[U8];exact hi),cp _ _ _ hi];simp
  have hn:H (s.heap.objs.size+1)=none:=I.hok.fresh (WJ _);refine⟨.ref (s.heap.objs.size+1),_,jW I kk (WJ _) he (l6 rv Ry) ?_,rfl,?_⟩
  ·show(wY pp (ns.map V.int)).length<=sizeLine;rw[eo,U8,U8,Ly.perm.length_eq,Vi,Wd];lia
  ·rw[eo];refine q _ _ hn (l5 0 Ly) ?_;have:=i8 (O:=intO) 0 (fun i:Int=>i) Ly hs;refine this.imp fun{a b} KI=>?_
   have KI:decide (b<a)=false:=KI;have:=Z8 KI;lia
theorem pI{ls:List (List Nat)}(r:Vals (ls.map fun l=>V.str (S l)) us){v:Value}(h:us[i]?=some v):∃t,v=.str (S (ls.getD i [])) t:=by
 have hl:=r.length;rw[U8]at hl;obtain⟨hi,_⟩:=U1.mp h;have e1:(ls.map fun l=>V.str (S l))[i]?=some (.str (S (ls.getD i []))):=by
  rw[Vg,US (by lia),cp _ _ _ (by lia)];rfl
 obtain⟨u,hu,t,rfl⟩:=r.get e1;rw[h]at hu;exact⟨t,Vy hu⟩
theorem jD(hc:X.calm=true):eA X (.builtin "sorted") (fun vs H Q=>∃(p:Addr) (ls:List (List Nat)),vs=[.ref p]/\SqL X.K H p (ls.map fun l=>V.str (S l))/\ls.length<64/\∀(D:Addr) (ms:List (List Nat)),H D=none->ms.Perm ls->ms.Pairwise (fun a b=>¬ b<a)->Q (.ref D) (upd H D (.lst (ms.map fun l=>V.str (S l))))):=by
 intro pr s σ H vs us Q I r h;obtain⟨p,ls,rfl,hp,PF,q⟩:=h;obtain⟨u,rfl,r1⟩:=jB r;cases r1;obtain⟨ws,rv,pl,hz⟩:=I.list hp;have hl:=rv.length;rw[U8]at hl;refine i7 (O:=Gk) (key:=fun i=>ls.getD i []) (kd:=oneType') pl.isList (by lia) (fun h2 A' E' h' kk Q' q'=>?_) (fun i j hi hj h' kk C q'=>?_) fun pp h' e Ly hs he kk=>?_
 ·refine kas_kind h2 (T:=.type "str") (fun v hv=>?_) (by decide) (by decide) q';obtain⟨i,hi⟩:=W9.mp hv;obtain⟨t,rfl⟩:=pI rv hi;exact fun A Q E s _ q=>Xt (Zy s _ t) q
 ·unfold kas_ask;have e1:ws[i]?=some (ws.getD i .none):=by rw[cp _ _ _ hi];exact US hi
  have e2:ws[j]?=some (ws.getD j .none):=by rw[cp _ _ _ hj];exact US hj
  obtain⟨t,S6⟩:=pI rv e1;obtain⟨t',S7⟩:=pI rv e2;rw[S6,S7];refine kas_lt_str ?_;rw[gm,gm];exact q'
 ·rw[<-hl]at Ly hs;have Ry:POk (ls.map fun l=>V.str (S l)).length pp:=by rw[U8];exact Ly
  have eo:wY pp (ls.map fun l=>V.str (S l))=(pp.toList.map fun i=>ls.getD i []).map fun l=>V.str (S l):=by
   unfold wY;rw[Vm];refine VY fun i hi=>?_
   have hi:=V8.mp (Ly.perm.mem_iff.mp hi);show(ls.map fun l=>V.str (S l)).getD i .non=V.str (S (ls.getD i []));rw[cp _ _ _ (by rw[U8];exact hi),cp _ _ _ hi];simp
  have hn:H (s.heap.objs.size+1)=none:=I.hok.fresh (WJ _);refine⟨.ref (s.heap.objs.size+1),_,jW I kk (WJ _) he (l6 rv Ry) ?_,rfl,?_⟩
  ·show(wY pp (ls.map fun l=>V.str (S l))).length<=sizeLine;rw[eo,U8,U8,Ly.perm.length_eq,Vi,Wd];lia
  ·rw[eo];refine q _ _ hn (l5 [] Ly) ?_;have:=i8 (O:=Gk) [] (fun l:List Nat=>l) Ly hs;refine this.imp fun{a b} KI=>?_
   have KI:decide (b<a)=false:=KI;exact Z8 KI
end
def kinds(k:List Key):List Bool:=k.map fun x=>x.isLeft
section
theorem Ae(a b:Key):Sq (kV a) (kV b)=decide (a=b):=by
 cases a <;> cases b <;> (rw[VQ];simp[kV,Sq])
theorem qu(a:Key):so (kV a)=true:=by cases a <;> rfl
theorem CG{a b:Key}{u v:Value}{top:Bool}{Q:Bool->Shared->Prop}(ra:L2.RelV (kV a) u)(rb:L2.RelV (kV b) v)(hk:a.isLeft=b.isLeft)(q:Q (tq.blt a b) s):wpAny (model prog w) A (oneLt' top u v) Q (fun _ _=>False) s:=by
 cases a with
 |inl i=>
  cases b with
  |inr _=>cases hk
  |inl j=>
   obtain⟨t,rfl⟩:=ra;obtain⟨t',rfl⟩:=rb;cases top with
   |true=>exact kat_lt_int (E:=fun _ _=>False) q
   |false=>exact kat_one _ _ (lt_int q)
 |inr x=>
  cases b with
  |inl _=>cases hk
  |inr y=>
   obtain⟨t,rfl⟩:=ra;obtain⟨t',rfl⟩:=rb;cases top with
   |true=>exact oneLt_str q
   |false=>exact kat_one _ _ (lt_str q)
theorem nZ{Q:Bool->Shared->Prop}:∀(k1 k2:List Key) (us ws:List Value) (i:Nat),Vals (k1.map kV) us->Vals (k2.map kV) ws->kinds k1=kinds k2->Q (jr k1 k2) s->KatLex prog w A true false Q (us.zip ws) i s
 |[],[],_,_,_,.nil,.nil,_,q=>q
 |[],_::_,_,_,_,_,_,h,_=>by cases h
 |_::_,[],_,_,_,_,_,h,_=>by cases h
 |a::r,b::t,u::us,v::ws,i,.cons ru rus,.cons rv rvs,h,q=>by
  have h1:a.isLeft=b.isLeft:=(Z9 h).1;have h2:kinds r=kinds t:=(Z9 h).2;have q:Q (if a=b then jr r t else tq.blt a b) s:=q;refine kat_cons (yD (A:=A) (s:=s) ru rv (qu a) (qu b) prog w _ _ ?_);rw[Ae];by_cases e:a=b
  ·rw[U2 e]at q;rw[VL e];exact kat_yes (nZ r t us ws (i+1) rus rvs h2 q)
  ·rw[U9 e]at q;rw[VG e];exact kat_no (CG ru rv h1 q)
end
variable{al:List (Addr×List Key)}
section
theorem uv(I:Inv X pr σ H s)(h:SqT X.K H a xs):∃(us:List Value) (o:Obj) (n:Nat),Vals xs us/\s.heap.get? a=some o/\o.cls=.type "tuple"/\o.data=.seq us.toArray n:=by
 obtain⟨us,r,pl,_⟩:=I.tuple h;obtain⟨o,ho,oc,n,od⟩:=pl;exact⟨us,o,n,r,ho,oc,od⟩
theorem uw(r:Vals (al.map fun a=>V.ref a.1) us)(h:i<al.length):us.getD i .none=.ref (al.getD i (0,[])).1:=by
 have e1:(al.map fun a=>V.ref a.1)[i]?=some (.ref (al.getD i (0,[])).1):=by
  rw[Vg,US h,cp _ _ _ h];rfl
 obtain⟨u,hu,ru⟩:=r.get e1;rw[UQ,hu];exact ru
theorem xw(I:Inv X pr σ H s)(kk:∀b o,s.heap.get? b=some o->h'.get? b=some o)(top:Bool):
  (r:Vals (al.map fun a=>V.ref a.1) us)->(∀a∈al,SqT X.K H a.1 (a.2.map kV)/\∃t,kinds a.2=top::t)->∃fs:List Value,KatTups h' us fs/\fs.length=al.length/\∀v∈fs,∀M:Model,Looks M h' (typeOf v) (.type (if top then "int" else "str")):=by
 induction al generalizing us with
 |nil=>
  intro r _;cases r;exact⟨[],trivial,rfl,fun v hv=>by cases hv⟩
 |cons a al ih=>
  intro r h;cases r with
  |cons ra rs=>
   cases ra;obtain⟨fs,t1,t2,t3⟩:=ih rs fun b hb=>h b (U3 _ hb)
   obtain⟨ha,kt,hk⟩:=h a UY;obtain⟨ws,o,n,rv,ho,oc,od⟩:=uv I ha;cases e2:a.2 with
   |nil=>rw[e2]at hk;cases hk
   |cons k ks=>
    rw[e2]at rv hk;have Ua:k.isLeft=top:=(Z9 hk).1;cases rv with
    | @cons _ f _ fr rf rfs=>
     refine⟨f::fs,KatTups.cons (kk _ _ ho) oc od (by simp) t1,by simp[t2],fun v hv M=>?_⟩;rcases U6.mp hv with rfl|hv
     ·cases k with
      |inl i=>
       obtain⟨t,rfl⟩:=rf;have:top=true:=Ua.symm;subst this;exact fun A Q E s _ q=>Xt (Yi s _ t) q
      |inr x=>
       obtain⟨t,rfl⟩:=rf;have:top=false:=Ua.symm;subst this;exact fun A Q E s _ q=>Xt (Zy s _ t) q
     ·exact t3 v hv M
end
section
theorem jE(hc:X.calm=true):eA X (.builtin "sorted") (fun vs H Q=>∃(p:Addr) (al:List (Addr×List Key)) (top:Bool) (t:List Bool),vs=[.ref p]/\SqL X.K H p (al.map fun a=>V.ref a.1)/\(∀a∈al,SqT X.K H a.1 (a.2.map kV)/\kinds a.2=top::t)/\al.length<64/\
  ∀(D:Addr) (ms:List (Addr×List Key)),H D=none->ms.Perm al->ms.Pairwise (fun a b=>jr b.2 a.2=false)->Q (.ref D) (upd H D (.lst (ms.map fun a=>V.ref a.1)))):=by
 intro pr s σ H vs us Q I r h;obtain⟨p,al,top,kt,rfl,hp,Q2,PF,q⟩:=h;obtain⟨u,rfl,r1⟩:=jB r;cases r1;obtain⟨ws,rv,pl,hz⟩:=I.list hp;have hl:=rv.length;rw[U8]at hl;refine i7 (O:=Gm) (key:=fun i=>(al.getD i (0,[])).2) (kd:=tuples' true) pl.isList (by lia) (fun h2 A' E' h' kk Q' q'=>?_) (fun i j hi hj h' kk C q'=>?_) fun pp h' e Ly hs he kk=>?_
 ·obtain⟨fs,t1,t2,t3⟩:=xw I kk top rv fun a ha=>⟨(Q2 a ha).1,kt,(Q2 a ha).2⟩
  refine kat_kind (T:=.type (if top then "int" else "str")) t1 (by lia) (fun v hv=>t3 v hv _) (by simp) ?_;have:((Value.type (if top then "int" else "str")) != Value.type "tuple")=true:=by cases top <;> decide
  rw[this];exact q'
 ·unfold kas_ask;have PD:i<al.length:=by lia
  have Q1:j<al.length:=by lia
  rw[uw rv PD,uw rv Q1];have mi:al.getD i (0,[])∈al:=by rw[cp _ _ _ PD];exact XI _
  have mj:al.getD j (0,[])∈al:=by rw[cp _ _ _ Q1];exact XI _
  obtain⟨u1,o1,n1,r1,g1,_,d1⟩:=uv I (Q2 _ mi).1;obtain⟨u2,o2,n2,r2,g2,_,d2⟩:=uv I (Q2 _ mj).1;have ek:kinds (al.getD i (0,[])).2=kinds (al.getD j (0,[])).2:=by rw[(Q2 _ mi).2,(Q2 _ mj).2]
  have el:u1.length=u2.length:=by
   have a1:=r1.length;have a2:=r2.length;have a3:=V7 List.length ek;simp only[kinds,U8]at a1 a2 a3;lia
  refine kat_lt (kk _ _ g1) d1 (kk _ _ g2) d2 ?_;have ef:decide (u1.toArray.size<u2.toArray.size)=false:=by simp[el]
  rw[ef];exact nZ _ _ _ _ 0 r1 r2 ek q'
 ·rw[<-hl]at Ly hs;have Ry:POk (al.map fun a=>V.ref a.1).length pp:=by rw[U8];exact Ly
  have eo:wY pp (al.map fun a=>V.ref a.1)=(pp.toList.map fun i=>al.getD i (0,[])).map fun a=>V.ref a.1:=by
   unfold wY;rw[Vm];refine VY fun i hi=>?_
   have hi:=V8.mp (Ly.perm.mem_iff.mp hi);show(al.map fun a=>V.ref a.1).getD i .non=V.ref (al.getD i (0,[])).1;rw[cp _ _ _ (by rw[U8];exact hi),cp _ _ _ hi];simp
  have hn:H (s.heap.objs.size+1)=none:=I.hok.fresh (WJ _);refine⟨.ref (s.heap.objs.size+1),_,jW I kk (WJ _) he (l6 rv Ry) ?_,rfl,?_⟩
  ·show(wY pp (al.map fun a=>V.ref a.1)).length<=sizeLine;rw[eo,U8,U8,Ly.perm.length_eq,Vi,Wd];lia
  ·rw[eo];refine q _ _ hn (l5 (0,[]) Ly) ?_;exact i8 (O:=Gm) (0,[]) (fun a:Addr×List Key=>a.2) Ly hs
end
end NX
namespace L2
open PySem PySem.Spec PyProof.Rows
variable{κ:Type}{o:Option V}{y:V}{u:Value}
section
variable[DecidableEq κ]
def n0(HS:List (κ×V))(k:κ):Option V:=(HS.find? fun kv=>decide (kv.1=k)).map (·.2)
def kS(HS:List (κ×V))(k:κ)(v:V):List (κ×V):=
 if(HS.any fun kv=>decide (kv.1=k))=true then HS.map (fun kv=>if kv.1=k then(kv.1,v) else kv) else HS++[(k,v)]
theorem l7{p:κ×V}{r:List (κ×V)}{k:κ}(e:p.1=k):n0 (p::r) k=some p.2:=by simp[n0,Xv,e]
theorem l8{p:κ×V}{r:List (κ×V)}{k:κ}(e:¬ p.1=k):n0 (p::r) k=n0 r k:=by simp[n0,Xv,e]
theorem qw(k:κ):∀HS:List (κ×V),(HS.any fun kv=>decide (kv.1=k))=(n0 HS k).isSome
 |[]=>rfl
 |p::r=>by
  rw[YX];by_cases e:p.1=k
  ·simp only[l7 e,VL e,Bool.true_or,Option.isSome_some]
  ·rw[l8 e,VG e,Z5];exact qw k r
theorem jX(HS:List (κ×V))(k:κ)(v:V):(kS HS k v).length<=HS.length+1:=by
 unfold kS;split
 ·rw[U8];lia
 ·rw[VN,Vb,V3];lia
theorem RelO.isSome_eq{u:Option Value}(r:RelO o u):o.isSome=u.isSome:=by
 cases o with
 |none=>cases u with
  |none=>rfl
  |some _=>exact(show False from r).elim
 |some _=>cases u with
  |none=>exact(show False from r).elim
  |some _=>rfl
theorem RelO.getD{o:Option V}{u:Option Value}{d:V}{d':Value}(r:RelO o u)(rd:RelV d d'):RelV (o.getD d) (u.getD d'):=by
 cases o with
 |none=>cases u with
  |none=>exact rd
  |some _=>exact(show False from r).elim
 |some _=>cases u with
  |none=>exact(show False from r).elim
  |some _=>exact r
theorem KV.val{HS:List (κ×V)}{vs:List (κ×Value)}(r:KV HS vs)(k:κ):RelO (n0 HS k) (valueAt vs k):=by
 unfold KV at r;induction r with
 |nil=>exact True.intro
 | @cons p q ps qs h t ih=>
  obtain⟨h1,h2⟩:=h;by_cases e:p.1=k
  ·have e':q.1=k:=h1.symm.trans e;have b:valueAt (q::qs) k=some q.2:=by simp[valueAt,Xv,e']
   rw[l7 e,b];exact h2
  ·have e':¬ q.1=k:=fun z=>e (h1.trans z)
   have b:valueAt (q::qs) k=valueAt qs k:=by simp[valueAt,Xv,e']
   rw[l8 e,b];exact ih
theorem KV.any{HS:List (κ×V)}{vs:List (κ×Value)}(r:KV HS vs)(k:κ):(HS.any fun kv=>decide (kv.1=k))=vs.any fun kv=>decide (kv.1=k):=by
 unfold KV at r;induction r with
 |nil=>rfl
 |cons h t ih=>rw[YX,YX,ih,h.1]
theorem KV.repl{HS:List (κ×V)}{vs:List (κ×Value)}(r:KV HS vs)(k:κ)(ry:RelV y u):
  KV (HS.map fun kv=>if kv.1=k then(kv.1,y) else kv) (vs.map fun kv=>if kv.1=k then(kv.1,u) else kv):=by
 unfold KV at r ⊢;induction r with
 |nil=>exact .nil
 | @cons p q ps qs h t ih=>
  rw[Vo,Vo];refine .cons ?_ ih;obtain⟨h1,h2⟩:=h;by_cases e:p.1=k
  ·rw[U2 e,U2 (h1.symm.trans e)];exact⟨h1,ry⟩
  ·rw[U9 e,U9 (fun z=>e (h1.trans z))];exact⟨h1,h2⟩
theorem KV.put{HS:List (κ×V)}{vs:List (κ×Value)}(r:KV HS vs)(k:κ)(ry:RelV y u):KV (kS HS k y) (stored vs k u):=by
 unfold kS stored;rw[r.any k];by_cases e:(vs.any fun kv=>decide (kv.1=k))=true
 ·rw[U2 e,U2 e];exact r.repl k ry
 ·rw[U9 e,U9 e];exact Paired.snoc r ⟨rfl,ry⟩
theorem KV.length{HS:List (κ×V)}{vs:List (κ×Value)}(r:KV HS vs):HS.length=vs.length:=Yd r
end
variable{P:Program}{w:World}
theorem kV_is{k:Key}(r:RelV (kV k) u):(mixKind P w).is k u=true:=by
 cases k with
 |inl i=>obtain⟨t,e⟩:=(show ∃t,u=Value.int i t from r);subst e;exact pB P w i t
 |inr x=>obtain⟨t,e⟩:=(show ∃t,u=Value.str x t from r);subst e;exact pC P w x t
theorem og{P:Program}{w:World}:∀{ks:List Key}{us:List Value},Vals (ks.map kV) us->ItemsAre (mixKind P w) ks us
 |[],_,r=>by rw[V6]at r;cases r;exact .nil
 |k::ks,_,r=>by
  rw[Vo]at r;cases r with
  |cons h t=>exact .cons (kV_is h) (og t)
abbrev KT(H:Hp):List (List Key×V)->List (List Key×Addr×Value)->Prop:=Paired fun p q=>p.1=q.1/\H q.2.1=some (.tup (p.1.map kV))/\RelV p.2 q.2.2
variable{H:Hp}{HS:List (List Key×V)}{xs:List (List Key×Addr×Value)}
theorem KT.val(r:KT H HS xs)(k:List Key):RelO (n0 HS k) ((atKey xs k).map (·.2)):=by
 induction r with
 |nil=>exact True.intro
 | @cons p q ps qs h t ih=>
  obtain⟨h1,_,h2⟩:=h;by_cases e:p.1=k
  ·have e':q.1=k:=h1.symm.trans e;have b:atKey (q::qs) k=some q.2:=by simp[atKey,Xv,e']
   rw[l7 e,b];exact h2
  ·have e':¬ q.1=k:=fun z=>e (h1.trans z)
   have b:atKey (q::qs) k=atKey qs k:=by simp[atKey,Xv,e']
   rw[l8 e,b];exact ih
theorem KT.repl(r:KT H HS xs)(k:List Key)(ry:RelV y u):
  KT H (HS.map fun kv=>if kv.1=k then(kv.1,y) else kv) (xs.map (putAt k u)):=by
 induction r with
 |nil=>exact .nil
 | @cons p q ps qs h t ih=>
  rw[Vo,Vo];refine .cons ?_ ih;obtain⟨h1,h2,h3⟩:=h;unfold putAt;by_cases e:p.1=k
  ·rw[U2 e,U2 (h1.symm.trans e)];exact⟨h1,h2,ry⟩
  ·rw[U9 e,U9 (fun z=>e (h1.trans z))];exact⟨h1,h2,h3⟩
variable{b:Addr}
theorem KT.put(r:KT H HS xs)(k:List Key)(hb:H b=some (.tup (k.map kV)))(ry:RelV y u):
  KT H (kS HS k y) (storedH xs k b u):=by
 have e:(HS.any fun kv=>decide (kv.1=k))=(atKey xs k).isSome:=by
  rw[qw,(r.val k).isSome_eq,YM]
 unfold kS storedH;rw[e];by_cases q:(atKey xs k).isSome=true
 ·rw[U2 q,U2 q];exact r.repl k ry
 ·rw[U9 q,U9 q];exact Paired.snoc r ⟨rfl,hb,ry⟩
variable{H':Hp}
theorem KT.keeps(r:KT H HS xs)(ht:∀b ys,H b=some (.tup ys)->H' b=some (.tup ys)):KT H' HS xs:=
 Paired.mapP r fun _ _ z=>⟨z.1,ht _ _ z.2.1,z.2.2⟩
variable{a:Addr}
section
variable{h:Heap}
theorem CH{u:HO}(ok:HOk P w H h)(e:Rd H a u):ObjOk P w H h a u:=e.ok ok
theorem ux{HS:List (Key×V)}(ok:HOk P w H h)(e:Rd H a (.dK HS)):HS.length<=sizeLine/\(a==sysModules)=false/\∃vs,KV HS vs/\h.DictOf (mixKind P w) a vs:=
 show ObjOk P w H h a (.dK HS) from CH ok e
theorem Fi{HS:List (Key×V)}(ok:HOk P w H h)(e:H a=some (.dK HS)):HS.length<=sizeLine/\(a==sysModules)=false/\∃vs,KV HS vs/\h.DictOf (mixKind P w) a vs:=ux ok (.inl e)
theorem oh{ks:List Key}(ok:HOk P w H h)(e:H a=some (.tup (ks.map kV))):(tupleKind (mixKind P w)).is h ks a:=by
 obtain⟨_,HX,r,o,h1,h2,⟨n,h3⟩,_⟩:=(show ObjOk P w H h a (.tup (ks.map kV)) from ok a _ e)
 exact⟨o,HX.toArray,n,h1,h2,h3,by simpa using og r⟩
theorem uy(ok:HOk P w H h)(e:Rd H a (.dT HS)):HS.length<=sizeLine/\(a==sysModules)=false/\
  ∃xs,KT H HS xs/\h.DictOfH (tupleKind (mixKind P w)) a xs:=by
 obtain⟨z,y,xs,r,o,es,ep,h1,h2,h3,h4,h5⟩:=(show ObjOk P w H h a (.dT HS) from CH ok e)
 refine⟨z,y,xs,r,o,es,ep,h1,h2,h3,h4,fun x hx=>?_,h5⟩;have all:∀{l:List (List Key×V)}{m:List (List Key×Addr×Value)},KT H l m->∀x∈m,(tupleKind (mixKind P w)).is h x.1 x.2.1:=by
  intro l m q;induction q with
  |nil=>intro x hx;exact nomatch hx
  | @cons p q ps qs hq t ih=>
   intro x hx;rcases U6.mp hx with e|hx
   ·subst e;exact oh ok (by rw[<-hq.1];exact hq.2.1)
   ·exact ih x hx
 exact all r x hx
theorem Fj(ok:HOk P w H h)(e:H a=some (.dT HS)):HS.length<=sizeLine/\(a==sysModules)=false/\
  ∃xs,KT H HS xs/\h.DictOfH (tupleKind (mixKind P w)) a xs:=uy ok (.inl e)
end
def DGet(H:Hp)(a:Addr)(y:V)(r:Option V):Prop:=
 (∃HS k,Rd H a (.dK HS)/\y=kV k/\r=n0 HS k)\/∃HS k b,Rd H a (.dT HS)/\y=.ref b/\H b=some (.tup (k.map kV))/\r=n0 HS k
def DPut(H:Hp)(a:Addr)(y v:V)(H':Hp):Prop:=
 (∃HS k,H a=some (.dK HS)/\y=kV k/\HS.length<sizeLine/\H'=upd H a (.dK (kS HS k v)))\/
 ∃HS k b,H a=some (.dT HS)/\y=.ref b/\H b=some (.tup (k.map kV))/\HS.length<sizeLine/\H'=upd H a (.dT (kS HS k v))
theorem DGet.k{H:Hp}{a:Addr}{HS:List (Key×V)}{k:Key}(e:H a=some (.dK HS)):DGet H a (kV k) (n0 HS k):=.inl ⟨HS,k,.inl e,rfl,rfl⟩
theorem DGet.t{k:List Key}(e:H a=some (.dT HS))(eb:H b=some (.tup (k.map kV))):DGet H a (.ref b) (n0 HS k):=.inr ⟨HS,k,b,.inl e,rfl,eb,rfl⟩
theorem DPut.k{H:Hp}{a:Addr}{HS:List (Key×V)}{k:Key}{v:V}(e:H a=some (.dK HS))(hl:HS.length<sizeLine):DPut H a (kV k) v (upd H a (.dK (kS HS k v))):=.inl ⟨HS,k,e,rfl,hl,rfl⟩
theorem DPut.t{k:List Key}{v:V}(e:H a=some (.dT HS))(eb:H b=some (.tup (k.map kV)))(hl:HS.length<sizeLine):
  DPut H a (.ref b) v (upd H a (.dT (kS HS k v))):=.inr ⟨HS,k,b,e,rfl,eb,hl,rfl⟩
variable{X:Cx}{pr:List (Addr×Obj)}{σ:St}{s:Shared}{A:Around}{E Q:Value->Shared->Prop}{h':Heap}
section
variable{v:V}{r:Value}
theorem Inv.big(I:Inv X pr σ H s):sysModules<s.heap.objs.size:=by
 have h:mainGlobals<s.heap.objs.size:=(I.mod.glob.keeps I.bk).lt;exact Nat.lt_trans (by decide) h
theorem uz(hu:A.units+1<cLine)(I:Inv X pr σ H s)(g:DGet H a y (some v))(ry:RelV y u)(h:∀w' s',Inv X pr σ H s'->RelV v w'->Q w' s'):
  wpAny (model X.prog X.w) A (getItem (.ref a) u) Q E s:=by
 rcases g with⟨HS,k,e,ey,l⟩|⟨HS,k,b,e,ey,eb,l⟩
 ·subst ey;obtain⟨z,hd,vs,rel,dd⟩:=ux I.hok e;obtain⟨w',hw,Mp⟩:=RelO.some_of (v:=v) (o:=valueAt vs k) (by rw[l];exact rel.val k);exact wpAny_getItem_of (kV_is ry) dd.mapOf hw (h w' _ (I.tok _) Mp)
 ·subst ey;cases(show u=Value.ref b from ry);obtain⟨z,hd,xs,rel,dd⟩:=uy I.hok e;obtain⟨w',hw,Mp⟩:=RelO.some_of (v:=v) (o:=(atKey xs k).map (·.2)) (by rw[l];exact rel.val k);obtain⟨p,hp,S8⟩:=Wl.mp hw;refine wpAny_getItem_heap (XY hu) (oh I.hok eb) dd hp ?_;rw[S8];exact h w' _ (I.tok _) Mp
theorem Ho(hu:A.units+1<cLine)(I:Inv X pr σ H s)(g:DGet H a y o)(ry:RelV y u)(h:∀s',Inv X pr σ H s'->Q (.bool o.isSome) s'):
  wpAny (model X.prog X.w) A (compareOp .In u (.ref a)) Q E s:=by
 rcases g with⟨HS,k,e,ey,l⟩|⟨HS,k,b,e,ey,eb,l⟩
 ·subst ey;obtain⟨z,hd,vs,rel,dd⟩:=ux I.hok e;refine wpAny_in_of (kV_is ry) hd dd.mapOf ?_;rw[<-(rel.val k).isSome_eq,<-l];exact h _ (I.tok _)
 ·subst ey;cases(show u=Value.ref b from ry);obtain⟨z,hd,xs,rel,dd⟩:=uy I.hok e;refine wpAny_in_heap (XY hu) (oh I.hok eb) hd dd ?_;have q:=(rel.val k).isSome_eq;rw[YM]at q;rw[<-q,<-l];exact h _ (I.tok _)
theorem Af(hu:A.units+1<cLine)(I:Inv X pr σ H s)(g:DGet H a y o)(ry:RelV y u)(h:∀s',Inv X pr σ H s'->Q (.bool (!o.isSome)) s'):
  wpAny (model X.prog X.w) A (compareOp .NotIn u (.ref a)) Q E s:=by
 rcases g with⟨HS,k,e,ey,l⟩|⟨HS,k,b,e,ey,eb,l⟩
 ·subst ey;obtain⟨z,hd,vs,rel,dd⟩:=ux I.hok e;refine wpAny_notIn_of (kV_is ry) hd dd.mapOf ?_;rw[<-(rel.val k).isSome_eq,<-l];exact h _ (I.tok _)
 ·subst ey;cases(show u=Value.ref b from ry);obtain⟨z,hd,xs,rel,dd⟩:=uy I.hok e;refine wpAny_notIn_heap (XY hu) (oh I.hok eb) hd dd ?_;have q:=(rel.val k).isSome_eq;rw[YM]at q;rw[<-q,<-l];exact h _ (I.tok _)
theorem uA{t':Nat}{ob:HO}(I:Inv X pr σ H s)(mu:Rh (H a))(hs:Heap.SameBut a s.heap h')(he:∃q,h'.get? a=some q)(new:ObjOk X.prog X.w (upd H a ob) h' a ob):
  Inv X pr σ (upd H a ob) {s with heap:=h',toks:=t'}:=
 I.write (x:=a) (e:=a) mu (.inl rfl) (fun b q hb z=>(hs.2 b hb).trans z) he new
theorem CI{HS:List (Key×V)}{vs:List (Key×Value)}(z:HS.length<=sizeLine)(hd:(a==sysModules)=false)(rel:KV HS vs)(dd:h'.DictOf (mixKind P w) a vs):
  ObjOk P w H' h' a (.dK HS):=⟨z,hd,vs,rel,dd⟩
theorem uB{Q:Unit->Shared->Prop}(hu:A.units+1<cLine)(I:Inv X pr σ H s)(g:DPut H a y v H')(ry:RelV y u)(rv:RelV v r)(h:∀s',Inv X pr σ H' s'->Q () s'):
  wpAny (model X.prog X.w) A (setItem (.ref a) u r) Q E s:=by
 rcases g with⟨HS,k,e,ey,l,eH⟩|⟨HS,k,b,e,ey,eb,l,eH⟩
 ·subst ey eH;obtain⟨z,hd,vs,rel,dd⟩:=Fi I.hok e;have hz:vs.length<=sizeLine:=by rw[<-rel.length];exact z
  have hl:(kS HS k v).length<=sizeLine:=by have:=jX HS k v;lia
  refine wpAny_setItem_pairs (hsz:=hz) (kV_is ry) dd fun h' Q3 hs=>h _ ?_
  have he:∃q,h'.get? a=some q:=let⟨q,_,_,hq,_⟩:=Q3;⟨q,hq⟩
  exact uA I (by rw[e];exact True.intro) hs he (CI hl hd (rel.put k rv) Q3)
 ·subst ey eH;cases(show u=Value.ref b from ry);obtain⟨z,hd,xs,rel,dd⟩:=Fj I.hok e;have hz:xs.length<=sizeLine:=by rw[<-Yd rel];exact z
  have hl:(kS HS k v).length<=sizeLine:=by have:=jX HS k v;lia
  refine wpAny_setItem_heap (hsz:=hz) (XY hu) (oh I.hok eb) dd fun h' Q3 hs=>h _ ?_
  obtain⟨q,es,ep,hq,h2,h3,h4,_,h5⟩:=Q3;refine uA I (by rw[e];exact True.intro) hs ⟨q,hq⟩ ⟨hl,hd,_,(rel.put k eb rv).keeps fun c ys ec=>?_,q,es,ep,hq,h2,h3,h4,h5⟩;rw[aq (EA ec e (fun z=>nomatch z))];exact ec
end
section
variable{HS:List (Key×V)}{k:Key}
end
def NoSl(i:Expr):Prop:=∀ov iv,subscripted i false ov iv=operate [ov,iv] (getItem ov iv)
variable{pos:Pos}
theorem Ag{prog:Program}{env:Env}{value slice:Expr}{T id:String}
  (hl:typeLookup (.type T) "__getitem__" = pure (some (.builtin id))) (hs:NoSl slice)
  (h:wpAny (model prog w) A (eval value env) (fun o s₁=>wpAny (model prog w) A (eval slice env) (fun i s₂=>s₂.TypeIs o T/\wpAny (model prog w) A (getItem o i) Q E s₂) E s₁) E s):
  wpAny (model prog w) A (eval (.Subscript value slice pos) env) Q E s:=by
 refine Subscript_ (Xz h (fun o s₁ h₁=>Xz h₁ (fun i s₂ h₂=>?_) fun _ _ x=>x) fun _ _ x=>x);obtain⟨hT,h₂⟩:=h₂;unfold subscriptTail;refine UR ?_;rw[getitemInPython_of_ne hT.not_modules];refine UR (Zq hT hl ?_);have fin:wpAny (model prog w) A (subscripted slice false o i) (fun r s₃=>wpAny (model prog w) A (letTemporaryGo value o r >>= fun _=>pure r) Q E s₃) E s₂:=by
  rw[hs o i];exact wpAny_operating (Xz h₂ (fun r s₃ h₃=>UR (wpAny_letTemporaryGo (Va h₃))) fun _ _ x=>x)
 first
  |exact Va (UR fin)
  |exact UR (Va (UR fin))
  |exact UR fin
theorem pJ(I:Inv X pr σ H s)(g:DGet H a y o):s.TypeIs (.ref a) "dict":=by
 rcases g with⟨HS,k,e,_,_⟩|⟨HS,k,b,e,_,_,_⟩
 ·obtain⟨_,_,vs,_,dd⟩:=ux I.hok e;exact dd.typeIs
 ·obtain⟨_,_,xs,_,dd⟩:=uy I.hok e;exact dd.typeIs
def Fl(td ty:TE):TE:=fun σ H Q=>td σ H fun x H1=>ty σ H1 fun y H2=>∃a v,x=.ref a/\DGet H2 a y (some v)/\Q v H2
def Fn(td ty tv:TE):TS:=fun D σ H=>tv σ H fun v H1=>td σ H1 fun x H2=>ty σ H2 fun y H3=>∃a H4,x=.ref a/\DPut H3 a y v H4/\D.nx σ H4
section
variable{o i e value:Expr}{pos' Pp:Pos}{td ty tv:TE}
theorem Ah(hu:X.A.units+1<cLine)(ho:PE X o td)(hi:PE X i ty)(hs:NoSl i):PE X (.Subscript o i pos) (Fl td ty):=by
 intro pr s σ H Q I h;refine Ag PySem.F.slot_dict_getitem.lookup hs (Iy (ho pr s σ H _ I h) fun u s1 ⟨x,H1,I1,rx,q1⟩=>Iy (hi pr s1 σ H1 _ I1 q1) fun iv s2 Ir=>?_);obtain⟨y,H2,I2,ry,a,v,ex,g,q2⟩:=Ir;subst ex;obtain rfl:u=Value.ref a:=rx;exact⟨pJ I2 g,uz hu I2 g ry fun w' s3 I3 Mp=>⟨v,H2,I3,Mp,q2⟩⟩
theorem Ai(hu:X.A.units+1<cLine)(ho:PE X o td)(hi:PE X i ty)(hv:PE X value tv)(hs:swapsWith value (some (.Subscript o i pos')) pos.line X.env=pure false):
  PS X (.Assign [.Subscript o i pos'] value pos) (Fn td ty tv):=by
 intro pr s σ H D I h;refine wpAny_Assign_Subscript (Iy (hv pr s σ H _ I h) fun r s1 ⟨v,H1,I1,rv,q1⟩=>Iy (ho pr s1 σ H1 _ I1 q1) fun u s2 ⟨x,H2,I2,rx,q2⟩=>Iy (hi pr s2 σ H2 _ I2 q2) fun iv s3 ⟨y,H3,I3,ry,a,H4,ex,g,q3⟩=>?_) hs;subst ex;obtain rfl:u=Value.ref a:=rx;exact uB hu I3 g ry rv fun s4 I4=>⟨σ,H4,I4,q3⟩
end
theorem dk_empty(h:Heap)(hb:sysModules<h.objs.size):ObjOk P w H (h.push {cls:=.type "dict",data:=.dict #[]}) h.objs.size (.dK []):=
 ⟨VH _,Vn.mpr (WD (Vf hb)),[],.nil,Heap.DictOf.new h⟩
def CJ:TE:=fun _ H Q=>∀p,H p=none->Q (.ref p) (upd H p (.dK []))
section
theorem xx:PE X (.Dict [] [] pos) CJ:=fun pr s σ H Q I h=>
 wpAny_Dict_empty ⟨.ref s.heap.objs.size,_,I.laid (a:=s.heap.objs.size) (o:=.dK []) (t':=s.toks) (fun _ _ q=>UW _ q) (UZ _) (dk_empty s.heap I.big),rfl,h _ (I.hok.fresh (UZ _))⟩
end
structure M2(X:Cx)(o:Expr)(m:Str)(apos:Pos)(e f:Expr)(IG:Pos):Prop where
 base:attributeBase o m X.env (eval o X.env)=eval o X.env
 few:((backTo IG (starEach [e,f] X.env)).all (fun x=>!x.1)&&(backToKw IG (keywordEach [] X.env)).all (fun x=>x.1.isSome)
  && decide (([e,f]:List Expr).length+([]:List Keyword).length+(if([]:List Keyword).isEmpty then 0 else 1)<30))=true
 line:(apos.endLine==IG.line)=true
 trees:backTo IG (starEach [e,f] X.env)=[(false,eval e X.env),(false,eval f X.env)]
section
variable{d:V}{r:Value}
end
section
variable{o e f:Expr}{apos IG:Pos}{td ty tx:TE}
end
section
variable{HS:List (Key×V)}
end
section
end
section
variable[DecidableEq κ]
end
end L2
namespace NX
open PySem PySem.Spec PyProof.Rows L2
def RawD(h:Heap)(d:Addr)(es:Array DictEntry)(ep:Nat):Prop:=∃o,h.get? d=some o/\o.ExactDict/\o.data=.dict es ep
theorem RawD.at{h h':Heap}{d:Addr}{es:Array DictEntry}{ep:Nat}(x:RawD h d es ep)(e:∀o,h.get? d=some o->h'.get? d=some o):RawD h' d es ep:=by
 obtain⟨o,g,r⟩:=x;exact⟨o,e o g,r⟩
section
variable{prog:Program}{w:World}{A:Around}{E:Value->Shared->Prop}{s:Shared}{d it:Addr}{es:Array DictEntry}{ep i:Nat}
theorem xy(x:RawD s.heap d es ep):s.TypeIs (.ref d) "dict":=by
 obtain⟨o,g,ex,_⟩:=x;exact⟨o,g,ex.1⟩
end
end NX
namespace NX
open PySem PySem.W PySem.Spec PyProof.Rows L2
section
variable{prog:Program}{w:World}{A:Around}{E:Value->Shared->Prop}{s:Shared}
end
section
variable{X:Cx}{pr:List (Addr×Obj)}{σ:L2.St}{H:Hp}{s:Shared}
end
end NX
namespace NX
open PySem PySem.Spec PyProof.Rows L2
section
open PySem.SeqAt
open PySem.AutoSeq1 (wpAny_loadPart')
open PySem.MeetsSeq PySem.MeetsSeq2 PySem.MeetsSeq3
end
variable{X:Cx}
section
end
variable{prog:Program}{w:World}{A:Around}{E:Value->Shared->Prop}{s:Shared}
section
end
variable{scope:Scope}
theorem wp_blockEnv{M:Model}{A:Around}{E:Value->Shared->Prop}{globals:Addr}{cl:List (Str×Addr)}{qual:Str}{outer:Env}{Q:Env->Shared->Prop}
  (hQ:Q (newEnv scope s.heap.objs.size globals (cellsFrom (s.heap.objs.size+1) scope.names cl) qual none .none (some outer) builtinsNs) {s with heap:=pushCells (s.heap.push {cls:=.type "dict",data:=.dict #[]}) scope.names}):
  wpAny M A (newFunctionEnv scope globals cl [] qual none .none (some outer)) Q E s:=by
 simp only[newFunctionEnv,Option.isSome_some,Wt];refine UR (wpAny_alloc ?_);refine UR (wpAny_layCells _ (fun name kind cells=>by cases PJ:kind==NameKind.cell <;> simp[PJ]) _ _ _ _ ?_);rw[show({s with heap:=s.heap.push {cls:=.type "dict",data:=.dict #[]}}:Shared).heap.objs.size=s.heap.objs.size+1 from V4 ..];refine UR ?_;rw[ZF];exact Va (Va hQ)
theorem jJ{x:Str}{c:Addr}:∀(nY:List (Str×NameKind)) (h:Heap) (acc:List (Str×Addr)),(cellsFrom h.objs.size nY acc).lookup x=some c->acc.lookup x=some c\/(h.objs.size<=c/\(pushCells h nY).IsCell c none)
 |[],_,_,e=>.inl e
 |(name,kind)::r,h,acc,e=>by
  unfold cellsFrom at e;unfold pushCells;split at e
  ·rename_i hk;rw[U2 hk];have sz:h.objs.size+1=(h.push {cls:=.type "cell",data:=.cell none}).objs.size:=(V4 ..).symm;rw[sz]at e;rcases jJ r _ _ e with e|⟨e1,e2⟩
   ·rw[Vv]at e;cases hx:x==name with
    |true=>
     rw[hx]at e;cases e;exact .inr ⟨UZ _,_,Zr r _ _ _ (Vh _ rfl),rfl⟩
    |false=>
     rw[hx]at e;exact .inl e
   ·rw[<-sz]at e1;exact .inr ⟨XB e1,e2⟩
  ·rename_i hk;rw[U9 hk];exact jJ r h acc e
theorem uC:∀(nY:List (Str×NameKind)) (n:Nat) (acc:List (Str×Addr)),(∀x y c,acc.lookup x=some c->acc.lookup y=some c->x=y)->(∀x c,acc.lookup x=some c->c<n)->
  ∀x y c,(cellsFrom n nY acc).lookup x=some c->(cellsFrom n nY acc).lookup y=some c->x=y
 |[],_,_,h,_=>h
 |(name,kind)::r,n,acc,h,hl=>by
  unfold cellsFrom;split
  ·refine uC r (n+1) ((name,n)::acc) (fun x y c e1 e2=>?_) (fun x c e=>?_)
   ·rw[Vv]at e1 e2;cases hx:x==name with
    |true=>
     rw[hx]at e1;cases e1;cases hy:y==name with
     |true=>exact(VD.mp hx).trans (VD.mp hy).symm
     |false=>
      rw[hy]at e2;exact absurd (hl y _ e2) (Wm _)
    |false=>
     rw[hx]at e1;cases hy:y==name with
     |true=>
      rw[hy]at e2;cases e2;exact absurd (hl x _ e1) (Wm _)
     |false=>
      rw[hy]at e2;exact h x y c e1 e2
   ·rw[Vv]at e;cases hx:x==name with
    |true=>rw[hx]at e;cases e;exact VB _
    |false=>rw[hx]at e;exact Xf (hl x c e)
  ·exact uC r n acc h hl
theorem uD{x:Str}:∀(nY:List (Str×NameKind)) (n:Nat) (acc:List (Str×Addr)),((∃d,acc.lookup x=some d)\/(x,NameKind.cell)∈nY)->∃d,(cellsFrom n nY acc).lookup x=some d
 |[],_,_,h=>h.elim id fun z=>nomatch z
 |(name,kind)::r,n,acc,h=>by
  unfold cellsFrom;split
  ·rename_i hk;refine uD r _ _ ?_;rw[Vv];cases hx:x==name with
   |true=>exact .inl ⟨_,rfl⟩
   |false=>
    rcases h with h|h
    ·exact .inl h
    ·rcases U6.mp h with h|h
     ·cases h;rw[V0]at hx;cases hx
     ·exact .inr h
  ·rename_i hk;refine uD r _ _ ?_;rcases h with h|h
   ·exact .inl h
   ·rcases U6.mp h with h|h
    ·cases h;exact absurd rfl hk
    ·exact .inr h
theorem uE{x:Str}{c:Addr}{lo:Nat}:∀(nY:List (Str×NameKind)) (n:Nat) (acc:List (Str×Addr)),((∀c,acc.lookup x=some c->lo<=c)\/(x,NameKind.cell)∈nY)->lo<=n->(cellsFrom n nY acc).lookup x=some c->lo<=c
 |[],_,_,h,_,e=>h.elim (fun h=>h c e) fun z=>nomatch z
 |(name,kind)::r,n,acc,h,hn,e=>by
  unfold cellsFrom at e;split at e
  ·refine uE r _ _ ?_ (Nat.le_succ_of_le hn) e;cases hx:x==name with
   |true=>exact .inl fun c e=>by rw[Vv,hx]at e;cases e;exact hn
   |false=>
    rcases h with h|h
    ·exact .inl fun c e=>by rw[Vv,hx]at e;exact h c e
    ·rcases U6.mp h with h|h
     ·cases h;rw[V0]at hx;cases hx
     ·exact .inr h
  ·rename_i hk;refine uE r _ _ ?_ hn e;rcases h with h|h
   ·exact .inl h
   ·rcases U6.mp h with h|h
    ·cases h;exact absurd rfl hk
    ·exact .inr h
theorem uF{x:Str}:∀(nY:List (Str×NameKind)) (n:Nat) (acc:List (Str×Addr)),(x,NameKind.cell)∉nY->(cellsFrom n nY acc).lookup x=acc.lookup x
 |[],_,_,_=>rfl
 |(name,kind)::r,n,acc,h=>by
  unfold cellsFrom;split
  ·rename_i hk;rw[uF r _ _ fun z=>h (U3 _ z),Vv];cases hx:x==name with
   |true=>
    refine absurd ?_ h;rw[VD.mp hx,<-VD.mp hk];exact UY
   |false=>rfl
  ·exact uF r _ _ fun z=>h (U3 _ z)
variable{x:Str}
theorem l9{env:Env}(h:(relabel scope env).names.lookup x=some .cell\/(relabel scope env).names.lookup x=some .free):(x,NameKind.free)∈scope.names\/(x,NameKind.cell)∈scope.names:=by
 unfold relabel at h;dsimp only at h;generalize scope.names=l at h;induction l with
 |nil=>rcases h with h|h <;> cases h
 |cons y l ih=>
  obtain⟨n,k⟩:=y;rw[Vo]at h;dsimp only at h;have up:((x,NameKind.free)∈l\/(x,NameKind.cell)∈l)->(x,NameKind.free)∈(n,k)::l\/(x,NameKind.cell)∈(n,k)::l:=fun z=>z.imp (U3 _) (U3 _)
  by_cases cnd:(k==NameKind.free&&env.scope.kind==.function&&env.kindOf n==some .cell)=true
  ·rw[U2 cnd,Vv]at h;have kf:k=.free:=by
    have:(k==NameKind.free)=true:=by
     simp only[Ve]at cnd;exact cnd.1.1
    simpa using this
   cases hx:x==n with
   |true=>
    have:x=n:=by simpa using hx
    rw[this,kf];exact .inl UY
   |false=>
    rw[hx]at h;exact up (ih h)
  ·rw[U9 cnd,Vv]at h;cases hx:x==n with
   |true=>
    rw[hx]at h;have:x=n:=by simpa using hx
    rw[this];rcases h with h|h
    ·rw[<-Vy h];exact .inr UY
    ·rw[<-Vy h];exact .inl UY
   |false=>
    rw[hx]at h;exact up (ih h)
noncomputable def br(X:Cx)(scope:Scope)(N:List Str)(C:Addr)(s:Shared)(H:Hp)(fp:List Addr)(pn:List (Addr×Obj)):Cx:=
 {X with N:=N,s₀:=s,H₀:=H,env:=compEnvC scope (cellsFrom (C+1) scope.names (clOf scope X.env)) C X.env,outer:=X.stack,ex:=fp,fn:=fun x=>scope.names.lookup x==some .cell,pn:=pn,xe:=fun _ _=>False}
variable{pr:List (Addr×Obj)}{σ:L2.St}{H:Hp}{N:List Str}{ix:List (Option Nat)}{fp:List Addr}{C:Addr}
section
theorem _root_.L2.Inv.blockK(I:Inv X pr σ H s)(hf:cT scope X.env=true)(hk:scope.kind=.function)(Ih:∀y∈scope.names,y.2=.cell->scope.names.lookup y.1=some .cell)(Ji:lq X scope N ix=true)(fo:∀b∈fp,nJ X pr H b)(fin:∀b∈fp,∃o,s.heap.get? b=some o)
  {h0:Heap}{t1:Nat}{D:Addr}(hD:D=s.heap.objs.size) (hC:C=s.heap.objs.size+1) (hsz:h0.objs.size=C+1) (Oc:∀b o,s.heap.get? b=some o->h0.get? b=some o) {n:Nat}(acc0:h0.get? D=some {cls:=.type "list",data:=.seq #[] n})
  {m:Str->Option Value}(ns0:h0.Ns C m):Inv (br X scope N C s H fp (X.pn++pr)) [] (dn ix σ) (upd H D (.lst [])) {s with heap:=pushCells h0 scope.names,toks:=t1}:=by
 have kp:=Zr scope.names h0;have old:∀b o,s.heap.get? b=some o->(pushCells h0 scope.names).get? b=some o:=fun b o e=>kp b o (Oc b o e)
 have Jb:s.heap.objs.size<=C:=by rw[hC];exact WJ _
 have freshD:s.heap.objs.size<=D:=by rw[hD];exact UZ _
 have nD:H D=none:=I.hok.fresh freshD;have DC:D≠C:=by rw[hD,hC];exact Vf (VB _)
 have L3:∀b,H b=none->b≠D->upd H D (.lst []) b=none:=fun b n z=>by rw[aq z];exact n
 have Oa:∀b o,s.heap.get? b=some o->b≠D:=fun b o e=>Vf (U0 (U5 e) freshD)
 have LX:∀b o,s.heap.get? b=some o->b≠C:=fun b o e=>Vf (U0 (U5 e) Jb)
 have cs:∀{x c},(cellsFrom (C+1) scope.names (clOf scope X.env)).lookup x=some c->X.env.cells.lookup x=some c\/(C+1<=c/\(pushCells h0 scope.names).IsCell c none):=fun{x c} e=>by
  rw[<-hsz]at e;rcases jJ scope.names h0 _ e with e|⟨e1,e2⟩
  ·exact .inl (fV I.ok hf e)
  ·exact .inr ⟨hsz▸e1,e2⟩
 have SY:(br X scope N C s H fp (X.pn++pr)).Ok:=by
  refine⟨I.ok.mod,hk,I.ok.glob,I.ok.blt,Jb,fun x y c e1 e2=>?_,fun x hx=>?_,fun x c z e=>?_,I.ok.hd,I.ok.frames,.inl rfl,fun b hb=>?_,I.bs,?_,fun b o e hb=>?_,fun b hb hs=>?_,I.stack,I.stkFree⟩
  ·refine uC scope.names (C+1) (clOf scope X.env) (fun x y c e1 e2=>I.ok.inj x y c (fV I.ok hf e1) (fV I.ok hf e2)) (fun x c e=>?_) x y c e1 e2;obtain⟨v,q⟩:=I.cell x c (fV I.ok hf e);exact U0 q.lt (Vq Jb (WJ _))
  ·refine uD scope.names (C+1) _ ?_;rcases l9 hx with h|h
   ·obtain⟨c,e,_⟩:=lR I.ok hf h;exact .inl ⟨c,e⟩
   ·exact .inr h
  ·have z:(scope.names.lookup x==some NameKind.cell)=true:=z;have z:scope.names.lookup x=some .cell:=by simpa using z
   have:=uE (lo:=C+1) scope.names (C+1) _ (.inr (Wo z)) (UZ _) e;exact Vq Jb (XB this)
  ·obtain⟨f0,f1,f2,f3,f4,f5⟩:=fo b hb;obtain⟨o,ho⟩:=fin b hb;refine⟨?_,fun x c e=>?_⟩
   ·intro z;exact LX b o ho z
   ·rcases cs e with e|⟨e1,_⟩
    ·exact f4 x c e
    ·intro z;subst z;exact absurd (U0 (U5 ho) (Vq Jb (XB e1))) (Wm _)
  ·exact Vq I.ok.bsz I.sz
  ·obtain⟨f0,f1,f2,f3,f4,f5⟩:=fo b hb;rcases f3 with q|q
   ·exact I.ok.noex b o e q
   ·exact absurd (U0 (U5 e) (Vq I.ok.bsz q)) (Wm _)
  ·obtain⟨f0,f1,f2,_⟩:=fo b hb;exact(U6.mp (I.stkSub b hs)).elim f1 f2
 refine⟨SY,rfl,I.bare,Un.laid old freshD nD,⟨m,ns0.keeps kp,fun i x v e1 e2 e3=>?_⟩,fun x c e=>?_,?_,fun x c e=>?_,fun p hp=>?_,I.hok.laid old freshD ⟨VH _,[],n,.nil,kp _ _ acc0⟩,?_⟩
 ·have e2:(ix.map fun i=>i.bind fun i=>(σ[i]?).bind id)[i]?=some (some v):=e2;have e1:N[i]?=some x:=e1;unfold lq at Ji;rw[Ve]at Ji;rw[Vg]at e2;cases q:ix[i]? with
  |none=>rw[q]at e2;cases e2
  |some o=>
   rw[q]at e2;have e2:(o.bind fun i=>(σ[i]?).bind id)=some v:=Vy e2;cases o with
   |none=>cases e2
   |some j=>
    have e2:(σ[j]?).bind id=some v:=e2;have hσ:σ[j]?=some (some v):=by
     cases w':σ[j]? with
     |none=>rw[w']at e2;cases e2
     |some y=>rw[w']at e2;exact V7 some e2
    have hz:(N.zip ix)[i]?=some (x,some j):=by
     rw[Xb];exact⟨e1,q⟩
    have hy:=VA.mp Ji.2 _ (VU hz);simp only[Ve,VD]at hy;have Rv:(x,NameKind.free)∈scope.names:=Wo hy.2;obtain⟨c,c1,c2⟩:=lR I.ok hf Rv;have nc:(x,NameKind.cell)∉scope.names:=fun z=>by
     have:=(Ih _ z rfl).symm.trans hy.2;cases this
    have c1:(cellsFrom (C+1) scope.names (clOf scope X.env)).lookup x=some c:=(uF _ _ _ nc).trans c1;have Rw:X.env.kindOf x=some .cell\/X.env.kindOf x=some .free:=by
     have:=VA.mp hf _ Rv;simpa using this
    obtain⟨mo,Pr,L1⟩:=I.loc;obtain⟨u,r,l⟩:=L1 j x v hy.1 hσ (.inr Rw);refine⟨u,r,.inr ⟨jq hy.2,c,c1,?_⟩⟩;rcases l with⟨k1,_⟩|⟨_,c',e',Ng⟩
    ·rcases Rw with k2|k2 <;> (rw[k1]at k2;cases k2)
    ·rw[c2]at e';cases e';obtain⟨o,ho,hd⟩:=Ng;exact⟨o,old c o ho,hd⟩
 ·rcases cs e with e|⟨_,e2⟩
  ·obtain⟨v,q⟩:=I.cell x c e;exact⟨v,q.keeps old⟩
  ·exact⟨none,e2⟩
 ·exact L3 C (I.hok.fresh Jb) (WD DC)
 ·rcases cs e with e|⟨e1,_⟩
  ·obtain⟨v,o,ho,hd⟩:=I.cell x c e;exact L3 c (I.freeC x c e) (Oa c o ho)
  ·refine L3 c (I.hok.fresh (Vq Jb (XB e1))) fun z=>?_
   subst z;rw[hD,hC]at e1;exact absurd (Vq (WJ _) e1) (Nat.not_succ_le_self _)
 ·have hp:p∈X.pn++pr:=by
   have:p∈(X.pn++pr)++[]:=hp
   rwa [Vu]at this
  obtain⟨e,nn,ne,nf,d⟩:=I.pin p hp;refine⟨old _ _ e,L3 _ nn (Oa _ _ e),LX _ _ e,fun z=>?_,d⟩;exact(U6.mp (I.stkSub p.1 z)).elim ne nf
 ·unfold lq at Ji;rw[Ve]at Ji;have:N.length=ix.length:=by simpa using Ji.1
  show(ix.map _).length=N.length;rw[U8,this]
theorem _root_.L2.Inv.unblockK{σ1:L2.St}{H1:Hp}{s1:Shared}{h2:Heap}(I:Inv X pr σ H s)(fo:∀b∈fp,nJ X pr H b)(hC:s.heap.objs.size<=C)(J:Inv (br X scope N C s H fp (X.pn++pr)) [] σ1 H1 s1)(hs:Heap.SameBut C s1.heap h2):
  Inv X pr σ H1 {s1 with heap:=h2}:=by
 have LX:∀b o,s.heap.get? b=some o->b≠C:=fun b o e=>Vf (U0 (U5 e) hC)
 have bb:Un (Mo X.stack) fp H H1 s.heap s1.heap:=J.base;have jf:H1 C=none:=J.free;refine I.call' (s':={s1 with heap:=h2}) (ch:=fp) J.os ⟨fun b o e n hb hx=>?_,fun b o e n hb hx=>?_,bb.free,fun b o e hx=>?_,bb.tups,bb.frzs,bb.tbls⟩ (fun b ob e=>?_) J.bare fun b hb=>?_
 ·exact(hs.2 b (LX b o e)).trans (bb.keep b o e n hb hx)
 ·obtain⟨sl,q⟩:=bb.slot b o e n hb hx;exact⟨sl,(hs.2 b (LX b o e)).trans q⟩
 ·obtain⟨o',q⟩:=bb.there b o e hx;exact⟨o',(hs.2 b (LX b o e)).trans q⟩
 ·refine(J.hok b ob e).stay (fun c w' hc q=>(hs.2 c ?_).trans q) (fun _ q=>q) fun _ _ q=>q
  rintro rfl;rcases hc with rfl|hc
  ·rw[jf]at e;cases e
  ·rw[jf]at hc;cases hc
 ·obtain⟨f0,f1,f2,f3,f4,f5⟩:=fo b hb;exact⟨f3,f1,f4,f5⟩
end
variable{pos:Pos}
section
variable{tg iter elt:Expr}{ifs:List Expr}{wi:TI}{g:TG}{tc:TT}{te:TE}
theorem jY{H2:Hp}{s2:Shared}{J:It}{it:Addr}{tn:Nat->Heap->Prop}{Q:VK}{RR:Value->Addr->Result->Shared->Prop}{E:Value->Shared->Prop}
  (hc:X.calm=true) (I2:Inv X pr σ H2 s2) (T:Turn X.prog X.w X.K tg J fp it tn) (Ib:tn 0 s2.heap) (f2:∀b∈fp,nJ X pr H2 b)
  (hg:∀C s H fp pn,PG (br X scope N C s H fp pn) tg g) (ht:∀C s H fp pn,N9 (br X scope N C s H fp pn) ifs tc) (he:∀C s H fp pn,PE (br X scope N C s H fp pn) elt te)
  (hf:cT scope X.env=true) (hk:scope.kind=.function) (Ih:∀y∈scope.names,y.2=.cell->scope.names.lookup y.1=some .cell) (Ji:lq X scope N ix=true)
  (q:∀D,H2 D=none->∃W:Nat->Nat->L2.St->Hp->Prop,(∃m,W 0 m (dn ix σ) (upd H2 D (.lst [])))/\
   ∀i m σ1 H3,W i m σ1 H3->(J.stop i H3/\Q (.ref D) H3)\/(J.go i H3/\∀x H4,J.yld i H3 x H4->g x σ1 H4 fun σ2 H5=>tc σ2 H5 fun b H6=>if b=true then te σ2 H6 fun v H7=>
    ∃ys,H7 D=some (.lst ys)/\ys.length<sizeLine/\∃m',m'<m/\W (i+1) m' σ2 (upd H7 D (.lst (ys++[v]))) else ∃m',m'<m/\W (i+1) m' σ2 H6))
  (S1:∀(D C:Addr) (σ1:L2.St) (H1:Hp) (s1:Shared),s2.heap.objs.size<=C->Inv (br X scope N C s2 H2 fp (X.pn++pr)) [] σ1 H1 s1->Q (.ref D) H1->RR (.ref D) C (.ok .next) s1):
  wpAny (model X.prog X.w) X.A (newList []) (fun acc s₃=>wpAny (model X.prog X.w) X.A (newFunctionEnv scope X.env.globals (clOf scope X.env) [] X.env.qual none .none (some X.env)) (fun Nm s₄=>
   codeAny (model X.prog X.w) X.A (.compStart (.ListComp elt [⟨tg,iter,ifs,0⟩] scope pos) 0 (.ref it) acc {Nm with scope:=relabel scope X.env}) (RR acc Nm.locals) s₄) E s₃) E s2:=by
 refine WI (wp_blockEnv ?_);dsimp only;generalize hH2:s2.heap.push {cls:=.type "list",dict:=none,data:=.seq ([]:List Value).toArray}=HH;have hC:HH.objs.size=s2.heap.objs.size+1:=by rw[<-hH2,V4]
 have T8:s2.heap.objs.size≠HH.objs.size:=by rw[hC];exact Vf (VB _)
 have M1:s2.heap.objs.size<=HH.objs.size:=by rw[hC];exact WJ _
 have LX:∀b o,s2.heap.get? b=some o->b≠HH.objs.size:=fun b o e=>Vf (U0 (U5 e) M1)
 have Oc:∀b o,s2.heap.get? b=some o->(HH.push {cls:=.type "dict",data:=.dict #[]}).get? b=some o:=fun b o e=>UW _ (hH2▸UW _ e)
 have old:∀b o,s2.heap.get? b=some o->(pushCells (HH.push {cls:=.type "dict",data:=.dict #[]}) scope.names).get? b=some o:=fun b o e=>Zr _ _ b o (Oc b o e)
 have Le:(HH.push {cls:=.type "dict",data:=.dict #[]}).get? s2.heap.objs.size=some {cls:=.type "list",data:=.seq #[] 0}:=UW _ (hH2▸Vh _ rfl);obtain⟨W,⟨m0,w0⟩,turn⟩:=q s2.heap.objs.size (I2.hok.fresh (UZ _));have fin:∀b∈fp,∃o,s2.heap.get? b=some o:=fun b hb=>let⟨o,e,_⟩:=T.obj 0 _ Ib b hb;⟨o,e⟩
 have KW:∀{H':Hp},(∀b∈fp,H' b=none)->∀b∈fp,nJ (br X scope N HH.objs.size s2 H2 fp (X.pn++pr)) [] H' b:=fun{H'} hn b hb=>by
  obtain⟨f0,f1,ff,f3,f4,f5⟩:=f2 b hb;refine⟨hn b hb,?_,fun z=>?_,.inl hb,fun x c e=>?_,fun p hp=>?_⟩
  ·intro z;have z:b=HH.objs.size:=z;obtain⟨o,ho⟩:=fin b hb;exact LX b o ho z
  ·exact(U6.mp (I2.stkSub b z)).elim f1 ff
  ·have e:(cellsFrom (HH.objs.size+1) scope.names (clOf scope X.env)).lookup x=some c:=e;have sz:(HH.push {cls:=.type "dict",data:=.dict #[]}).objs.size=HH.objs.size+1:=V4 ..;rw[<-sz]at e;rcases jJ scope.names _ _ e with e|⟨e1,_⟩
   ·exact f4 x c (fV I2.ok hf e)
   ·intro z;subst z;obtain⟨o,ho⟩:=fin c hb;rw[sz]at e1;exact absurd (U0 (U5 ho) (Vq M1 (XB e1))) (Wm _)
  ·have hp:p∈X.pn++pr:=by
    have:p∈(X.pn++pr)++[]:=hp
    rwa [Vu]at this
   exact f5 p hp
 have loop:∀s₃:Shared,s₃={s2 with heap:=pushCells (HH.push {cls:=.type "dict",data:=.dict #[]}) scope.names}->
   codeAny (model X.prog X.w) X.A (.compLoop (.ListComp elt [⟨tg,iter,ifs,0⟩] scope pos) 0 (.ref it) (.ref s2.heap.objs.size) (compEnvC scope (cellsFrom (HH.objs.size+1) scope.names (clOf scope X.env)) HH.objs.size X.env)) (RR (.ref s2.heap.objs.size) HH.objs.size) s₃:=by
  rintro s₃ rfl;refine nU (fun n s'=>∃i σ' H',Inv (br X scope N HH.objs.size s2 H2 fp (X.pn++pr)) [] σ' H' s'/\tn i s'.heap/\(∀b∈fp,H' b=none)/\W i n σ' H') ?_ m0
   ⟨0,_,_,I2.blockK hf hk Ih Ji f2 fin rfl hC (V4 ..) Oc Le (Heap.Ns.new ..),T.keep 0 _ _ Ib fun b _ o e=>old b o e,fun b hb=>?_,w0⟩
  ·rintro n s3 ⟨i,σ3,H3,I3,IL,O2,w3⟩;rcases turn i n σ3 H3 w3 with⟨stop,qn⟩|⟨go,step⟩
   ·refine Iy (T.done (br X scope N HH.objs.size s2 H2 fp (X.pn++pr)) rfl rfl rfl hc i [] s3 σ3 H3 Nl I3 (KW O2) IL stop) fun r s4 Ir=>?_
    obtain⟨hr,I4⟩:=Ir;subst hr;exact S1 _ _ σ3 H3 s4 M1 I4 qn
   ·refine Iy (T.item (br X scope N HH.objs.size s2 H2 fp (X.pn++pr)) rfl rfl rfl hc i [] s3 σ3 H3 Nl I3 (KW O2) IL go) fun r s4 Ir=>?_
    obtain⟨u,hr,h4⟩:=Ir;subst hr;refine Iy h4 fun _ s5 Ir=>?_
    obtain⟨x,H5,I5,r5,y5,Js,Rk⟩:=Ir;have Rl:=I5.pinned (KW Rk) (T.obj _ _ Js);refine Iy (hg _ _ _ _ _ _ s5 σ3 H5 x u _ Rl r5 (step x H5 y5)) fun _ s6 Ir=>?_
    obtain⟨σ6,H6,I6,q6⟩:=Ir;refine Iy (ht _ _ _ _ _ _ s6 σ6 H6 _ I6 q6) fun ok s7 Ir=>?_
    obtain⟨H7,I7,q7⟩:=Ir;have again:∀{H8:Hp}{s8:Shared},Inv (br X scope N HH.objs.size s2 H2 fp (X.pn++pr)) ([]++lj fp s5.heap) σ6 H8 s8->(∃m',m'<n/\W (i+1) m' σ6 H8)->
      ∃m,m<n/\∃i σ' H',Inv (br X scope N HH.objs.size s2 H2 fp (X.pn++pr)) [] σ' H' s8/\tn i s8.heap/\(∀b∈fp,H' b=none)/\W i m σ' H':=fun{H8 s8} I8 ⟨m',hm,w8⟩=>by
     refine⟨m',hm,i+1,σ6,H8,I8.unpinned,T.keep _ _ _ Js fun b hb o e=>(I8.pin (b,o) (UX _ (UX _ (dH hb e)))).1,fun b hb=>?_,w8⟩;obtain⟨o,e,d⟩:=T.obj _ _ Js b hb;exact(I8.pin (b,o) (UX _ (UX _ (dH hb e)))).2.1
    cases ok with
    |false=>exact again I7 q7
    |true=>
     show wpAny _ _ _ _ _ _;refine Iy (he _ _ _ _ _ _ s7 σ6 H7 _ I7 q7) fun x8 s8 Ir=>?_
     obtain⟨v8,H8,I8,r8,ys,S2,Iu,q8⟩:=Ir;refine Iy (jR _ s8 σ6 H8 (.ref s2.heap.objs.size) [v8] (.ref s2.heap.objs.size) [x8] (fun _ H9=>∃m',m'<n/\W (i+1) m' σ6 H9) I8 rfl (.cons r8 .nil) ⟨_,ys,v8,rfl,rfl,S2,Iu,q8⟩) fun _ s9 Ir=>?_
     obtain⟨_,H9,I9,_,q9⟩:=Ir;exact again I9 q9
  ·rw[aq (fun z=>by
    obtain⟨o,ho⟩:=fin b hb;exact absurd z (Vf (U5 ho)))]
   exact(f2 b hb).1
 exact codeAny_compStart_list (loop _ rfl) (T.self _ 0 _ _ _ (T.keep 0 _ _ Ib fun b _ o e=>old b o e) (loop _ rfl))
theorem xA(ix:List (Option Nat))(N:List Str)(hc:X.calm=true)(hi:PI X tg iter wi)(hg:∀C s H fp pn,PG (br X scope N C s H fp pn) tg g)(ht:∀C s H fp pn,N9 (br X scope N C s H fp pn) ifs tc)(he:∀C s H fp pn,PE (br X scope N C s H fp pn) elt te)
  (hf:cT scope X.env=true:=by rfl) (hk:scope.kind=.function:=by rfl) (Ih:∀y∈scope.names,y.2=.cell->scope.names.lookup y.1=some .cell:=by decide +kernel) (Io:∀y∈scope.names,y.2=.local->scope.names.lookup y.1=some .local:=by decide +kernel) (Ji:lq X scope N ix=true:=by rfl)
  (hs:∀x,foldedSetIterable iter X.env x=pure x:=by intro _;rfl):PE X (.ListComp elt [⟨tg,iter,ifs,0⟩] scope pos) (nS wi ix g tc te):=by
 intro pr s σ H Q I h;rw[eval_ListComp];have KZ:closureFor scope X.env=pure (clOf scope X.env):=by
  unfold closureFor clOf;have:=dI X.env scope.names [] (iw I.ok hf);simpa using this
 refine Xe (use:=none) rfl hs KZ hk Io (Iy (hi pr s σ H _ I h) fun v s1 h1=>Iy h1 fun QM s2 h2=>?_);obtain⟨it,fp,tn,J,H2,e,I2,T,Ib,f2,q⟩:=h2;subst e;refine jY (RR:=fun acc C=>compPost (model X.prog X.w) X.A X.xe none (EP X pr σ Q) acc C) (Q:=Q) (iter:=iter) hc I2 T Ib f2 hg ht he hf hk Ih Ji q fun D C σ1 H1 s1 hC J1 q1=>?_
 obtain⟨m,ns,_⟩:=J1.loc;exact⟨m,ns,fun h' Py=>⟨.ref D,H1,I2.unblockK f2 hC J1 Py,rfl,q1⟩⟩
end
noncomputable def CXC(P:Program)(w:World)(base:Heap)(C:Addr):CXT:=fun outer H s E e s'=>
 ∃(a t:Addr) (B:Heap) (H':Hp),e=.ref a/\s'.os=s.os/\AllBare s'.gens/\Un (Mo outer) [] H H' s.heap s'.heap/\HOk P w H' s'.heap/\Heap.FlyingW B outer a (.ref C) (.ref t) s'.heap/\
  (∀b u,s'.heap.get? b=some u->(H' b≠none\/∃o,s.heap.get? b=some o)->b∉Mo outer->B.get? b=some u)/\E (.ref C) none H'
variable{st:Stmt}{es:List Expr}
section
variable{aU:List Stmt}{t:TS}{u u':L2.St->Hp->Prop}{e:Expr}{Ww:Hp->Prop}{np IG:Pos}
end
def XP(X:Cx)(pr:List (Addr×Obj))(σ:L2.St)(C:Addr)(Ww:Hp->Prop)(e:Value)(s':Shared):Prop:=∃(s1:Shared) (H1:Hp),Inv X pr σ H1 s1/\CXC X.prog X.w X.base C X.stack H1 s1 (fun _ _ H'=>Ww H') e s'
abbrev TX:=L2.St->Hp->(Hp->Prop)->Prop
section
variable{aU:List Stmt}{tx:TX}{e a b:Expr}{k:Nat}{sp:Sp}{p:Pos}
end
open PySem.Builtin.ObjectAttr PySem.Builtin.Getset_descriptor
section
variable{K:W.Frag}{x D:Addr}
end
section
variable{a:Addr}{o:Obj}
end
end NX
namespace NX
open PySem PySem.W PySem.Spec PyProof.Rows L2
section
variable{prog:Program}{w:World}{A:Around}{E:Value->Shared->Prop}{s:Shared}
end
section
variable{X:Cx}
end
end NX
namespace NX
open PySem PySem.Spec PyProof.Rows L2
abbrev eB(h:Heap)(k:Bool)(l:Addr):Heap:=(zA h k l).push {cls:=.type "enumerate",data:=.fields #[.none,.bool false,.ref h.objs.size,rawInt 0,.none,.none]}
set_option maxHeartbeats 8000000 in
theorem CK(k:Bool)(l:Addr)(xs:Array Value):
  Meets (Builtin.«enumerate.__new__» ⟨[.type "enumerate",.ref l],[]⟩) (fun _ R s=>IsSq k s.heap l xs/\R (.ok (.ret (.ref (zA s.heap k l).objs.size))) {s with heap:=eB s.heap k l}):=
 .of_wp fun prog w A R s h=>by
  obtain⟨hp,g,d,tk,os⟩:=s;obtain⟨g1,q⟩:=h;have hsub:=sub_enumerate;cases k with
  |true=>
   obtain⟨o,ho,_⟩:=id (show Heap.IsList hp l xs from g1);have e1:Heap.IsList (Shared.heap ⟨hp,g,d,tk,os⟩) l xs:=g1;have hl:(Shared.heap ⟨hp,g,d,tk,os⟩).get? l=some o:=ho
   wp_walk using Wr hl
   refine wpAny_stack_any fun sk=>Va ?_
   split
   ·rename_i c _ _ _ _ _;cases(c==Value.type "enumerate") <;> (wp_walk using Wr hl,WG e1;exact⟨_,rfl,q⟩)
   ·wp_walk using Wr hl,WG e1
    exact⟨_,rfl,q⟩
  |false=>
   obtain⟨o,ho,_⟩:=id (show Heap.IsTuple hp l xs from g1);have e1:Heap.IsTuple (Shared.heap ⟨hp,g,d,tk,os⟩) l xs:=g1;have hl:(Shared.heap ⟨hp,g,d,tk,os⟩).get? l=some o:=ho
   wp_walk using Wr hl
   refine wpAny_stack_any fun sk=>Va ?_
   split
   ·rename_i c _ _ _ _ _;cases(c==Value.type "enumerate") <;> (wp_walk using Wr hl,Ws e1;exact⟨_,rfl,q⟩)
   ·wp_walk using Wr hl,Ws e1
    exact⟨_,rfl,q⟩
def ES(k:Bool)(e it l:Addr)(i:Nat)(h:Heap):Prop:=(∃old,IsEnum h e it i old)/\IsIt k h it l i
theorem Aj{prog:Program}{w:World}{A:Around}{E:Value->Shared->Prop}{s:Shared}{k:Bool}{l:Addr}{xs:Array Value}{Q:Value->Shared->Prop}(g1:IsSq k s.heap l xs)
  (q:∀h',ES k (s.heap.objs.size+1) (s.heap.objs.size+0) l 0 h'->(∀c o,s.heap.get? c=some o->h'.get? c=some o)->Q (.ref (s.heap.objs.size+1)) {s with heap:=h'}):
  wpAny (model prog w) A (call (.type "enumerate") [.ref l]) Q E s:=by
 refine callType_new F.called_enumerate (by decide) (F.typeCall_enumerate_1 _) (F.newCall_enumerate_1 _) (fun obj=>F.args_object_init_2 obj _) F.entry_enumerate_new (CK k l xs) ⟨g1,?_⟩;have nA:(zA s.heap k l).objs.size=s.heap.objs.size+1:=V4 ..;have gz:(eB s.heap k l).get? (zA s.heap k l).objs.size=some _:=Vh _ rfl;have j1:IsIt k (eB s.heap k l) s.heap.objs.size l 0:=(lV k s.heap l).at fun o e=>UW _ e
 show _/\_;rw[nA]at gz ⊢;exact⟨⟨_,gz,rfl⟩,q _ ⟨⟨_,gz⟩,j1⟩ fun c o x=>UW _ (UW _ x)⟩
variable{w:World}
theorem qx{prog:Program}{A:Around}(k:Bool)(hh:A.handled=none)(it l:Addr)(ne:l≠it)(xs:Array Value):
  Draws prog w A it [it,l] xs.size (fun i v=>xs[i]?=some v) (fun i h=>IsIt k h it l i/\IsSq k h l xs) where
 live:=fun i h st=>by obtain⟨o,e,_⟩:=st.1.obj;exact⟨o,e⟩
 frame:=fun i h h' st kk=>⟨st.1.at fun o e=>kk it (by simp) o e,st.2.at fun o e=>kk l (by simp) o e⟩
 item:=fun i s Q E hi st q=>lU st.1 st.2 (x:=xs[i]) (by simp[hi]) fun h' j sb=>q _ h' s.toks (by simp[hi]) ⟨j,st.2.at fun o e=>sb.extBut _ _ ne e⟩ sb
 done:=fun s Q E st q=>uo hh st.1 st.2 (by simp) q
noncomputable def S9(K:W.Frag)(k:Bool)(a:Addr):It:=
 ⟨fun i H=>∃xs x,(if k then SqL K H a xs else SqT K H a xs)/\xs[i]?=some x,
  fun i H v H'=>∃T,H T=none/\v=.ref T/\∀xs x,(if k then SqL K H a xs else SqT K H a xs)->xs[i]?=some x->H'=upd H T (.tup [.int (i:Int),x]),
  fun i H=>∃xs,(if k then SqL K H a xs else SqT K H a xs)/\i=xs.length⟩
variable{es:List Expr}{kt:Nat}
theorem uG{P:Program}{K:W.Frag}{pt:Pos}(k:Bool)(a e it:Addr)(ne:e≠it):
  Turn P w K (.Tuple es kt pt) (S9 K k a) [e,it] e (ES k e it a) where
 mem:=by simp
 obj:=fun i h st c hc=>by
  obtain⟨⟨old,he⟩,h1⟩:=st;simp only[U6,V1,Yf]at hc;rcases hc with rfl|rfl
  ·exact⟨_,he,fun v q=>by cases q⟩
  ·exact h1.obj
 keep:=fun i h h' st k=>by
  obtain⟨⟨old,he⟩,h1⟩:=st;exact⟨⟨old,k e (by simp) _ he⟩,h1.at fun o x=>k it (by simp) o x⟩
 item:=by
  intro X hP hw hK hc i pr s σ H E I hf st hg;subst hP hw hK;obtain⟨xs,x,s1,hx⟩:=hg;obtain⟨us,r1,q1⟩:=lW I s1;obtain⟨u,hu,ru⟩:=r1.get hx;have fe:=hf e (by simp);have fi:=hf it (by simp);have na:a≠it:=fw I s1 fi;have nb:a≠e:=fw I s1 fe;obtain⟨⟨old,he⟩,h1⟩:=st;have lt:i<us.toArray.size:=by
   rw[UT];exact(U1.mp hu).1
  have dr:Draws X.prog X.w X.A.in1 it [it,a] us.toArray.size (fun i v=>us.toArray[i]?=some v) (fun i h=>IsIt k h it a i/\IsSq k h a us.toArray):=qx k (show X.A.in1.handled=none from I.ok.hd hc) it a na us.toArray;refine wpAny_pyNext_enum_itemD dr he ⟨h1,q1⟩ lt ne (by simp[ne,nb.symm]) fun v h' tk hv z1 j1 tp sz kk=>⟨_,rfl,?_⟩
  have hv:v=u:=by
   have Sw:us[i]?=some v:=by simpa using hv
   rw[hu]at Sw;cases Sw;rfl
  subst hv;refine wpAny_letOwnedTupleGo_enum z1 fun h2 z2 sb=>?_
  have nT:H s.heap.objs.size=none:=I.hok.fresh (UZ _);have tT:s.heap.objs.size≠e:=Xs (U5 he);have tI:s.heap.objs.size≠it:=by
   obtain⟨o,x,_⟩:=h1.obj;exact Xs (U5 x)
  have all:∀c o,c≠e->c≠it->s.heap.get? c=some o->h2.get? c=some o:=fun c o c1 c2 x=>(sb.2 c c1).trans (kk c o c1 c2 x)
  have Mr:∀c ob,H c=some ob->c≠e/\c≠it:=fun c ob x=>⟨(fun q=>by rw[q,fe.1]at x;cases x),fun q=>by rw[q,fi.1]at x;cases x⟩
  refine⟨.ref s.heap.objs.size,upd H s.heap.objs.size (.tup [.int (i:Int),x]),?_,rfl,⟨_,nT,rfl,fun Jj x' a1 a2=>?_⟩,⟨⟨v,z2⟩,j1.1.at fun o y=>(sb.2 it ne.symm).trans y⟩,fun c hc=>?_⟩
  ·have Pz:h2.get? s.heap.objs.size=some {cls:=.type "tuple",data:=.seq #[.int i tk,v]}:=(sb.2 _ tT).trans tp;have S0:Inv X pr σ (upd H s.heap.objs.size (.tup [.int (i:Int),x])) {s with heap:=h2,gens:=s.gens,drawn:=s.drawn,toks:=tk+1}:=by
    refine I.step (ch:=[e,it]) (fun c hc=>?_) (fun c o _ _ nc y _=>all c o (fun q=>nc (by simp[q])) (fun q=>nc (by simp[q])) y)
     (fun c o _ _ nc y _=>⟨o.slots,all c o (fun q=>nc (by simp[q])) (fun q=>nc (by simp[q])) y⟩) (fun c o _ y n=>by rw[aq (Vf (U5 y))];exact n)
     (fun c o nc y=>⟨o,all c o (fun q=>nc (by simp[q])) (fun q=>nc (by simp[q])) y⟩) (fun c l y=>by rw[aq (aN y nT)];exact y) (fun c o u' y=>by rw[aq (aN y nT)];exact y)
     (fun c ps y=>⟨#[],by rw[aq (aN y nT),y];simp⟩) (fun m hm=>?_) (fun c ob y=>?_) I.bare
    ·simp only[U6,V1,Yf]at hc;rcases hc with rfl|rfl
     ·exact⟨fe.2.2.2.1,fe.2.1,fe.2.2.2.2.1,fe.2.2.2.2.2⟩
     ·exact⟨fi.2.2.2.1,fi.2.1,fi.2.2.2.2.1,fi.2.2.2.2.2⟩
    ·obtain⟨o,es,ep,ho,r⟩:=hm;exact⟨o,es,ep,all _ o (WD fe.2.1) (WD fi.2.1) ho,r⟩
    ·by_cases ec:c=s.heap.objs.size
     ·subst ec;rw[aH]at y;cases y;exact⟨by simp only[Vb,V3];rw[Wd];decide,[.int i tk,v],.cons ⟨tk,rfl⟩ (.cons ru .nil),⟨_,Pz,rfl,⟨0,rfl⟩,rfl⟩⟩
     ·rw[aq ec]at y;refine(I.hok c ob y).stay (fun d w' hd q=>?_) (fun d q=>by rw[aq (aN q nT)];exact q) fun d l q=>by rw[aq (aN q nT)];exact q
      have N7:∃oo,H d=some oo:=by
       rcases hd with rfl|hd
       ·exact⟨_,y⟩
       ·exact⟨_,hd⟩
      obtain⟨oo,PB⟩:=N7;obtain⟨m1,m2⟩:=Mr d oo PB;exact all d w' m1 m2 q
   exact S0
  ·have e1:=uq I a1 s1;subst e1;rw[hx]at a2;cases a2;rfl
  ·have cs:c≠s.heap.objs.size:=by
    simp only[U6,V1,Yf]at hc;rcases hc with rfl|rfl
    ·exact tT.symm
    ·exact tI.symm
   rw[aq cs];exact(hf c hc).1
 done:=by
  intro X hP hw hK hc i pr s σ H E I hf st hg;subst hP hw hK;obtain⟨xs,s1,hi⟩:=hg;obtain⟨us,r1,q1⟩:=lW I s1;have l1:=r1.length;have fe:=hf e (by simp);have fi:=hf it (by simp);have na:a≠it:=fw I s1 fi;obtain⟨⟨old,he⟩,h1⟩:=st;have hn:i=us.toArray.size:=by rw[UT,hi,l1]
  subst hn;have dr:Draws X.prog X.w X.A.in1 it [it,a] us.toArray.size (fun i v=>us.toArray[i]?=some v) (fun i h=>IsIt k h it a i/\IsSq k h a us.toArray):=qx k (show X.A.in1.handled=none from I.ok.hd hc) it a na us.toArray;refine wpAny_pyNext_enum_endD dr he ⟨h1,q1⟩ fun h' kk=>⟨rfl,?_⟩
  have Mr:∀c ob,H c=some ob->c≠it:=fun c ob x q=>by rw[q,fi.1]at x;cases x
  have S0:Inv X pr σ H {s with heap:=h',gens:=s.gens,drawn:=s.drawn,toks:=s.toks}:=by
   refine I.step (ch:=[it]) (fun c hc=>?_) (fun c o _ _ nc y _=>kk c o (fun q=>nc (by simp[q])) y)
    (fun c o _ _ nc y _=>⟨o.slots,kk c o (fun q=>nc (by simp[q])) y⟩) (fun c o _ y n=>n)
    (fun c o nc y=>⟨o,kk c o (fun q=>nc (by simp[q])) y⟩) (fun c l y=>y) (fun c o u' y=>y)
    (fun c ps y=>⟨#[],by rw[y];simp⟩) (fun m hm=>?_) (fun c ob y=>?_) I.bare
   ·rw[VC.mp hc];exact⟨fi.2.2.2.1,fi.2.1,fi.2.2.2.2.1,fi.2.2.2.2.2⟩
   ·obtain⟨o,es,ep,ho,r⟩:=hm;exact⟨o,es,ep,kk _ o (WD fi.2.1) ho,r⟩
   ·refine(I.hok c ob y).stay (fun d w' hd q=>?_) (fun d q=>q) fun d l q=>q
    have N7:∃oo,H d=some oo:=by
     rcases hd with rfl|hd
     ·exact⟨_,y⟩
     ·exact⟨_,hd⟩
    obtain⟨oo,PB⟩:=N7;exact kk d w' (Mr d oo PB) q
  exact S0
 self:=fun _ _ _ _ _ st h=>by
  obtain⟨⟨old,he⟩,_⟩:=st;exact wpAny_pyIter_enum he h
variable{X:Cx}
section
variable{pt:Pos}
def Fo(K:W.Frag)(k:Bool)(ta:TA):TI:=fun σ H R=>ta σ H fun vs H1=>∃a xs,vs=[.ref a]/\(if k then SqL K H1 a xs else SqT K H1 a xs)/\R (S9 K k a) H1
theorem Ak(k:Bool){e1:Expr}{ta:TA}{p pos:Pos}(hg:Gl X "enumerate")(hm:X.mg "enumerate" = none)(ha:PA X [e1] ta)(he:starEach [e1] X.env=[(false,eval e1 X.env)]:=by rfl):
  PI X (.Tuple es kt pt) (.Call (.Name "enumerate" p) [e1] [] pos) (Fo X.K k ta):=by
 intro pr s σ H R I h;refine WM (jm I hg hm (by decide +kernel:bootBuiltins "enumerate" = some (.type "enumerate")) ?_ (by decide) (by decide));refine Wc (Iy (ha pos pr s σ H _ I h) fun us s1 ⟨vs,H1,I1,r1,a,xs,e,S5,q⟩=>?_) he rfl;subst e;cases r1 with
 |cons r rr=>
  cases rr;cases r;obtain⟨us,v1,q1⟩:=lW I1 S5;refine Aj q1 fun h' st kk=>?_
  obtain⟨⟨old,ho⟩,hi⟩:=id st;refine wpAny_pyIter_enum ho ?_;have fr:∀j,nJ X pr H1 (s1.heap.objs.size+j):=fun j=>I1.fpOk (X7 _ _) (I1.hok.fresh (X7 _ _))
  refine⟨_,_,_,_,H1,rfl,I1.kept (t':=s1.toks) kk,uG k a (s1.heap.objs.size+1) (s1.heap.objs.size+0) (fun z=>by have:=ZK z;cases this),st,fun c hc=>?_,q⟩;simp only[U6,V1,Yf]at hc;rcases hc with rfl|rfl
  ·exact fr 1
  ·exact fr 0
end
section
variable{scope:Scope}{N:List Str}{ix:List (Option Nat)}{tg iter elt:Expr}{ifs:List Expr}{pos:Pos}{wi:TI}{g:TG}{tc:TT}{te:TE}
theorem xB{i:Nat}{y:Str}{py Kh:Pos}(ix:List (Option Nat))(N:List Str)(hN:X.N.Nodup)(Ob:X.N[i]?=some y)(hy:Loc X.env.scope y)(hc:X.calm=true)(hi:PI X tg iter wi)(hg:∀C s H fp pn,PG (br X scope N C s H fp pn) tg g)(ht:∀C s H fp pn,N9 (br X scope N C s H fp pn) ifs tc)
  (he:∀C s H fp pn,PE (br X scope N C s H fp pn) elt te) (Nn:swapsWith (.ListComp elt [⟨tg,iter,ifs,0⟩] scope pos) (some (.Name y py)) Kh.line X.env=pure true:=by rfl)
  (hf:cT scope X.env=true:=by rfl) (hk:scope.kind=.function:=by rfl) (Ih:∀y∈scope.names,y.2=.cell->scope.names.lookup y.1=some .cell:=by decide +kernel) (Io:∀y∈scope.names,y.2=.local->scope.names.lookup y.1=some .local:=by decide +kernel) (Ji:lq X scope N ix=true:=by rfl)
  (hs:∀x,foldedSetIterable iter X.env x=pure x:=by intro _;rfl) (Mj:X.fn y=true\/X.env.scope.names.lookup y=some .local:=by first|exact .inl rfl|exact .inr rfl):
  PS X (.Assign [.Name y py] (.ListComp elt [⟨tg,iter,ifs,0⟩] scope pos) Kh) (fun D σ H=>nS wi ix g tc te σ H fun v H'=>D.nx (σ.set i (some v)) H'):=by
 intro pr s σ H Dd I h;rw[exec_Assign_Name_used _ _ _ _ Nn];have KZ:closureFor scope X.env=pure (clOf scope X.env):=by
  unfold closureFor clOf;have:=dI X.env scope.names [] (iw I.ok hf);simpa using this
 refine UR (Z4 (UR ?_));show wpAny _ X.A (do let _ <-comprehension (.ListComp elt [⟨tg,iter,ifs,0⟩] scope pos) scope X.env _ (newList []) false (eval iter X.env) (some (assign (.Name y py) X.env))) _ _ s;refine UR (Xz (Xe (use:=some (assign (.Name y py) X.env)) (Q:=fun _ s'=>SP X pr Dd .next s') rfl hs KZ hk Io
  (Iy (hi pr s σ H _ I h) fun v s1 h1=>Iy h1 fun QM s2 h2=>?_)) (fun _ s' hq=>Va (Va hq)) fun _ _ e=>e)
 obtain⟨it,fp,tn,J,H2,e,I2,T,Ib,f2,q⟩:=h2;subst e;refine jY (RR:=fun acc C=>compPost (model X.prog X.w) X.A X.xe (some (assign (.Name y py) X.env)) (fun _ s'=>SP X pr Dd .next s') acc C) (Q:=fun v H'=>Dd.nx (σ.set i (some v)) H') (iter:=iter) hc I2 T Ib f2 hg ht he hf hk Ih Ji q fun D C σ1 H1 s1 hC J1 q1=>?_
 obtain⟨m,ns,_⟩:=id J1.loc;have ns:s1.heap.Ns C m:=ns;have I3:Inv X pr σ H1 s1:=I2.unblockK f2 hC J1 (.refl ..);show wpAny _ X.A (assign (.Name y py) X.env (.ref D)) _ _ s1;refine YJ (jO I3 hN Ob hy (v:=.ref D) rfl (fun s4 I4 ⟨a,sb,ha⟩=>?_) Mj);have aC:C≠a:=by
  intro z;rcases ha with ha|ha
  ·exact Vf (U0 I2.lt hC) (ha▸z.symm)
  ·obtain⟨v,o,ho,_⟩:=I2.cell y a ha;exact Vf (U0 (U5 ho) hC) z.symm
 refine⟨m,ns.sameBut sb aC,fun h' Py=>?_⟩;have jf:H1 C=none:=J1.free;have kk:∀b o,b≠C->s4.heap.get? b=some o->h'.get? b=some o:=fun b o hb e=>(Py.2 b hb).trans e
 refine⟨σ.set i (some (.ref D)),H1,?_,q1⟩;have z:=I4.turned (t':=s4.toks) kk jf (fun z=>Vf (U0 I2.lt hC) z.symm) (.inr (Vq I2.sz hC)) (fun x c e z=>by
  obtain⟨v,o,ho,_⟩:=I2.cell x c e;exact Vf (U0 (U5 ho) hC) z) (fun p hp z=>Vf (U0 (U5 (I2.pin p hp).1) hC) z)
 exact z
end
end NX
namespace PV
open PySem L2 NX
inductive D where
 |non|bl (b:Bool)|int (i:Int)|str (l:List Nat)|tup (ds:List D)|lst (ds:List D)|dct (tk:Bool) (ks vs:List D)
inductive O where
 |f|l (c:O)|t (cs:List O)|d|pin (p:Addr) (c:O)
abbrev R:=O×D
abbrev Env:=List (Option R)
inductive Res(α:Type) where
 |ok (a:α)|exc (c:List Nat)|bad
def kD:Key->D
 | .inl i=>.int i
 | .inr x=>.str x.cps.toList
def isM:HO->Bool
 | .lst _=>true
 | .dK _=>true
 | .dT _=>true
 |_=>false
def isT:HO->Bool
 | .tup _=>true
 | .frz _ (.tup _)=>true
 |_=>false
def fitK:Key->Prop
 | .inl _=>True
 | .inr x=>x.cps.toList.length<=sizeLine
def DictO(o:HO)(tk:Bool)(ks:List D)(xs:List V):Prop:=match tk with
 |true=>∃HS:List (List Key×V),o=.dT HS/\ks=HS.map (fun kv=>D.tup (kv.1.map kD))/\xs=HS.map (·.2)/\∀kv∈HS,∀k∈kv.1,fitK k
 |false=>∃HS:List (Key×V),o=.dK HS/\ks=HS.map (fun kv=>kD kv.1)/\xs=HS.map (·.2)/\∀kv∈HS,fitK kv.1
mutual
noncomputable def Rep(K:W.Frag)(G:Hp):D->V->Prop
 | .non,v=>v=.non
 | .bl b,v=>v=.bl b
 | .int i,v=>v=.int i
 | .str l,v=>v=.str (S l)/\l.length<=sizeLine
 | .tup ds,v=>∃p xs,v=.ref p/\G p=some (.tup xs)/\Reps K G ds xs
 | .lst ds,v=>∃p xs,v=.ref p/\SqL K G p xs/\Reps K G ds xs
 | .dct tk ks vs,v=>∃p xs o,v=.ref p/\Rd G p o/\DictO o tk ks xs/\Reps K G vs xs
noncomputable def Reps(K:W.Frag)(G:Hp):List D->List V->Prop
 |[],xs=>xs=[]
 |d::ds,xs=>∃y ys,xs=y::ys/\Rep K G d y/\Reps K G ds ys
end
def AllO(P:D->V->List Addr->Prop):List D->List V->List Addr->Prop
 |[],xs,fp=>xs=[]/\fp=[]
 |d::ds,xs,fp=>∃y ys a b,xs=y::ys/\fp=a++b/\P d y a/\AllO P ds ys b
mutual
noncomputable def RepO(K:W.Frag)(G H:Hp):O->D->V->List Addr->Prop
 | .f,d,v,fp=>Rep K G d v/\fp=[]
 | .l c,.lst ds,v,fp=>∃p xs HZ,v=.ref p/\H p=some (.lst xs)/\fp=p::HZ/\AllO (RepO K G H c) ds xs HZ
 | .t cs,.tup ds,v,fp=>∃p xs,v=.ref p/\G p=some (.tup xs)/\RepT K G H cs ds xs fp
 | .d,.dct tk ks vs,v,fp=>∃p xs o,v=.ref p/\H p=some o/\DictO o tk ks xs/\fp=[p]/\Reps K G vs xs
 | .pin p c,d,v,fp=>v=.ref p/\RepO K G H c d v fp
 |_,_,_,_=>False
noncomputable def RepT(K:W.Frag)(G H:Hp):List O->List D->List V->List Addr->Prop
 |[],[],xs,fp=>xs=[]/\fp=[]
 |c::cs,d::ds,xs,fp=>∃y ys a b,xs=y::ys/\fp=a++b/\RepO K G H c d y a/\RepT K G H cs ds ys b
 |_,_,_,_=>False
end
variable{K:W.Frag}{p:Addr}{u:HO}{xs:List V}{fp:List Addr}{es:Env}{vs:List (Option V)}{r:R}{v:V}
section
variable{G G' H H':Hp}
theorem Rd.mono(h:Same G G')(r:Rd G p u):Rd G' p u:=by
 rcases r with r|⟨o,r⟩
 ·exact .inl (h _ _ r)
 ·exact .inr ⟨o,h _ _ r⟩
theorem gN(h:Same G G')(r:SqL K G p xs):SqL K G' p xs:=r.elim (fun r=>.inl (Rd.mono h r)) .inr
theorem bK(h:Same G G')(r:SqT K G p xs):SqT K G' p xs:=r.elim (fun r=>.inl (Rd.mono h r)) .inr
mutual
theorem Rep.mono(h:Same G G'):∀{d:D}{v:V},Rep K G d v->Rep K G' d v
 | .non,_,r=>by simpa only[Rep] using r
 | .bl _,_,r=>by simpa only[Rep] using r
 | .int _,_,r=>by simpa only[Rep] using r
 | .str _,_,r=>by simpa only[Rep] using r
 | .tup ds,_,r=>by
  simp only[Rep]at r ⊢;obtain⟨p,xs,e,q,rs⟩:=r;exact⟨p,xs,e,h _ _ q,Reps.mono h rs⟩
 | .lst ds,_,r=>by
  simp only[Rep]at r ⊢;obtain⟨p,xs,e,q,rs⟩:=r;exact⟨p,xs,e,gN h q,Reps.mono h rs⟩
 | .dct tk ks vs,_,r=>by
  simp only[Rep]at r ⊢;obtain⟨p,xs,o,e,q,dd,rs⟩:=r;exact⟨p,xs,o,e,Rd.mono h q,dd,Reps.mono h rs⟩
theorem Reps.mono(h:Same G G'):∀{ds:List D}{xs:List V},Reps K G ds xs->Reps K G' ds xs
 |[],_,r=>by simpa only[Reps] using r
 |d::ds,_,r=>by
  simp only[Reps]at r ⊢;obtain⟨y,ys,e,r1,r2⟩:=r;exact⟨y,ys,e,Rep.mono h r1,Reps.mono h r2⟩
end
theorem AllO.imp{P P':D->V->List Addr->Prop}:∀{ds:List D}{xs:List V}{fp:List Addr},(∀d v a,(∀p∈a,p∈fp)->P d v a->P' d v a)->AllO P ds xs fp->AllO P' ds xs fp
 |[],_,_,_,r=>r
 |d::ds,xs,fp,h,r=>by
  obtain⟨y,ys,a,b,e1,e2,p,q⟩:=r;subst e2;exact⟨y,ys,a,b,e1,rfl,h _ _ _ (fun p hp=>U4 _ hp) p,AllO.imp (fun d v c hc=>h d v c fun p hp=>UX _ (hc p hp)) q⟩
mutual
theorem RepO.step(h:Same G G'):∀{o:O}{d:D}{v:V}{fp:List Addr},(∀p∈fp,H' p=H p)->RepO K G H o d v fp->RepO K G' H' o d v fp
 | .f,d,v,fp,hk,r=>by
  simp only[RepO]at r ⊢;exact⟨Rep.mono h r.1,r.2⟩
 | .pin p c,d,v,fp,hk,r=>by
  simp only[RepO]at r ⊢;exact⟨r.1,RepO.step h hk r.2⟩
 | .l c,.lst ds,v,fp,hk,r=>by
  simp only[RepO]at r ⊢;obtain⟨p,xs,HZ,e,q,e2,a⟩:=r;subst e2;exact⟨p,xs,HZ,e,(hk p UY).trans q,rfl,AllO.imp (fun d v c hc=>RepO.step h fun z hz=>hk z (U3 _ (hc z hz))) a⟩
 | .t cs,.tup ds,v,fp,hk,r=>by
  simp only[RepO]at r ⊢;obtain⟨p,xs,e,q,a⟩:=r;exact⟨p,xs,e,h _ _ q,RepT.step h hk a⟩
 | .d,.dct tk ks vs,v,fp,hk,r=>by
  simp only[RepO]at r ⊢;obtain⟨p,xs,o,e,q,dd,e2,rs⟩:=r;subst e2;exact⟨p,xs,o,e,(hk p UY).trans q,dd,rfl,Reps.mono h rs⟩
 | .l _,.non,_,_,_,r | .l _,.bl _,_,_,_,r | .l _,.int _,_,_,_,r | .l _,.str _,_,_,_,r | .l _,.tup _,_,_,_,r | .l _,.dct _ _ _,_,_,_,r=>by simp only[RepO]at r
 | .t _,.non,_,_,_,r | .t _,.bl _,_,_,_,r | .t _,.int _,_,_,_,r | .t _,.str _,_,_,_,r | .t _,.lst _,_,_,_,r | .t _,.dct _ _ _,_,_,_,r=>by simp only[RepO]at r
 | .d,.non,_,_,_,r | .d,.bl _,_,_,_,r | .d,.int _,_,_,_,r | .d,.str _,_,_,_,r | .d,.tup _,_,_,_,r | .d,.lst _,_,_,_,r=>by simp only[RepO]at r
theorem RepT.step(h:Same G G'):∀{cs:List O}{ds:List D}{xs:List V}{fp:List Addr},(∀p∈fp,H' p=H p)->RepT K G H cs ds xs fp->RepT K G' H' cs ds xs fp
 |[],[],_,_,_,r=>by simpa only[RepT] using r
 |c::cs,d::ds,xs,fp,hk,r=>by
  simp only[RepT]at r ⊢;obtain⟨y,ys,a,b,e1,e2,r1,r2⟩:=r;subst e2;exact⟨y,ys,a,b,e1,rfl,RepO.step h (fun p hp=>hk p (U4 _ hp)) r1,RepT.step h (fun p hp=>hk p (UX _ hp)) r2⟩
 |[],_::_,_,_,_,r=>by simp only[RepT]at r
 |_::_,[],_,_,_,r=>by simp only[RepT]at r
end
theorem AllO.frozen{P:D->V->List Addr->Prop}:∀{ds:List D}{xs:List V}{fp:List Addr},(∀d v a,(∀p∈a,p∈fp)->P d v a->Rep K G' d v)->AllO P ds xs fp->Reps K G' ds xs
 |[],_,_,_,r=>by simp only[Reps];exact r.1
 |d::ds,xs,fp,h,r=>by
  obtain⟨y,ys,a,b,e1,e2,p,q⟩:=r;subst e2;simp only[Reps];exact⟨y,ys,e1,h _ _ _ (fun p hp=>U4 _ hp) p,AllO.frozen (fun d v c hc=>h d v c fun p hp=>UX _ (hc p hp)) q⟩
mutual
theorem RepO.frozen(h:Same G G'):∀{o:O}{d:D}{v:V}{fp:List Addr},(∀p∈fp,∀u,H p=some u->G' p=some u)->RepO K G H o d v fp->Rep K G' d v
 | .f,d,v,fp,hk,r=>by
  simp only[RepO]at r;exact Rep.mono h r.1
 | .pin p c,d,v,fp,hk,r=>by
  simp only[RepO]at r;exact RepO.frozen h hk r.2
 | .l c,.lst ds,v,fp,hk,r=>by
  simp only[RepO]at r;simp only[Rep];obtain⟨p,xs,HZ,e,q,e2,a⟩:=r;subst e2;exact⟨p,xs,e,SqL.of (hk p UY _ q),AllO.frozen (fun d v c hc=>RepO.frozen h fun z hz=>hk z (U3 _ (hc z hz))) a⟩
 | .t cs,.tup ds,v,fp,hk,r=>by
  simp only[RepO]at r;simp only[Rep];obtain⟨p,xs,e,q,a⟩:=r;exact⟨p,xs,e,h _ _ q,RepT.frozen h hk a⟩
 | .d,.dct tk ks vs,v,fp,hk,r=>by
  simp only[RepO]at r;simp only[Rep];obtain⟨p,xs,o,e,q,dd,e2,rs⟩:=r;subst e2;exact⟨p,xs,o,e,.inl (hk p UY _ q),dd,Reps.mono h rs⟩
 | .l _,.non,_,_,_,r | .l _,.bl _,_,_,_,r | .l _,.int _,_,_,_,r | .l _,.str _,_,_,_,r | .l _,.tup _,_,_,_,r | .l _,.dct _ _ _,_,_,_,r=>by simp only[RepO]at r
 | .t _,.non,_,_,_,r | .t _,.bl _,_,_,_,r | .t _,.int _,_,_,_,r | .t _,.str _,_,_,_,r | .t _,.lst _,_,_,_,r | .t _,.dct _ _ _,_,_,_,r=>by simp only[RepO]at r
 | .d,.non,_,_,_,r | .d,.bl _,_,_,_,r | .d,.int _,_,_,_,r | .d,.str _,_,_,_,r | .d,.tup _,_,_,_,r | .d,.lst _,_,_,_,r=>by simp only[RepO]at r
theorem RepT.frozen(h:Same G G'):∀{cs:List O}{ds:List D}{xs:List V}{fp:List Addr},(∀p∈fp,∀u,H p=some u->G' p=some u)->RepT K G H cs ds xs fp->Reps K G' ds xs
 |[],[],_,_,_,r=>by simp only[RepT]at r;simp only[Reps];exact r.1
 |c::cs,d::ds,xs,fp,hk,r=>by
  simp only[RepT]at r;simp only[Reps];obtain⟨y,ys,a,b,e1,e2,r1,r2⟩:=r;subst e2;exact⟨y,ys,e1,RepO.frozen h (fun p hp=>hk p (U4 _ hp)) r1,RepT.frozen h (fun p hp=>hk p (UX _ hp)) r2⟩
 |[],_::_,_,_,_,r=>by simp only[RepT]at r
 |_::_,[],_,_,_,r=>by simp only[RepT]at r
end
theorem AllO.live{P:D->V->List Addr->Prop}:∀{ds:List D}{xs:List V}{fp:List Addr},(∀d v a,P d v a->∀p∈a,∃u,H p=some u)->AllO P ds xs fp->∀p∈fp,∃u,H p=some u
 |[],_,_,_,r=>by rw[r.2];intro p hp;cases hp
 |d::ds,xs,fp,h,r=>by
  obtain⟨y,ys,a,b,e1,e2,p,q⟩:=r;subst e2;intro z hz;rcases Vp.mp hz with hz|hz
  ·exact h _ _ _ p z hz
  ·exact AllO.live h q z hz
mutual
theorem RepO.live:∀{o:O}{d:D}{v:V}{fp:List Addr},RepO K G H o d v fp->∀p∈fp,∃u,H p=some u
 | .f,d,v,fp,r=>by
  simp only[RepO]at r;rw[r.2];intro p hp;cases hp
 | .pin p c,d,v,fp,r=>by
  simp only[RepO]at r;exact RepO.live r.2
 | .l c,.lst ds,v,fp,r=>by
  simp only[RepO]at r;obtain⟨p,xs,HZ,e,q,e2,a⟩:=r;subst e2;intro z hz;rcases U6.mp hz with rfl|hz
  ·exact⟨_,q⟩
  ·exact AllO.live (fun d v a=>RepO.live) a z hz
 | .t cs,.tup ds,v,fp,r=>by
  simp only[RepO]at r;obtain⟨p,xs,e,q,a⟩:=r;exact RepT.live a
 | .d,.dct tk ks vs,v,fp,r=>by
  simp only[RepO]at r;obtain⟨p,xs,o,e,q,dd,e2,rs⟩:=r;subst e2;intro z hz;rw[VC]at hz;exact⟨_,hz▸q⟩
 | .l _,.non,_,_,r | .l _,.bl _,_,_,r | .l _,.int _,_,_,r | .l _,.str _,_,_,r | .l _,.tup _,_,_,r | .l _,.dct _ _ _,_,_,r=>by simp only[RepO]at r
 | .t _,.non,_,_,r | .t _,.bl _,_,_,r | .t _,.int _,_,_,r | .t _,.str _,_,_,r | .t _,.lst _,_,_,r | .t _,.dct _ _ _,_,_,r=>by simp only[RepO]at r
 | .d,.non,_,_,r | .d,.bl _,_,_,r | .d,.int _,_,_,r | .d,.str _,_,_,r | .d,.tup _,_,_,r | .d,.lst _,_,_,r=>by simp only[RepO]at r
theorem RepT.live:∀{cs:List O}{ds:List D}{xs:List V}{fp:List Addr},RepT K G H cs ds xs fp->∀p∈fp,∃u,H p=some u
 |[],[],_,_,r=>by
  simp only[RepT]at r;rw[r.2];intro p hp;cases hp
 |c::cs,d::ds,xs,fp,r=>by
  simp only[RepT]at r;obtain⟨y,ys,a,b,e1,e2,r1,r2⟩:=r;subst e2;intro z hz;rcases Vp.mp hz with hz|hz
  ·exact RepO.live r1 z hz
  ·exact RepT.live r2 z hz
 |[],_::_,_,_,r=>by simp only[RepT]at r
 |_::_,[],_,_,r=>by simp only[RepT]at r
end
theorem DictO.isM{o:HO}{tk:Bool}{ks:List D}{xs:List V}(h:DictO o tk ks xs):PV.isM o=true:=by
 cases tk with
 |true=>
  obtain⟨HS,e,_⟩:=h;rw[e];rfl
 |false=>
  obtain⟨HS,e,_⟩:=h;rw[e];rfl
theorem AllO.mut{P:D->V->List Addr->Prop}:∀{ds:List D}{xs:List V}{fp:List Addr},(∀d v a,P d v a->∀p∈a,∃u,H p=some u/\isM u=true)->AllO P ds xs fp->∀p∈fp,∃u,H p=some u/\isM u=true
 |[],_,_,_,r=>by rw[r.2];intro p hp;cases hp
 |d::ds,xs,fp,h,r=>by
  obtain⟨y,ys,a,b,e1,e2,p,q⟩:=r;subst e2;intro z hz;rcases Vp.mp hz with hz|hz
  ·exact h _ _ _ p z hz
  ·exact AllO.mut h q z hz
mutual
theorem RepO.mut:∀{o:O}{d:D}{v:V}{fp:List Addr},RepO K G H o d v fp->∀p∈fp,∃u,H p=some u/\isM u=true
 | .f,d,v,fp,r=>by
  simp only[RepO]at r;rw[r.2];intro p hp;cases hp
 | .pin p c,d,v,fp,r=>by
  simp only[RepO]at r;exact RepO.mut r.2
 | .l c,.lst ds,v,fp,r=>by
  simp only[RepO]at r;obtain⟨p,xs,HZ,e,q,e2,a⟩:=r;subst e2;intro z hz;rcases U6.mp hz with rfl|hz
  ·exact⟨_,q,rfl⟩
  ·exact AllO.mut (fun d v a=>RepO.mut) a z hz
 | .t cs,.tup ds,v,fp,r=>by
  simp only[RepO]at r;obtain⟨p,xs,e,q,a⟩:=r;exact RepT.mut a
 | .d,.dct tk ks vs,v,fp,r=>by
  simp only[RepO]at r;obtain⟨p,xs,o,e,q,dd,e2,rs⟩:=r;subst e2;intro z hz;rw[VC]at hz;exact⟨_,hz▸q,dd.isM⟩
 | .l _,.non,_,_,r | .l _,.bl _,_,_,r | .l _,.int _,_,_,r | .l _,.str _,_,_,r | .l _,.tup _,_,_,r | .l _,.dct _ _ _,_,_,r=>by simp only[RepO]at r
 | .t _,.non,_,_,r | .t _,.bl _,_,_,r | .t _,.int _,_,_,r | .t _,.str _,_,_,r | .t _,.lst _,_,_,r | .t _,.dct _ _ _,_,_,r=>by simp only[RepO]at r
 | .d,.non,_,_,r | .d,.bl _,_,_,r | .d,.int _,_,_,r | .d,.str _,_,_,r | .d,.tup _,_,_,r | .d,.lst _,_,_,r=>by simp only[RepO]at r
theorem RepT.mut:∀{cs:List O}{ds:List D}{xs:List V}{fp:List Addr},RepT K G H cs ds xs fp->∀p∈fp,∃u,H p=some u/\isM u=true
 |[],[],_,_,r=>by
  simp only[RepT]at r;rw[r.2];intro p hp;cases hp
 |c::cs,d::ds,xs,fp,r=>by
  simp only[RepT]at r;obtain⟨y,ys,a,b,e1,e2,r1,r2⟩:=r;subst e2;intro z hz;rcases Vp.mp hz with hz|hz
  ·exact RepO.mut r1 z hz
  ·exact RepT.mut r2 z hz
 |[],_::_,_,_,r=>by simp only[RepT]at r
 |_::_,[],_,_,r=>by simp only[RepT]at r
end
noncomputable def RepE(K:W.Frag)(G H:Hp):Env->List (Option V)->List Addr->Prop
 |[],vs,fp=>vs=[]/\fp=[]
 |e::es,vs,fp=>∃y ys,vs=y::ys/\match e with
  |none=>RepE K G H es ys fp
  |some r=>∃v a b,y=some v/\fp=a++b/\RepO K G H r.1 r.2 v a/\RepE K G H es ys b
theorem RepE.step(h:Same G G'):∀{es:Env}{vs:List (Option V)}{fp:List Addr},(∀p∈fp,H' p=H p)->RepE K G H es vs fp->RepE K G' H' es vs fp
 |[],_,_,_,r=>r
 |none::es,vs,fp,hk,r=>by
  obtain⟨y,ys,e,r⟩:=r;exact⟨y,ys,e,RepE.step h hk r⟩
 |some r::es,vs,fp,hk,q=>by
  obtain⟨y,ys,e,v,a,b,e1,e2,r1,r2⟩:=q;subst e2;exact⟨y,ys,e,v,a,b,e1,rfl,RepO.step h (fun p hp=>hk p (U4 _ hp)) r1,RepE.step h (fun p hp=>hk p (UX _ hp)) r2⟩
theorem RepE.live:∀{es:Env}{vs:List (Option V)}{fp:List Addr},RepE K G H es vs fp->∀p∈fp,∃u,H p=some u
 |[],_,_,r=>by
  rw[r.2];intro p hp;cases hp
 |none::es,vs,fp,r=>by
  obtain⟨y,ys,e,r⟩:=r;exact RepE.live r
 |some r::es,vs,fp,q=>by
  obtain⟨y,ys,e,v,a,b,e1,e2,r1,r2⟩:=q;subst e2;intro z hz;rcases Vp.mp hz with hz|hz
  ·exact r1.live z hz
  ·exact RepE.live r2 z hz
theorem RepE.mut:∀{es:Env}{vs:List (Option V)}{fp:List Addr},RepE K G H es vs fp->∀p∈fp,∃u,H p=some u/\isM u=true
 |[],_,_,r=>by
  rw[r.2];intro p hp;cases hp
 |none::es,vs,fp,r=>by
  obtain⟨y,ys,e,r⟩:=r;exact RepE.mut r
 |some r::es,vs,fp,q=>by
  obtain⟨y,ys,e,v,a,b,e1,e2,r1,r2⟩:=q;subst e2;intro z hz;rcases Vp.mp hz with hz|hz
  ·exact r1.mut z hz
  ·exact RepE.mut r2 z hz
theorem RepE.length:∀{es:Env}{vs:List (Option V)}{fp:List Addr},RepE K G H es vs fp->vs.length=es.length
 |[],_,_,r=>by rw[r.1];rfl
 |none::es,vs,fp,r=>by
  obtain⟨y,ys,e,r⟩:=r;rw[e,Vb,Vb,RepE.length r]
 |some r::es,vs,fp,q=>by
  obtain⟨y,ys,e,v,a,b,e1,e2,r1,r2⟩:=q;rw[e,Vb,Vb,RepE.length r2]
theorem RepE.take:∀{es:Env}{vs:List (Option V)}{fp:List Addr}{i:Nat}{r:R},RepE K G H es vs fp->es[i]?=some (some r)->
  ∃v a b,vs[i]?=some (some v)/\RepO K G H r.1 r.2 v a/\RepE K G H (es.set i none) vs b/\fp.Perm (a++b)
 |[],_,_,_,_,_,e=>by simp at e
 |none::es,vs,fp,0,r,q,e=>by simp at e
 |some r'::es,vs,fp,0,r,q,e=>by
  obtain⟨y,ys,e0,v,a,b,e1,e2,r1,r2⟩:=q;simp at e;subst e;subst e0;subst e1;exact⟨v,a,b,rfl,r1,⟨some v,ys,rfl,r2⟩,by rw[e2]⟩
 |none::es,vs,fp,i+1,r,q,e=>by
  obtain⟨y,ys,e0,q⟩:=q;obtain⟨v,a,b,g1,g2,g3,g4⟩:=RepE.take q (i:=i) (r:=r) (by simpa using e);subst e0;exact⟨v,a,b,by simpa using g1,g2,⟨y,ys,rfl,g3⟩,g4⟩
 |some r'::es,vs,fp,i+1,r,q,e=>by
  obtain⟨y,ys,e0,v',a',b',e1,e2,r1,r2⟩:=q;obtain⟨v,a,b,g1,g2,g3,g4⟩:=RepE.take r2 (i:=i) (r:=r) (by simpa using e);subst e0;refine⟨v,a,a'++b,by simpa using g1,g2,⟨y,ys,rfl,v',a',b,e1,rfl,r1,g3⟩,?_⟩;rw[e2];refine(Zs a' g4).trans ?_;rw[<-V2,<-V2];exact Zc b Zt
theorem RepE.put:∀{es:Env}{vs:List (Option V)}{b:List Addr}{i:Nat}{r:R}{v:V}{a:List Addr},RepE K G H es vs b->es[i]?=some none->RepO K G H r.1 r.2 v a->
  ∃fp,RepE K G H (es.set i (some r)) (vs.set i (some v)) fp/\fp.Perm (a++b)
 |[],_,_,_,_,_,_,_,e,_=>by simp at e
 |none::es,vs,b,0,r,v,a,q,e,ro=>by
  obtain⟨y,ys,e0,q⟩:=q;subst e0;exact⟨a++b,⟨some v,ys,rfl,v,a,b,rfl,rfl,ro,q⟩,.refl _⟩
 |some r'::es,vs,b,0,r,v,a,q,e,ro=>by simp at e
 |none::es,vs,b,i+1,r,v,a,q,e,ro=>by
  obtain⟨y,ys,e0,q⟩:=q;obtain⟨fp,g1,g2⟩:=RepE.put q (i:=i) (r:=r) (by simpa using e) ro;subst e0;exact⟨fp,⟨y,_,rfl,g1⟩,g2⟩
 |some r'::es,vs,b,i+1,r,v,a,q,e,ro=>by
  obtain⟨y,ys,e0,v',a',b',e1,e2,r1,r2⟩:=q;obtain⟨fp,g1,g2⟩:=RepE.put r2 (i:=i) (r:=r) (by simpa using e) ro;subst e0;refine⟨a'++fp,⟨y,_,rfl,v',a',fp,e1,rfl,r1,g1⟩,?_⟩;rw[e2];refine(Zs a' g2).trans ?_;rw[<-V2,<-V2];exact Zc b' Zt
structure Rel(K:W.Frag)(G H:Hp)(es:Env)(vs:List (Option V))(fp:List Addr):Prop where
 rep:RepE K G H es vs fp
 nd:fp.Nodup
 gn:∀p∈fp,G p=none
 gh:Same G H
structure Step(G H:Hp)(fp:List Addr)(G' H':Hp)(HZ:List Addr):Prop where
 gg:Same G G'
 keep:∀q u,H q=some u->q∉fp->H' q=some u
 fpn:∀q∈HZ,q∈fp\/H q=none
 gnew:∀q u,G' q=some u->G q=some u\/q∈fp\/H q=none\/isT u=true/\H q=some u
 there:∀q u,H q=some u->∃u',H' q=some u'
theorem Step.refl{fp:List Addr}:Step G H fp G H fp:=⟨.refl _,fun _ _ h _=>h,fun _ h=>.inl h,fun _ _ h=>.inl h,fun _ u h=>⟨u,h⟩⟩
theorem Step.trans{G1 H1 G2 H2:Hp}{fp IF IP:List Addr}(a:Step G H fp G1 H1 IF)(b:Step G1 H1 IF G2 H2 IP):Step G H fp G2 H2 IP:=by
 refine⟨a.gg.trans b.gg,fun q u h n=>?_,fun q hq=>?_,fun q u hq=>?_,fun q u h=>?_⟩
 ·refine b.keep q u (a.keep q u h n) fun hq=>?_
  rcases a.fpn q hq with z|z
  ·exact n z
  ·rw[z]at h;cases h
 ·rcases b.fpn q hq with z|z
  ·exact a.fpn q z
  ·cases e:H q with
   |none=>exact .inr rfl
   |some u=>
    obtain⟨u',e'⟩:=a.there q u e;rw[z]at e';cases e'
 ·rcases b.gnew q u hq with z|z|z|⟨t,z⟩
  ·exact a.gnew q u z
  ·exact .inr ((a.fpn q z).imp_right .inl)
  ·cases e:H q with
   |none=>exact .inr (.inr (.inl rfl))
   |some u=>
    obtain⟨u',e'⟩:=a.there q u e;rw[z]at e';cases e'
  ·cases e:H q with
   |none=>exact .inr (.inr (.inl rfl))
   |some u2=>
    by_cases hf:q∈fp
    ·exact .inr (.inl hf)
    ·rw[a.keep q u2 e hf]at z;cases z;exact .inr (.inr (.inr ⟨t,rfl⟩))
 ·obtain⟨u',h'⟩:=a.there q u h;exact b.there q u' h'
theorem Step.perm{fq HZ Rz:List Addr}(a:Step G H fp G' H' HZ)(h:∀q,q∈fp<->q∈fq)(h':∀q∈Rz,q∈HZ):Step G H fq G' H' Rz:=
 ⟨a.gg,fun q u e n=>a.keep q u e fun z=>n ((h q).mp z),fun q hq=>(a.fpn q (h' q hq)).imp_left (h q).mp,fun q u e=>(a.gnew q u e).imp_right (Or.imp_left (h q).mp),a.there⟩
theorem Step.wide{fq HZ Rz:List Addr}(a:Step G H fp G' H' HZ)(h:∀q∈fp,q∈fq)(h':∀q∈Rz,q∈HZ\/q∈fq):Step G H fq G' H' Rz:=
 ⟨a.gg,fun q u e n=>a.keep q u e fun z=>n (h q z),fun q hq=>(h' q hq).elim (fun z=>(a.fpn q z).imp_left (h q)) .inl,fun q u e=>(a.gnew q u e).imp_right (Or.imp_left (h q)),a.there⟩
theorem Rel.perm{fq:List Addr}(r:RepE K G H es vs fq)(nd:fp.Nodup)(gn:∀p∈fp,G p=none)(gh:Same G H)(h:fp.Perm fq):Rel K G H es vs fq:=
 ⟨r,h.nodup_iff.mp nd,fun p hp=>gn p (h.mem_iff.mpr hp),gh⟩
theorem Rel.frame(q:Rel K G H (some r::es) (some v::vs) fp):
  ∃a b,fp=a++b/\RepO K G H r.1 r.2 v a/\Rel K G H es vs b/\∀(G' H':Hp) (LY:Env) (L4:List (Option V)) (b':List Addr),Step G H b G' H' b'->Rel K G' H' LY L4 b'->
   Rel K G' H' (some r::LY) (some v::L4) (a++b')/\Step G H (a++b) G' H' (a++b'):=by
 obtain⟨y,ys,e,v',a,b,e1,e2,r1,r2⟩:=q.rep;cases e;cases e1;subst e2;have nd:=Vs.mp q.nd;refine⟨a,b,rfl,r1,⟨r2,nd.2.1,fun p hp=>q.gn p (UX _ hp),q.gh⟩,fun G' H' LY L4 b' st k=>?_⟩;have nb:∀p∈a,p∉b:=fun p hp hb=>nd.2.2 p hp p hb rfl
 have same:∀p∈a,H' p=H p:=fun p hp=>by
  obtain⟨u,hu⟩:=r1.live p hp;rw[hu];exact st.keep p u hu (nb p hp)
 refine⟨⟨⟨some v,L4,rfl,v,a,b',rfl,rfl,r1.step st.gg same,k.rep⟩,?_,fun p hp=>?_,k.gh⟩,st.wide (fun p hp=>UX _ hp) fun p hp=>?_⟩
 ·rw[Vs];refine⟨nd.1,k.nd,fun p hp z hz e=>?_⟩;subst e;obtain⟨u,hu⟩:=r1.live p hp;rcases st.fpn p hz with z|z
  ·exact nb p hp z
  ·rw[z]at hu;cases hu
 ·rcases Vp.mp hp with hp|hp
  ·cases e:G' p with
   |none=>rfl
   |some u=>
    exfalso;obtain⟨u',hu⟩:=r1.live p hp;rcases st.gnew p u e with z|z|z|⟨t,z⟩
    ·rw[q.gn p (U4 _ hp)]at z;cases z
    ·exact nb p hp z
    ·rw[z]at hu;cases hu
    ·obtain⟨u2,h2,hm⟩:=r1.mut p hp;rw[z]at h2;cases h2;cases u with
     |tup _=>cases hm
     |frz _ _=>cases hm
     |_=>cases t
  ·exact k.gn p hp
 ·rcases Vp.mp hp with hp|hp
  ·exact .inr (U4 _ hp)
  ·exact .inl hp
theorem Rel.freeze(q:Rel K G H (some r::es) (some v::vs) fp):
  ∃G' b,Rep K G' r.2 v/\Rel K G' H es vs b/\Step G H fp G' H b:=by
 obtain⟨y,ys,e,v',a,b,e1,e2,r1,r2⟩:=q.rep;cases e;cases e1;subst e2;have nd:=Vs.mp q.nd;have nb:∀p∈a,p∉b:=fun p hp hb=>nd.2.2 p hp p hb rfl
 have hg:Same G (fun p=>if p∈a then H p else G p):=fun p u e=>by
  show(if p∈a then H p else G p)=some u;by_cases hp:p∈a
  ·rw[U2 hp];exact q.gh p u e
  ·rw[U9 hp];exact e
 refine⟨fun p=>if p∈a then H p else G p,b,r1.frozen hg fun p hp u e=>?_,⟨r2.step hg fun _ _=>rfl,nd.2.1,fun p hp=>?_,fun p u e=>?_⟩,⟨hg,fun _ _ e _=>e,fun p hp=>.inl (UX _ hp),fun p u e=>?_,fun _ u e=>⟨u,e⟩⟩⟩
 ·show(if p∈a then H p else G p)=some u;rw[U2 hp];exact e
 ·show(if p∈a then H p else G p)=none;rw[U9 (fun z=>nb p z hp)];exact q.gn p (UX _ hp)
 ·have e:(if p∈a then H p else G p)=some u:=e;by_cases hp:p∈a
  ·rw[U2 hp]at e;exact e
  ·rw[U9 hp]at e;exact q.gh p u e
 ·have e:(if p∈a then H p else G p)=some u:=e;by_cases hp:p∈a
  ·exact .inr (.inl (U4 _ hp))
  ·rw[U9 hp]at e;exact .inl e
end
variable{d:D}{a:List Addr}{ds:List D}{i:Nat}
section
variable{G G' H H':Hp}
theorem qy:∀{ds:List D}{xs:List V}{fp:List Addr},AllO (RepO K G H .f) ds xs fp<->Reps K G ds xs/\fp=[]
 |[],xs,fp=>by simp only[AllO,Reps]
 |d::ds,xs,fp=>by
  simp only[AllO,Reps,RepO];constructor
  ·rintro⟨y,ys,a,b,e1,e2,⟨r,e3⟩,q⟩;obtain⟨q1,q2⟩:=qy.mp q;subst e3;subst q2;exact⟨⟨y,ys,e1,r,q1⟩,e2⟩
  ·rintro⟨⟨y,ys,e1,r,q1⟩,e⟩;exact⟨y,ys,[],[],e1,e,⟨r,rfl⟩,qy.mpr ⟨q1,rfl⟩⟩
theorem eU:RepO K G H .f d v a<->Rep K G d v/\a=[]:=by simp only[RepO]
theorem bV:RepO K G H (.l .f) (.lst ds) v a<->∃p xs,v=.ref p/\H p=some (.lst xs)/\a=[p]/\Reps K G ds xs:=by
 rw[RepO];constructor
 ·rintro⟨p,xs,b,e,q,e2,r⟩;obtain⟨r',eb⟩:=qy.mp r;subst eb;exact⟨p,xs,e,q,e2,r'⟩
 ·rintro⟨p,xs,e,q,e2,r⟩;exact⟨p,xs,[],e,q,e2,qy.mpr ⟨r,rfl⟩⟩
theorem Reps.length:∀{ds:List D}{xs:List V},Reps K G ds xs->xs.length=ds.length
 |[],xs,r=>by simp only[Reps]at r;rw[r];rfl
 |d::ds,xs,r=>by
  simp only[Reps]at r;obtain⟨y,ys,e,_,q⟩:=r;rw[e,Vb,Vb,Reps.length q]
theorem Reps.get:∀{ds:List D}{xs:List V}{i:Nat}{d:D},Reps K G ds xs->ds[i]?=some d->∃v,xs[i]?=some v/\Rep K G d v
 |[],_,_,_,_,e=>by simp at e
 |d'::ds,xs,0,d,r,e=>by
  simp only[Reps]at r;obtain⟨y,ys,e1,q,_⟩:=r;simp at e;subst e;exact⟨y,by rw[e1];rfl,q⟩
 |d'::ds,xs,i+1,d,r,e=>by
  simp only[Reps]at r;obtain⟨y,ys,e1,_,q⟩:=r;obtain⟨v,a,b⟩:=Reps.get q (i:=i) (d:=d) (by simpa using e);exact⟨v,by rw[e1];simpa using a,b⟩
theorem Reps.app:∀{ds es:List D}{xs ys:List V},Reps K G ds xs->Reps K G es ys->Reps K G (ds++es) (xs++ys)
 |[],_,_,_,r,q=>by simp only[Reps]at r;rw[r];exact q
 |d::ds,es,xs,ys,r,q=>by
  simp only[Reps]at r;obtain⟨z,zs,e,r1,r2⟩:=r;rw[e];simp only[W4,Reps];exact⟨z,_,rfl,r1,r2.app q⟩
theorem Reps.one(r:Rep K G d v):Reps K G [d] [v]:=by
 simp only[Reps];exact⟨v,[],rfl,r,rfl⟩
theorem Reps.nil:Reps K G [] []:=by simp only[Reps]
theorem Reps.cons(r:Rep K G d v)(q:Reps K G ds xs):Reps K G (d::ds) (v::xs):=by
 simp only[Reps];exact⟨v,xs,rfl,r,q⟩
theorem Reps.cons_iff:Reps K G (d::ds) (v::xs)<->Rep K G d v/\Reps K G ds xs:=by
 simp only[Reps];constructor
 ·rintro⟨y,ys,e,r,q⟩;cases e;exact⟨r,q⟩
 ·rintro⟨r,q⟩;exact⟨v,xs,rfl,r,q⟩
theorem Reps.take:∀{ds:List D}{xs:List V}(n:Nat),Reps K G ds xs->Reps K G (ds.take n) (xs.take n)
 |_,_,0,_=>by rw[YF,YF];exact Reps.nil
 |[],xs,n+1,r=>by simp only[Reps]at r;rw[r];exact Reps.nil
 |d::ds,xs,n+1,r=>by
  simp only[Reps]at r;obtain⟨y,ys,e,r1,r2⟩:=r;rw[e,ZM,ZM];exact .cons r1 (r2.take n)
theorem Reps.drop:∀{ds:List D}{xs:List V}(n:Nat),Reps K G ds xs->Reps K G (ds.drop n) (xs.drop n)
 |_,_,0,r=>r
 |[],xs,n+1,r=>by simp only[Reps]at r;rw[r];exact Reps.nil
 |d::ds,xs,n+1,r=>by
  simp only[Reps]at r;obtain⟨y,ys,e,r1,r2⟩:=r;rw[e,ZN,ZN];exact r2.drop n
theorem Reps.set:∀{ds:List D}{xs:List V}(n:Nat) {d:D}{v:V},Reps K G ds xs->Rep K G d v->Reps K G (ds.set n d) (xs.set n v)
 |[],xs,n,d,v,r,q=>by simp only[Reps]at r;rw[r];exact Reps.nil
 |d'::ds,xs,0,d,v,r,q=>by
  simp only[Reps]at r;obtain⟨y,ys,e,r1,r2⟩:=r;rw[e];exact .cons q r2
 |d'::ds,xs,n+1,d,v,r,q=>by
  simp only[Reps]at r;obtain⟨y,ys,e,r1,r2⟩:=r;rw[e];exact .cons r1 (r2.set n q)
theorem Step.cut{fq:List Addr}(h:∀q∈fq,q∈fp):Step G H fp G H fq:=⟨.refl _,fun _ _ e _=>e,fun q hq=>.inl (h q hq),fun _ _ e=>.inl e,fun _ u e=>⟨u,e⟩⟩
theorem Rel.drop{y:Option V}(q:Rel K G H (some r::es) (y::vs) fp):∃b,Rel K G H es vs b/\Step G H fp G H b:=by
 obtain⟨y,ys,e,v',a,b,e1,e2,r1,r2⟩:=q.rep;cases e;cases e1;subst e2;have nd:=Vs.mp q.nd;exact⟨b,⟨r2,nd.2.1,fun p hp=>q.gn p (UX _ hp),q.gh⟩,Step.cut fun p hp=>UX _ hp⟩
theorem Rel.top(q:Rel K G H (some r::es) (some v::vs) fp):Rep K H r.2 v:=by
 obtain⟨y,ys,e,v',a,b,e1,e2,r1,r2⟩:=q.rep;cases e;cases e1;exact r1.frozen q.gh fun p hp u e=>e
theorem Rel.out(q:Rel K G H es vs fp)(e:es[i]?=some (some r)):∃v fq,vs[i]?=some (some v)/\Rel K G H (some r::es.set i none) (some v::vs) fq/\Step G H fp G H fq/\Step G H fq G H fp:=by
 obtain⟨v,a,b,e1,r1,r2,pm⟩:=q.rep.take e;exact⟨v,a++b,e1,Rel.perm ⟨some v,vs,rfl,v,a,b,rfl,rfl,r1,r2⟩ q.nd q.gn q.gh pm,Step.cut fun p hp=>pm.mem_iff.mpr hp,Step.cut fun p hp=>pm.mem_iff.mp hp⟩
theorem Rel.view(q:Rel K G H es vs fp)(e:es[i]?=some (some r)):∃v,vs[i]?=some (some v)/\Rep K H r.2 v:=by
 obtain⟨v,fq,e1,r1,_⟩:=q.out e;exact⟨v,e1,r1.top⟩
theorem fB{α:Type}{l:List α}{x:α}(h:l[i]?=some x):l.set i x=l:=by
 apply YL;intro j;by_cases e:i=j
 ·subst e;rw[Wa (U1.mp h).1,h]
 ·rw[XE e]
theorem Rel.store(q:Rel K G H (some r::es) (some v::vs) fp)(hi:i<es.length):∃fq,Rel K G H (es.set i (some r)) (vs.set i (some v)) fq/\Step G H fp G H fq:=by
 obtain⟨y,ys,e,v',a,b,e1,e2,r1,r2⟩:=q.rep;cases e;cases e1;subst e2;obtain⟨c,hc⟩:∃c,es[i]?=some c:=⟨_,US hi⟩
 have nd:=Vs.mp q.nd;have key:∃b',RepE K G H (es.set i none) vs b'/\(∀p∈b',p∈b)/\b'.Nodup:=by
  cases c with
  |none=>exact⟨b,by rw[fB hc];exact r2,fun _ h=>h,nd.2.1⟩
  |some r'=>
   obtain⟨v2,a2,b2,_,_,g,pm⟩:=r2.take hc;refine⟨b2,g,fun p hp=>pm.mem_iff.mpr (UX _ hp),?_⟩;exact(Vs.mp (pm.nodup_iff.mp nd.2.1)).2.1
 obtain⟨b',g,sub,ndb⟩:=key;obtain⟨fq,g2,pm⟩:=g.put (i:=i) (r:=r) (v:=v) (by rw[Wa hi]) r1;rw[WA]at g2;have hnd:(a++b').Nodup:=by
  rw[Vs];exact⟨nd.1,ndb,fun p hp z hz=>nd.2.2 p hp z (sub z hz)⟩
 refine⟨fq,Rel.perm g2 hnd (fun p hp=>?_) q.gh pm.symm,Step.cut fun p hp=>?_⟩
 ·refine q.gn p ?_;rcases Vp.mp hp with hp|hp
  ·exact U4 _ hp
  ·exact UX _ (sub p hp)
 ·rcases Vp.mp (pm.mem_iff.mp hp) with hp|hp
  ·exact U4 _ hp
  ·exact UX _ (sub p hp)
theorem Rel.back(q:Rel K G H (some r::es) (some v::vs) fp)(hi:i<es.length)(hv:vs[i]?=some (some v)):∃fq,Rel K G H (es.set i (some r)) vs fq/\Step G H fp G H fq:=by
 obtain⟨fq,g,st⟩:=q.store hi;rw[fB hv]at g;exact⟨fq,g,st⟩
theorem Rel.freezeAt(q:Rel K G H es vs fp)(e:es[i]?=some (some r)):∃v G' fq,vs[i]?=some (some v)/\Rep K G' r.2 v/\Rel K G' H (es.set i (some (.f,r.2))) vs fq/\Step G H fp G' H fq:=by
 obtain⟨v,fq,ev,g,st,_⟩:=q.out e;obtain⟨G',b,rv,g2,Ib⟩:=g.freeze;have g3:Rel K G' H (some (.f,r.2)::es.set i none) (some v::vs) b:=by
  refine⟨⟨some v,vs,rfl,v,[],b,rfl,rfl,?_,g2.rep⟩,g2.nd,g2.gn,g2.gh⟩;exact eU.mpr ⟨rv,rfl⟩
 obtain⟨fz,g4,IZ⟩:=g3.back (i:=i) (by rw[VI];exact(U1.mp e).1) ev;rw[WA]at g4;exact⟨v,G',fz,ev,rv,g4,st.trans (Ib.trans IZ)⟩
theorem Rel.push(q:Rel K G H es vs fp)(r:Rep K G d v):Rel K G H (some (.f,d)::es) (some v::vs) fp:=by
 refine⟨⟨some v,vs,rfl,v,[],fp,rfl,rfl,?_,q.rep⟩,q.nd,q.gn,q.gh⟩;exact eU.mpr ⟨r,rfl⟩
theorem Rel.newF(q:Rel K G H es vs fp)(hp:H p=none):Rel K (upd G p u) (upd H p u) es vs fp/\Step G H fp (upd G p u) (upd H p u) fp:=by
 have gp:G p=none:=by
  cases e:G p with
  |none=>rfl
  |some o=>rw[q.gh p o e]at hp;cases hp
 have np:p∉fp:=fun z=>by
  obtain⟨u,e⟩:=q.rep.live p z;rw[hp]at e;cases e
 have sg:Same G (upd G p u):=fun b o e=>by rw[aq (aN e gp)];exact e
 have sh:Same H (upd H p u):=fun b o e=>by rw[aq (aN e hp)];exact e
 refine⟨⟨q.rep.step sg fun z hz=>aq fun e=>np (e▸hz),q.nd,fun z hz=>?_,fun b o e=>?_⟩,⟨sg,fun b o e _=>sh b o e,fun _ h=>.inl h,fun b o e=>?_,fun b o e=>⟨o,sh b o e⟩⟩⟩
 ·have:z≠p:=fun e=>np (e▸hz)
  rw[aq this];exact q.gn z hz
 ·by_cases hb:b=p
  ·subst hb;rw[aH]at e ⊢;exact e
  ·rw[aq hb]at e ⊢;exact q.gh b o e
 ·by_cases hb:b=p
  ·subst hb;exact .inr (.inr (.inl hp))
  ·rw[aq hb]at e;exact .inl e
theorem Rel.newL(q:Rel K G H es vs fp)(hp:H p=none)(r:Reps K G ds xs):
  Rel K G (upd H p (.lst xs)) (some (.l .f,.lst ds)::es) (some (.ref p)::vs) (p::fp)/\Step G H fp G (upd H p (.lst xs)) (p::fp):=by
 have gp:G p=none:=by
  cases e:G p with
  |none=>rfl
  |some o=>rw[q.gh p o e]at hp;cases hp
 have np:p∉fp:=fun z=>by
  obtain⟨u,e⟩:=q.rep.live p z;rw[hp]at e;cases e
 have sh:Same H (upd H p (.lst xs)):=fun b o e=>by rw[aq (aN e hp)];exact e
 refine⟨⟨⟨some (.ref p),vs,rfl,.ref p,[p],fp,rfl,rfl,bV.mpr ⟨p,xs,rfl,aH,rfl,r⟩,q.rep.step (.refl _) fun z hz=>aq fun e=>np (e▸hz)⟩,VP.mpr ⟨np,q.nd⟩,fun z hz=>?_,fun b o e=>?_⟩,
  ⟨.refl _,fun b o e _=>sh b o e,fun b hb=>?_,fun b o e=>.inl e,fun b o e=>⟨o,sh b o e⟩⟩⟩
 ·rcases U6.mp hz with rfl|hz
  ·exact gp
  ·exact q.gn z hz
 ·exact sh b o (q.gh b o e)
 ·rcases U6.mp hb with rfl|hb
  ·exact .inr hp
  ·exact .inl hb
theorem Rel.chg{ds':List D}(q:Rel K G H es vs fp)(e:es[i]?=some (some (.l .f,.lst ds))):∃p xs,vs[i]?=some (some (.ref p))/\H p=some (.lst xs)/\Reps K G ds xs/\
  ∀Jj,Reps K G ds' Jj->∃fq,Rel K G (upd H p (.lst Jj)) (es.set i (some (.l .f,.lst ds'))) vs fq/\Step G H fp G (upd H p (.lst Jj)) fq:=by
 obtain⟨v,fq,ev,g,st,LV⟩:=q.out e;obtain⟨y,ys,e0,v',a,b,e1,e2,r1,r2⟩:=g.rep;cases e0;cases e1;obtain⟨p,xs,e3,hp,e4,rs⟩:=bV.mp r1;subst e3;subst e4;subst e2;have nd:=VP.mp (show(p::b).Nodup from g.nd);refine⟨p,xs,ev,hp,rs,fun Jj JT=>?_⟩;have g2:Rel K G (upd H p (.lst Jj)) (some (.l .f,.lst ds')::es.set i none) (some (.ref p)::vs) (p::b):=by
  refine⟨⟨some (.ref p),vs,rfl,.ref p,[p],b,rfl,rfl,bV.mpr ⟨p,Jj,rfl,aH,rfl,JT⟩,r2.step (.refl _) fun z hz=>aq fun e=>nd.1 (e▸hz)⟩,g.nd,g.gn,fun z o ez=>?_⟩;have:z≠p:=fun w=>by
   subst w;rw[g.gn z UY]at ez;cases ez
  rw[aq this];exact g.gh z o ez
 have RA:Step G H (p::b) G (upd H p (.lst Jj)) (p::b):=by
  refine⟨.refl _,fun z o ez nz=>?_,fun z hz=>.inl hz,fun z o ez=>.inl ez,fun z o ez=>?_⟩
  ·have:z≠p:=fun w=>nz (by rw[w];exact UY)
   rw[aq this];exact ez
  ·by_cases w:z=p
   ·subst w;exact⟨_,aH⟩
   ·exact⟨o,by rw[aq w];exact ez⟩
 obtain⟨fz,g3,IL⟩:=g2.back (i:=i) (by rw[VI];exact(U1.mp e).1) ev;rw[WA]at g3;exact⟨fz,g3,st.trans (RA.trans IL)⟩
end
mutual
noncomputable def cR:D->Bool
 | .tup ds=>H0 ds
 | .lst _=>false
 | .dct _ _ _=>false
 |_=>true
noncomputable def H0:List D->Bool
 |[]=>true
 |d::ds=>cR d&&H0 ds
end
mutual
noncomputable def aP:O->D->Bool
 | .f,d=>cR d
 | .l c,.lst ds=>ds.all (aP c)
 | .t cs,.tup ds=>qz cs ds
 | .d,.dct _ _ vs=>H0 vs
 | .pin _ c,d=>aP c d
 |_,_=>false
noncomputable def qz:List O->List D->Bool
 |[],[]=>true
 |c::cs,d::ds=>aP c d&&qz cs ds
 |_,_=>false
end
def frz:Option R->Option R:=Option.map fun r=>(.f,r.2)
theorem cO:∀ds,H0 ds=ds.all cR
 |[]=>rfl
 |d::ds=>by rw[H0,Xg,cO ds]
section
variable{G G' G2 G3 H H' H2:Hp}
mutual
theorem Rep.flat(h:∀p u,isT u=true->G2 p=some u->G3 p=some u):∀{d:D}{v:V},cR d=true->Rep K G2 d v->Rep K G3 d v
 | .non,_,_,r=>by simpa only[Rep] using r
 | .bl _,_,_,r=>by simpa only[Rep] using r
 | .int _,_,_,r=>by simpa only[Rep] using r
 | .str _,_,_,r=>by simpa only[Rep] using r
 | .tup ds,_,e,r=>by
  simp only[Rep]at r ⊢;simp only[cR]at e;obtain⟨p,xs,ev,q,rs⟩:=r;exact⟨p,xs,ev,h _ _ rfl q,Reps.flat h e rs⟩
 | .lst ds,_,e,r=>by simp only[cR]at e;cases e
 | .dct _ _ _,_,e,r=>by simp only[cR]at e;cases e
theorem Reps.flat(h:∀p u,isT u=true->G2 p=some u->G3 p=some u):∀{ds:List D}{xs:List V},H0 ds=true->Reps K G2 ds xs->Reps K G3 ds xs
 |[],_,_,r=>by simpa only[Reps] using r
 |d::ds,_,e,r=>by
  simp only[Reps]at r ⊢;simp only[H0,Ve]at e;obtain⟨y,ys,ev,r1,r2⟩:=r;exact⟨y,ys,ev,Rep.flat h e.1 r1,Reps.flat h e.2 r2⟩
end
theorem AllO.clean{P P':D->V->List Addr->Prop}{c:D->Bool}:∀{ds:List D}{xs:List V}{fp:List Addr},(∀d v a,c d=true->P d v a->P' d v a)->ds.all c=true->AllO P ds xs fp->AllO P' ds xs fp
 |[],_,_,_,_,r=>r
 |d::ds,xs,fp,h,e,r=>by
  obtain⟨y,ys,a,b,e1,e2,p,q⟩:=r;rw[Xg,Ve]at e;exact⟨y,ys,a,b,e1,e2,h _ _ _ e.1 p,AllO.clean h e.2 q⟩
mutual
theorem RepO.clean(h:∀p u,isT u=true->G2 p=some u->G3 p=some u):∀{o:O}{d:D}{v:V}{fp:List Addr},aP o d=true->RepO K G2 H o d v fp->RepO K G3 H o d v fp
 | .f,d,v,fp,e,r=>by
  simp only[RepO]at r ⊢;simp only[aP]at e;exact⟨r.1.flat h e,r.2⟩
 | .pin p c,d,v,fp,e,r=>by
  simp only[RepO]at r ⊢;simp only[aP]at e;exact⟨r.1,RepO.clean h e r.2⟩
 | .l c,.lst ds,v,fp,e,r=>by
  rw[RepO]at r ⊢;rw[aP]at e;obtain⟨p,xs,HZ,ev,q,e2,a⟩:=r;exact⟨p,xs,HZ,ev,q,e2,AllO.clean (fun d v a=>RepO.clean h) e a⟩
 | .t cs,.tup ds,v,fp,e,r=>by
  rw[RepO]at r ⊢;rw[aP]at e;obtain⟨p,xs,ev,q,a⟩:=r;exact⟨p,xs,ev,h _ _ rfl q,RepT.clean h e a⟩
 | .d,.dct tk ks vs,v,fp,e,r=>by
  rw[RepO]at r ⊢;rw[aP]at e;obtain⟨p,xs,o,ev,q,dd,e2,rs⟩:=r;exact⟨p,xs,o,ev,q,dd,e2,rs.flat h e⟩
 | .l _,.non,_,_,_,r | .l _,.bl _,_,_,_,r | .l _,.int _,_,_,_,r | .l _,.str _,_,_,_,r | .l _,.tup _,_,_,_,r | .l _,.dct _ _ _,_,_,_,r=>by simp only[RepO]at r
 | .t _,.non,_,_,_,r | .t _,.bl _,_,_,_,r | .t _,.int _,_,_,_,r | .t _,.str _,_,_,_,r | .t _,.lst _,_,_,_,r | .t _,.dct _ _ _,_,_,_,r=>by simp only[RepO]at r
 | .d,.non,_,_,_,r | .d,.bl _,_,_,_,r | .d,.int _,_,_,_,r | .d,.str _,_,_,_,r | .d,.tup _,_,_,_,r | .d,.lst _,_,_,_,r=>by simp only[RepO]at r
theorem RepT.clean(h:∀p u,isT u=true->G2 p=some u->G3 p=some u):∀{cs:List O}{ds:List D}{xs:List V}{fp:List Addr},qz cs ds=true->RepT K G2 H cs ds xs fp->RepT K G3 H cs ds xs fp
 |[],[],_,_,_,r=>by simpa only[RepT] using r
 |c::cs,d::ds,xs,fp,e,r=>by
  rw[RepT]at r ⊢;rw[qz,Ve]at e;obtain⟨y,ys,a,b,e1,e2,r1,r2⟩:=r;exact⟨y,ys,a,b,e1,e2,RepO.clean h e.1 r1,RepT.clean h e.2 r2⟩
 |[],_::_,_,_,_,r=>by simp only[RepT]at r
 |_::_,[],_,_,_,r=>by simp only[RepT]at r
end
theorem RepE.frz(h:Same G G'):∀{es:Env}{vs:List (Option V)}{fp:List Addr},(∀p∈fp,∀u,H p=some u->G' p=some u)->RepE K G H es vs fp->RepE K G' H' (es.map PV.frz) vs []
 |[],_,_,_,r=>⟨r.1,rfl⟩
 |none::es,vs,fp,hk,r=>by
  obtain⟨y,ys,e,r⟩:=r;exact⟨y,ys,e,RepE.frz h hk r⟩
 |some r::es,vs,fp,hk,q=>by
  obtain⟨y,ys,e,v,a,b,e1,e2,r1,r2⟩:=q;subst e2;exact⟨y,ys,e,v,[],[],e1,rfl,eU.mpr ⟨r1.frozen h (fun p hp=>hk p (U4 _ hp)),rfl⟩,RepE.frz h (fun p hp=>hk p (UX _ hp)) r2⟩
theorem RepE.rep(h:Same G G'):∀{es:Env}{vs:List (Option V)}{fp:List Addr}{i:Nat}{r:R}{v:V},(∀p∈fp,∀u,H p=some u->G' p=some u)->RepE K G H es vs fp->es[i]?=some (some r)->vs[i]?=some (some v)->Rep K G' r.2 v:=fun{es vs fp i r v} hk q e ev=>by
 obtain⟨v',a,b,e1,r1,_,pm⟩:=q.take e;rw[ev]at e1;cases e1;exact r1.frozen h fun p hp=>hk p (pm.mem_iff.mpr (U4 _ hp))
theorem Rel.lend(q:Rel K G H es vs fp):∃G1,Same G G1/\Same G1 H/\(∀(i:Nat) (r:R) (v:V),es[i]?=some (some r)->vs[i]?=some (some v)->Rep K G1 r.2 v)/\
  RepE K G1 H (es.map PV.frz) vs []/\
  ∀(H2 G2:Hp) (IP:List Addr) (r:R) (v:V),Step G1 H [] G2 H2 IP->Rel K G2 H2 [some r] [some v] IP->
   (aP r.1 r.2=true->∃G3 JU,Step G H fp G3 H2 JU/\Rel K G3 H2 (some r::es) (some v::vs) JU)/\
   ∃G3 JU,Step G H fp G3 H2 JU/\Rel K G3 H2 (some r::es.map PV.frz) (some v::vs) JU:=by
 have hg:Same G (fun p=>if p∈fp then H p else G p):=fun p u e=>by
  show(if p∈fp then H p else G p)=some u;by_cases hp:p∈fp
  ·rw[U2 hp];exact q.gh p u e
  ·rw[U9 hp];exact e
 have hh:Same (fun p=>if p∈fp then H p else G p) H:=fun p u e=>by
  have e:(if p∈fp then H p else G p)=some u:=e;by_cases hp:p∈fp
  ·rw[U2 hp]at e;exact e
  ·rw[U9 hp]at e;exact q.gh p u e
 have hk:∀p∈fp,∀u,H p=some u->(fun p=>if p∈fp then H p else G p) p=some u:=fun p hp u e=>by
  show(if p∈fp then H p else G p)=some u;rw[U2 hp];exact e
 refine⟨fun p=>if p∈fp then H p else G p,hg,hh,fun i r v e ev=>q.rep.rep hg hk e ev,q.rep.frz hg hk,fun H2 G2 IP r v st k=>?_⟩;obtain⟨y,ys,e0,v',a,b,e1,e2,r1,r2⟩:=k.rep;cases e0;cases e1;obtain⟨_,e3⟩:=r2;subst e3;rw[Vu]at e2;subst e2;have fresh:∀p∈IP,H p=none:=fun p hp=>by
  rcases st.fpn p hp with z|z
  ·cases z
  ·exact z
 have kept:∀p∈fp,H2 p=H p:=fun p hp=>by
  obtain⟨u,hu⟩:=q.rep.live p hp;rw[hu];exact st.keep p u hu (by simp)
 refine⟨fun cl=>?_,⟨G2,IP,⟨hg.trans st.gg,fun p u e n=>st.keep p u e (by simp),fun p hp=>.inr (fresh p hp),fun p u e=>?_,st.there⟩,?_⟩⟩
 ·have apart:∀p∈IP,p∉fp:=fun p hp hf=>by
   obtain⟨u,hu⟩:=q.rep.live p hf;rw[fresh p hp]at hu;cases hu
  have g3:Same G (fun p=>if p∈fp then none else G2 p):=fun p u e=>by
   show(if p∈fp then none else G2 p)=some u;rw[U9 (fun z=>by rw[q.gn p z]at e;cases e)];exact st.gg p u (hg p u e)
  refine⟨fun p=>if p∈fp then none else G2 p,IP++fp,⟨g3,fun p u e n=>st.keep p u e (by simp),fun p hp=>?_,fun p u e=>?_,st.there⟩,⟨⟨some v,vs,rfl,v,IP,fp,rfl,rfl,r1.clean (fun p u t e=>?_) cl,q.rep.step g3 kept⟩,?_,fun p hp=>?_,fun p u e=>?_⟩⟩
  ·rcases Vp.mp hp with hp|hp
   ·exact .inr (fresh p hp)
   ·exact .inl hp
  ·have e:(if p∈fp then none else G2 p)=some u:=e;by_cases hp:p∈fp
   ·rw[U2 hp]at e;cases e
   ·rw[U9 hp]at e;rcases st.gnew p u e with z|z|z
    ·have z:(if p∈fp then H p else G p)=some u:=z;rw[U9 hp]at z;exact .inl z
    ·cases z
    ·exact .inr (.inr z)
  ·show(if p∈fp then none else G2 p)=some u;by_cases hp:p∈fp
   ·exfalso;obtain⟨u',hu,hm⟩:=q.rep.mut p hp;have:=st.gg p u' (hk p hp u' hu);rw[e]at this;cases this;cases u with
    |lst _=>cases t
    |dK _=>cases t
    |dT _=>cases t
    |_=>cases hm
   ·rw[U9 hp];exact e
  ·rw[Vs];exact⟨k.nd,q.nd,fun p hp z hz e=>apart p hp (e▸hz)⟩
  ·show(if p∈fp then none else G2 p)=none;by_cases hf:p∈fp
   ·rw[U2 hf]
   ·rw[U9 hf];rcases Vp.mp hp with hp|hp
    ·exact k.gn p hp
    ·exact absurd hp hf
  ·have e:(if p∈fp then none else G2 p)=some u:=e;by_cases hp:p∈fp
   ·rw[U2 hp]at e;cases e
   ·rw[U9 hp]at e;exact k.gh p u e
 ·rcases st.gnew p u e with z|z|z
  ·have z:(if p∈fp then H p else G p)=some u:=z;by_cases hp:p∈fp
   ·exact .inr (.inl hp)
   ·rw[U9 hp]at z;exact .inl z
  ·cases z
  ·exact .inr (.inr z)
 ·refine⟨⟨some v,vs,rfl,v,IP,[],rfl,(Vu _).symm,r1,q.rep.frz (hg.trans st.gg) fun p hp u e=>st.gg p u (hk p hp u e)⟩,k.nd,k.gn,k.gh⟩
end
end PV
open PySem PySem.Spec PyProof.Rows L2 NX
namespace PV
def Res.bind{α β:Type}:Res α->(α->Res β)->Res β
 | .ok a,f=>f a
 | .exc c,_=>.exc c
 | .bad,_=>.bad
inductive BindOk{α β:Type}(x:Res α)(f:α->Res β)(b:β):Prop
 |mk (a:α) (h:x=.ok a) (k:f a=.ok b):BindOk x f b
variable{α:Type}
theorem ai{β:Type}{x:Res α}{f:α->Res β}{b:β}(h:x.bind f=.ok b):BindOk x f b:=by
 cases x with
 |ok a=>exact⟨a,rfl,h⟩
 |exc c=>cases h
 |bad=>cases h
inductive Opd where
 |val (d:D)|var (i:Nat)
def OpdOk(K:W.Frag)(G:Hp)(σ:L2.St):Opd->V->Prop
 | .val d,v=>Rep K G d v
 | .var i,v=>σ[i]?=some (some v)
theorem OpdOk.mono{K:W.Frag}{G G':Hp}{σ:L2.St}{o:Opd}{v:V}(h:Same G G')(r:OpdOk K G σ o v):OpdOk K G' σ o v:=by
 cases o with
 |val d=>exact Rep.mono h r
 |var i=>exact r
def qA(K:W.Frag)(G:Hp)(σ:L2.St):List Opd->List V->Prop
 |[],vs=>vs=[]
 |o::os,vs=>∃y ys,vs=y::ys/\OpdOk K G σ o y/\qA K G σ os ys
def yJ:O->Bool
 | .f=>true
 | .l .f=>true
 | .d=>true
 | .pin _ .f=>true
 | .pin _ (.l .f)=>true
 | .pin _ .d=>true
 |_=>false
def JV(env:PV.Env):Opd->Res D
 | .val d=>.ok d
 | .var i=>match env[i]? with
  |some (some r)=>if yJ r.1 then .ok r.2 else .bad
  |_=>.bad
def sI(env:PV.Env):Opd->Res D
 | .val d=>.ok d
 | .var i=>match env[i]? with
  |some (some r)=>.ok r.2
  |_=>.bad
def qB(env:PV.Env):List Opd->Res (List D)
 |[]=>.ok []
 |o::os=>(JV env o).bind fun d=>(qB env os).bind fun ds=>.ok (d::ds)
def kU(env:PV.Env):List Opd->Res (List D)
 |[]=>.ok []
 |o::os=>(sI env o).bind fun d=>(kU env os).bind fun ds=>.ok (d::ds)
def Vw(K:W.Frag)(G H:Hp):D->V->Prop
 | .lst ds,v=>∃p xs,v=.ref p/\SqL K H p xs/\Reps K G ds xs
 | .dct tk ks vs,v=>∃p xs o,v=.ref p/\Rd H p o/\DictO o tk ks xs/\Reps K G vs xs
 |d,v=>Rep K G d v
def RB(K:W.Frag)(G H:Hp):List D->List V->Prop
 |[],vs=>vs=[]
 |d::ds,vs=>∃y ys,vs=y::ys/\Vw K G H d y/\RB K G H ds ys
variable{K:W.Frag}{G H:Hp}{es:PV.Env}{σ:L2.St}{a fp:List Addr}{d:D}{v:V}
section
variable{G' H':Hp}
theorem Vw.of(gh:Same G H)(r:Rep K G d v):Vw K G H d v:=by
 cases d with
 |lst ds=>
  rw[Rep]at r;obtain⟨p,xs,e,q,rs⟩:=r;exact⟨p,xs,e,gN gh q,rs⟩
 |dct tk ks vs=>
  rw[Rep]at r;obtain⟨p,xs,o,e,q,dd,rs⟩:=r;exact⟨p,xs,o,e,PV.Rd.mono gh q,dd,rs⟩
 |_=>exact r
theorem Vw.rep(gh:Same G H)(r:Vw K G H d v):Rep K H d v:=by
 cases d with
 |lst ds=>
  obtain⟨p,xs,e,q,rs⟩:=r;rw[Rep];exact⟨p,xs,e,q,rs.mono gh⟩
 |dct tk ks vs=>
  obtain⟨p,xs,o,e,q,dd,rs⟩:=r;rw[Rep];exact⟨p,xs,o,e,q,dd,rs.mono gh⟩
 |non=>exact Rep.mono gh r
 |bl b=>exact Rep.mono gh r
 |int i=>exact Rep.mono gh r
 |str l=>exact Rep.mono gh r
 |tup ds=>exact Rep.mono gh r
theorem RepO.vw0{o:O}(gh:Same G H)(hs:o=.f\/o=.l .f\/o=.d)(r:RepO K G H o d v a):Vw K G H d v:=by
 rcases hs with rfl|rfl|rfl
 ·exact Vw.of gh (eU.mp r).1
 ·cases d with
  |lst ds=>
   obtain⟨p,xs,e,q,_,rs⟩:=bV.mp r;exact⟨p,xs,e,SqL.of q,rs⟩
  |_=>simp only[RepO]at r
 ·cases d with
  |dct tk ks vs=>
   rw[RepO]at r;obtain⟨p,xs,o,e,q,dd,_,rs⟩:=r;exact⟨p,xs,o,e,.inl q,dd,rs⟩
  |_=>simp only[RepO]at r
theorem RepO.vw{o:O}(gh:Same G H)(hs:yJ o=true)(r:RepO K G H o d v a):Vw K G H d v:=by
 unfold yJ at hs;split at hs
 ·exact r.vw0 gh (.inl rfl)
 ·exact r.vw0 gh (.inr (.inl rfl))
 ·exact r.vw0 gh (.inr (.inr rfl))
 ·rw[RepO]at r;exact r.2.vw0 gh (.inl rfl)
 ·rw[RepO]at r;exact r.2.vw0 gh (.inr (.inl rfl))
 ·rw[RepO]at r;exact r.2.vw0 gh (.inr (.inr rfl))
 ·cases hs
theorem Rel.vw{o:Opd}{v:V}{d:D}(q:Rel K G H es σ fp)(k:OpdOk K G σ o v)(e:JV es o=.ok d):Vw K G H d v:=by
 cases o with
 |val d'=>
  cases e;exact Vw.of q.gh k
 |var i=>
  unfold JV at e;dsimp only at e;split at e
  ·rename_i r hr;split at e
   ·rename_i hs;cases e;obtain⟨v',a,b,ev,r1,_⟩:=q.rep.take hr;have k:σ[i]?=some (some v):=k;rw[k]at ev;cases ev;exact r1.vw q.gh hs
   ·cases e
  ·cases e
theorem Rel.vwA{o:Opd}(q:Rel K G H es σ fp)(k:OpdOk K G σ o v)(e:sI es o=.ok d):Rep K H d v:=by
 cases o with
 |val d'=>
  cases e;exact Rep.mono q.gh k
 |var i=>
  unfold sI at e;dsimp only at e;split at e
  ·rename_i r hr;cases e;obtain⟨v',ev,r1⟩:=q.view hr;have k:σ[i]?=some (some v):=k;rw[k]at ev;cases ev;exact r1
  ·cases e
theorem Rel.vws(q:Rel K G H es σ fp):∀{os:List Opd}{vs:List V}{ds:List D},qA K G σ os vs->qB es os=.ok ds->RB K G H ds vs
 |[],_,_,k,e=>by
  cases e;exact k
 |o::os,_,_,⟨y,ys,e0,k1,k2⟩,e=>by
  unfold qB at e;obtain⟨d,e1,e⟩:=ai e;obtain⟨ds,e2,e⟩:=ai e;cases e;exact⟨y,ys,e0,q.vw k1 e1,Rel.vws q k2 e2⟩
theorem jZ{G1:Hp}(gg:Same G G1)(ht:∀(i:Nat) (r:R) (v:V),es[i]?=some (some r)->σ[i]?=some (some v)->Rep K G1 r.2 v):∀{os:List Opd}{vs:List V}{ds:List D},qA K G σ os vs->kU es os=.ok ds->Reps K G1 ds vs
 |[],_,_,k,e=>by
  cases e;have k:_=_:=k;rw[k];exact Reps.nil
 |o::os,_,_,⟨y,ys,e0,k1,k2⟩,e=>by
  unfold kU at e;obtain⟨d,e1,e⟩:=ai e;obtain⟨ds,e2,e⟩:=ai e;cases e;rw[e0];refine .cons ?_ (jZ gg ht k2 e2);cases o with
  |val d'=>
   cases e1;exact Rep.mono gg k1
  |var i=>
   unfold sI at e1;dsimp only at e1;split at e1
   ·rename_i r hr;cases e1;exact ht i r y hr k1
   ·cases e1
end
abbrev FX:=PV.Env->Res (R×PV.Env)
abbrev FO:=PV.Env->Res (Opd×PV.Env)
abbrev FOs:=PV.Env->Res (List Opd×PV.Env)
abbrev FT:=PV.Env->Res (Bool×PV.Env)
inductive Out where
 |nx (env:PV.Env)|rt (r:R)|bk (env:PV.Env)|ct (env:PV.Env)
abbrev FS:=PV.Env->Res Out
inductive tQ(K:W.Frag)(f:FX)(σ:L2.St)(H:Hp)(Q:VK):Prop
 |mk:∀G env fp r env',Rel K G H env σ fp->f env=.ok (r,env')->(∀v H' G' HZ,Step G H fp G' H' HZ->Rel K G' H' (some r::env') (some v::σ) HZ->Q v H')->tQ K f σ H Q
inductive tO(K:W.Frag)(f:FO)(σ:L2.St)(H:Hp)(Q:VK):Prop
 |mk:∀G env fp o env',Rel K G H env σ fp->f env=.ok (o,env')->(∀v H' G' HZ,Step G H fp G' H' HZ->Rel K G' H' env' σ HZ->OpdOk K G' σ o v->Q v H')->tO K f σ H Q
inductive tOs(K:W.Frag)(f:FOs)(σ:L2.St)(H:Hp)(Q:List V->Hp->Prop):Prop
 |mk:∀G env fp o env',Rel K G H env σ fp->f env=.ok (o,env')->(∀v H' G' HZ,Step G H fp G' H' HZ->Rel K G' H' env' σ HZ->qA K G' σ o v->Q v H')->tOs K f σ H Q
inductive tQT(K:W.Frag)(f:FT)(σ:L2.St)(H:Hp)(Q:Bool->Hp->Prop):Prop
 |mk:∀G env fp b env',Rel K G H env σ fp->f env=.ok (b,env')->(∀H' G' HZ,Step G H fp G' H' HZ->Rel K G' H' env' σ HZ->Q b H')->tQT K f σ H Q
inductive Mode where
 |plain|mut
def Gn(md:Mode)(K:W.Frag)(G H:Hp)(r:R)(v:V)(fp:List Addr):Prop:=match md with
 | .plain=>Rel K G H [some r] [some v] fp
 | .mut=>∃o d p c d0,r=(.t [o,.pin p c],.tup [d,d0])/\Rel K G H [some (o,d),some (.pin p c,d0)] [some v,some (.ref p)] fp
noncomputable def OutOk{md:Mode}(K:W.Frag)(G H:Hp)(fp:List Addr)(Dd:Ends):Res Out->Prop
 | .ok (.nx env')=>∀σ' H' G' HZ,Step G H fp G' H' HZ->Rel K G' H' env' σ' HZ->Dd.nx σ' H'
 | .ok (.bk env')=>∀σ' H' G' HZ,Step G H fp G' H' HZ->Rel K G' H' env' σ' HZ->Dd.bk σ' H'
 | .ok (.ct env')=>∀σ' H' G' HZ,Step G H fp G' H' HZ->Rel K G' H' env' σ' HZ->Dd.ct σ' H'
 | .ok (.rt r)=>∀v H' G' HZ,Step G H fp G' H' HZ->Gn md K G' H' r v HZ->Dd.rt v H'
 |_=>False
inductive tQS{md:Mode}(K:W.Frag)(g:FS)(Dd:Ends)(σ:L2.St)(H:Hp):Prop
 |mk:∀G env fp,Rel K G H env σ fp->OutOk (md:=md) K G H fp Dd (g env)->tQS (md:=md) K g Dd σ H
def QE(X:Cx)(e:Expr)(f:FX):Prop:=PE X e (tQ X.K f)
def QO(X:Cx)(e:Expr)(f:FO):Prop:=PE X e (tO X.K f)
def M4(X:Cx)(es:List Expr)(f:FOs):Prop:=PA X es (tOs X.K f)
def QT(X:Cx)(e:Expr)(f:FT):Prop:=PT X e (tQT X.K f)
def QW(X:Cx)(e:Expr)(f:FT):Prop:=PW X e (tQT X.K f)
def QS{md:Mode}(X:Cx)(st:Stmt)(g:FS):Prop:=PS X st (tQS (md:=md) X.K g)
def M5{md:Mode}(X:Cx)(st:List Stmt)(g:FS):Prop:=PSs X st (tQS (md:=md) X.K g)
variable{X:Cx}{e:Expr}
theorem bD{t t':TE}(h:PE X e t)(k:∀σ H Q,t' σ H Q->t σ H Q):PE X e t':=fun pr s σ H Q I w=>h pr s σ H Q I (k σ H Q w)
theorem oi{t t':TT}(h:PT X e t)(k:∀σ H Q,t' σ H Q->t σ H Q):PT X e t':=fun pr s σ H Q I w=>h pr s σ H Q I (k σ H Q w)
theorem yK{t t':TT}(h:PW X e t)(k:∀σ H Q,t' σ H Q->t σ H Q):PW X e t':=fun wh pr s σ H Q I w=>h wh pr s σ H Q I (k σ H Q w)
theorem qC{e:List Expr}{t t':TA}(h:PA X e t)(k:∀σ H Q,t' σ H Q->t σ H Q):PA X e t':=fun pos pr s σ H Q I w=>h pos pr s σ H Q I (k σ H Q w)
theorem dZ{e:Stmt}{t t':TS}(h:PS X e t)(k:∀D σ H,t' D σ H->t D σ H):PS X e t':=fun pr s σ H D I w=>h pr s σ H D I (k D σ H w)
theorem uH{e:List Stmt}{t t':TS}(h:PSs X e t)(k:∀D σ H,t' D σ H->t D σ H):PSs X e t':=fun pr s σ H D I w=>h pr s σ H D I (k D σ H w)
variable{md:Mode}
theorem OutOk.imp{K:W.Frag}{G1 H1:Hp}{IF:List Addr}{Dd RC:Ends}{r:Res Out}(st:Step G H fp G1 H1 IF)(h:OutOk (md:=md) K G H fp Dd r)(n:∀σ H,Dd.nx σ H->RC.nx σ H)(b:∀σ H,Dd.bk σ H->RC.bk σ H)(c:∀σ H,Dd.ct σ H->RC.ct σ H)(t:∀v H,Dd.rt v H->RC.rt v H):OutOk (md:=md) K G1 H1 IF RC r:=by
 match r,h with
 | .ok (.nx env'),h=>exact fun σ' H' G' HZ s q=>n _ _ (h σ' H' G' HZ (st.trans s) q)
 | .ok (.bk env'),h=>exact fun σ' H' G' HZ s q=>b _ _ (h σ' H' G' HZ (st.trans s) q)
 | .ok (.ct env'),h=>exact fun σ' H' G' HZ s q=>c _ _ (h σ' H' G' HZ (st.trans s) q)
 | .ok (.rt r),h=>exact fun v H' G' HZ s q=>t _ _ (h v H' G' HZ (st.trans s) q)
theorem OutOk.after{K:W.Frag}{G1 H1:Hp}{IF:List Addr}{Dd:Ends}{r:Res Out}(st:Step G H fp G1 H1 IF)(h:OutOk (md:=md) K G H fp Dd r):OutOk (md:=md) K G1 H1 IF Dd r:=h.imp st (fun _ _ z=>z) (fun _ _ z=>z) (fun _ _ z=>z) fun _ _ z=>z
def aE(d:D):FX:=fun env=>.ok ((.f,d),env)
def fz:O->O
 | .pin p .f=>.pin p .f
 |_=>.f
def aK(i:Nat):FX:=fun env=>match env[i]? with
 |some (some r)=>.ok ((.f,r.2),env.set i (some (fz r.1,r.2)))
 |_=>.bad
def j0(i:Nat):FX:=fun env=>match env[i]? with
 |some (some r)=>.ok (r,env.set i none)
 |_=>.bad
def ao(f:FX):FO:=fun env=>(f env).bind fun p=>.ok (.val p.1.2,p.2)
def aj(i:Nat):FO:=fun env=>match env[i]? with
 |some (some _)=>.ok (.var i,env)
 |_=>.bad
def aw:FOs:=fun env=>.ok ([],env)
def af(f:FO)(g:FOs):FOs:=fun env=>(f env).bind fun p=>(g p.2).bind fun q=>.ok (p.1::q.1,q.2)
variable{l:List Nat}{i:Nat}{f:FX}{fa:FO}{pos:Pos}{Q:VK}{gg:List D->Res R}{x:Str}{T:String}
section
theorem qE(h:PE X e (tC v))(r:∀G,Rep X.K G d v):QE X e (aE d):=bD h fun σ H Q Ig=>by
 obtain⟨G,env,fp,rr,env',rel,e,k⟩:=Ig;cases e;exact k v H G fp .refl (rel.push (r G))
theorem ar{i j pos}:QE X (.Constant (.int i) j pos) (aE (.int i)):=qE BS fun G=>by rw[Rep]
theorem sJ{i j pos}:QE X (.Constant (.bool i) j pos) (aE (.bl i)):=qE ED fun G=>by rw[Rep]
theorem qF{j pos}:QE X (.Constant .none j pos) (aE .non):=qE BU fun G=>by rw[Rep]
theorem dJ{x j pos}(h:x=S l)(hl:l.length<=1000):QE X (.Constant (.str x) j pos) (aE (.str l)):=qE BV fun G=>by
 rw[Rep,h];exact⟨rfl,by rw[line_eq];lia⟩
theorem aB(h:PE X e (ql i)):QE X e (aK i):=bD h fun σ H Q Ig=>by
 obtain⟨G,env,fp,rr,env',rel,e,k⟩:=Ig;unfold aK at e;split at e
 ·rename_i r hr;cases e;by_cases hf:fz r.1=.f
  ·obtain⟨v,G',fq,ev,rv,IS,st⟩:=rel.freezeAt hr;rw[hf]at k;exact⟨v,ev,k v H G' fq st (IS.push rv)⟩
  ·have hp:∃p,r.1=.pin p .f:=by
    unfold fz at hf;split at hf
    ·rename_i p hp;exact⟨p,hp⟩
    ·exact absurd rfl hf
   obtain⟨p,hp⟩:=hp;obtain⟨v,a,b,ev,r1,_,_⟩:=rel.rep.take hr;rw[hp,RepO]at r1;have es:env.set i (some (fz r.1,r.2))=env:=by
    refine fB ?_;rw[hr,hp];show some (some r)=some (some (.pin p .f,r.2));rw[<-hp]
   rw[es]at k;exact⟨v,ev,k v H G fp .refl (rel.push (eU.mp r1.2).1)⟩
 ·cases e
theorem gq(h:PE X e (ql i)):QE X e (j0 i):=bD h fun σ H Q Ig=>by
 obtain⟨G,env,fp,rr,env',rel,e,k⟩:=Ig;unfold j0 at e;split at e
 ·rename_i r hr;cases e;obtain⟨v,fq,ev,IS,st,_⟩:=rel.out hr;exact⟨v,ev,k v H G fq st IS⟩
 ·cases e
theorem ae(h:QE X e f):QO X e (ao f):=bD h fun σ H Q Ig=>by
 obtain⟨G,env,fp,o,env',rel,e,k⟩:=Ig;obtain⟨⟨r,HU⟩,e1,e⟩:=ai e;cases e;refine⟨G,env,fp,r,HU,rel,e1,fun v H' G' HZ st IS=>?_⟩;obtain⟨G2,b,rv,HV,Ib⟩:=IS.freeze;exact k v H' G2 b (st.trans Ib) HV rv
theorem ag(h:PE X e (ql i)):QO X e (aj i):=bD h fun σ H Q Ig=>by
 obtain⟨G,env,fp,o,env',rel,e,k⟩:=Ig;unfold aj at e;split at e
 ·rename_i r hr;cases e;obtain⟨v,ev,_⟩:=rel.view hr;exact⟨v,ev,k v H G fp .refl rel ev⟩
 ·cases e
theorem ak:M4 X [] aw:=qC tW fun σ H Q Ig=>by
 obtain⟨G,env,fp,o,env',rel,e,k⟩:=Ig;cases e;exact k [] H G fp .refl rel rfl
theorem ab{es:List Expr}{f:FO}{g:FOs}(h:QO X e f)(hs:M4 X es g)(Pn:starEach (e::es) X.env=(false,eval e X.env)::starEach es X.env:=by rfl):M4 X (e::es) (af f g):=
 qC (lO h hs Pn) fun σ H Q Ig=>by
  obtain⟨G,env,fp,o,env',rel,e,k⟩:=Ig;obtain⟨⟨o1,HU⟩,e1,e⟩:=ai e;obtain⟨⟨os,Ic⟩,e2,e⟩:=ai e;cases e;exact⟨G,env,fp,o1,HU,rel,e1,fun v H1 G1 IF Im HW Ko=>⟨G1,HU,IF,os,Ic,HW,e2,fun vs H2 G2 IP Ib HV Od=>k _ H2 G2 IP (Im.trans Ib) HV ⟨v,vs,rfl,Ko.mono Ib.gg,Od⟩⟩⟩
def aG(g:D->D->Res R)(fa fb:FO):FX:=fun env=>(fa env).bind fun p=>(fb p.2).bind fun q=>(JV q.2 p.1).bind fun a=>(JV q.2 q.1).bind fun b=>(g a b).bind fun r=>.ok (r,q.2)
def aV(g:D->D->Res R)(fa fb:FO):FX:=fun env=>(fa env).bind fun p=>(fb p.2).bind fun q=>(sI q.2 p.1).bind fun a=>(sI q.2 q.1).bind fun b=>(g a b).bind fun r=>.ok (r,q.2)
structure Goes(K:W.Frag)(H:Hp)(G:Hp)(fp:List Addr)(es:PV.Env)(vs:L2.St)(r:R)(Q:VK):Prop where
 rel:Rel K G H es vs fp
 goes:∀v H' G' HZ,Step G H fp G' H' HZ->Rel K G' H' (some r::es) (some v::vs) HZ->Q v H'
inductive rG(K:W.Frag)(g:D->D->Res R)(x:V)(y:V)(H:Hp)(Q:VK):Prop
 |mk:∀G fp es vs a b r,Goes K H G fp es vs r Q->Vw K G H a x->Vw K G H b y->g a b=.ok r->rG K g x y H Q
inductive rGA(K:W.Frag)(g:D->D->Res R)(x:V)(y:V)(H:Hp)(Q:VK):Prop
 |mk:∀G fp es vs a b r,Goes K H G fp es vs r Q->Rep K H a x->Rep K H b y->g a b=.ok r->rGA K g x y H Q
variable{a b c:Expr}{fb fc:FO}{g g':D->D->Res R}
theorem uI(h:tQ X.K (aG g fa fb) σ H Q):QR (rG X.K g) (tO X.K fa) (tO X.K fb) σ H Q:=by
 obtain⟨G,env,fp,r,env',rel,e,k⟩:=h;obtain⟨⟨oa,e1⟩,ha,e⟩:=ai e;obtain⟨⟨ob,e2⟩,hb,e⟩:=ai e;obtain⟨da,PK,e⟩:=ai e;obtain⟨db,KY,e⟩:=ai e;obtain⟨r',hr,e⟩:=ai e;cases e;exact⟨G,env,fp,oa,e1,rel,ha,fun x H1 G1 IF Im HW Ko=>⟨G1,e1,IF,ob,e2,HW,hb,fun y H2 G2 IP Ib HV Od=>
  ⟨G2,IP,e2,σ,da,db,r,⟨HV,fun v H' G' HZ st IS=>k v H' G' HZ (Im.trans (Ib.trans st)) IS⟩,HV.vw (Ko.mono Ib.gg) PK,HV.vw Od KY,hr⟩⟩⟩
theorem uJ(h:tQ X.K (aV g fa fb) σ H Q):QR (rGA X.K g) (tO X.K fa) (tO X.K fb) σ H Q:=by
 obtain⟨G,env,fp,r,env',rel,e,k⟩:=h;obtain⟨⟨oa,e1⟩,ha,e⟩:=ai e;obtain⟨⟨ob,e2⟩,hb,e⟩:=ai e;obtain⟨da,PK,e⟩:=ai e;obtain⟨db,KY,e⟩:=ai e;obtain⟨r',hr,e⟩:=ai e;cases e;exact⟨G,env,fp,oa,e1,rel,ha,fun x H1 G1 IF Im HW Ko=>⟨G1,e1,IF,ob,e2,HW,hb,fun y H2 G2 IP Ib HV Od=>
  ⟨G2,IP,e2,σ,da,db,r,⟨HV,fun v H' G' HZ st IS=>k v H' G' HZ (Im.trans (Ib.trans st)) IS⟩,HV.vwA (Ko.mono Ib.gg) PK,HV.vwA Od KY,hr⟩⟩⟩
theorem bg{op:Operator}(ho:IW X (binaryOp op) (rG X.K g))(ha:QO X a fa)(hb:QO X b fb):QE X (.BinOp a op b pos) (aG g fa fb):=bD (EY ho ha hb) fun _ _ _=>uI
theorem ma{op:CmpOp}(ho:IW X (compareOp op) (rGA X.K g))(ha:QO X a fa)(hb:QO X b fb)(hm:behindInMarks op b=false):QE X (.Compare a [op] [b] pos) (aV g fa fb):=bD (zN ho ha hb hm) fun _ _ _=>uJ
def Iz(f:FX):FT:=fun env=>(f env).bind fun p=>match p.1.2 with
 | .bl k=>.ok (k,p.2)
 |_=>.bad
theorem Al{Q:Bool->Hp->Prop}(h:tQT X.K (Iz f) σ H Q):tQ X.K f σ H fun x H'=>∃k,x=.bl k/\Q k H':=by
 obtain⟨G,env,fp,k,env',rel,e,q⟩:=h;obtain⟨⟨⟨o,d⟩,HU⟩,e1,e⟩:=ai e;dsimp only at e;split at e
 ·cases e;refine⟨G,env,fp,_,_,rel,e1,fun v H' G' HZ st IS=>?_⟩;have hv:=IS.top;rw[show((o,D.bl k):R).2=D.bl k from rfl,Rep]at hv;obtain⟨b,HV,Ib⟩:=IS.drop;exact⟨k,hv,q H' G' b (st.trans Ib) HV⟩
 ·cases e
theorem lu(h:QE X e f)(he:∀whole,isTrue e X.env whole=(do let v <-whole;standAt e.pos;holding [v] (truthy v)):=by intro _;rfl):QT X e (Iz f):=oi (BW h he) fun _ _ _=>Al
theorem iy{op:CmpOp}(ho:IW X (compareOp op) (rG X.K g))(ha:QO X a fa)(hb:QO X b fb)(hm:behindInMarks op b=false):QT X (.Compare a [op] [b] pos) (Iz (aG g fa fb)):=
 oi (tV ho ha hb hm) fun _ _ _ h=>uI (Al h)
theorem aW{op:CmpOp}(ho:IW X (compareOp op) (rGA X.K g))(ha:QO X a fa)(hb:QO X b fb)(hm:behindInMarks op b=false):QT X (.Compare a [op] [b] pos) (Iz (aV g fa fb)):=
 oi (tV ho ha hb hm) fun _ _ _ h=>uJ (Al h)
def Am(f g:FT):FT:=fun env=>(f env).bind fun p=>if p.1 then g p.2 else .ok (false,p.2)
def RD(f g:FT):FT:=fun env=>(f env).bind fun p=>if p.1 then .ok (true,p.2) else g p.2
def CM(f:FT):FT:=fun env=>(f env).bind fun p=>.ok (!p.1,p.2)
variable{ga gb:FT}{aU:List Expr}
theorem me(h:QT X a ga):QW X (.BoolOp .And [a] pos) ga:=zw h
theorem uK(h:QT X a ga):QW X (.BoolOp .Or [a] pos) ga:=BX h
theorem qG(h:QT X a ga)(h2:QW X (.BoolOp .And (b::aU) pos) gb):QW X (.BoolOp .And (a::b::aU) pos) (Am ga gb):=yK (BY h h2) fun σ H Q Ig=>by
 obtain⟨G,env,fp,k,env',rel,e,q⟩:=Ig;obtain⟨⟨k1,HU⟩,e1,e⟩:=ai e;refine⟨G,env,fp,k1,HU,rel,e1,fun H1 G1 IF Im HW=>?_⟩;dsimp only at e;cases k1 with
 |true=>exact⟨G1,HU,IF,k,env',HW,e,fun H2 G2 IP Ib HV=>q H2 G2 IP (Im.trans Ib) HV⟩
 |false=>
  cases e;exact q H1 G1 IF Im HW
theorem An(h:QT X a ga)(h2:QW X (.BoolOp .Or (b::aU) pos) gb):QW X (.BoolOp .Or (a::b::aU) pos) (RD ga gb):=yK (EF h h2) fun σ H Q Ig=>by
 obtain⟨G,env,fp,k,env',rel,e,q⟩:=Ig;obtain⟨⟨k1,HU⟩,e1,e⟩:=ai e;refine⟨G,env,fp,k1,HU,rel,e1,fun H1 G1 IF Im HW=>?_⟩;dsimp only at e;cases k1 with
 |false=>exact⟨G1,HU,IF,k,env',HW,e,fun H2 G2 IP Ib HV=>q H2 G2 IP (Im.trans Ib) HV⟩
 |true=>
  cases e;exact q H1 G1 IF Im HW
theorem QW.qt{f:FT}(h:QW X e f):QT X e f:=h.pt
theorem uL(h:QT X a ga):QT X (.UnaryOp .Not a pos) (CM ga):=oi (BZ h) fun σ H Q Ig=>by
 obtain⟨G,env,fp,k,env',rel,e,q⟩:=Ig;obtain⟨⟨k1,HU⟩,e1,e⟩:=ai e;cases e;exact⟨G,env,fp,k1,HU,rel,e1,fun H1 G1 IF Im HW=>q H1 G1 IF Im HW⟩
def CN(f g:FX):FX:=fun env=>(f env).bind fun p=>match p.1.2 with
 | .bl true=>g p.2
 | .bl false=>.ok ((.f,.bl false),p.2)
 |_=>.bad
def eOr(f g:FX):FX:=fun env=>(f env).bind fun p=>match p.1.2 with
 | .bl true=>.ok ((.f,.bl true),p.2)
 | .bl false=>g p.2
 |_=>.bad
def Fp(f:FX):FX:=fun env=>(f env).bind fun p=>match p.1.2 with
 | .bl k=>.ok ((.f,.bl (!k)),p.2)
 |_=>.bad
def eIf(c:FT)(f g:FX):FX:=fun env=>(c env).bind fun p=>if p.1 then f p.2 else g p.2
variable{ea eb:FX}
theorem yL{op}(h:QE X a ea):QE X (.BoolOp op [a] pos) ea:=B0 h
theorem dq(k:Bool):Rep K G (.bl k) (.bl k):=by rw[Rep]
theorem rep_int(k:Int):Rep K G (.int k) (.int k):=by rw[Rep]
theorem mf:Rep K G .non .non:=by rw[Rep]
theorem j3(h:l.length<=sizeLine):Rep K G (.str l) (.str (S l)):=by
 rw[Rep];exact⟨rfl,h⟩
theorem cU{k:Bool}(h:Rep K G (.bl k) v):v=.bl k:=by rw[Rep]at h;exact h
theorem bI{k:Int}(h:Rep K G (.int k) v):v=.int k:=by rw[Rep]at h;exact h
theorem cc(h:Rep K G .non v):v=.non:=by rw[Rep]at h;exact h
theorem bE(h:Rep K G (.str l) v):v=.str (S l)/\l.length<=sizeLine:=by rw[Rep]at h;exact h
inductive OfT(K:W.Frag)(G:Hp)(l:List D)(v:V):Prop
 |mk (p:Addr) (xs:List V) (e:v=.ref p) (q:SqT K G p xs) (r:Reps K G l xs):OfT K G l v
inductive OfL(K:W.Frag)(G:Hp)(l:List D)(v:V):Prop
 |mk (p:Addr) (xs:List V) (e:v=.ref p) (q:SqL K G p xs) (r:Reps K G l xs):OfL K G l v
theorem bF{l:List D}(h:Rep K G (.tup l) v):OfT K G l v:=by
 rw[Rep]at h;obtain⟨p,xs,e,q,r⟩:=h;exact⟨p,xs,e,SqT.of q,r⟩
theorem uM{l:List D}(h:Rep K G (.tup l) v):∃p xs,v=.ref p/\G p=some (.tup xs)/\Reps K G l xs:=by rw[Rep]at h;exact h
theorem bw{l:List D}(h:Rep K G (.lst l) v):OfL K G l v:=by
 rw[Rep]at h;obtain⟨p,xs,e,q,r⟩:=h;exact⟨p,xs,e,q,r⟩
theorem bJ{k:Int}(h:Vw K G H (.int k) v):v=.int k:=bI (K:=K) (G:=G) h
theorem j4(h:Vw K G H (.str l) v):v=.str (S l)/\l.length<=sizeLine:=bE (K:=K) (G:=G) h
theorem gr{l:List D}(h:Vw K G H (.tup l) v):OfT K G l v:=bF (K:=K) (G:=G) h
theorem yM(h:QE X a ea)(h2:QE X (.BoolOp .And (b::aU) pos) eb):QE X (.BoolOp .And (a::b::aU) pos) (CN ea eb):=bD (B3 h h2) fun σ H Q Ig=>by
 obtain⟨G,env,fp,r,env',rel,e,q⟩:=Ig;obtain⟨⟨⟨o,d⟩,HU⟩,e1,e⟩:=ai e;refine⟨G,env,fp,_,HU,rel,e1,fun v H1 G1 IF Im HW=>?_⟩;have hv:=HW.top;obtain⟨b',HV,Ib⟩:=HW.drop;dsimp only at e hv;split at e
 ·exact⟨true,cU hv,z3 ⟨G1,HU,b',r,env',HV,e,fun v H2 G2 IP IL IQ=>q v H2 G2 IP (Im.trans (Ib.trans IL)) IQ⟩⟩
 ·cases e;exact⟨false,cU hv,iteF (q _ H1 G1 b' (Im.trans Ib) (HV.push (dq _)))⟩
 ·cases e
theorem CP(h:QE X a ea):QE X (.UnaryOp .Not a pos) (Fp ea):=bD (B4 h) fun σ H Q Ig=>by
 obtain⟨G,env,fp,r,env',rel,e,q⟩:=Ig;obtain⟨⟨⟨o,d⟩,HU⟩,e1,e⟩:=ai e;refine⟨G,env,fp,_,HU,rel,e1,fun v H1 G1 IF Im HW=>?_⟩;have hv:=HW.top;obtain⟨b',HV,Ib⟩:=HW.drop;dsimp only at e hv;split at e
 ·cases e;exact⟨_,cU hv,q _ H1 G1 b' (Im.trans Ib) (HV.push (dq _))⟩
 ·cases e
noncomputable def Gp(g g':D->D->Res R)(fa fb fc:FO):FX:=fun env=>(fa env).bind fun p=>(fb p.2).bind fun q=>(JV q.2 p.1).bind fun a=>(JV q.2 q.1).bind fun b=>(g a b).bind fun r=>match r with
 |(.f,.bl true)=>(fc q.2).bind fun t=>(JV t.2 q.1).bind fun b=>(JV t.2 t.1).bind fun c=>(g' b c).bind fun r=>.ok (r,t.2)
 |(.f,.bl false)=>.ok ((.f,.bl false),q.2)
 |_=>.bad
inductive rC(K:W.Frag)(g:List D->Res R)(xs:List V)(H:Hp)(Q:VK):Prop
 |mk:∀G fp es vs ds r,Goes K H G fp es vs r Q->RB K G H ds xs->g ds=.ok r->rC K g xs H Q
def bH(g:List D->Res R)(fs:FOs):FX:=fun env=>(fs env).bind fun p=>(qB p.2 p.1).bind fun ds=>(g ds).bind fun r=>.ok (r,p.2)
theorem pK{fs:FOs}(h:tQ X.K (bH gg fs) σ H Q):SV (rC X.K gg) (tOs X.K fs) σ H Q:=by
 obtain⟨G,env,fp,r,env',rel,e,k⟩:=h;obtain⟨⟨os,e1⟩,ha,e⟩:=ai e;obtain⟨ds,hd,e⟩:=ai e;obtain⟨r',hr,e⟩:=ai e;cases e;exact⟨G,env,fp,os,e1,rel,ha,fun vs H1 G1 IF Im HW Ko=>⟨G1,IF,e1,σ,ds,r,⟨HW,fun v H' G' HZ st IS=>k v H' G' HZ (Im.trans st) IS⟩,HW.vws Ko hd,hr⟩⟩
variable{p:Pos}{es:List Expr}{fs:FOs}{id:String}
theorem bc(hc:eA X (.builtin id) (rC X.K gg))(hg:Gl X x)(hm:X.mg x=none)(hv:bootBuiltins x=some (.builtin id))(ha:M4 X (e::es) fs)(hn:x≠"__name__":=by decide)(KY:(x==("__debug__" : Str))=false:=by decide)
  (he:starEach (e::es) X.env=(false,eval e X.env)::starEach es X.env:=by rfl) (JR:(backTo pos (starEach es X.env)).any (·.1)=false:=by rfl):QE X (.Call (.Name x p) (e::es) [] pos) (bH gg fs):=
 bD (qo hc hg hm hv ha hn KY he JR) fun _ _ _=>pK
theorem du(hc:eA X (.type T) (rC X.K gg))(hg:Gl X x)(hm:X.mg x=none)(hv:bootBuiltins x=some (.type T))(ha:M4 X (e::es) fs)(hn:x≠"__name__":=by decide)(KY:(x==("__debug__" : Str))=false:=by decide)
  (he:starEach (e::es) X.env=(false,eval e X.env)::starEach es X.env:=by rfl) (JR:(backTo pos (starEach es X.env)).any (·.1)=false:=by rfl):QE X (.Call (.Name x p) (e::es) [] pos) (bH gg fs):=
 bD (tZ hc hg hm hv ha hn KY he JR) fun _ _ _=>pK
inductive spF(K:W.Frag)(F:List D->Res R)(vs:List V)(H:Hp)(Q:VK)(zz:XK):Prop
 |mk:∀G ds r,Same G H->Reps K G ds vs->F ds=.ok r->(∀v H' G' HZ,Step G H [] G' H' HZ->Rel K G' H' [some r] [some v] HZ->Q v H')->spF K F vs H Q zz
def dv(F:List D->Res R)(fs:FOs):FX:=fun env=>(fs env).bind fun p=>(kU p.2 p.1).bind fun ds=>(F ds).bind fun r=>.ok (r,if aP r.1 r.2 then p.2 else p.2.map frz)
theorem bh{F:List D->Res R}{k:Nat}(C:Ct X.prog X.w X.K X.mg X.base x k (spF X.K F))(hr:Room k X.A)(hg:Gl X x)(ha:M4 X (e::es) fs)(KY:(x==("__debug__" : Str))=false:=by decide)
  (he:starEach (e::es) X.env=(false,eval e X.env)::starEach es X.env:=by rfl) (JR:(backTo pos (starEach es X.env)).any (·.1)=false:=by rfl):QE X (.Call (.Name x p) (e::es) [] pos) (dv F fs):=
 bD (Cw C hr hg ha KY he JR) fun σ H Q Ig=>by
  obtain⟨G,env,fp,r,env',rel,e,k⟩:=Ig;obtain⟨⟨os,e1⟩,ha,e⟩:=ai e;obtain⟨ds,hd,e⟩:=ai e;obtain⟨r',hr,e⟩:=ai e;refine⟨G,env,fp,os,e1,rel,ha,fun vs H1 G1 IF Im HW Ko=>?_⟩;show spF X.K F (vs++[]) H1 Q _;rw[Vu];obtain⟨G2,Mt,Np,Jt,_,Jc⟩:=HW.lend;refine⟨G2,ds,r',Np,jZ Mt Jt Ko hd,hr,fun v H' G' HZ st IS=>?_⟩;obtain⟨k1,k2⟩:=Jc H' G' HZ r' v st IS;by_cases hc:aP r'.1 r'.2=true
  ·rw[U2 hc]at e;cases e;obtain⟨G3,JU,IL,IQ⟩:=k1 hc;exact k v H' G3 JU (Im.trans IL) IQ
  ·rw[U9 hc]at e;cases e;obtain⟨G3,JU,IL,IQ⟩:=k2;exact k v H' G3 JU (Im.trans IL) IQ
end
def sSeq(g1 g2:FS):FS:=fun env=>(g1 env).bind fun o=>match o with
 | .nx e=>g2 e
 |o=>.ok o
def cE:FS:=fun env=>.ok (.nx env)
def bZ(i:Nat)(f:FX):FS:=fun env=>(f env).bind fun p=>if i<p.2.length then .ok (.nx (p.2.set i (some p.1))) else .bad
def oj(f:FX):FS:=fun env=>(f env).bind fun p=>.ok (.nx p.2)
def fC(f:FX):FS:=fun env=>(f env).bind fun p=>.ok (.rt p.1)
def JD(c:FT)(g h:FS):FS:=fun env=>(c env).bind fun p=>if p.1 then g p.2 else h p.2
variable{st:Stmt}{c:FT}{env:PV.Env}{pos':Pos}{vs:L2.St}{ct tg:Expr}{L5:List Expr}{xs:List V}{ds:List D}{p:Addr}
section
variable{Ta:List Stmt}{g h:FS}
theorem bj:M5 (md:=md) X [] cE:=uH zx fun D σ H ⟨G,env,fp,rel,k⟩=>k σ H G fp .refl rel
theorem au(a:QS (md:=md) X st g):M5 (md:=md) X [st] g:=zy a
theorem ah(a:QS (md:=md) X st g)(b:M5 (md:=md) X Ta h):M5 (md:=md) X (st::Ta) (sSeq g h):=uH (xb a b) fun D σ H Ig=>by
 obtain⟨G,env,fp,rel,k⟩:=Ig;refine⟨G,env,fp,rel,?_⟩;have k:OutOk X.K G H fp D ((g env).bind fun o=>match o with | .nx e=>h e|o=>.ok o):=k;match q:g env,k with
 | .ok (.nx HU),k=>exact fun σ1 H1 G1 IF Im HW=>⟨G1,HU,IF,HW,OutOk.after Im k⟩
 | .ok (.bk HU),k=>exact k
 | .ok (.ct HU),k=>exact k
 | .ok (.rt r),k=>exact k
theorem mh{D:Ends}{i:Nat}(rel:Rel K G H env σ fp)(k:OutOk (md:=md) K G H fp D (bZ i f env)):tQ K f σ H fun v H'=>D.nx (σ.set i (some v)) H':=by
 unfold bZ at k;match q:f env,k with
 | .ok (r,HU),k=>
  have k:OutOk K G H fp D (if i<HU.length then .ok (.nx (HU.set i (some r))) else .bad):=k;by_cases hi:i<HU.length
  ·rw[U2 hi]at k;refine⟨G,env,fp,r,HU,rel,q,fun v H1 G1 IF Im HW=>?_⟩;obtain⟨fq,HV,Ib⟩:=HW.store hi;exact k _ H1 G1 fq (Im.trans Ib) HV
  ·rw[U9 hi]at k;exact k.elim
theorem aM(hN:X.N.Nodup)(hi:X.N[i]?=some x)(hx:Loc X.env.scope x)(he:QE X e f)(hs:swapsWith e (some (.Name x pos')) pos.line X.env=pure false:=by rfl)(hf:X.fn x=true\/X.env.scope.names.lookup x=some .local:=by first|exact .inl rfl|exact .inr rfl|assumption):
  QS (md:=md) X (.Assign [.Name x pos'] e pos) (bZ i f):=dZ (B7 (i:=i) hN hi hx he hs hf) fun D σ H ⟨G,env,fp,rel,k⟩=>mh rel k
theorem ml(he:QE X e f)(hs:swapsWith e none pos.line X.env=pure false:=by rfl):QS (md:=md) X (.Expr e pos) (oj f):=dZ (zH he hs) fun D σ H Ig=>by
 obtain⟨G,env,fp,rel,k⟩:=Ig;unfold oj at k;match q:f env,k with
 | .ok (r,HU),k=>
  refine⟨G,env,fp,r,HU,rel,q,fun v H1 G1 IF Im HW=>?_⟩;obtain⟨b,HV,Ib⟩:=HW.drop;exact k _ H1 G1 b (Im.trans Ib) HV
theorem Rel.only{r:R}(q:Rel K G H (some r::es) (some v::vs) fp):∃a,Rel K G H [some r] [some v] a/\Step G H fp G H a:=by
 obtain⟨y,ys,e,v',a,b,e1,e2,r1,r2⟩:=q.rep;cases e;cases e1;subst e2;have nd:=Vs.mp q.nd;exact⟨a,⟨⟨some v,[],rfl,v,a,[],rfl,(Vu _).symm,r1,rfl,rfl⟩,nd.1,fun p hp=>q.gn p (U4 _ hp),q.gh⟩,Step.cut fun p hp=>U4 _ hp⟩
theorem bo(he:QE X e f):QS (md:=.plain) X (.Return (some e) pos) (fC f):=dZ (yB he) fun D σ H Ig=>by
 obtain⟨G,env,fp,rel,k⟩:=Ig;unfold fC at k;match q:f env,k with
 | .ok (r,HU),k=>
  refine⟨G,env,fp,r,HU,rel,q,fun v H1 G1 IF Im HW=>?_⟩;obtain⟨b,HV,Ib⟩:=HW.only;exact k _ H1 G1 b (Im.trans Ib) HV
theorem Rel.nilF(q:Rel K G H es vs fp):Rel K G H [] [] []:=⟨⟨rfl,rfl⟩,WU,(fun _ h=>nomatch h),q.gh⟩
theorem dw{a b:List Stmt}(hc:QT X ct c)(ha:M5 (md:=md) X a g)(hb:M5 (md:=md) X b h):QS (md:=md) X (.If ct a b pos) (JD c g h):=dZ (EM hc ha hb) fun D σ H Ig=>by
 obtain⟨G,env,fp,rel,k⟩:=Ig;unfold JD at k;match q:c env,k with
 | .ok (true,HU),k=>exact⟨G,env,fp,true,HU,rel,q,fun H1 G1 IF Im HW=>z3 ⟨G1,HU,IF,HW,OutOk.after Im k⟩⟩
 | .ok (false,HU),k=>exact⟨G,env,fp,false,HU,rel,q,fun H1 G1 IF Im HW=>iteF ⟨G1,HU,IF,HW,OutOk.after Im k⟩⟩
def cP(c:FT)(g:FS):Nat->FS
 | 0,_=>.bad
 |n+1,env=>(c env).bind fun p=>if p.1 then(g p.2).bind fun o=>match o with
  | .nx e=>cP c g n e
  | .ct e=>cP c g n e
  | .bk e=>.ok (.nx e)
  | .rt r=>.ok (.rt r)
  else .ok (.nx p.2)
theorem mm{body:List Stmt}(n:Nat)(hp:PassesOwn (model X.prog X.w) X.A X.env X.xe)(hc:QT X ct c)(hb:M5 (md:=md) X body g):QS (md:=md) X (.While ct body [] pos) (cP c g n):=
 dZ (xf hp hc hb) fun D σ H Ig=>by
  obtain⟨G,env,fp,rel,k⟩:=Ig;refine⟨fun m σ' H'=>∃G' env' HZ,Rel X.K G' H' env' σ' HZ/\OutOk X.K G' H' HZ D (cP c g m env'),⟨n,G,env,fp,rel,k⟩,?_⟩;rintro m σ1 H1 ⟨G1,HU,IF,HW,k1⟩;cases m with
  |zero=>exact k1.elim
  |succ m=>
   unfold cP at k1;match q:c HU,k1 with
   | .ok (false,Ic),k1=>exact⟨G1,HU,IF,false,Ic,HW,q,fun H2 G2 IP Ib HV=>iteF (k1 _ H2 G2 IP Ib HV)⟩
   | .ok (true,Ic),k1=>
    refine⟨G1,HU,IF,true,Ic,HW,q,fun H2 G2 IP Ib HV=>z3 ?_⟩;refine⟨fun σ' H'=>∃G' env' HZ,Rel X.K G' H' env' σ' HZ/\OutOk X.K G' H' HZ D (cP c g m env'),fun σ' H' z=>⟨m,VB _,z⟩,G2,Ic,IP,HV,?_⟩;have k2:OutOk X.K G1 H1 IF D ((g Ic).bind fun o=>match o with | .nx e=>cP c g m e | .ct e=>cP c g m e | .bk e=>.ok (.nx e) | .rt r=>.ok (.rt r)):=k1;match q2:g Ic,k2 with
    | .ok (.nx e),k2=>exact fun σ' H' G' HZ st rel=>⟨G',e,HZ,rel,OutOk.after (Ib.trans st) k2⟩
    | .ok (.ct e),k2=>exact fun σ' H' G' HZ st rel=>⟨G',e,HZ,rel,OutOk.after (Ib.trans st) k2⟩
    | .ok (.bk e),k2=>exact fun σ' H' G' HZ st rel=>k2 σ' H' G' HZ (Ib.trans st) rel
    | .ok (.rt r),k2=>exact fun v H' G' HZ st rel=>k2 v H' G' HZ (Ib.trans st) rel
def Walk(K:W.Frag)(G:Hp)(J:It)(ds:List D):Prop:=∀G' H' es vs fp,Same G G'->Rel K G' H' es vs fp->∀i:Nat,
 (∀d,ds[i]?=some d->J.go i H'/\∀x H2,J.yld i H' x H2->∃G2,Rep K G2 d x/\Rel K G2 H2 es vs fp/\Step G' H' fp G2 H2 fp)/\(i=ds.length->J.stop i H')
abbrev FI:=PV.Env->Res (List D×PV.Env)
inductive tQI(K:W.Frag)(f:FI)(σ:L2.St)(H:Hp)(R:It->Hp->Prop):Prop
 |mk:∀G env fp ds env',Rel K G H env σ fp->f env=.ok (ds,env')->(∀J H' G' HZ,Step G H fp G' H' HZ->Rel K G' H' env' σ HZ->Walk K G' J ds->R J H')->tQI K f σ H R
def QI(X:Cx)(tg e:Expr)(f:FI):Prop:=PI X tg e (tQI X.K f)
theorem js{t t':TI}(h:PI X tg e t)(k:∀σ H R,t' σ H R->t σ H R):PI X tg e t':=fun pr s σ H R I w=>h pr s σ H R I (k σ H R w)
abbrev FG:=D->PV.Env->Res PV.Env
inductive tQG(K:W.Frag)(a:FG)(v:V)(σ:L2.St)(H:Hp)(Q:L2.St->Hp->Prop):Prop
 |mk:∀G env fp d env',Rel K G H env σ fp->Rep K G d v->a d env=.ok env'->(∀σ' G' HZ,Step G H fp G' H HZ->Rel K G' H env' σ' HZ->Q σ' H)->tQG K a v σ H Q
def QG(X:Cx)(tg:Expr)(a:FG):Prop:=PG X tg (tQG X.K a)
def ax(i:Nat):FG:=fun d env=>if i<env.length then .ok (env.set i (some (.f,d))) else .bad
theorem yN{t t':TG}(h:PG X tg t)(k:∀v σ H Q,t' v σ H Q->t v σ H Q):PG X tg t':=fun pr s σ H v u Q I r w=>h pr s σ H v u Q I r (k v σ H Q w)
theorem uN{tg:List Expr}{t t':O1}(h:Pm X tg t)(k:∀v σ H Q,t' v σ H Q->t v σ H Q):Pm X tg t':=fun pr s σ H v u Q I r w=>h pr s σ H v u Q I r (k v σ H Q w)
theorem aF(hN:X.N.Nodup)(hi:X.N[i]?=some x)(hx:Loc X.env.scope x)(hf:X.fn x=true\/X.env.scope.names.lookup x=some .local:=by first|exact .inl rfl|exact .inr rfl|assumption):QG X (.Name x pos) (ax i):=
 yN (zI (i:=i) hN hi hx hf) fun v σ H Q Ig=>by
  obtain⟨G,env,fp,d,env',rel,r,e,k⟩:=Ig;unfold ax at e;split at e
  ·rename_i hl;cases e;obtain⟨fq,HV,Ib⟩:=(rel.push r).store hl;exact k _ G fq Ib HV
  ·cases e
abbrev Oe:=List D->PV.Env->Res PV.Env
inductive tQGs(K:W.Frag)(a:Oe)(vs:List V)(σ:L2.St)(H:Hp)(Q:L2.St->Hp->Prop):Prop
 |mk:∀G env fp ds env',Rel K G H env σ fp->Reps K G ds vs->a ds env=.ok env'->(∀σ' G' HZ,Step G H fp G' H HZ->Rel K G' H env' σ' HZ->Q σ' H)->tQGs K a vs σ H Q
def Sy(X:Cx)(tg:List Expr)(a:Oe):Prop:=Pm X tg (tQGs X.K a)
def c9:Oe:=fun ds env=>match ds with
 |[]=>.ok env
 |_=>.bad
def aJ(a:FG)(b:Oe):Oe:=fun ds env=>match ds with
 |d::ds=>(a d env).bind fun e=>b ds e
 |_=>.bad
theorem h8:Sy X [] c9:=uN zJ fun vs σ H Q Ig=>by
 obtain⟨G,env,fp,ds,env',rel,r,e,k⟩:=Ig;cases ds with
 |nil=>
  cases e;rw[Reps]at r;exact⟨r,k σ G fp .refl rel⟩
 |cons d ds=>cases e
theorem cf{a:FG}{b:Oe}(h1:QG X tg a)(h2:Sy X L5 b)(hs:(assignEach (tg::L5) X.env).map (·.2)=assign tg X.env::(assignEach L5 X.env).map (·.2):=by rfl):Sy X (tg::L5) (aJ a b):=
 uN (xc h1 h2 hs) fun vs σ H Q Ig=>by
  obtain⟨G,env,fp,ds,env',rel,r,e,k⟩:=Ig;cases ds with
  |nil=>cases e
  |cons d ds=>
   rw[Reps]at r;obtain⟨y,ys,ev,r1,r2⟩:=r;obtain⟨HU,e1,e2⟩:=ai e;exact⟨y,ys,ev,G,env,fp,d,HU,rel,r1,e1,fun σ1 G1 IF Im HW=>⟨G1,HU,IF,ds,env',HW,r2.mono Im.gg,e2,fun σ2 G2 IP Ib HV=>k σ2 G2 IP (Im.trans Ib) HV⟩⟩
def iZ(n:Nat)(a:Oe):FG:=fun d env=>match d with
 | .tup ds=>if ds.length=n then a ds env else .bad
 |_=>.bad
theorem j5{k n:Nat}{a:Oe}(hc:X.calm=true)(h:Sy X L5 a)(hn:(assignEach L5 X.env).length=n:=by rfl)(Pn:(assignEach L5 X.env).findIdx? (·.1)=none:=by rfl):QG X (.Tuple L5 k pos) (iZ n a):=
 yN (B6 hc h hn Pn) fun v σ H Q Ig=>by
  obtain⟨G,env,fp,d,env',rel,r,e,k⟩:=Ig;unfold iZ at e;split at e
  ·rename_i ds;split at e
   ·rename_i hl;obtain⟨p,xs,ev,sq,rs⟩:=bF r;exact⟨p,xs,ev,bK rel.gh sq,rs.length.trans hl,G,env,fp,ds,env',rel,rs,e,k⟩
   ·cases e
  ·cases e
def eC(a:FG)(g:FS):List D->FS
 |[],env=>.ok (.nx env)
 |d::ds,env=>(a d env).bind fun e=>(g e).bind fun o=>match o with
  | .nx e=>eC a g ds e
  | .ct e=>eC a g ds e
  | .bk e=>.ok (.nx e)
  | .rt r=>.ok (.rt r)
def tu(f:FI)(a:FG)(g:FS):FS:=fun env=>(f env).bind fun p=>eC a g p.1 p.2
theorem iz{iter:Expr}{body:List Stmt}{fi:FI}{a:FG}(hp:PassesOwn (model X.prog X.w) X.A X.env X.xe)(hc:X.calm=true)(hi:QI X tg iter fi)(hg:QG X tg a)(hb:M5 (md:=md) X body g)(hs:∀x,foldedSetIterable iter X.env x=pure x:=by intro _;rfl):QS (md:=md) X (.For tg iter body [] pos) (tu fi a g):=
 dZ (tP hp hc hi hg hb hs) fun D σ H Ig=>by
  obtain⟨G,env,fp,rel,k⟩:=Ig;unfold tu at k;match q:fi env,k with
  | .ok (ds,HU),k=>
   refine⟨G,env,fp,ds,HU,rel,q,fun J H1 G1 IF Im HW wk=>?_⟩;have k:OutOk X.K G H fp D (eC a g ds HU):=k;refine⟨fun i m σ' H'=>m=ds.length-i/\i<=ds.length/\∃G' env' HZ,Same G1 G'/\Rel X.K G' H' env' σ' HZ/\OutOk X.K G' H' HZ D (eC a g (ds.drop i) env'),⟨_,rfl,VH _,G1,HU,IF,.refl _,HW,OutOk.after Im k⟩,?_⟩;rintro i m σ2 H2 ⟨rfl,hi,G2,Ic,IP,gg,HV,k2⟩;obtain⟨w1,w2⟩:=wk G2 H2 _ _ _ gg HV i;by_cases Iu:i<ds.length
   ·have hd:ds[i]?=some ds[i]:=US Iu;obtain⟨go,yl⟩:=w1 _ hd;rw[VZ Iu]at k2;refine .inr ⟨go,fun σ' H'=>∃G' env' HZ,Same G1 G'/\Rel X.K G' H' env' σ' HZ/\OutOk X.K G' H' HZ D (eC a g (ds.drop (i+1)) env'),fun σ' H' z=>⟨ds.length-(i+1),by lia,rfl,Iu,z⟩,fun x H3 y=>?_⟩;obtain⟨G3,rx,IQ,IL⟩:=yl x H3 y;unfold eC at k2;match q3:a ds[i] Ic,k2 with
    | .ok IM,k2=>
     refine⟨G3,Ic,IP,ds[i],IM,IQ,rx,q3,fun σ4 G4 RE IZ Jk=>⟨G4,IM,RE,Jk,?_⟩⟩;have k3:OutOk X.K G2 H2 IP D ((g IM).bind fun o=>match o with | .nx e=>eC a g (ds.drop (i+1)) e | .ct e=>eC a g (ds.drop (i+1)) e | .bk e=>.ok (.nx e) | .rt r=>.ok (.rt r)):=k2;match q4:g IM,k3 with
     | .ok (.nx e),k3=>exact fun σ' H' G' HZ st rel=>⟨G',e,HZ,gg.trans (IL.gg.trans (IZ.gg.trans st.gg)),rel,OutOk.after (IL.trans (IZ.trans st)) k3⟩
     | .ok (.ct e),k3=>exact fun σ' H' G' HZ st rel=>⟨G',e,HZ,gg.trans (IL.gg.trans (IZ.gg.trans st.gg)),rel,OutOk.after (IL.trans (IZ.trans st)) k3⟩
     | .ok (.bk e),k3=>exact fun σ' H' G' HZ st rel=>k3 σ' H' G' HZ (IL.trans (IZ.trans st)) rel
     | .ok (.rt r),k3=>exact fun v H' G' HZ st rel=>k3 v H' G' HZ (IL.trans (IZ.trans st)) rel
   ·have e:i=ds.length:=by lia
    subst e;rw[W5]at k2;exact .inl ⟨w2 rfl,k2 σ2 H2 G2 IP .refl HV⟩
def CQ(f:FX):FI:=fun env=>(f env).bind fun p=>match p.1.2 with
 | .lst ds=>.ok (ds,p.2)
 |_=>.bad
def gd(f:FX):FI:=fun env=>(f env).bind fun p=>match p.1.2 with
 | .tup ds=>.ok (ds,p.2)
 |_=>.bad
variable{l:Expr}
theorem j6{a:Addr}(sq:SqL K G a xs)(rs:Reps K G ds xs):Walk K G (QN K a) ds:=by
 intro G' H' es vs fp gg rel i;have JG:SqL K H' a xs:=gN rel.gh (gN gg sq);refine⟨fun d hd=>?_,fun e=>⟨xs,JG,by rw[rs.length];lia⟩⟩;obtain⟨x,hx,rx⟩:=rs.get hd;refine⟨⟨xs,x,JG,hx⟩,fun y H2 ⟨e,hy⟩=>?_⟩;subst e;have:=hy xs JG;rw[hx]at this;cases this;exact⟨G',Rep.mono gg rx,rel,.refl⟩
theorem xC{a:Addr}(sq:SqT K G a xs)(rs:Reps K G ds xs):Walk K G (SQ K a) ds:=by
 intro G' H' es vs fp gg rel i;have JG:SqT K H' a xs:=bK rel.gh (bK gg sq);refine⟨fun d hd=>?_,fun e=>⟨xs,JG,by rw[rs.length];lia⟩⟩;obtain⟨x,hx,rx⟩:=rs.get hd;refine⟨⟨xs,x,JG,hx⟩,fun y H2 ⟨e,hy⟩=>?_⟩;subst e;have:=hy xs JG;rw[hx]at this;cases this;exact⟨G',Rep.mono gg rx,rel,.refl⟩
theorem Ao(h:QE X l f):QI X tg l (CQ f):=js (pD h) fun σ H R Ig=>by
 obtain⟨G,env,fp,ds,env',rel,e,k⟩:=Ig;obtain⟨⟨⟨o,d⟩,HU⟩,e1,e⟩:=ai e;dsimp only at e;split at e
 ·cases e;refine⟨G,env,fp,_,_,rel,e1,fun v H1 G1 IF Im HW=>?_⟩;obtain⟨G2,b,rv,HV,Ib⟩:=HW.freeze;obtain⟨p,xs,ev,sq,rs⟩:=bw rv;exact⟨p,ev,⟨xs,gN HV.gh sq⟩,k _ H1 G2 b (Im.trans Ib) HV (j6 sq rs)⟩
 ·cases e
theorem fW(h:QE X l f):QI X tg l (gd f):=js (B9 h) fun σ H R Ig=>by
 obtain⟨G,env,fp,ds,env',rel,e,k⟩:=Ig;obtain⟨⟨⟨o,d⟩,HU⟩,e1,e⟩:=ai e;dsimp only at e;split at e
 ·cases e;refine⟨G,env,fp,_,_,rel,e1,fun v H1 G1 IF Im HW=>?_⟩;obtain⟨G2,b,rv,HV,Ib⟩:=HW.freeze;obtain⟨p,xs,ev,sq,rs⟩:=bF rv;exact⟨p,ev,⟨xs,bK HV.gh sq⟩,k _ H1 G2 b (Im.trans Ib) HV (xC sq rs)⟩
 ·cases e
def cM(f:FO):FI:=fun env=>(f env).bind fun p=>(JV p.2 p.1).bind fun d=>match d with
 | .int j=>if -4611686018427387904<=j/\j<4611686018427387904 then .ok ((List.range j.toNat).map fun(k:Nat)=>D.int (k:Int),p.2) else .bad
 |_=>.bad
theorem sL(lo:Int)(n:Nat):Walk K G (Sm lo n) ((List.range n).map fun(k:Nat)=>D.int (lo+(k:Int))):=by
 intro G' H' es vs fp gg rel i;refine⟨fun d hd=>?_,fun e=>?_⟩
 ·rw[Vg]at hd;cases hc:(List.range n)[i]? with
  |none=>rw[hc]at hd;cases hd
  |some c=>
   rw[hc]at hd;cases hd;obtain⟨h1,h2⟩:=U1.mp hc;rw[Vi]at h1;rw[Xq]at h2;subst h2;refine⟨h1,fun x H2 ⟨e1,e2⟩=>?_⟩;subst e1;exact⟨G',by rw[e2];exact rep_int _,rel,.refl⟩
 ·rw[U8,Vi]at e;exact Zm e.symm
theorem dM{a:Expr}{p pos:Pos}(hg:Gl X "range")(hm:X.mg "range" = none)(ha:QO X a fa)(hs:starEach [a] X.env=[(false,eval a X.env)]:=by rfl):QI X tg (.Call (.Name "range" p) [a] [] pos) (cM fa):=
 js (tM hg hm (ab ha ak hs) hs) fun σ H R Ig=>by
  obtain⟨G,env,fp,ds,env',rel,e,k⟩:=Ig;obtain⟨⟨o,HU⟩,e1,e⟩:=ai e;obtain⟨d,e2,e⟩:=ai e;dsimp only at e;split at e
  ·rename_i j;split at e
   ·rename_i hj;cases e;refine⟨G,env,fp,[o],_,rel,by show(fa env).bind _=_;rw[e1];rfl,fun vs H1 G1 IF Im HW Ko=>?_⟩;obtain⟨y,ys,ev,k1,k2⟩:=Ko;have k2:ys=[]:=k2;subst k2;have hv:=bJ (HW.vw k1 e2);subst hv;refine⟨j,ev,by lia,by lia,k _ H1 G1 IF Im HW ?_⟩;have w:=sL (K:=X.K) (G:=G1) 0 j.toNat
    simpa using w
   ·cases e
  ·cases e
noncomputable def Fq(fs:FOs):FI:=fun env=>(fs env).bind fun p=>(qB p.2 p.1).bind fun d=>match d with
 |[.int i,.int j]=>if(-4611686018427387904<=i/\i<4611686018427387904)/\-4611686018427387904<=j/\j<4611686018427387904 then .ok ((List.range (j-i).toNat).map fun(k:Nat)=>D.int (i+(k:Int)),p.2) else .bad
 |_=>.bad
def iA(k:Bool):D->Res (List D)
 | .lst ds=>if k then .ok ds else .bad
 | .tup ds=>if k then .bad else .ok ds
 |_=>.bad
def sM(k1 k2:Bool)(fs:FOs):FI:=fun env=>(fs env).bind fun p=>match p.1 with
 |[.val d1,.val d2]=>(iA k1 d1).bind fun a=>(iA k2 d2).bind fun b=>.ok ((a.zip b).map fun z=>D.tup [z.1,z.2],p.2)
 |_=>.bad
theorem mn{k:Bool}(e:iA k d=.ok ds)(r:Rep K G d v):∃p xs,v=.ref p/\(if k then SqL K G p xs else SqT K G p xs)/\Reps K G ds xs:=by
 cases d with
 |lst es=>
  cases k with
  |true=>
   cases e;obtain⟨p,xs,e1,q,rs⟩:=bw r;exact⟨p,xs,e1,q,rs⟩
  |false=>cases e
 |tup es=>
  cases k with
  |true=>cases e
  |false=>
   cases e;obtain⟨p,xs,e1,q,rs⟩:=bF r;exact⟨p,xs,e1,q,rs⟩
 |_=>cases e
theorem i9{G':Hp}{k:Bool}(h:Same G G')(r:if k then SqL K G p xs else SqT K G p xs):if k then SqL K G' p xs else SqT K G' p xs:=by
 cases k with
 |true=>exact gN h r
 |false=>exact bK h r
theorem xD{k1 k2:Bool}{p1 p2:Addr}{ys:List V}{as bs:List D}(s1:if k1 then SqL K G p1 xs else SqT K G p1 xs)(s2:if k2 then SqL K G p2 ys else SqT K G p2 ys)(r1:Reps K G as xs)(r2:Reps K G bs ys):
  Walk K G (S3 K k1 k2 p1 p2) ((as.zip bs).map fun z=>D.tup [z.1,z.2]):=by
 intro G' H' es vs fp gg rel i;have g1:=i9 (gg.trans rel.gh) s1;have g2:=i9 (gg.trans rel.gh) s2;refine⟨fun d hd=>?_,fun e=>⟨xs,ys,g1,g2,?_⟩⟩
 ·rw[Vg]at hd;cases hz:(as.zip bs)[i]? with
  |none=>rw[hz]at hd;cases hd
  |some z=>
   rw[hz]at hd;cases hd;obtain⟨h1,h2⟩:=Xb.mp hz;obtain⟨x,hx,rx⟩:=r1.get h1;obtain⟨y,hy,ry⟩:=r2.get h2;refine⟨⟨xs,ys,x,y,g1,g2,hx,hy⟩,fun v H2 ⟨T,hT,ev,hh⟩=>?_⟩;have e2:=hh xs ys x y g1 g2 hx hy;subst e2;obtain⟨HV,Ib⟩:=rel.newF (u:=.tup [x,y]) hT;refine⟨_,?_,HV,Ib⟩;rw[Rep];exact⟨T,[x,y],ev,aH,.cons (Rep.mono (gg.trans Ib.gg) rx) (.one (Rep.mono (gg.trans Ib.gg) ry))⟩
 ·rw[U8,Wv]at e;rw[r1.length,r2.length];exact e
theorem qH(k1 k2:Bool){L5:List Expr}{kt:Nat}{pt:Pos}{e1 e2:Expr}{fs:FOs}{p pos:Pos}(hg:Gl X "zip")(hm:X.mg "zip" = none)(ha:M4 X [e1,e2] fs)(he:starEach [e1,e2] X.env=(false,eval e1 X.env)::starEach [e2] X.env:=by rfl)(JR:(backTo pos (starEach [e2] X.env)).any (·.1)=false:=by rfl):
  QI X (.Tuple L5 kt pt) (.Call (.Name "zip" p) [e1,e2] [] pos) (sM k1 k2 fs):=
 js (CF k1 k2 hg hm ha he JR) fun σ H R Ig=>by
  obtain⟨G,env,fp,ds,env',rel,e,k⟩:=Ig;obtain⟨⟨o,HU⟩,e1,e⟩:=ai e;dsimp only at e;split at e
  ·rename_i d1 d2;obtain⟨a,ea,e⟩:=ai e;obtain⟨b,eb,e⟩:=ai e;cases e;refine⟨G,env,fp,_,_,rel,e1,fun vs H1 G1 IF Im HW Ko=>?_⟩;obtain⟨y,ys,ev,v1,z,zs,PL,v2,e3⟩:=Ko;have e3:zs=[]:=e3;subst e3;obtain⟨p1,Tb,Tc,q1,r1⟩:=mn ea v1;obtain⟨p2,Q4,Td,q2,r2⟩:=mn eb v2;subst Tc;subst Td;subst PL;exact⟨p1,p2,Tb,Q4,ev,i9 HW.gh q1,i9 HW.gh q2,k _ H1 G1 IF Im HW (xD q1 q2 r1 r2)⟩
  ·cases e
end
def fBody(np nn:Nat)(g:FS):List D->Res R:=fun ds=>if ds.length=np then(g (ds.map (fun d=>some (O.f,d))++List.replicate nn none)).bind fun o=>match o with
 | .rt r=>.ok r
 | .nx _=>.ok (.f,.non)
 |_=>.bad
 else .bad
theorem iC{K:W.Frag}{G H:Hp}(n:Nat):∀{ds:List D}{vs:List V},Reps K G ds vs->RepE K G H (ds.map (fun d=>some (O.f,d))++List.replicate n none) (vs.map some++List.replicate n none) []
 |[],vs,r=>by
  rw[Reps]at r;subst r;show RepE K G H (List.replicate n none) (List.replicate n none) [];induction n with
  |zero=>exact⟨rfl,rfl⟩
  |succ n ih=>exact⟨none,_,rfl,ih⟩
 |d::ds,vs,r=>by
  rw[Reps]at r;obtain⟨y,ys,e,r1,r2⟩:=r;subst e;exact⟨some y,_,rfl,y,[],[],rfl,rfl,eU.mpr ⟨r1,rfl⟩,iC n r2⟩
variable{N:List Str}
theorem eD{P:Program}{w:World}{mg:Str->Option Value}{base:Heap}{ps:List Str}{k:Nat}{g:FS}(Df:Def K mg x st)(sc:FnScope N ps (defScope st))
  (hb:∀(kV doc pm:Value) (an:Option Addr) (IJ ct:Value) (us:List Value),us.length=ps.length->bindArgs (PySem.W.fnOf x x (fu st) (c8 st) (defScope st) .none kV doc pm an IJ ct) ⟨us,[]⟩=pure (ps.zip us))
  (body:∀(f:Addr) (IJ:Value) (A:Around) (outer:List PySem.Env) (s:Shared) (H:Hp) (E:XK),Room k (A.deeper (envOfC x (defScope st) s.heap.objs.size f IJ))->M5 (md:=.plain) (xj Nc P w K mg base N x (defScope st) f IJ A outer s H E).nox (c8 st) g):
  Ct P w K mg base x (k+1) (spF K (fBody ps.length (N.length-ps.length) g)):=by
 obtain⟨f,fd,F,m⟩:=Df;refine⟨f,fd,ps,F.ok sc (fun vs H Q E h=>?_) (fun IJ A outer s H vs Q E hr h=>?_),m,F.kp,F.binds hb⟩
 ·obtain⟨G,ds,r,_,rs,e,_⟩:=h;unfold fBody at e;split at e
  ·rename_i hl;rw[rs.length,hl]
  ·cases e
 ·obtain⟨G,ds,r,gh,rs,e,q⟩:=h;unfold fBody at e;split at e
  ·rename_i hl;refine⟨_,body f IJ A outer s H E hr,G,ds.map (fun d=>some (O.f,d))++List.replicate (N.length-ps.length) none,[],⟨?_,WU,(fun _ h=>nomatch h),gh⟩,?_⟩
   ·have:=iC (K:=K) (G:=G) (H:=H) (N.length-ps.length) rs;unfold L2.start;rw[rs.length,hl];exact this
   ·obtain⟨o,eo,e⟩:=ai e;rw[eo];cases o with
    |rt r'=>
     cases e;exact fun v H' G' HZ st rel=>q v H' G' HZ st rel
    |nx env'=>
     cases e;exact fun σ' H' G' HZ st rel=>q .non H' G' [] (st.trans (Step.cut fun _ h=>nomatch h)) (rel.nilF.push mf)
    |bk env'=>cases e
    |ct env'=>cases e
  ·cases e
def bG(ix:List (Option Nat))(env:PV.Env):PV.Env:=ix.map fun j=>j.bind fun j=>match env[j]? with
 |some (some r)=>some (O.f,r.2)
 |_=>none
def dX:FT:=fun env=>.ok (true,env)
def cH(a:FG)(c:FT)(f:FX):List D->PV.Env->Res (List D)
 |[],_=>.ok []
 |d::ds,env=>(a d env).bind fun e=>(c e).bind fun p=>if p.1 then(f p.2).bind fun q=>(cH a c f ds q.2).bind fun rs=>.ok (q.1.2::rs) else cH a c f ds p.2
def cS(fi:FI)(ix:List (Option Nat))(a:FG)(c:FT)(f:FX):FX:=fun env=>(fi env).bind fun p=>(cH a c f p.1 (bG ix p.2)).bind fun ds=>if ds.length<=sizeLine then .ok ((.l .f,.lst ds),if H0 ds then p.2 else p.2.map frz) else .bad
theorem dG:∀ds,ds.all (aP .f)=H0 ds
 |[]=>rfl
 |d::ds=>by rw[Xg,H0,dG ds,aP]
theorem dy{K:W.Frag}{G1 H:Hp}{es:PV.Env}{σ:L2.St}(ht:∀(i:Nat) (r:R) (v:V),es[i]?=some (some r)->σ[i]?=some (some v)->Rep K G1 r.2 v)(hv:∀(i:Nat) (r:R),es[i]?=some (some r)->∃v,σ[i]?=some (some v)):
  ∀ix:List (Option Nat),RepE K G1 H (bG ix es) (dn ix σ) []
 |[]=>⟨rfl,rfl⟩
 |none::ix=>⟨none,_,rfl,dy ht hv ix⟩
 |some j::ix=>by
  show RepE K G1 H ((match es[j]? with|some (some r)=>some (O.f,r.2)|_=>none)::bG ix es) ((σ[j]?).bind id::dn ix σ) [];cases e:es[j]? with
  |none=>exact⟨_,_,rfl,dy ht hv ix⟩
  |some r=>
   cases r with
   |none=>exact⟨_,_,rfl,dy ht hv ix⟩
   |some r=>
    obtain⟨v,ev⟩:=hv j r e;refine⟨_,_,rfl,v,[],[],?_,rfl,eU.mpr ⟨ht j r v e ev,rfl⟩,dy ht hv ix⟩;rw[ev];rfl
variable{fi:FI}
section
variable{scope:Scope}{iter elt:Expr}{ifs:List Expr}{a:FG}
def N2(X:Cx)(ifs:List Expr)(c:FT):Prop:=N9 X ifs (tQT X.K c)
theorem cq:N2 X [] dX:=fun pr s σ H Q I Ig=>by
 obtain⟨G,env,fp,b,env',rel,e,k⟩:=Ig;cases e;exact z6 pr s σ H Q I (k H G fp .refl rel)
theorem gs{t:Expr}(h:QT X t c):N2 X [t] c:=z7 h
end
section
inductive rCatS(K:W.Frag)(x:V)(y:V)(H:Hp)(Q:VK):Prop
 |mk:∀l b xs zs,x=.ref l->y=.ref b->SqL K H l xs->SqL K H b zs->xs.length+zs.length<=sizeLine->(∀p,H p=none->Q (.ref p) (upd H p (.lst (xs++zs))))->rCatS K x y H Q
theorem Ap:IW X (binaryOp .Add) (rCatS X.K):=by
 intro pr s σ H x y v u Q I rx ry h;obtain⟨l,b,xs,zs,rfl,rfl,hH,hB,hz,q⟩:=h;cases rx;cases ry;obtain⟨HX,r1,p1,_⟩:=I.list hH;obtain⟨Nk,r2,p2,_⟩:=I.list hB;have l1:=r1.length;have l2:=r2.length;obtain⟨⟨cls,dd,data,sl⟩,ho,hc,n,hd⟩:=id p1.isList;obtain⟨⟨Ro,QV,data2,QX⟩,Kg,Ni,n2,hd2⟩:=id p2.isList;simp only at hc hd Ni hd2;subst hc hd Ni hd2;have e:HX.toArray++Nk.toArray=(HX++Nk).toArray:=by simp
 refine Zj ⟨_,ho,rfl⟩ ⟨_,Kg,rfl⟩ noFill_list_add seq_list_add PySem.F.slot_list_add PySem.F.entry_list_add (PySem.F.args_list_add_2 _ _) (list_addW l b HX.toArray Nk.toArray n n2 dd QV sl QX (by rw[UT,UT];lia)) ⟨ho,Kg,?_⟩;rw[e];exact⟨.ref _,_,I.lnew (t':=s.toks) (r1.append r2) (by rw[VN];lia),rfl,q _ I.fresh⟩
end
noncomputable def addD:D->D->Res R
 | .int i,.int j=>.ok (.f,.int (i+j))
 | .str a,.str b=>if a.length+b.length<=sizeLine then .ok (.f,.str (a++b)) else .bad
 | .lst a,.lst b=>if a.length+b.length<=sizeLine then .ok (.l .f,.lst (a++b)) else .bad
 | .tup a,.tup b=>if a≠[]/\a.length+b.length<=sizeLine then .ok (.f,.tup (a++b)) else .bad
 |_,_=>.bad
section
theorem mq(rel:Rel K G H es vs fp)(hp:H p=none)(r:Reps K G ds xs):
  ∃G',Rel K G' (upd H p (.tup xs)) (some (.f,.tup ds)::es) (some (.ref p)::vs) fp/\Step G H fp G' (upd H p (.tup xs)) fp:=by
 obtain⟨HV,Ib⟩:=rel.newF (u:=.tup xs) hp;refine⟨_,HV.push ?_,Ib⟩;rw[Rep];exact⟨p,xs,rfl,aH,r.mono Ib.gg⟩
theorem CS:IW X (binaryOp .Add) (rG X.K addD):=by
 rintro pr s σ H x y v u Q I rx ry ⟨G,fp,es,vs,a,b,r,⟨rel,k⟩,va,vb,e⟩;unfold addD at e;split at e
 ·rename_i i j;cases e;cases bJ va;cases bJ vb;exact Ca pr s σ H _ _ v u Q I rx ry ⟨i,j,rfl,rfl,k _ H G fp .refl (rel.push (rep_int _))⟩
 ·rename_i i j;split at e
  ·rename_i hl;cases e;obtain⟨e1,h1⟩:=j4 va;obtain⟨e2,h2⟩:=j4 vb;subst e1;subst e2;refine se pr s σ H _ _ v u Q I rx ry ⟨_,_,rfl,rfl,by rw[su,su];exact hl,?_⟩;rw[Fg];exact k _ H G fp .refl (rel.push (j3 (by rw[VN];exact hl)))
  ·cases e
 ·rename_i i j;split at e
  ·rename_i hl;cases e;obtain⟨p,xs,e1,h1,r1⟩:=va;obtain⟨p2,Q4,e2,h2,r2⟩:=vb;subst e1;subst e2;refine Ap pr s σ H _ _ v u Q I rx ry ⟨p,p2,xs,Q4,rfl,rfl,h1,h2,by rw[r1.length,r2.length];exact hl,fun q hq=>?_⟩;obtain⟨HV,Ib⟩:=rel.newL hq (r1.app r2);exact k _ _ G _ Ib HV
  ·cases e
 ·rename_i i j;split at e
  ·rename_i hl;cases e;obtain⟨p,xs,e1,h1,r1⟩:=gr va;obtain⟨p2,Q4,e2,h2,r2⟩:=gr vb;subst e1;subst e2;have hx:xs≠[]:=fun z=>hl.1 (VW (by rw[<-r1.length,z];rfl))
   refine zU pr s σ H _ _ v u Q I rx ry ⟨p,p2,xs,Q4,rfl,rfl,bK rel.gh h1,bK rel.gh h2,hx,by rw[r1.length,r2.length];exact hl.2,fun z=>?_,fun z q hq=>?_⟩
   ·have:j=[]:=VW (by rw[<-r2.length,z];rfl);subst this;rw[Vu]at k;exact k _ H G fp .refl (rel.push va)
   ·obtain⟨G',HV,Ib⟩:=mq rel hq (r1.app r2);exact k _ _ G' _ Ib HV
  ·cases e
 ·cases e
def tw:D->D->Res R
 | .int i,.int j=>.ok (.f,.int (i-j))
 |_,_=>.bad
theorem lx:IW X (binaryOp .Sub) (rG X.K tw):=by
 rintro pr s σ H x y v u Q I rx ry ⟨G,fp,es,vs,a,b,r,⟨rel,k⟩,va,vb,e⟩;unfold tw at e;split at e
 ·rename_i i j;cases e;cases bJ va;cases bJ vb;exact Cb pr s σ H _ _ v u Q I rx ry ⟨i,j,rfl,rfl,k _ H G fp .refl (rel.push (rep_int _))⟩
 ·cases e
def yO(i:Int):Bool:=decide (-(2 ^ 64)<i/\i<2 ^ 64)
def Ft:D->D->Res R
 | .int i,.int j=>if yO i||yO j then .ok (.f,.int (i*j)) else .bad
 |_,_=>.bad
theorem CT:IW X (binaryOp .Mult) (rG X.K Ft):=by
 rintro pr s σ H x y v u Q I rx ry ⟨G,fp,es,vs,a,b,r,⟨rel,k⟩,va,vb,e⟩;unfold Ft at e;split at e
 ·rename_i i j;split at e
  ·rename_i hc;cases e;cases bJ va;cases bJ vb;have hc:CMul i j:=by
    rw[Zo]at hc;exact hc.imp YN YN
   exact Cc pr s σ H _ _ v u Q I rx ry ⟨i,j,rfl,rfl,hc,k _ H G fp .refl (rel.push (rep_int _))⟩
  ·cases e
 ·cases e
def pL:D->D->Res R
 | .int i,.int j=>if 0<j/\j<1073741824 then .ok (.f,.int (i / j)) else .bad
 |_,_=>.bad
theorem uO:IW X (binaryOp .FloorDiv) (rG X.K pL):=by
 rintro pr s σ H x y v u Q I rx ry ⟨G,fp,es,vs,a,b,r,⟨rel,k⟩,va,vb,e⟩;unfold pL at e;split at e
 ·rename_i i j;split at e
  ·rename_i hc;cases e;cases bJ va;cases bJ vb;exact zL pr s σ H _ _ v u Q I rx ry ⟨i,j,rfl,rfl,hc,k _ H G fp .refl (rel.push (rep_int _))⟩
  ·cases e
 ·cases e
def jF:D->D->Res R
 | .int i,.int j=>if 0<j then .ok (.f,.int (i%j)) else .bad
 |_,_=>.bad
theorem gZ:IW X (binaryOp .Mod) (rG X.K jF):=by
 rintro pr s σ H x y v u Q I rx ry ⟨G,fp,es,vs,a,b,r,⟨rel,k⟩,va,vb,e⟩;unfold jF at e;split at e
 ·rename_i i j;split at e
  ·rename_i hc;cases e;cases bJ va;cases bJ vb;exact Cd pr s σ H _ _ v u Q I rx ry ⟨i,j,rfl,rfl,hc,k _ H G fp .refl (rel.push (rep_int _))⟩
  ·cases e
 ·cases e
def uP:D->D->Res R
 | .int i,.int j=>if 0<=j/\j<=1000000/\i.natAbs<2 ^ 64 then .ok (.f,.int (i ^ j.toNat)) else .bad
 |_,_=>.bad
theorem qI:IW X (binaryOp .Pow) (rG X.K uP):=by
 rintro pr s σ H x y v u Q I rx ry ⟨G,fp,es,vs,a,b,r,⟨rel,k⟩,va,vb,e⟩;unfold uP at e;split at e
 ·rename_i i j;split at e
  ·rename_i hc;cases e;cases bJ va;cases bJ vb;exact Ce pr s σ H _ _ v u Q I rx ry ⟨i,j,rfl,rfl,hc,k _ H G fp .refl (rel.push (rep_int _))⟩
  ·cases e
 ·cases e
def Oa:D->D->Res R
 | .int i,.int j=>.ok (.f,.bl (decide (i<j)))
 | .str a,.str b=>.ok (.f,.bl (decide (a<b)))
 |_,_=>.bad
theorem Fu:IW X (compareOp .Lt) (rG X.K Oa):=by
 rintro pr s σ H x y v u Q I rx ry ⟨G,fp,es,vs,a,b,r,⟨rel,k⟩,va,vb,e⟩;unfold Oa at e;split at e
 ·rename_i i j;cases e;cases bJ va;cases bJ vb;exact E5 pr s σ H _ _ v u Q I rx ry ⟨i,j,rfl,rfl,k _ H G fp .refl (rel.push (dq _))⟩
 ·rename_i i j;cases e;obtain⟨e1,h1⟩:=j4 va;obtain⟨e2,h2⟩:=j4 vb;subst e1;subst e2;refine tS pr s σ H _ _ v u Q I rx ry ⟨_,_,rfl,rfl,?_⟩;rw[gm,gm];exact k _ H G fp .refl (rel.push (dq _))
 ·cases e
def leD:D->D->Res R
 | .int i,.int j=>.ok (.f,.bl (decide (i<=j)))
 | .str a,.str b=>.ok (.f,.bl (!decide (b<a)))
 |_,_=>.bad
def Of:D->D->Res R
 | .int i,.int j=>.ok (.f,.bl (decide (j<i)))
 |_,_=>.bad
theorem Aq:IW X (compareOp .Gt) (rG X.K Of):=by
 rintro pr s σ H x y v u Q I rx ry ⟨G,fp,es,vs,a,b,r,⟨rel,k⟩,va,vb,e⟩;unfold Of at e;split at e
 ·rename_i i j;cases e;cases bJ va;cases bJ vb;exact E6 pr s σ H _ _ v u Q I rx ry ⟨i,j,rfl,rfl,k _ H G fp .refl (rel.push (dq _))⟩
 ·cases e
def geD:D->D->Res R
 | .int i,.int j=>.ok (.f,.bl (decide (j<=i)))
 |_,_=>.bad
end
abbrev FDs:=PV.Env->Res (List D×PV.Env)
inductive tDs(K:W.Frag)(f:FDs)(σ:L2.St)(H:Hp)(Q:List V->Hp->Prop):Prop
 |mk:∀G env fp ds env',Rel K G H env σ fp->f env=.ok (ds,env')->(∀vs H' G' HZ,Step G H fp G' H' HZ->Rel K G' H' env' σ HZ->Reps K G' ds vs->Q vs H')->tDs K f σ H Q
def RF(X:Cx)(es:List Expr)(f:FDs):Prop:=PA X es (tDs X.K f)
def bt:FDs:=fun env=>.ok ([],env)
def aD(f:FX)(g:FDs):FDs:=fun env=>(f env).bind fun p=>(g p.2).bind fun q=>.ok (p.1.2::q.1,q.2)
section
theorem aQ:RF X [] bt:=qC tW fun σ H Q Ig=>by
 obtain⟨G,env,fp,o,env',rel,e,k⟩:=Ig;cases e;exact k [] H G fp .refl rel .nil
theorem az{es:List Expr}{g:FDs}(h:QE X e f)(hs:RF X es g)(Pn:starEach (e::es) X.env=(false,eval e X.env)::starEach es X.env:=by rfl):RF X (e::es) (aD f g):=
 qC (lO h hs Pn) fun σ H Q Ig=>by
  obtain⟨G,env,fp,o,env',rel,e,k⟩:=Ig;obtain⟨⟨r,HU⟩,e1,e⟩:=ai e;obtain⟨⟨ds,Ic⟩,e2,e⟩:=ai e;cases e;refine⟨G,env,fp,r,HU,rel,e1,fun v H1 G1 IF Im HW=>?_⟩;obtain⟨G2,b,rv,HV,Ib⟩:=HW.freeze;exact⟨G2,HU,b,ds,Ic,HV,e2,fun vs H3 G3 JU IL IQ rs=>k _ H3 G3 JU (Im.trans (Ib.trans IL)) IQ (.cons (Rep.mono IL.gg rv) rs)⟩
def mr(fs:FDs):FX:=fun env=>(fs env).bind fun p=>if p.1.length<=1000 then .ok ((.f,.tup p.1),p.2) else .bad
def gO(fs:FDs):FX:=fun env=>(fs env).bind fun p=>if p.1.length<=1000 then .ok ((.l .f,.lst p.1),p.2) else .bad
variable{es:List Expr}{fs:FDs}
theorem iE{x1}(h:RF X es fs):QE X (.Tuple es x1 pos) (mr fs):=bD (Ci h) fun σ H Q Ig=>by
 obtain⟨G,env,fp,r,env',rel,e,k⟩:=Ig;obtain⟨⟨ds,HU⟩,e1,e⟩:=ai e;dsimp only at e;split at e
 ·rename_i hl;cases e;refine⟨G,env,fp,ds,env',rel,e1,fun vs H1 G1 IF Im HW rs=>⟨by rw[rs.length,line_eq];lia,fun p hp=>?_⟩⟩;obtain⟨G2,HV,Ib⟩:=mq HW hp rs;exact k _ _ G2 _ (Im.trans Ib) HV
 ·cases e
theorem cu(h:RF X es fs):QE X (.List es pos) (gO fs):=bD (Cj h) fun σ H Q Ig=>by
 obtain⟨G,env,fp,r,env',rel,e,k⟩:=Ig;obtain⟨⟨ds,HU⟩,e1,e⟩:=ai e;dsimp only at e;split at e
 ·rename_i hl;cases e;refine⟨G,env,fp,ds,env',rel,e1,fun vs H1 G1 IF Im HW rs=>⟨by rw[rs.length,line_eq];lia,fun p hp=>?_⟩⟩;obtain⟨HV,Ib⟩:=HW.newL hp rs;exact k _ _ G1 _ (Im.trans Ib) HV
 ·cases e
noncomputable def IK:D->D->Res R
 | .lst ds,.int i=>match Kz ds i with
  |some d=>.ok (.f,d)
  |none=>.bad
 | .tup ds,.int i=>match Kz ds i with
  |some d=>.ok (.f,d)
  |none=>.bad
 | .str l,.int i=>match Kz l i with
  |some c=>.ok (.f,.str [c])
  |none=>.bad
 |_,_=>.bad
theorem qJ{i:Int}(r:Reps K G ds xs)(e:Kz ds i=some d):∃v,Kz xs i=some v/\Rep K G d v:=by
 unfold Kz at e ⊢;rw[r.length];cases hn:ixN ds.length i with
 |none=>rw[hn]at e;cases e
 |some j=>
  rw[hn]at e;exact r.get e
theorem Fv:Rp X (rG X.K IK):=by
 rintro value slice pr s σ H x y v u Q I rx ry ⟨G,fp,es,vs,a,b,r,⟨rel,k⟩,va,vb,e⟩ hs;unfold IK at e;split at e
 ·rename_i ds i;split at e
  ·rename_i d hd;cases e;obtain⟨p,xs,ev,sq,rs⟩:=va;subst ev;cases bJ vb;obtain⟨w',hw,Mp⟩:=qJ rs hd;exact zV value slice pr s σ H _ _ v u Q I rx ry ⟨p,xs,i,w',rfl,rfl,sq,hw,k _ H G fp .refl (rel.push Mp)⟩ hs
  ·cases e
 ·rename_i ds i;split at e
  ·rename_i d hd;cases e;obtain⟨p,xs,ev,sq,rs⟩:=gr va;subst ev;cases bJ vb;obtain⟨w',hw,Mp⟩:=qJ rs hd;exact Cn value slice pr s σ H _ _ v u Q I rx ry ⟨p,xs,i,w',rfl,rfl,bK rel.gh sq,hw,k _ H G fp .refl (rel.push Mp)⟩ hs
  ·cases e
 ·rename_i l i;split at e
  ·rename_i c hc;cases e;obtain⟨ev,hl⟩:=j4 va;subst ev;cases bJ vb;refine Co value slice pr s σ H _ _ v u Q I rx ry ⟨_,i,c,rfl,rfl,by rw[su];exact hl,by rw[gm];exact hc,?_⟩ hs;exact k _ H G fp .refl (rel.push (j3 (l:=[c]) (by rw[line_eq];simp)))
  ·cases e
 ·cases e
variable{a b:Expr}{fb:FO}
theorem cv(ha:QO X a fa)(hb:QO X b fb)(hs:ud b:=by exact fun _ _=>rfl):QE X (.Subscript a b pos) (aG IK fa fb):=bD (Fd Fv ha hb hs) fun _ _ _=>uI
abbrev FP:=PV.Env->Res (Option Int×PV.Env)
inductive tQP(K:W.Frag)(f:FP)(σ:L2.St)(H:Hp)(Q:Option Int->Hp->Prop):Prop
 |mk:∀G env fp i env',Rel K G H env σ fp->f env=.ok (i,env')->(∀H' G' HZ,Step G H fp G' H' HZ->Rel K G' H' env' σ HZ->Q i H')->tQP K f σ H Q
def QP(X:Cx)(e:Option Expr)(f:FP):Prop:=PO X e (tQP X.K f)
def sN:FP:=fun env=>.ok (none,env)
def sO(f:FX):FP:=fun env=>(f env).bind fun p=>match p.1.2 with
 | .int i=>.ok (some i,p.2)
 |_=>.bad
theorem yP{e:Option Expr}{t t':TO}(h:PO X e t)(k:∀σ H Q,t' σ H Q->t σ H Q):PO X e t':=fun pr s σ H Q I w=>h pr s σ H Q I (k σ H Q w)
theorem mw:QP X none sN:=yP zS fun σ H Q Ig=>by
 obtain⟨G,env,fp,i,env',rel,e,k⟩:=Ig;cases e;exact k H G fp .refl rel
theorem mx(h:QE X e f):QP X (some e) (sO f):=yP (zT h) fun σ H Q Ig=>by
 obtain⟨G,env,fp,i,env',rel,e,k⟩:=Ig;obtain⟨⟨⟨o,d⟩,HU⟩,e1,e⟩:=ai e;dsimp only at e;split at e
 ·rename_i j;cases e;refine⟨G,env,fp,_,_,rel,e1,fun v H1 G1 IF Im HW=>?_⟩;have hv:=HW.top;obtain⟨b,HV,Ib⟩:=HW.drop;exact⟨j,bI hv,k H1 G1 b (Im.trans Ib) HV⟩
 ·cases e
def kQ{α:Type}(xs:List α)(lo hi:Option Int):List α:=(xs.drop (HT.sIx xs.length 0 lo)).take (HT.sIx xs.length xs.length hi-HT.sIx xs.length 0 lo)
noncomputable def Q5(k:D)(lo hi:Option Int):Res R:=match k with
 | .lst ds=>.ok (.l .f,.lst (kQ ds lo hi))
 | .tup ds=>if ¬ (HT.sIx ds.length 0 lo=0/\HT.sIx ds.length ds.length hi=ds.length) then .ok (.f,.tup (kQ ds lo hi)) else .bad
 | .str l=>.ok (.f,.str (kQ l lo hi))
 |_=>.bad
def eSl(fa:FO)(lo hi:FP):FX:=fun env=>(fa env).bind fun p=>(lo p.2).bind fun q=>(hi q.2).bind fun t=>(JV t.2 p.1).bind fun d=>(Q5 d q.1 t.1).bind fun r=>.ok (r,t.2)
theorem qK{lo hi:Option Int}(r:Reps K G ds xs):Reps K G (kQ ds lo hi) (yC xs lo hi):=by
 unfold kQ yC;rw[r.length];exact(r.drop _).take _
theorem Ar(xs:List α)(lo hi:Option Int):(kQ xs lo hi).length<=xs.length:=by
 unfold kQ;rw[VE,Wz];lia
inductive rSl(K:W.Frag)(x:V)(lo:Option Int)(hi:Option Int)(H:Hp)(Q:VK):Prop
 |mk:∀G fp es vs d r,Goes K H G fp es vs r Q->Vw K G H d x->Q5 d lo hi=.ok r->rSl K x lo hi H Q
theorem CU:Pt X (rSl X.K):=by
 rintro pr s σ H x v vl vu lo hi sl Q I rx hs pl pu ⟨G,fp,es,vs,d,r,⟨rel,k⟩,vd,e⟩;unfold Q5 at e;split at e
 ·rename_i ds;cases e;obtain⟨p,xs,ev,sq,rs⟩:=vd;subst ev;refine zW pr s σ H _ v vl vu lo hi sl Q I rx hs pl pu ⟨p,xs,rfl,sq,fun q hq=>?_⟩;obtain⟨HV,Ib⟩:=rel.newL hq (qK (lo:=lo) (hi:=hi) rs);exact k _ _ G _ Ib HV
 ·rename_i ds;split at e
  ·rename_i hw;cases e;obtain⟨p,xs,ev,sq,rs⟩:=gr vd;subst ev;refine Cm pr s σ H _ v vl vu lo hi sl Q I rx hs pl pu ⟨p,xs,rfl,bK rel.gh sq,by rw[rs.length];exact hw,fun q hq=>?_⟩;obtain⟨G2,HV,Ib⟩:=mq rel hq (qK (lo:=lo) (hi:=hi) rs);exact k _ _ G2 _ Ib HV
  ·cases e
 ·rename_i l;cases e;obtain⟨ev,hl⟩:=j4 vd;subst ev;exact Cv pr s σ H _ v vl vu lo hi sl Q I rx hs pl pu ⟨l,rfl,hl,k _ H G fp .refl (rel.push (j3 (l:=Cu l lo hi) (Vq (Ar l lo hi) hl)))⟩
 ·cases e
def pM(env:PV.Env)(i:Nat):Bool:=match env[i]? with
 |some (some (_,.lst _))=>true
 |_=>false
theorem qL{es:PV.Env}(rel:Rel K G H es σ fp)(h:pM es i=true):∃v,σ[i]?=some (some v)/\Sr K "list" v H:=by
 unfold pM at h;split at h
 ·rename_i o ds hr;obtain⟨v,ev,rv⟩:=rel.view hr;obtain⟨p,xs,e,sq,_⟩:=bw rv;subst e;exact⟨_,ev,.inl ⟨rfl,xs,sq⟩⟩
 ·cases h
def BD(i:Nat)(f:FX):FX:=fun env=>if pM env i then(f env).bind fun p=>match p.2[i]? with
 |some (some (.l .f,.lst ds))=>if ds.length<sizeLine then .ok ((.f,.non),p.2.set i (some (.l .f,.lst (ds++[p.1.2])))) else .bad
 |_=>.bad
 else .bad
theorem j7{o:Expr}{apos IG:Pos}(ho:PE X o (ql i))(he:QE X e f)
  (JE:attributeBase o "append" X.env (eval o X.env)=eval o X.env:=by rfl)
  (KH:((backTo IG (starEach [e] X.env)).all (fun x=>!x.1)&&(backToKw IG (keywordEach [] X.env)).all (fun x=>x.1.isSome)&&decide ([e].length+([]:List Keyword).length+(if([]:List Keyword).isEmpty then 0 else 1)<30))=true:=by rfl)
  (JF:(apos.endLine==IG.line)=true:=by rfl) (hs:starEach [e] X.env=(false,eval e X.env)::starEach [] X.env:=by rfl) (Ka:(backTo IG (starEach [] X.env)).any (·.1)=false:=by rfl):
  QE X (.Call (.Attribute o "append" apos) [e] [] IG) (BD i f):=by
 refine bD (zX Xh PySem.F.slot_list_append PySem.F.type_list_append jR ho (az he aQ hs) JE KH JF hs Ka) fun σ H Q Ir=>?_
 obtain⟨G,env,fp,r,env',rel,e,k⟩:=Ir;unfold BD at e;split at e
 ·rename_i hil;obtain⟨v,ev,ty⟩:=qL rel hil;obtain⟨⟨r1,HU⟩,e1,e⟩:=ai e;dsimp only at e;split at e
  ·rename_i ds Nj;split at e
   ·rename_i hl;cases e;refine⟨v,ev,ty,G,env,fp,[r1.2],HU,rel,by show(f env).bind _=_;rw[e1];rfl,fun vs H1 G1 IF Im HW rs=>?_⟩;rw[Reps]at rs;obtain⟨y,ys,Te,ry,rn⟩:=rs;rw[Reps]at rn;subst rn;obtain⟨p,xs,ep,hp,LM,cg⟩:=HW.chg (ds':=ds++[r1.2]) Nj;rw[ev]at ep;cases ep;obtain⟨fq,HV,Ib⟩:=cg (xs++[y]) (LM.app (.one ry));exact⟨p,xs,y,rfl,Te,hp,by rw[LM.length];exact hl,k _ _ G1 fq (Im.trans Ib) (HV.push mf)⟩
   ·cases e
  ·cases e
 ·cases e
def Fw:List D->Res R
 |[.lst ds]=>.ok (.f,.int ds.length)
 |[.tup ds]=>.ok (.f,.int ds.length)
 |[.str l]=>.ok (.f,.int l.length)
 |_=>.bad
theorem sP(h:RB K G H [d] xs):∃v,xs=[v]/\Vw K G H d v:=by
 obtain⟨y,ys,e,v1,e2⟩:=h;have e2:ys=[]:=e2;subst e2;exact⟨y,e,v1⟩
theorem CV:eA X (.builtin "len") (rC X.K Fw):=by
 rintro pr s σ H xs us Q I rx ⟨G,fp,es,vs,ds,r,⟨rel,k⟩,vd,e⟩;unfold Fw at e;split at e
 ·rename_i ds;cases e;obtain⟨v,ev,p,ys,ep,sq,rs⟩:=sP vd;subst ev;subst ep;refine jn pr s σ H _ us Q I rx ⟨p,ys,rfl,.inl sq,?_⟩;rw[rs.length];exact k _ H G fp .refl (rel.push (rep_int _))
 ·rename_i ds;cases e;obtain⟨v,ev,vt⟩:=sP vd;obtain⟨p,ys,ep,sq,rs⟩:=gr vt;subst ev;subst ep;refine jn pr s σ H _ us Q I rx ⟨p,ys,rfl,.inr (bK rel.gh sq),?_⟩;rw[rs.length];exact k _ H G fp .refl (rel.push (rep_int _))
 ·rename_i l;cases e;obtain⟨v,ev,vt⟩:=sP vd;obtain⟨ep,hl⟩:=j4 vt;subst ev;subst ep;refine nQ pr s σ H _ us Q I rx ⟨S l,rfl,by rw[su];exact hl,?_⟩;rw[su];exact k _ H G fp .refl (rel.push (rep_int _))
 ·cases e
def pN:List D->Res R
 |[.lst ds]=>.ok (.l .f,.lst ds)
 |[.tup ds]=>.ok (.l .f,.lst ds)
 |_=>.bad
theorem uQ:eA X (.type "list") (rC X.K pN):=by
 rintro pr s σ H xs us Q I rx ⟨G,fp,es,vs,ds,r,⟨rel,k⟩,vd,e⟩;unfold pN at e;split at e
 ·rename_i ds;cases e;obtain⟨v,ev,p,ys,ep,sq,rs⟩:=sP vd;subst ev;subst ep;refine jo pr s σ H _ us Q I rx ⟨p,ys,rfl,.inl sq,fun q hq=>?_⟩;obtain⟨HV,Ib⟩:=rel.newL hq rs;exact k _ _ G _ Ib HV
 ·rename_i ds;cases e;obtain⟨v,ev,vt⟩:=sP vd;obtain⟨p,ys,ep,sq,rs⟩:=gr vt;subst ev;subst ep;refine jo pr s σ H _ us Q I rx ⟨p,ys,rfl,.inr (bK rel.gh sq),fun q hq=>?_⟩;obtain⟨HV,Ib⟩:=rel.newL hq rs;exact k _ _ G _ Ib HV
 ·cases e
def g0:List D->Res R
 |[.lst ds]=>.ok (.f,.tup ds)
 |[.tup ds]=>.ok (.f,.tup ds)
 |_=>.bad
theorem gP:eA X (.type "tuple") (rC X.K g0):=by
 rintro pr s σ H xs us Q I rx ⟨G,fp,es,vs,ds,r,⟨rel,k⟩,vd,e⟩;unfold g0 at e;split at e
 ·rename_i ds;cases e;obtain⟨v,ev,p,ys,ep,sq,rs⟩:=sP vd;subst ev;subst ep;refine iu pr s σ H _ us Q I rx ⟨p,ys,rfl,.inl ⟨sq,fun q hq=>?_⟩⟩;obtain⟨G2,HV,Ib⟩:=mq rel hq rs;exact k _ _ G2 _ Ib HV
 ·rename_i ds;cases e;obtain⟨v,ev,vt⟩:=sP vd;obtain⟨p,ys,ep,sq,rs⟩:=gr vt;subst ev;subst ep;exact iu pr s σ H _ us Q I rx ⟨p,ys,rfl,.inr ⟨bK rel.gh sq,k _ H G fp .refl (rel.push vt)⟩⟩
 ·cases e
def xE:List D->Option (List Bool)
 |[]=>some []
 | .bl b::ds=>(xE ds).map (b:: ·)
 |_=>none
def eV:List D->Option (List Int)
 |[]=>some []
 | .int b::ds=>(eV ds).map (b:: ·)
 |_=>none
theorem h9{K:W.Frag}{G:Hp}:∀{ds:List D}{bs:List Int}{xs:List V},eV ds=some bs->Reps K G ds xs->xs=bs.map V.int
 |[],_,_,e,r=>by
  cases e;rw[Reps]at r;exact r
 | .int b::ds,_,_,e,r=>by
  rw[eV,Wl]at e;obtain⟨bs,e1,e2⟩:=e;subst e2;rw[Reps]at r;obtain⟨y,ys,e3,r1,r2⟩:=r;rw[e3,bI r1,h9 e1 r2];rfl
 | .non::_,_,_,e,_ | .bl _::_,_,_,e,_ | .str _::_,_,_,e,_ | .tup _::_,_,_,e,_ | .lst _::_,_,_,e,_ | .dct _ _ _::_,_,_,e,_=>by simp[eV]at e
theorem ly(ns:List Int):eV (ns.map D.int)=some ns:=by
 induction ns with
 |nil=>rfl
 |cons n ns ih=>rw[Vo,eV,ih];rfl
theorem CW(ns:List Bool):xE (ns.map D.bl)=some ns:=by
 induction ns with
 |nil=>rfl
 |cons n ns ih=>rw[Vo,xE,ih];rfl
def om:D->Option (List D)
 | .lst ds=>some ds
 | .tup ds=>some ds
 |_=>none
theorem As(gh:Same G H)(e:om d=some ds)(h:Vw K G H d v):∃p xs,v=.ref p/\(SqL K H p xs\/SqT K H p xs)/\Reps K G ds xs:=by
 cases d with
 |lst es=>
  cases e;obtain⟨p,xs,ev,sq,rs⟩:=h;exact⟨p,xs,ev,.inl sq,rs⟩
 |tup es=>
  cases e;obtain⟨p,xs,ev,sq,rs⟩:=bF h;exact⟨p,xs,ev,.inr (bK gh sq),rs⟩
 |_=>cases e
def HI:List D->Res R
 |[d]=>match(om d).bind xE with
  |some bs=>.ok (.f,.bl (bs.all id))
  |none=>.bad
 |_=>.bad
def yQ:List D->Res R
 |[d]=>match(om d).bind eV with
  |some ns=>.ok (.f,.int ns.sum)
  |none=>.bad
 |_=>.bad
def maxD:List D->Res R
 |[d]=>match(om d).bind eV with
  |some (n::ns)=>.ok (.f,.int (Cz (n::ns)))
  |_=>.bad
 |[.int i,.int j]=>.ok (.f,.int (if i<j then j else i))
 |_=>.bad
theorem uR{ns:List Int}(gh:Same G H)(hb:(om d).bind eV=some ns)(vt:Vw K G H d v):∃p,v=.ref p/\(SqL K H p (ns.map V.int)\/SqT K H p (ns.map V.int)):=by
 obtain⟨l,hl,hb⟩:=Xi.mp hb;obtain⟨p,ys,ep,sq,rs⟩:=As gh hl vt;have:=h9 hb rs;subst this;exact⟨p,ep,sq⟩
theorem uS(hc:X.calm=true):eA X (.builtin "sum") (rC X.K yQ):=by
 rintro pr s σ H xs us Q I rx ⟨G,fp,es,vs,ds,r,⟨rel,k⟩,vd,e⟩;unfold yQ at e;split at e
 ·rename_i d;split at e
  ·rename_i ns hb;cases e;obtain⟨v,ev,vt⟩:=sP vd;obtain⟨p,ep,sq⟩:=uR rel.gh hb vt;subst ev;subst ep;exact um hc pr s σ H _ us Q I rx ⟨p,ns,rfl,sq,k _ H G fp .refl (rel.push (rep_int _))⟩
  ·cases e
 ·cases e
end
mutual
noncomputable def Ia:D->D->Bool
 | .non,.non=>true
 | .bl a,.bl b=>a==b
 | .bl a,.int j=>(if a then 1 else 0)==j
 | .int i,.bl b=>i==(if b then 1 else 0)
 | .int i,.int j=>i==j
 | .str a,.str b=>a==b
 | .tup a,.tup b=>jK a b
 | .lst a,.lst b=>jK a b
 |_,_=>false
noncomputable def jK:List D->List D->Bool
 |[],[]=>true
 |a::as,b::bs=>Ia a b&&jK as bs
 |_,_=>false
end
mutual
noncomputable def plainD:Nat->D->Bool
 |n+1,.tup ds=>plainDs n ds
 |n+1,.lst ds=>plainDs n ds
 | 0,.tup _=>false
 | 0,.lst _=>false
 |_,.dct _ _ _=>false
 |_,_=>true
noncomputable def plainDs:Nat->List D->Bool
 |_,[]=>true
 |n,d::ds=>plainD n d&&plainDs n ds
end
theorem plainDs_mem:∀{n:Nat}{ds:List D},plainDs n ds=true->∀{i:Nat}{d:D},ds[i]?=some d->plainD n d=true
 |_,[],_,_,_,e=>by simp at e
 |n,a::ds,h,0,d,e=>by
  rw[plainDs,Ve]at h;simp at e;rw[<-e];exact h.1
 |n,a::ds,h,i+1,d,e=>by
  rw[plainDs,Ve]at h;exact plainDs_mem h.2 (i:=i) (by simpa using e)
theorem iF:∀{a b:List D},a.length≠b.length->jK a b=false
 |[],[],h=>absurd rfl h
 |[],_::_,_=>by simp only[jK]
 |_::_,[],_=>by simp only[jK]
 |x::xs,y::ys,h=>by
  rw[jK,iF (fun e=>h (by simp[e])),XH]
theorem eW:∀{a b:List D},a.length=b.length->(List.range a.length).all (fun j=>Ia (a.getD j .non) (b.getD j .non))=jK a b
 |[],[],_=>rfl
 |[],_::_,h=>by simp at h
 |_::_,[],h=>by simp at h
 |x::xs,y::ys,h=>by
  rw[jK,<-eW (a:=xs) (b:=ys) (by simpa using h),Vb,List.range_succ_eq_map,Xg,Xw];rfl
variable{pr:List (Addr×Obj)}{s:Shared}{tk:Bool}
section
theorem j8(I:Inv X pr σ H s){ys:List V}(h:SqL X.K H p xs)(h':SqT X.K H p ys):False:=by
 obtain⟨us,_,p1,_⟩:=I.list h;obtain⟨ws,_,p2,_⟩:=I.tuple h';exact SeqAt.ne_of_list_tuple p1.isList (show s.heap.IsTuple p ws.toArray from p2) rfl
mutual
theorem j9(I:Inv X pr σ H s):∀(d e:D) (x:V) (n:Nat),plainD n d=true->Rep X.K H d x->Rep X.K H e x->d=e
 | .non,e,x,n,_,r,q=>by
  cases cc r;cases e with
  |non=>rfl
  |bl b=>cases cU q
  |int i=>cases bI q
  |str l=>cases(bE q).1
  |tup l=>obtain⟨p,xs,ev,_⟩:=bF q;cases ev
  |lst l=>obtain⟨p,xs,ev,_⟩:=bw q;cases ev
  |dct tk ks vs=>rw[Rep]at q;obtain⟨p,xs,o,ev,_⟩:=q;cases ev
 | .bl b,e,x,n,_,r,q=>by
  cases cU r;cases e with
  |non=>cases cc q
  |bl b=>cases cU q;rfl
  |int i=>cases bI q
  |str l=>cases(bE q).1
  |tup l=>obtain⟨p,xs,ev,_⟩:=bF q;cases ev
  |lst l=>obtain⟨p,xs,ev,_⟩:=bw q;cases ev
  |dct tk ks vs=>rw[Rep]at q;obtain⟨p,xs,o,ev,_⟩:=q;cases ev
 | .int i,e,x,n,_,r,q=>by
  cases bI r;cases e with
  |non=>cases cc q
  |bl b=>cases cU q
  |int i=>cases bI q;rfl
  |str l=>cases(bE q).1
  |tup l=>obtain⟨p,xs,ev,_⟩:=bF q;cases ev
  |lst l=>obtain⟨p,xs,ev,_⟩:=bw q;cases ev
  |dct tk ks vs=>rw[Rep]at q;obtain⟨p,xs,o,ev,_⟩:=q;cases ev
 | .str l,e,x,n,_,r,q=>by
  have hr:=(bE r).1;subst hr;cases e with
  |non=>cases cc q
  |bl b=>cases cU q
  |int i=>cases bI q
  |str l'=>
   have hq:=(bE q).1;injection hq with hq;rw[z4 hq]
  |tup l=>obtain⟨p,xs,ev,_⟩:=bF q;cases ev
  |lst l=>obtain⟨p,xs,ev,_⟩:=bw q;cases ev
  |dct tk ks vs=>rw[Rep]at q;obtain⟨p,xs,o,ev,_⟩:=q;cases ev
 | .tup l,e,x,n,h,r,q=>by
  obtain⟨p,xs,ev,sq,rs⟩:=bF r;subst ev;cases e with
  |non=>cases cc q
  |bl b=>cases cU q
  |int i=>cases bI q
  |str l=>cases(bE q).1
  |tup l'=>
   obtain⟨p',Jj,Kp,JG,JT⟩:=bF q;cases Kp;have:=I.tuple_inj sq JG;subst this;cases n with
   |zero=>simp only[plainD]at h;cases h
   |succ n=>
    simp only[plainD]at h;rw[my I l l' xs n h rs JT]
  |lst l'=>
   obtain⟨p',Jj,Kp,JG,JT⟩:=bw q;cases Kp;exact(j8 I JG sq).elim
  |dct tk ks vs=>
   exfalso;rw[Rep]at q;obtain⟨p',Jj,o,Kp,rd,dd,_⟩:=q;cases Kp;obtain⟨HX,_,ip,_⟩:=I.tuple sq;obtain⟨ob,ho,hc,_⟩:=ip;have PM:=rd.ok I.hok;cases tk with
   |true=>
    obtain⟨HS,eo,_⟩:=dd;subst eo;obtain⟨_,_,_,_,o2,_,_,Kg,ex,_⟩:=PM;rw[ho]at Kg;cases Kg;rw[ex.1]at hc;exact absurd hc (by decide)
   |false=>
    obtain⟨HS,eo,_⟩:=dd;subst eo;obtain⟨_,_,_,_,o2,_,_,Kg,ex,_⟩:=PM;rw[ho]at Kg;cases Kg;rw[ex.1]at hc;exact absurd hc (by decide)
 | .lst l,e,x,n,h,r,q=>by
  obtain⟨p,xs,ev,sq,rs⟩:=bw r;subst ev;cases e with
  |non=>cases cc q
  |bl b=>cases cU q
  |int i=>cases bI q
  |str l=>cases(bE q).1
  |tup l'=>
   obtain⟨p',Jj,Kp,JG,JT⟩:=bF q;cases Kp;exact(j8 I sq JG).elim
  |lst l'=>
   obtain⟨p',Jj,Kp,JG,JT⟩:=bw q;cases Kp;have:=I.list_inj sq JG;subst this;cases n with
   |zero=>simp only[plainD]at h;cases h
   |succ n=>
    simp only[plainD]at h;rw[my I l l' xs n h rs JT]
  |dct tk ks vs=>
   exfalso;rw[Rep]at q;obtain⟨p',Jj,o,Kp,rd,dd,_⟩:=q;cases Kp;obtain⟨HX,_,ip,_⟩:=I.list sq;obtain⟨ob,_,ho,hc,_⟩:=ip;have PM:=rd.ok I.hok;cases tk with
   |true=>
    obtain⟨HS,eo,_⟩:=dd;subst eo;obtain⟨_,_,_,_,o2,_,_,Kg,ex,_⟩:=PM;rw[ho]at Kg;cases Kg;rw[ex.1]at hc;exact absurd hc (by decide)
   |false=>
    obtain⟨HS,eo,_⟩:=dd;subst eo;obtain⟨_,_,_,_,o2,_,_,Kg,ex,_⟩:=PM;rw[ho]at Kg;cases Kg;rw[ex.1]at hc;exact absurd hc (by decide)
 | .dct _ _ _,_,_,n,h,_,_=>by cases n <;> (simp only[plainD]at h;cases h)
theorem my(I:Inv X pr σ H s):∀(ds es:List D) (xs:List V) (n:Nat),plainDs n ds=true->Reps X.K H ds xs->Reps X.K H es xs->ds=es
 |[],es,xs,n,_,r,q=>by
  rw[Reps]at r;subst r;cases es with
  |nil=>rfl
  |cons e es=>
   rw[Reps]at q;obtain⟨y,ys,ev,_⟩:=q;cases ev
 |d::ds,es,xs,n,h,r,q=>by
  rw[Reps]at r;obtain⟨y,ys,ev,r1,r2⟩:=r;subst ev;rw[plainDs,Ve]at h;cases es with
  |nil=>
   rw[Reps]at q;cases q
  |cons e es=>
   rw[Reps]at q;obtain⟨y',ys',ev,q1,q2⟩:=q;cases ev;rw[j9 I d e y n h.1 r1 q1,my I ds es ys n h.2 r2 q2]
end
mutual
theorem jL:∀(d:D) (n:Nat),plainD n d=true->Ia d d=true
 | .non,_,_=>by simp only[Ia]
 | .bl _,_,_=>by simp only[Ia,V0]
 | .int _,_,_=>by simp only[Ia,V0]
 | .str _,_,_=>by simp only[Ia,V0]
 | .tup ds,0,h=>by simp only[plainD]at h;cases h
 | .tup ds,n+1,h=>by simp only[plainD]at h;simp only[Ia];exact ka ds n h
 | .lst ds,0,h=>by simp only[plainD]at h;cases h
 | .lst ds,n+1,h=>by simp only[plainD]at h;simp only[Ia];exact ka ds n h
 | .dct _ _ _,n,h=>by cases n <;> (simp only[plainD]at h;cases h)
theorem ka:∀(ds:List D) (n:Nat),plainDs n ds=true->jK ds ds=true
 |[],_,_=>by simp only[jK]
 |d::ds,n,h=>by
  rw[plainDs,Ve]at h;rw[jK,jL d n h.1,ka ds n h.2];rfl
end
open PySem.SeqAt
theorem bL{n:Nat}{ks vs:List D}(h:plainD n (.dct tk ks vs)=true):False:=by cases n <;> (simp only[plainD]at h;cases h)
mutual
theorem Au(I:Inv X pr σ H s):∀(d e:D) (x y:V) (v u:Value) (A:Around) (n:Nat),plainD n d=true->plainD n e=true->A.units+n<cLine->Rep X.K H d x->Rep X.K H e y->RelV x v->RelV y u->EqAt A s v u (Ia d e)
 | .non,e,x,y,v,u,A,n,h,h',hu,r,q,rx,ry=>by
  cases cc r;cases rx;cases e with
  |non=>cases cc q;cases ry;simp only[Ia];exact .same _
  |bl b=>cases cU q;cases ry;simp only[Ia];exact .none_bool _
  |int i=>cases bI q;obtain⟨t,rfl⟩:=ry;simp only[Ia];exact .none_int _ _
  |str l=>cases(bE q).1;obtain⟨t,rfl⟩:=ry;simp only[Ia];exact .none_str _ _
  |tup l=>obtain⟨p,xs,rfl,sq,_⟩:=bF q;cases ry;obtain⟨HX,_,ip,_⟩:=I.tuple sq;simp only[Ia];exact .none_tuple (show s.heap.IsTuple p HX.toArray from ip) (by lia)
  |lst l=>obtain⟨p,xs,rfl,sq,_⟩:=bw q;cases ry;obtain⟨HX,_,ip,_⟩:=I.list sq;simp only[Ia];exact .none_list ip.isList (by lia)
  |dct tk ks vs=>exact(bL h').elim
 | .bl b,e,x,y,v,u,A,n,h,h',hu,r,q,rx,ry=>by
  cases cU r;cases rx;cases e with
  |non=>cases cc q;cases ry;simp only[Ia];exact .bool_none _
  |bl b=>cases cU q;cases ry;simp only[Ia];exact .bool_bool _ _
  |int i=>cases bI q;obtain⟨t,rfl⟩:=ry;simp only[Ia];exact .bool_int _ _ _
  |str l=>cases(bE q).1;obtain⟨t,rfl⟩:=ry;simp only[Ia];exact .bool_str _ _ _
  |tup l=>obtain⟨p,xs,rfl,sq,_⟩:=bF q;cases ry;obtain⟨HX,_,ip,_⟩:=I.tuple sq;simp only[Ia];exact .bool_tuple _ (show s.heap.IsTuple p HX.toArray from ip) (by lia)
  |lst l=>obtain⟨p,xs,rfl,sq,_⟩:=bw q;cases ry;obtain⟨HX,_,ip,_⟩:=I.list sq;simp only[Ia];exact .bool_list _ ip.isList (by lia)
  |dct tk ks vs=>exact(bL h').elim
 | .int b,e,x,y,v,u,A,n,h,h',hu,r,q,rx,ry=>by
  cases bI r;obtain⟨t0,rfl⟩:=rx;cases e with
  |non=>cases cc q;cases ry;simp only[Ia];exact .int_none _ _
  |bl b=>cases cU q;cases ry;simp only[Ia];exact .int_bool _ _ _
  |int i=>cases bI q;obtain⟨t,rfl⟩:=ry;simp only[Ia];exact .int_int _ _ _ _
  |str l=>cases(bE q).1;obtain⟨t,rfl⟩:=ry;simp only[Ia];exact .int_str _ _ _ _
  |tup l=>obtain⟨p,xs,rfl,sq,_⟩:=bF q;cases ry;obtain⟨HX,_,ip,_⟩:=I.tuple sq;simp only[Ia];exact .int_tuple _ _ (show s.heap.IsTuple p HX.toArray from ip) (by lia)
  |lst l=>obtain⟨p,xs,rfl,sq,_⟩:=bw q;cases ry;obtain⟨HX,_,ip,_⟩:=I.list sq;simp only[Ia];exact .int_list _ _ ip.isList (by lia)
  |dct tk ks vs=>exact(bL h').elim
 | .str b,e,x,y,v,u,A,n,h,h',hu,r,q,rx,ry=>by
  have hr:=(bE r).1;subst hr;obtain⟨t0,rfl⟩:=rx;cases e with
  |non=>cases cc q;cases ry;simp only[Ia];exact .str_none _ _
  |bl b=>cases cU q;cases ry;simp only[Ia];exact .str_bool _ _ _
  |int i=>cases bI q;obtain⟨t,rfl⟩:=ry;simp only[Ia];exact .str_int _ _ _ _
  |str l=>
   have hq:=(bE q).1;subst hq;obtain⟨t,rfl⟩:=ry;have e1:(b==l)=(S b==S l):=by
    rw[VQ,VD,VD];exact⟨fun z=>by rw[z],z4⟩
   simp only[Ia,e1];exact .str_str _ _ _ _
  |tup l=>obtain⟨p,xs,rfl,sq,_⟩:=bF q;cases ry;obtain⟨HX,_,ip,_⟩:=I.tuple sq;simp only[Ia];exact .str_tuple _ _ (show s.heap.IsTuple p HX.toArray from ip) (by lia)
  |lst l=>obtain⟨p,xs,rfl,sq,_⟩:=bw q;cases ry;obtain⟨HX,_,ip,_⟩:=I.list sq;simp only[Ia];exact .str_list _ _ ip.isList (by lia)
  |dct tk ks vs=>exact(bL h').elim
 | .tup l,e,x,y,v,u,A,n,h,h',hu,r,q,rx,ry=>by
  have rr:=r;obtain⟨p,xs,ev,sq,rs⟩:=bF r;subst ev;cases rx;obtain⟨HX,vl,ip,_⟩:=I.tuple sq;have ip:s.heap.IsTuple p HX.toArray:=ip;cases e with
  |non=>cases cc q;cases ry;simp only[Ia];exact .tuple_none ip (by lia)
  |bl b=>cases cU q;cases ry;simp only[Ia];exact .tuple_bool _ ip (by lia)
  |int i=>cases bI q;obtain⟨t,rfl⟩:=ry;simp only[Ia];exact .tuple_int _ _ ip (by lia)
  |str l=>cases(bE q).1;obtain⟨t,rfl⟩:=ry;simp only[Ia];exact .tuple_str _ _ ip (by lia)
  |tup l'=>
   obtain⟨p',Jj,Kp,JG,JT⟩:=bF q;subst Kp;cases ry;by_cases hp:p=p'
   ·subst hp;have hz:=j9 I _ _ _ n h rr q;rw[<-hz,jL _ n h];exact .same _
   ·obtain⟨its',Nq,Kf,_⟩:=I.tuple JG;have Kf:s.heap.IsTuple p' its'.toArray:=Kf;cases n with
    |zero=>simp only[plainD]at h;cases h
    |succ n=>
     simp only[plainD]at h h';have l1:=vl.length;have l2:=Nq.length;have l3:=rs.length;have l4:=JT.length;have key:=RcAt.tuples (A:=A) (e:=fun j=>Ia (l.getD j .non) (l'.getD j .non)) ip Kf (by lia) fun j h1 h2=>by
      simp only[UT]at h1 h2;have g1:l[j]?=some (l[j]'(by lia)):=US _;have g2:l'[j]?=some (l'[j]'(by lia)):=US _;obtain⟨w1,L6,Mu⟩:=rs.get g1;obtain⟨w2,Nr,Nt⟩:=JT.get g2;obtain⟨u1,K0,Mw⟩:=vl.get L6;obtain⟨u2,LN,Nu⟩:=Nq.get Nr;have q1:HX.toArray[j]=u1:=by rw[US h1]at K0;simpa using K0
      have q2:its'.toArray[j]=u2:=by rw[US h2]at LN;simpa using LN
      rw[q1,q2,UQ,UQ,g1,g2];exact oq I l j _ g1 _ w1 w2 u1 u2 A.in1 n (plainDs_mem h g1) (plainDs_mem h' g2) (by show A.units+1+n<cLine;lia) Mu Nt Mw Nu
     simp only[Ia];have fin:((List.range (min HX.toArray.size its'.toArray.size)).all (fun j=>Ia (l.getD j .non) (l'.getD j .non))&&HX.toArray.size==its'.toArray.size)=jK l l':=by
      simp only[UT];by_cases hl:l.length=l'.length
      ·rw[<-eW hl,show min HX.length its'.length=l.length by lia,show(HX.length==its'.length)=true by rw[VD];lia,YY]
      ·rw[iF hl,show(HX.length==its'.length)=false by rw[Vn];lia,XH]
     rw[<-fin];exact .of_refs hp key
  |lst l'=>obtain⟨p',Jj,Kp,JG,_⟩:=bw q;subst Kp;cases ry;obtain⟨its',_,Kf,_⟩:=I.list JG;simp only[Ia];exact .tuple_list ip Kf.isList (by lia)
  |dct tk ks vs=>exact(bL h').elim
 | .lst l,e,x,y,v,u,A,n,h,h',hu,r,q,rx,ry=>by
  have rr:=r;obtain⟨p,xs,ev,sq,rs⟩:=bw r;subst ev;cases rx;obtain⟨HX,vl,ip,_⟩:=I.list sq;have ip:=ip.isList;cases e with
  |non=>cases cc q;cases ry;simp only[Ia];exact .list_none ip (by lia)
  |bl b=>cases cU q;cases ry;simp only[Ia];exact .list_bool _ ip (by lia)
  |int i=>cases bI q;obtain⟨t,rfl⟩:=ry;simp only[Ia];exact .list_int _ _ ip (by lia)
  |str l=>cases(bE q).1;obtain⟨t,rfl⟩:=ry;simp only[Ia];exact .list_str _ _ ip (by lia)
  |lst l'=>
   obtain⟨p',Jj,Kp,JG,JT⟩:=bw q;subst Kp;cases ry;by_cases hp:p=p'
   ·subst hp;have hz:=j9 I _ _ _ n h rr q;rw[<-hz,jL _ n h];exact .same _
   ·obtain⟨its',Nq,Kf,_⟩:=I.list JG;have Kf:=Kf.isList;cases n with
    |zero=>simp only[plainD]at h;cases h
    |succ n=>
     simp only[plainD]at h h';have l1:=vl.length;have l2:=Nq.length;have l3:=rs.length;have l4:=JT.length;simp only[Ia];by_cases hl:l.length=l'.length
     ·have key:=RcAt.lists (A:=A) (e:=fun j=>Ia (l.getD j .non) (l'.getD j .non)) ip Kf (by simp only[UT];lia) (by lia) fun j h1 h2=>by
       simp only[UT]at h1 h2;have g1:l[j]?=some (l[j]'(by lia)):=US _;have g2:l'[j]?=some (l'[j]'(by lia)):=US _;obtain⟨w1,L6,Mu⟩:=rs.get g1;obtain⟨w2,Nr,Nt⟩:=JT.get g2;obtain⟨u1,K0,Mw⟩:=vl.get L6;obtain⟨u2,LN,Nu⟩:=Nq.get Nr;have q1:HX.toArray[j]=u1:=by rw[US h1]at K0;simpa using K0
       have q2:its'.toArray[j]=u2:=by rw[US h2]at LN;simpa using LN
       rw[q1,q2,UQ,UQ,g1,g2];exact oq I l j _ g1 _ w1 w2 u1 u2 A.in1 n (plainDs_mem h g1) (plainDs_mem h' g2) (by show A.units+1+n<cLine;lia) Mu Nt Mw Nu
      rw[<-eW hl,show l.length=HX.toArray.size by simp only[UT];lia];exact .of_refs hp key
     ·rw[iF hl];exact .of_refs hp (RcAt.lists_lengths ip Kf (by simp only[UT,bne_iff_ne];lia) (by lia))
  |tup l'=>obtain⟨p',Jj,Kp,JG,_⟩:=bF q;subst Kp;cases ry;obtain⟨its',_,Kf,_⟩:=I.tuple JG;simp only[Ia];exact .list_tuple ip (show s.heap.IsTuple p' its'.toArray from Kf) (by lia)
  |dct tk ks vs=>exact(bL h').elim
 | .dct _ _ _,_,_,_,_,_,_,n,h,_,_,_,_,_,_=>(bL h).elim
theorem oq(I:Inv X pr σ H s):∀(ds:List D) (j:Nat) (d:D),ds[j]?=some d->∀(e:D) (x y:V) (v u:Value) (A:Around) (n:Nat),plainD n d=true->plainD n e=true->A.units+n<cLine->Rep X.K H d x->Rep X.K H e y->RelV x v->RelV y u->EqAt A s v u (Ia d e)
 |[],_,_,hj=>by simp at hj
 |d'::ds,0,d,hj=>by
  simp at hj;subst hj;exact Au I d'
 |d'::ds,j+1,d,hj=>oq I ds j d (by simpa using hj)
end
end
variable{y:V}{A:Around}
section
def Ja(a b:D):Res R:=if plainD 40 a&&plainD 40 b then .ok (.f,.bl (Ia a b)) else .bad
def K1(a b:D):Res R:=if plainD 40 a&&plainD 40 b then .ok (.f,.bl (!Ia a b)) else .bad
open PySem.SeqAt in
theorem CY(I:Inv X pr σ H s){e:D}{x:V}{v u:Value}(h:plainD 40 d=true)(h':plainD 40 e=true)(hu:A.units+64<cLine)(r:Rep X.K H d x)(q:Rep X.K H e y)(rx:RelV x v)(ry:RelV y u):
  RcAt A s v u (Ia d e)/\RcNeAt A s v u (!Ia d e):=by
 cases d with
 |non=>
  cases cc r;cases rx;cases e with
  |non=>cases cc q;cases ry;simp only[Ia];exact⟨.none_none,.none_none⟩
  |bl b=>cases cU q;cases ry;simp only[Ia];exact⟨.none_bool _,.none_bool _⟩
  |int i=>cases bI q;obtain⟨t,rfl⟩:=ry;simp only[Ia];exact⟨.none_int _ _,.none_int _ _⟩
  |str l=>cases(bE q).1;obtain⟨t,rfl⟩:=ry;simp only[Ia];exact⟨.none_str _ _,.none_str _ _⟩
  |tup l=>obtain⟨p,xs,rfl,sq,_⟩:=bF q;cases ry;obtain⟨HX,_,ip,_⟩:=I.tuple sq;simp only[Ia];exact⟨.none_tuple (show s.heap.IsTuple p HX.toArray from ip) (by lia),.none_tuple (show s.heap.IsTuple p HX.toArray from ip) (by lia)⟩
  |lst l=>obtain⟨p,xs,rfl,sq,_⟩:=bw q;cases ry;obtain⟨HX,_,ip,_⟩:=I.list sq;simp only[Ia];exact⟨.none_list ip.isList (by lia),.none_list ip.isList (by lia)⟩
  |dct tk ks vs=>exact(bL h').elim
 |bl b=>
  cases cU r;cases rx;cases e with
  |non=>cases cc q;cases ry;simp only[Ia];exact⟨.bool_none _,.bool_none _⟩
  |bl b=>cases cU q;cases ry;simp only[Ia];exact⟨.bool_bool _ _,.bool_bool _ _⟩
  |int i=>cases bI q;obtain⟨t,rfl⟩:=ry;simp only[Ia];exact⟨.bool_int _ _ _,.bool_int _ _ _⟩
  |str l=>cases(bE q).1;obtain⟨t,rfl⟩:=ry;simp only[Ia];exact⟨.bool_str _ _ _,.bool_str _ _ _⟩
  |tup l=>obtain⟨p,xs,rfl,sq,_⟩:=bF q;cases ry;obtain⟨HX,_,ip,_⟩:=I.tuple sq;simp only[Ia];exact⟨.bool_tuple _ (show s.heap.IsTuple p HX.toArray from ip) (by lia),.bool_tuple _ (show s.heap.IsTuple p HX.toArray from ip) (by lia)⟩
  |lst l=>obtain⟨p,xs,rfl,sq,_⟩:=bw q;cases ry;obtain⟨HX,_,ip,_⟩:=I.list sq;simp only[Ia];exact⟨.bool_list _ ip.isList (by lia),.bool_list _ ip.isList (by lia)⟩
  |dct tk ks vs=>exact(bL h').elim
 |int b=>
  cases bI r;obtain⟨t0,rfl⟩:=rx;cases e with
  |non=>cases cc q;cases ry;simp only[Ia];exact⟨.int_none _ _,.int_none _ _⟩
  |bl b=>cases cU q;cases ry;simp only[Ia];exact⟨.int_bool _ _ _,.int_bool _ _ _⟩
  |int i=>cases bI q;obtain⟨t,rfl⟩:=ry;simp only[Ia];exact⟨.int_int _ _ _ _,.int_int _ _ _ _⟩
  |str l=>cases(bE q).1;obtain⟨t,rfl⟩:=ry;simp only[Ia];exact⟨.int_str _ _ _ _,.int_str _ _ _ _⟩
  |tup l=>obtain⟨p,xs,rfl,sq,_⟩:=bF q;cases ry;obtain⟨HX,_,ip,_⟩:=I.tuple sq;simp only[Ia];exact⟨.int_tuple _ _ (show s.heap.IsTuple p HX.toArray from ip) (by lia),.int_tuple _ _ (show s.heap.IsTuple p HX.toArray from ip) (by lia)⟩
  |lst l=>obtain⟨p,xs,rfl,sq,_⟩:=bw q;cases ry;obtain⟨HX,_,ip,_⟩:=I.list sq;simp only[Ia];exact⟨.int_list _ _ ip.isList (by lia),.int_list _ _ ip.isList (by lia)⟩
  |dct tk ks vs=>exact(bL h').elim
 |str b=>
  have hr:=(bE r).1;subst hr;obtain⟨t0,rfl⟩:=rx;cases e with
  |non=>cases cc q;cases ry;simp only[Ia];exact⟨.str_none _ _,.str_none _ _⟩
  |bl b=>cases cU q;cases ry;simp only[Ia];exact⟨.str_bool _ _ _,.str_bool _ _ _⟩
  |int i=>cases bI q;obtain⟨t,rfl⟩:=ry;simp only[Ia];exact⟨.str_int _ _ _ _,.str_int _ _ _ _⟩
  |str l=>
   have hq:=(bE q).1;subst hq;obtain⟨t,rfl⟩:=ry;have e1:(b==l)=(S b==S l):=by
    rw[VQ,VD,VD];exact⟨fun z=>by rw[z],z4⟩
   simp only[Ia,e1];exact⟨.str_str _ _ _ _,.str_str _ _ _ _⟩
  |tup l=>obtain⟨p,xs,rfl,sq,_⟩:=bF q;cases ry;obtain⟨HX,_,ip,_⟩:=I.tuple sq;simp only[Ia];exact⟨.str_tuple _ _ (show s.heap.IsTuple p HX.toArray from ip) (by lia),.str_tuple _ _ (show s.heap.IsTuple p HX.toArray from ip) (by lia)⟩
  |lst l=>obtain⟨p,xs,rfl,sq,_⟩:=bw q;cases ry;obtain⟨HX,_,ip,_⟩:=I.list sq;simp only[Ia];exact⟨.str_list _ _ ip.isList (by lia),.str_list _ _ ip.isList (by lia)⟩
  |dct tk ks vs=>exact(bL h').elim
 |tup l=>
  obtain⟨p,xs,ev,sq,rs⟩:=bF r;subst ev;cases rx;obtain⟨HX,vl,ip,_⟩:=I.tuple sq;have ip:s.heap.IsTuple p HX.toArray:=ip;cases e with
  |non=>cases cc q;cases ry;simp only[Ia];exact⟨.tuple_none ip (by lia),.tuple_none ip (by lia)⟩
  |bl b=>cases cU q;cases ry;simp only[Ia];exact⟨.tuple_bool _ ip (by lia),.tuple_bool _ ip (by lia)⟩
  |int i=>cases bI q;obtain⟨t,rfl⟩:=ry;simp only[Ia];exact⟨.tuple_int _ _ ip (by lia),.tuple_int _ _ ip (by lia)⟩
  |str l=>cases(bE q).1;obtain⟨t,rfl⟩:=ry;simp only[Ia];exact⟨.tuple_str _ _ ip (by lia),.tuple_str _ _ ip (by lia)⟩
  |tup l'=>
   obtain⟨p',Jj,Kp,JG,JT⟩:=bF q;subst Kp;cases ry;obtain⟨its',Nq,Kf,_⟩:=I.tuple JG;have Kf:s.heap.IsTuple p' its'.toArray:=Kf;simp only[plainD]at h h';have l1:=vl.length;have l2:=Nq.length;have l3:=rs.length;have l4:=JT.length;have el:∀j (h1:j<HX.toArray.size) (h2:j<its'.toArray.size),EqAt A.in1 s HX.toArray[j] its'.toArray[j] ((fun j=>Ia (l.getD j .non) (l'.getD j .non)) j):=fun j h1 h2=>by
    simp only[UT]at h1 h2;have g1:l[j]?=some (l[j]'(by lia)):=US _;have g2:l'[j]?=some (l'[j]'(by lia)):=US _;obtain⟨w1,L6,Mu⟩:=rs.get g1;obtain⟨w2,Nr,Nt⟩:=JT.get g2;obtain⟨u1,K0,Mw⟩:=vl.get L6;obtain⟨u2,LN,Nu⟩:=Nq.get Nr;have q1:HX.toArray[j]=u1:=by rw[US h1]at K0;simpa using K0
    have q2:its'.toArray[j]=u2:=by rw[US h2]at LN;simpa using LN
    dsimp only;rw[q1,q2,UQ,UQ,g1,g2];exact oq I l j _ g1 _ w1 w2 u1 u2 A.in1 39 (plainDs_mem h g1) (plainDs_mem h' g2) (by show A.units+1+39<cLine;lia) Mu Nt Mw Nu
   simp only[Ia];have fin:((List.range (min HX.toArray.size its'.toArray.size)).all (fun j=>Ia (l.getD j .non) (l'.getD j .non))&&HX.toArray.size==its'.toArray.size)=jK l l':=by
    simp only[UT];by_cases hl:l.length=l'.length
    ·rw[<-eW hl,show min HX.length its'.length=l.length by lia,show(HX.length==its'.length)=true by rw[VD];lia,YY]
    ·rw[iF hl,show(HX.length==its'.length)=false by rw[Vn];lia,XH]
   rw[<-fin];exact⟨.tuples ip Kf (by lia) el,.tuples ip Kf (by lia) el⟩
  |lst l'=>obtain⟨p',Jj,Kp,JG,_⟩:=bw q;subst Kp;cases ry;obtain⟨its',_,Kf,_⟩:=I.list JG;simp only[Ia];exact⟨.tuple_list ip Kf.isList (by lia),.tuple_list ip Kf.isList (by lia)⟩
  |dct tk ks vs=>exact(bL h').elim
 |lst l=>
  obtain⟨p,xs,ev,sq,rs⟩:=bw r;subst ev;cases rx;obtain⟨HX,vl,ip,_⟩:=I.list sq;have ip:=ip.isList;cases e with
  |non=>cases cc q;cases ry;simp only[Ia];exact⟨.list_none ip (by lia),.list_none ip (by lia)⟩
  |bl b=>cases cU q;cases ry;simp only[Ia];exact⟨.list_bool _ ip (by lia),.list_bool _ ip (by lia)⟩
  |int i=>cases bI q;obtain⟨t,rfl⟩:=ry;simp only[Ia];exact⟨.list_int _ _ ip (by lia),.list_int _ _ ip (by lia)⟩
  |str l=>cases(bE q).1;obtain⟨t,rfl⟩:=ry;simp only[Ia];exact⟨.list_str _ _ ip (by lia),.list_str _ _ ip (by lia)⟩
  |lst l'=>
   obtain⟨p',Jj,Kp,JG,JT⟩:=bw q;subst Kp;cases ry;obtain⟨its',Nq,Kf,_⟩:=I.list JG;have Kf:=Kf.isList;simp only[plainD]at h h';have l1:=vl.length;have l2:=Nq.length;have l3:=rs.length;have l4:=JT.length;simp only[Ia];by_cases hl:l.length=l'.length
   ·have el:∀j (h1:j<HX.toArray.size) (h2:j<its'.toArray.size),EqAt A.in1 s HX.toArray[j] its'.toArray[j] ((fun j=>Ia (l.getD j .non) (l'.getD j .non)) j):=fun j h1 h2=>by
     simp only[UT]at h1 h2;have g1:l[j]?=some (l[j]'(by lia)):=US _;have g2:l'[j]?=some (l'[j]'(by lia)):=US _;obtain⟨w1,L6,Mu⟩:=rs.get g1;obtain⟨w2,Nr,Nt⟩:=JT.get g2;obtain⟨u1,K0,Mw⟩:=vl.get L6;obtain⟨u2,LN,Nu⟩:=Nq.get Nr;have q1:HX.toArray[j]=u1:=by rw[US h1]at K0;simpa using K0
     have q2:its'.toArray[j]=u2:=by rw[US h2]at LN;simpa using LN
     dsimp only;rw[q1,q2,UQ,UQ,g1,g2];exact oq I l j _ g1 _ w1 w2 u1 u2 A.in1 39 (plainDs_mem h g1) (plainDs_mem h' g2) (by show A.units+1+39<cLine;lia) Mu Nt Mw Nu
    rw[<-eW hl,show l.length=HX.toArray.size by simp only[UT];lia];exact⟨.lists ip Kf (by simp only[UT];lia) (by lia) el,.lists ip Kf (by simp only[UT];lia) (by lia) el⟩
   ·rw[iF hl];exact⟨.lists_lengths ip Kf (by simp only[UT,bne_iff_ne];lia) (by lia),.lists_lengths ip Kf (by simp only[UT,bne_iff_ne];lia) (by lia)⟩
  |tup l'=>obtain⟨p',Jj,Kp,JG,_⟩:=bF q;subst Kp;cases ry;obtain⟨its',_,Kf,_⟩:=I.tuple JG;simp only[Ia];exact⟨.list_tuple ip (show s.heap.IsTuple p' its'.toArray from Kf) (by lia),.list_tuple ip (show s.heap.IsTuple p' its'.toArray from Kf) (by lia)⟩
  |dct tk ks vs=>exact(bL h').elim
 |dct tk ks vs=>exact(bL h).elim
theorem gf(hu:X.A.units+64<cLine):IW X (compareOp .Eq) (rGA X.K Ja):=by
 rintro pr s σ H x y v u Q I rx ry ⟨G,fp,es,vs,a,b,r,⟨rel,k⟩,va,vb,e⟩;unfold Ja at e;split at e
 ·rename_i hp;cases e;rw[Ve]at hp;exact(CY I hp.1 hp.2 hu va vb rx ry).1 _ _ _ _ ⟨.bl _,H,I,rfl,k _ H G fp .refl (rel.push (dq _))⟩
 ·cases e
theorem ot(hu:X.A.units+64<cLine):IW X (compareOp .NotEq) (rGA X.K K1):=by
 rintro pr s σ H x y v u Q I rx ry ⟨G,fp,es,vs,a,b,r,⟨rel,k⟩,va,vb,e⟩;unfold K1 at e;split at e
 ·rename_i hp;cases e;rw[Ve]at hp;exact(CY I hp.1 hp.2 hu va vb rx ry).2 _ _ _ _ ⟨.bl _,H,I,rfl,k _ H G fp .refl (rel.push (dq _))⟩
 ·cases e
def tF(a:D)(ds:List D):Bool:=ds.any fun d=>Ia d a
noncomputable def Og(a b:D):Res R:=match b with
 | .lst ds=>if plainD 40 a&&plainDs 40 ds then .ok (.f,.bl (tF a ds)) else .bad
 | .tup ds=>if plainD 40 a&&plainDs 40 ds then .ok (.f,.bl (tF a ds)) else .bad
 | .str l=>match a with
  | .str [c]=>.ok (.f,.bl (decide (c∈l)))
  |_=>.bad
 |_=>.bad
def Av(a b:D):Res R:=(Og a b).bind fun r=>match r.2 with
 | .bl k=>.ok (.f,.bl (!k))
 |_=>.bad
open PySem.SeqAt in
theorem mem_at(I:Inv X pr σ H s){a:D}{x:V}{v:Value}(h:plainD 40 a=true)(hu:A.units+64<cLine)(r:Rep X.K H a x)(rx:RelV x v):
  ∀(ds:List D) (xs:List V) (us:List Value),plainDs 40 ds=true->Reps X.K H ds xs->Vals xs us->∃e:Value->Bool,us.any e=tF a ds/\∀u∈us,EqAt A s u v (e u):=by
 classical
 intro ds xs us hp rs vl;refine⟨fun u=>decide (∃(j:Nat) (d:D),ds[j]?=some d/\us[j]?=some u/\Ia d a=true),?_,fun u Tf=>?_⟩
 ·rw[VQ,W6];unfold tF;rw[W6];constructor
  ·rintro⟨u,_,hd⟩;obtain⟨j,d,h1,_,h2⟩:=YN hd;exact⟨d,VU h1,h2⟩
  ·rintro⟨d,hd,h2⟩;obtain⟨j,hj⟩:=W9.mp hd;obtain⟨w1,L6,Mu⟩:=rs.get hj;obtain⟨u1,K0,Mw⟩:=vl.get L6;exact⟨u1,VU K0,VL ⟨j,d,hj,K0,h2⟩⟩
 ·obtain⟨j,hj⟩:=W9.mp Tf;have l1:=vl.length;have l2:=rs.length;have Tg:=(U1.mp hj).1;have g1:ds[j]?=some (ds[j]'(by lia)):=US _;obtain⟨w1,L6,Mu⟩:=rs.get g1;obtain⟨u1,K0,Mw⟩:=vl.get L6;rw[hj]at K0;cases K0;have z:=Au I _ _ w1 x u v A 40 (plainDs_mem hp g1) h (by lia) Mu r Mw rx;have e:decide (∃(j:Nat) (d:D),ds[j]?=some d/\us[j]?=some u/\Ia d a=true)=Ia (ds[j]'(by lia)) a:=by
   rw[VQ,Vl];constructor
   ·rintro⟨j2,d2,k1,k2,k3⟩;obtain⟨w2,Nr,Nt⟩:=rs.get k1;obtain⟨u2,LN,Nu⟩:=vl.get Nr;rw[k2]at LN;cases LN;have:=Mw.inj Nu;subst this;rw[j9 I _ _ _ 40 (plainDs_mem hp g1) Mu Nt];exact k3
   ·intro k3;exact⟨j,_,g1,hj,k3⟩
  show EqAt A s u v (decide (∃(j:Nat) (d:D),ds[j]?=some d/\us[j]?=some u/\Ia d a=true));rw[e];exact z
theorem ou(l:List Nat)(c:Nat):(!(Builtin.Str.occurrences (S l) (S [c]) 0 (S l).length 1).isEmpty)=decide (c∈l):=by
 have h:=PySem.StrLaws.found_one (S l) c;rw[gm]at h;exact h
theorem mz{e:Value->Bool}(us:List Value):us.toArray.any e=us.any e:=by simp
theorem Fx(hu:X.A.units+65<cLine):IW X (compareOp .In) (rGA X.K Og):=by
 rintro pr s σ H x y v u Q I rx ry ⟨G,fp,es,vs,a,b,r,⟨rel,k⟩,va,vb,e⟩;unfold Og at e;split at e
 ·rename_i ds;split at e
  ·rename_i hp;cases e;rw[Ve]at hp;obtain⟨p,xs,ev,sq,rs⟩:=bw vb;subst ev;cases ry;obtain⟨HX,vl,ip,_⟩:=I.list sq;obtain⟨ef,e1,e2⟩:=mem_at (A:=X.A.in1) I hp.1 (by show X.A.units+1+64<cLine;lia) va rx ds xs HX hp.2 rs vl;refine SeqAt.in_listAt ef ip.isList (fun z hz=>e2 z (by simpa using hz)) ?_;rw[mz,e1];exact⟨.bl _,H,I,rfl,k _ H G fp .refl (rel.push (dq _))⟩
  ·cases e
 ·rename_i ds;split at e
  ·rename_i hp;cases e;rw[Ve]at hp;obtain⟨p,xs,ev,sq,rs⟩:=bF vb;subst ev;cases ry;obtain⟨HX,vl,ip,_⟩:=I.tuple sq;obtain⟨ef,e1,e2⟩:=mem_at (A:=X.A.in1) I hp.1 (by show X.A.units+1+64<cLine;lia) va rx ds xs HX hp.2 rs vl;refine SeqAt.in_tupleAt ef (show s.heap.IsTuple p HX.toArray from ip) (fun z hz=>e2 z (by simpa using hz)) ?_;rw[mz,e1];exact⟨.bl _,H,I,rfl,k _ H G fp .refl (rel.push (dq _))⟩
  ·cases e
 ·rename_i l;split at e
  ·rename_i c;cases e;obtain⟨e1,h1⟩:=bE va;obtain⟨e2,h2⟩:=bE vb;subst e1;subst e2;refine tU pr s σ H _ _ v u Q I rx ry ⟨_,_,rfl,rfl,?_⟩;rw[ou];exact k _ H G fp .refl (rel.push (dq _))
  ·cases e
 ·cases e
theorem CZ(hu:X.A.units+65<cLine):IW X (compareOp .NotIn) (rGA X.K Av):=by
 rintro pr s σ H x y v u Q I rx ry ⟨G,fp,es,vs,a,b,r,⟨rel,k⟩,va,vb,e⟩;unfold Av at e;obtain⟨r0,e0,e⟩:=ai e;unfold Og at e0;split at e0
 ·rename_i ds;split at e0
  ·rename_i hp;cases e0;cases e;rw[Ve]at hp;obtain⟨p,xs,ev,sq,rs⟩:=bw vb;subst ev;cases ry;obtain⟨HX,vl,ip,_⟩:=I.list sq;obtain⟨ef,e1,e2⟩:=mem_at (A:=X.A.in1) I hp.1 (by show X.A.units+1+64<cLine;lia) va rx ds xs HX hp.2 rs vl;refine SeqAt.notIn_listAt ef ip.isList (fun z hz=>e2 z (by simpa using hz)) ?_;rw[mz,e1];exact⟨.bl _,H,I,rfl,k _ H G fp .refl (rel.push (dq _))⟩
  ·cases e0
 ·rename_i ds;split at e0
  ·rename_i hp;cases e0;cases e;rw[Ve]at hp;obtain⟨p,xs,ev,sq,rs⟩:=bF vb;subst ev;cases ry;obtain⟨HX,vl,ip,_⟩:=I.tuple sq;obtain⟨ef,e1,e2⟩:=mem_at (A:=X.A.in1) I hp.1 (by show X.A.units+1+64<cLine;lia) va rx ds xs HX hp.2 rs vl;refine SeqAt.notIn_tupleAt ef (show s.heap.IsTuple p HX.toArray from ip) (fun z hz=>e2 z (by simpa using hz)) ?_;rw[mz,e1];exact⟨.bl _,H,I,rfl,k _ H G fp .refl (rel.push (dq _))⟩
  ·cases e0
 ·rename_i l;split at e0
  ·rename_i c;cases e0;cases e;obtain⟨e1,h1⟩:=bE va;obtain⟨e2,h2⟩:=bE vb;subst e1;subst e2;refine nK pr s σ H _ _ v u Q I rx ry ⟨_,_,rfl,rfl,?_⟩;rw[ou];exact k _ H G fp .refl (rel.push (dq _))
  ·cases e0
 ·cases e0
def N3(a b:D):Res R:=match b with
 | .bl k=>.ok (.f,.bl (match a with | .bl j=>j==k|_=>false))
 | .non=>.ok (.f,.bl (match a with | .non=>true|_=>false))
 |_=>.bad
def HJ(a b:D):Res R:=(N3 a b).bind fun r=>match r.2 with
 | .bl k=>.ok (.f,.bl (!k))
 |_=>.bad
theorem xF{a b:D}{x:V}{v u:Value}{r:R}(va:Rep K H a x)(vb:Rep K H b y)(rx:RelV x v)(ry:RelV y u)(e:N3 a b=.ok r):plainIs v u=true/\r=(.f,.bl (v==u)):=by
 unfold N3 at e;split at e
 ·rename_i k;cases e;cases cU vb;cases ry;cases a with
  |non=>cases cc va;cases rx;exact⟨rfl,rfl⟩
  |bl j=>cases cU va;cases rx;refine⟨rfl,?_⟩;cases j <;> cases k <;> rfl
  |int i=>cases bI va;obtain⟨t,rfl⟩:=rx;exact⟨rfl,rfl⟩
  |str l=>cases(bE va).1;obtain⟨t,rfl⟩:=rx;exact⟨rfl,rfl⟩
  |tup l=>obtain⟨p,xs,rfl,_⟩:=bF va;cases rx;exact⟨rfl,rfl⟩
  |lst l=>obtain⟨p,xs,rfl,_⟩:=bw va;cases rx;exact⟨rfl,rfl⟩
  |dct tk ks vs=>rw[Rep]at va;obtain⟨p,xs,o,rfl,_⟩:=va;cases rx;exact⟨rfl,rfl⟩
 ·cases e;cases cc vb;cases ry;cases a with
  |non=>cases cc va;cases rx;exact⟨rfl,rfl⟩
  |bl j=>cases cU va;cases rx;exact⟨rfl,rfl⟩
  |int i=>cases bI va;obtain⟨t,rfl⟩:=rx;exact⟨rfl,rfl⟩
  |str l=>cases(bE va).1;obtain⟨t,rfl⟩:=rx;exact⟨rfl,rfl⟩
  |tup l=>obtain⟨p,xs,rfl,_⟩:=bF va;cases rx;exact⟨rfl,rfl⟩
  |lst l=>obtain⟨p,xs,rfl,_⟩:=bw va;cases rx;exact⟨rfl,rfl⟩
  |dct tk ks vs=>rw[Rep]at va;obtain⟨p,xs,o,rfl,_⟩:=va;cases rx;exact⟨rfl,rfl⟩
 ·cases e
theorem C0:IW X (compareOp .Is) (rGA X.K N3):=by
 rintro pr s σ H x y v u Q I rx ry ⟨G,fp,es,vs,a,b,r,⟨rel,k⟩,va,vb,e⟩;obtain⟨h1,h2⟩:=xF va vb rx ry e;subst h2;exact wpAny_is_plain h1 ⟨.bl _,H,I,rfl,k _ H G fp .refl (rel.push (dq _))⟩
end
section
def Hq(f g:FX):FX:=fun env=>(f env).bind fun p=>(g p.2).bind fun q=>match(om p.1.2).bind eV,q.1.2 with
 |some ns,.int d=>.ok ((.f,.int (NX.maxD ns d)),q.2)
 |_,_=>.bad
def HK:List D->Res R
 |[.bl b]=>.ok (.f,.int (if b then 1 else 0))
 |[.int i]=>.ok (.f,.int i)
 |_=>.bad
def pO:D->String
 | .non=>"NoneType"
 | .bl _=>"bool"
 | .int _=>"int"
 | .str _=>"str"
 | .tup _=>"tuple"
 | .lst _=>"list"
 | .dct _ _ _=>"dict"
def sQ(T:String)(d:D):Bool:=pO d==T||(pO d == "bool" && T == "int")
def PQ(T:String)(f:FO):FX:=fun env=>(f env).bind fun p=>(sI p.2 p.1).bind fun d=>.ok ((.f,.bl (sQ T d)),p.2)
theorem C3(K:W.Frag)(d:D)(hT:T = "int"\/T = "bool"\/T = "str"\/T = "list"\/T = "tuple"\/T = "dict"):PySem.W.kitOne K (.type (pO d)) (.type T)=some (sQ T d):=by
 rcases hT with rfl|rfl|rfl|rfl|rfl|rfl <;> cases d <;> (unfold PySem.W.kitOne PySem.W.kitCls PySem.W.subIn;kernel_rfl)
theorem xG:eA X (.builtin "isinstance") (fun xs H Q=>∃d x T,xs=[x,.ty T]/\Rep X.K H d x/\(T = "int"\/T = "bool"\/T = "str"\/T = "list"\/T = "tuple"\/T = "dict")/\Q (.bl (sQ T d)) H):=by
 intro pr s σ H xs us Q I r h;obtain⟨d,x,T,rfl,rd,hT,q⟩:=h;obtain⟨u,w',rfl,r1,r2⟩:=Cg r;cases(show w'=Value.type T from r2);have e:=C3 X.K d hT;have fin:∀tk,EP X pr σ Q (.bool (sQ T d)) {s with toks:=tk}:=fun tk=>⟨.bl (sQ T d),H,I.tok tk,rfl,q⟩
 cases d with
 |non=>cases cc rd;cases(show u=Value.none from r1);exact WY PySem.W.kitx_none I.kIn True.intro e (fun z=>nomatch z) fin
 |bl y=>cases cU rd;cases(show u=Value.bool y from r1);exact WY PySem.W.kitx_bool I.kIn True.intro e (fun z=>nomatch z) fin
 |int i=>cases bI rd;obtain⟨t,z⟩:=(show ∃t,u=Value.int i t from r1);cases z;exact WY PySem.W.kitx_int I.kIn True.intro e (fun z=>nomatch z) fin
 |str l=>
  have hr:=(bE rd).1;subst hr;obtain⟨t,z⟩:=(show ∃t,u=Value.str (S l) t from r1)
  cases z;exact WY PySem.W.kitx_str I.kIn True.intro e (fun z=>nomatch z) fin
 |lst l=>
  obtain⟨p,xs,ev,sq,_⟩:=bw rd;subst ev;cases(show u=Value.ref p from r1);obtain⟨HX,_,ip,_⟩:=I.list sq;obtain⟨o,ho,hc,_⟩:=ip.isList;exact WY PySem.W.kitx_list I.kIn ⟨o,ho,hc⟩ e (fun z=>nomatch z) fin
 |tup l=>
  obtain⟨p,xs,ev,sq,_⟩:=bF rd;subst ev;cases(show u=Value.ref p from r1);obtain⟨HX,_,ip,_⟩:=I.tuple sq;obtain⟨o,ho,hc,_⟩:=ip;exact WY PySem.W.kitx_tuple I.kIn ⟨o,ho,hc⟩ e (fun z=>nomatch z) fin
 |dct tk ks vs=>
  rw[Rep]at rd;obtain⟨p,xs,o,ev,hr,dd,_⟩:=rd;subst ev;cases(show u=Value.ref p from r1);have ok:=hr.ok I.hok;cases tk with
  |true=>
   obtain⟨HS,eo,_⟩:=dd;subst eo;obtain⟨_,_,_,_,o2,_,_,Kg,ex,_⟩:=ok;exact WY PySem.W.kitx_dict I.kIn ⟨o2,Kg,ex.1⟩ e (fun z=>nomatch z) fin
  |false=>
   obtain⟨HS,eo,_⟩:=dd;subst eo;obtain⟨_,_,_,_,o2,_,_,Kg,ex,_⟩:=ok;exact WY PySem.W.kitx_dict I.kIn ⟨o2,Kg,ex.1⟩ e (fun z=>nomatch z) fin
theorem uT{f:FO}{p q pos:Pos}(hT:T = "int"\/T = "bool"\/T = "str"\/T = "list"\/T = "tuple"\/T = "dict")(he:QO X e f)(hg:Gl X "isinstance")(hm:X.mg "isinstance" = none)(RG:Gl X x)(O4:X.mg x=none)(Sw:bootBuiltins x=some (.type T))(hn:x≠"__name__":=by decide)(KY:(x==("__debug__" : Str))=false:=by decide)
  (hs:starEach [e,.Name x q] X.env=(false,eval e X.env)::starEach [.Name x q] X.env:=by rfl) (Th:starEach [.Name x q] X.env=(false,eval (.Name x q) X.env)::starEach [] X.env:=by rfl) (JR:(backTo pos (starEach [.Name x q] X.env)).any (·.1)=false:=by rfl):
  QE X (.Call (.Name "isinstance" p) [e,.Name x q] [] pos) (PQ T f):=
 bD (qo xG hg hm lQ (lO he (lO (zv (v:=.ty T) RG O4 Sw rfl hn KY) tW Th) hs) (by decide) (by decide) hs JR) fun σ H Q Ig=>by
  obtain⟨G,env,fp,r,env',rel,e,k⟩:=Ig;obtain⟨⟨o,HU⟩,e1,e⟩:=ai e;obtain⟨d,e2,e⟩:=ai e;cases e;exact⟨G,env,fp,o,_,rel,e1,fun v H1 G1 IF Im HW Ko=>⟨d,v,T,rfl,HW.vwA Ko e2,hT,k _ H1 G1 IF Im (HW.push (dq _))⟩⟩
def Kq{α:Type}(f g:PV.Env->Res α):PV.Env->Res α:=fun env=>match f env with
 | .ok a=>.ok a
 |_=>g env
theorem yR{f g:PV.Env->Res α}{a:α}(h:Kq f g env=.ok a):f env=.ok a\/g env=.ok a:=by
 unfold Kq at h;split at h
 ·rename_i b hb;cases h;exact .inl hb
 ·exact .inr h
theorem uU{f g:FI}(h:QI X tg e f)(h2:QI X tg e g):QI X tg e (Kq f g):=fun pr s σ H R I Ig=>by
 obtain⟨G,env,fp,ds,env',rel,ee,k⟩:=Ig;rcases yR ee with z|z
 ·exact h pr s σ H R I ⟨G,env,fp,ds,env',rel,z,k⟩
 ·exact h2 pr s σ H R I ⟨G,env,fp,ds,env',rel,z,k⟩
end
section
def ins(lt:α->α->Bool)(x:α):List α->List α
 |[]=>[x]
 |y::ys=>if lt y x then y::ins lt x ys else x::y::ys
def ja(lt:α->α->Bool)(l:List α):List α:=l.foldr (ins lt) []
structure Ord(lt:α->α->Bool):Prop where
 irr:∀a,lt a a=false
 trans:∀a b c,lt a b=true->lt b c=true->lt a c=true
 tot:∀a b,lt a b=false->lt b a=false->a=b
theorem mC(lt:α->α->Bool)(x:α):∀l,(ins lt x l).Perm (x::l)
 |[]=>.refl _
 |y::ys=>by
  unfold ins;split
  ·exact(List.Perm.cons y (mC lt x ys)).trans (List.Perm.swap x y ys)
  ·exact .refl _
theorem jb(lt:α->α->Bool):∀l,(ja lt l).Perm l
 |[]=>.refl _
 |x::l=>(mC lt x _).trans (List.Perm.cons x (jb lt l))
theorem lz{lt:α->α->Bool}(o:Ord lt)(x:α):∀l:List α,l.Pairwise (fun a b=>lt b a=false)->(ins lt x l).Pairwise (fun a b=>lt b a=false)
 |[],_=>by simp[ins]
 |y::ys,h=>by
  rw[WO]at h;unfold ins;split
  ·rename_i hy;rw[WO];refine⟨fun z hz=>?_,lz o x ys h.2⟩;rcases U6.mp ((mC lt x ys).mem_iff.mp hz) with rfl|hz
   ·cases e:lt z y with
    |false=>rfl
    |true=>
     have:=o.trans y z y hy e;rw[o.irr]at this;cases this
   ·exact h.1 z hz
  ·rename_i hy;have hy:lt y x=false:=by simpa using hy
   rw[WO,WO];refine⟨fun z hz=>?_,h⟩;rcases U6.mp hz with rfl|RH
   ·exact hy
   ·cases e:lt z x with
    |false=>rfl
    |true=>
     exfalso;cases e2:lt x y with
     |true=>
      have:=o.trans z x y e e2;rw[h.1 z RH]at this;cases this
     |false=>
      have hxy:=o.tot x y e2 hy;rw[hxy,h.1 z RH]at e;cases e
theorem gu{lt:α->α->Bool}(o:Ord lt):∀l:List α,(ja lt l).Pairwise (fun a b=>lt b a=false)
 |[]=>.nil
 |x::l=>lz o x _ (gu o l)
theorem ox{lt:α->α->Bool}(o:Ord lt):∀{a b:List α},a.Perm b->a.Pairwise (fun a b=>lt b a=false)->b.Pairwise (fun a b=>lt b a=false)->a=b
 |[],_,p,_,_=>p.nil_eq
 |x::xs,[],p,_,_=>absurd p.length_eq (by simp)
 |x::xs,y::ys,p,ha,hb=>by
  rw[WO]at ha hb;have hx:x∈y::ys:=p.mem_iff.mp UY;have hy:y∈x::xs:=p.mem_iff.mpr UY;have e:x=y:=by
   rcases U6.mp hx with e|hx
   ·exact e
   ·rcases U6.mp hy with e|hy
    ·exact e.symm
    ·exact o.tot x y (hb.1 x hx) (ha.1 y hy)
  subst e;rw[ox o p.cons_inv ha.2 hb.2]
theorem kc{lt:α->α->Bool}(o:Ord lt){l ms:List α}(p:ms.Perm l)(h:ms.Pairwise (fun a b=>lt b a=false)):ms=ja lt l:=ox o (p.trans (jb lt l).symm) h (gu o l)
end
def ltI(a b:Int):Bool:=decide (a<b)
def Q6(a b:List Nat):Bool:=decide (a<b)
theorem Aw:Ord ltI:=⟨fun a=>by simp[ltI],fun a b c=>by simp only[ltI,Vl];lia,fun a b=>by simp only[ltI,VJ];lia⟩
theorem Ax:Ord Q6:=by
 refine⟨fun a=>?_,fun a b c h1 h2=>?_,fun a b h1 h2=>?_⟩
 ·unfold Q6;rw[VJ];exact List.lt_irrefl a
 ·unfold Q6 at *;rw[Vl] at *;exact List.lt_trans h1 h2
 ·unfold Q6 at *;rw[VJ] at *;exact List.le_antisymm (YW.mp h2) (YW.mp h1)
theorem Ay:Ord jr:=⟨hZ,gL,gM⟩
def lA:List D->Option (List (List Nat))
 |[]=>some []
 | .str b::ds=>(lA ds).map (b:: ·)
 |_=>none
def lB:D->Option Key
 | .int i=>some (.inl i)
 | .str l=>some (.inr (S l))
 |_=>none
def jd:List D->Option (List Key)
 |[]=>some []
 |d::ds=>(lB d).bind fun k=>(jd ds).map (k:: ·)
def ke:D->Option (List Key)
 | .tup ds=>jd ds
 |_=>none
def qM:List D->Option (List (List Key))
 |[]=>some []
 |d::ds=>(ke d).bind fun k=>(qM ds).map (k:: ·)
def kT(k:List Key):D:=.tup (k.map kD)
section
theorem kg:∀{ds:List D}{bs:List (List Nat)}{xs:List V},lA ds=some bs->Reps K G ds xs->xs=bs.map (fun l=>V.str (S l))/\∀l∈bs,l.length<=sizeLine
 |[],_,_,e,r=>by
  cases e;rw[Reps]at r;exact⟨r,fun _ h=>nomatch h⟩
 |d::ds,_,_,e,r=>by
  cases d with
  |str b=>
   rw[lA,Wl]at e;obtain⟨bs,e1,e2⟩:=e;subst e2;rw[Reps]at r;obtain⟨y,ys,e3,r1,r2⟩:=r;obtain⟨h1,h2⟩:=kg e1 r2;obtain⟨h3,h4⟩:=bE r1;subst h3;refine⟨by rw[e3,h1];rfl,fun l hl=>?_⟩;rcases U6.mp hl with rfl|hl
   ·exact h4
   ·exact h2 l hl
  |_=>simp[lA]at e
theorem je{k:Key}(e:lB d=some k)(r:Rep K G d v):v=kV k/\d=kD k:=by
 cases d with
 |int i=>
  cases e;exact⟨bI r,rfl⟩
 |str l=>
  cases e;refine⟨(bE r).1,?_⟩;show D.str l=D.str (S l).cps.toList;rw[gm]
 |_=>cases e
theorem jt:∀{ds:List D}{ks:List Key}{xs:List V},jd ds=some ks->Reps K G ds xs->xs=ks.map kV/\ds=ks.map kD
 |[],_,_,e,r=>by
  cases e;rw[Reps]at r;exact⟨r,rfl⟩
 |d::ds,_,_,e,r=>by
  rw[jd,Xi]at e;obtain⟨k,e1,e⟩:=e;rw[Wl]at e;obtain⟨ks,e2,e3⟩:=e;subst e3;rw[Reps]at r;obtain⟨y,ys,e4,r1,r2⟩:=r;obtain⟨h1,h2⟩:=je e1 r1;obtain⟨h3,h4⟩:=jt e2 r2;rw[e4,h1,h2,h3,h4];exact⟨rfl,rfl⟩
theorem ia{ks:List Key}(e:ke d=some ks)(r:Rep K G d v):∃p,v=.ref p/\G p=some (.tup (ks.map kV))/\d=kT ks:=by
 cases d with
 |tup ds=>
  obtain⟨p,xs,ev,g,rs⟩:=uM r;obtain⟨h1,h2⟩:=jt e rs;subst h1;exact⟨p,ev,g,by rw[h2];rfl⟩
 |_=>cases e
theorem kh:∀{ds:List D}{M6:List (List Key)}{xs:List V},qM ds=some M6->Reps K G ds xs->∃al:List (Addr×List Key),xs=al.map (fun a=>V.ref a.1)/\M6=al.map (·.2)/\ds=al.map (fun a=>kT a.2)/\∀a∈al,G a.1=some (.tup (a.2.map kV))/\Rep K G (kT a.2) (.ref a.1)
 |[],_,_,e,r=>by
  cases e;rw[Reps]at r;exact⟨[],r,rfl,rfl,fun _ h=>nomatch h⟩
 |d::ds,_,_,e,r=>by
  rw[qM,Xi]at e;obtain⟨k,e1,e⟩:=e;rw[Wl]at e;obtain⟨ks,e2,e3⟩:=e;subst e3;rw[Reps]at r;obtain⟨y,ys,e4,r1,r2⟩:=r;obtain⟨p,h1,h2,h5⟩:=ia e1 r1;obtain⟨al,h3,h4,h6,h7⟩:=kh e2 r2;subst h1;refine⟨(p,k)::al,by rw[e4,h3];rfl,by rw[h4];rfl,by rw[h5,h6];rfl,fun a ha=>?_⟩;rcases U6.mp ha with rfl|ha
  ·exact⟨h2,by rw[<-h5];exact r1⟩
  ·exact h7 a ha
theorem iG{α:Type}{f:α->D}{g:α->V}:∀{l:List α},(∀a∈l,Rep K G (f a) (g a))->Reps K G (l.map f) (l.map g)
 |[],_=>Reps.nil
 |a::l,h=>.cons (h a UY) (iG fun b hb=>h b (U3 _ hb))
end
def sameKinds(k:List Key)(M6:List (List Key)):Bool:=!k.isEmpty&&M6.all fun j=>kinds j==kinds k
noncomputable def pP(ds:List D):Option (List D):=match eV ds with
 |some ns=>some ((ja ltI ns).map D.int)
 |none=>match lA ds with
  |some ls=>some ((ja Q6 ls).map D.str)
  |none=>match qM ds with
   |some (k::M6)=>if sameKinds k M6 then some ((ja jr (k::M6)).map kT) else none
   |_=>none
def ki:List D->Res R
 |[.lst ds]=>if ds.length<64 then match pP ds with
  |some l=>.ok (.l .f,.lst l)
  |none=>.bad
  else .bad
 |_=>.bad
theorem mD{k:List Key}{M6:List (List Key)}(h:sameKinds k M6=true):∃top t,∀j∈k::M6,kinds j=top::t:=by
 unfold sameKinds at h;rw[Ve,VA]at h;cases k with
 |nil=>simp at h
 |cons a k=>
  refine⟨a.isLeft,kinds k,fun j hj=>?_⟩;rcases U6.mp hj with rfl|hj
  ·rfl
  ·exact VD.mp (h.2 j hj)
theorem C4{k:Key}(h:fitK k):Rep K G (kD k) (kV k):=by
 cases k with
 |inl i=>exact rep_int i
 |inr x=>
  have:=j3 (K:=K) (G:=G) (l:=x.cps.toList) h;rw[pF]at this;exact this
section
theorem Ub{lt:α->α->Bool}{p:α->α->Prop}(h:∀a b,p a b->lt b a=false){l:List α}(q:l.Pairwise p):l.Pairwise (fun a b=>lt b a=false):=q.imp (h _ _)
theorem uV(hc:X.calm=true):eA X (.builtin "sorted") (rC X.K ki):=by
 rintro pr s σ H xs us Q I rx ⟨G,fp,es,vs,ds,r,⟨rel,k⟩,vd,e⟩;unfold ki at e;split at e
 ·rename_i ds;split at e
  ·rename_i PF;split at e
   ·rename_i l hl;cases e;obtain⟨v,ev,p,ys,ep,sq,rs⟩:=sP vd;subst ev;subst ep;unfold pP at hl;split at hl
    ·rename_i ns Ss;cases hl;have hy:=h9 Ss rs;subst hy;have hlen:ns.length<64:=by have:=rs.length;rw[U8]at this;lia
     refine jC hc pr s σ H _ us Q I rx ⟨p,ns,rfl,sq,hlen,fun q ms hq pm sm=>?_⟩;have em:=kc Aw pm (Ub (fun a b h=>by unfold ltI;rw[VJ];lia) sm);subst em;obtain⟨HV,Ib⟩:=rel.newL hq (iG (K:=X.K) (G:=G) (f:=D.int) (g:=V.int) fun a _=>rep_int a);exact k _ _ G _ Ib HV
    ·split at hl
     ·rename_i ls hls;cases hl;obtain⟨hy,hz⟩:=kg hls rs;subst hy;have hlen:ls.length<64:=by have:=rs.length;rw[U8]at this;lia
      refine jD hc pr s σ H _ us Q I rx ⟨p,ls,rfl,sq,hlen,fun q ms hq pm sm=>?_⟩;have em:=kc Ax pm (Ub (fun a b h=>by unfold Q6;rw[VJ];exact h) sm);obtain⟨HV,Ib⟩:=rel.newL hq (iG (K:=X.K) (G:=G) (f:=D.str) (g:=fun l=>V.str (S l)) (l:=ms) fun a ha=>j3 (hz a (pm.mem_iff.mp ha)));rw[<-em]at k;exact k _ _ G _ Ib HV
     ·split at hl
      ·rename_i kk M6 hk;split at hl
       ·rename_i hsk;cases hl;obtain⟨al,h1,h2,h3,h4⟩:=kh hk rs;obtain⟨top,t,PR⟩:=mD hsk;subst h1;have hlen:al.length<64:=by have:=rs.length;rw[U8]at this;lia
        refine jE hc pr s σ H _ us Q I rx ⟨p,al,top,t,rfl,sq,fun a ha=>⟨SqT.of (rel.gh _ _ (h4 a ha).1),PR a.2 (by rw[h2];exact Xu.mpr ⟨a,ha,rfl⟩)⟩,hlen,fun q ms hq pm sm=>?_⟩;have em:ms.map (·.2)=ja jr (kk::M6):=by
         rw[h2];refine kc Ay (pm.map _) ?_;rw[List.pairwise_map];exact sm
        obtain⟨HV,Ib⟩:=rel.newL hq (iG (K:=X.K) (G:=G) (f:=fun a:Addr×List Key=>kT a.2) (g:=fun a=>V.ref a.1) (l:=ms) fun a ha=>(h4 a (pm.mem_iff.mp ha)).2);have ek:ms.map (fun a=>kT a.2)=(ja jr (kk::M6)).map kT:=by rw[<-em,Vm];rfl
        rw[ek]at HV;exact k _ _ G _ Ib HV
       ·cases hl
      ·cases hl
   ·cases e
  ·cases e
 ·cases e
def LO(a b:D):Res R:=Oa a b
def geO(a b:D):Res R:=geD a b
theorem lC(hu:X.A.units<cLine):IW X (compareOp .Lt) (rG X.K LO):=Fu
end
def eNewD(tk:Bool):FX:=fun env=>.ok ((.d,.dct tk [] []),env)
variable{κ:Type}
section
theorem Rel.newD{u:HO}(q:Rel K G H es vs fp)(hp:H p=none)(h:DictO u tk [] []):
  Rel K G (upd H p u) (some (.d,.dct tk [] [])::es) (some (.ref p)::vs) (p::fp)/\Step G H fp G (upd H p u) (p::fp):=by
 have gp:G p=none:=by
  cases e:G p with
  |none=>rfl
  |some o=>rw[q.gh p o e]at hp;cases hp
 have np:p∉fp:=fun z=>by
  obtain⟨u,e⟩:=q.rep.live p z;rw[hp]at e;cases e
 have sh:Same H (upd H p u):=fun b o e=>by rw[aq (aN e hp)];exact e
 refine⟨⟨⟨some (.ref p),vs,rfl,.ref p,[p],fp,rfl,rfl,?_,q.rep.step (.refl _) fun z hz=>aq fun e=>np (e▸hz)⟩,VP.mpr ⟨np,q.nd⟩,fun z hz=>?_,fun b o e=>?_⟩,
  ⟨.refl _,fun b o e _=>sh b o e,fun b hb=>?_,fun b o e=>.inl e,fun b o e=>⟨o,sh b o e⟩⟩⟩
 ·rw[RepO];exact⟨p,[],u,rfl,aH,h,rfl,Reps.nil⟩
 ·rcases U6.mp hz with rfl|hz
  ·exact gp
  ·exact q.gn z hz
 ·exact sh b o (q.gh b o e)
 ·rcases U6.mp hb with rfl|hb
  ·exact .inr hp
  ·exact .inl hb
theorem uW:QE X (.Dict [] [] pos) (eNewD false):=bD xx fun σ H Q Ig p hp=>by
 obtain⟨G,env,fp,r,env',rel,e,k⟩:=Ig;cases e;obtain⟨HV,Ib⟩:=rel.newD (tk:=false) (u:=.dK []) hp ⟨[],rfl,rfl,rfl,fun _ h=>nomatch h⟩;exact k _ _ G _ Ib HV
def oy(ks vs:List D)(k v:D):List D×List D:=if ks.any (Ia k) then(ks,(ks.zip vs).map fun p=>if Ia k p.1 then v else p.2) else(ks++[k],vs++[v])
def eX(tk:Bool)(k:D):Bool:=if tk then(ke k).isSome else(lB k).isSome
noncomputable def C5(i:Nat)(fk fv:FX):FS:=fun env=>(fv env).bind fun p=>(fk p.2).bind fun q=>match p.2[i]?,q.2[i]? with
 |some (some _),some (some (.d,.dct tk ks vs))=>if eX tk q.1.2&&decide (ks.length<sizeLine) then .ok (.nx (q.2.set i (some (.d,.dct tk (oy ks vs q.1.2 p.1.2).1 (oy ks vs q.1.2 p.1.2).2)))) else .bad
 |_,_=>.bad
theorem uX(a b:Key):Ia (kD a) (kD b)=decide (a=b):=by
 cases a with
 |inl i=>
  cases b with
  |inl j=>simp only[kD,Ia];rw[VQ];simp
  |inr y=>simp only[kD,Ia];simp
 |inr x=>
  cases b with
  |inl j=>simp only[kD,Ia];simp
  |inr y=>
   simp only[kD,Ia];rw[VQ];simp only[VD,Vl,Sum.inr.injEq];exact⟨fun h=>by rw[<-pF x,<-pF y,h],fun h=>by rw[h]⟩
theorem uY:∀a b:List Key,jK (a.map kD) (b.map kD)=decide (a=b)
 |[],[]=>by simp[jK]
 |[],_::_=>by simp[jK]
 |_::_,[]=>by simp[jK]
 |a::r,b::t=>by
  rw[Vo,Vo,jK,uX,uY r t,VQ];simp
theorem yS(a b:List Key):Ia (kT a) (kT b)=decide (a=b):=by
 unfold kT;rw[Ia];exact uY a b
theorem oz[DecidableEq κ](f:κ->D)(hf:∀a b,Ia (f a) (f b)=decide (a=b)){HS:List (κ×V)}{vs:List D}{k:κ}{v:D}(r:Reps K G vs (HS.map (·.2)))(ry:Rep K G v y):
  (kS HS k y).map (fun kv=>f kv.1)=(oy (HS.map fun kv=>f kv.1) vs (f k) v).1/\Reps K G (oy (HS.map fun kv=>f kv.1) vs (f k) v).2 ((kS HS k y).map (·.2)):=by
 have e:(HS.map fun kv=>f kv.1).any (Ia (f k))=HS.any fun kv=>decide (kv.1=k):=by
  rw[XO];congr 1
  funext kv
  show Ia (f k) (f kv.1)=_;rw[hf,VQ];simp only[Vl];exact⟨fun z=>z.symm,fun z=>z.symm⟩
 unfold oy kS;rw[e];split
 ·refine⟨?_,?_⟩
  ·rw[Vm];refine VY fun kv _=>?_
   show f (if kv.1=k then(kv.1,y) else kv).1=f kv.1;split <;> rfl
  ·rename_i PU;clear e PU;induction HS generalizing vs with
   |nil=>
    have:vs=[]:=VW (by rw[<-r.length];rfl);subst this;exact Reps.nil
   |cons kv HS ih=>
    cases vs with
    |nil=>have:=r.length;simp at this
    |cons d vs=>
     rw[Vo,Reps.cons_iff]at r;rw[Vo,List.zip_cons_cons,Vo,Vo,Vo];refine .cons ?_ (ih r.2);show Rep K G (if Ia (f k) (f kv.1)=true then v else d) (if kv.1=k then(kv.1,y) else kv).2;rw[hf];by_cases hk:kv.1=k
     ·rw[U2 (by simp[hk]),U2 hk];exact ry
     ·rw[U9 (by simp;exact fun z=>hk z.symm),U9 hk];exact r.1
 ·refine⟨?_,?_⟩
  ·rw[Vt];rfl
  ·rw[Vt];exact r.app (.one ry)
theorem Rel.chgD{ks ws:List D}(q:Rel K G H es vs fp)(e:es[i]?=some (some (.d,.dct tk ks ws))):∃p xs u,vs[i]?=some (some (.ref p))/\H p=some u/\DictO u tk ks xs/\Reps K G ws xs/\
  ∀u' Sz Jj SA,DictO u' tk Sz Jj->Reps K G SA Jj->∃fq,Rel K G (upd H p u') (es.set i (some (.d,.dct tk Sz SA))) vs fq/\Step G H fp G (upd H p u') fq:=by
 obtain⟨v,fq,ev,g,st,LV⟩:=q.out e;obtain⟨y,ys,e0,v',a,b,e1,e2,r1,r2⟩:=g.rep;cases e0;cases e1;rw[RepO]at r1;obtain⟨p,xs,u,e3,hp,dd,e4,rs⟩:=r1;subst e3;subst e4;subst e2;have nd:=VP.mp (show(p::b).Nodup from g.nd);refine⟨p,xs,u,ev,hp,dd,rs,fun u' Sz Jj SA Q3 JT=>?_⟩;have g2:Rel K G (upd H p u') (some (.d,.dct tk Sz SA)::es.set i none) (some (.ref p)::vs) (p::b):=by
  refine⟨⟨some (.ref p),vs,rfl,.ref p,[p],b,rfl,rfl,?_,r2.step (.refl _) fun z hz=>aq fun e=>nd.1 (e▸hz)⟩,g.nd,g.gn,fun z o ez=>?_⟩
  ·rw[RepO];exact⟨p,Jj,u',rfl,aH,Q3,rfl,JT⟩
  ·have:z≠p:=fun w=>by
    subst w;rw[g.gn z UY]at ez;cases ez
   rw[aq this];exact g.gh z o ez
 have RA:Step G H (p::b) G (upd H p u') (p::b):=by
  refine⟨.refl _,fun z o ez nz=>?_,fun z hz=>.inl hz,fun z o ez=>.inl ez,fun z o ez=>?_⟩
  ·have:z≠p:=fun w=>nz (by rw[w];exact UY)
   rw[aq this];exact ez
  ·by_cases w:z=p
   ·subst w;exact⟨_,aH⟩
   ·exact⟨o,by rw[aq w];exact ez⟩
 obtain⟨fz,g3,IL⟩:=g2.back (i:=i) (by rw[VI];exact(U1.mp e).1) ev;rw[WA]at g3;exact⟨fz,g3,st.trans (RA.trans IL)⟩
theorem yT{k:Key}(e:lB d=some k)(r:Rep K G d v):fitK k:=by
 cases d with
 |int i=>cases e;trivial
 |str l=>
  cases e;show(S l).cps.toList.length<=sizeLine;rw[gm];exact(bE r).2
 |_=>cases e
theorem u0{K:W.Frag}{G:Hp}:∀{ds:List D}{ks:List Key}{xs:List V},jd ds=some ks->Reps K G ds xs->∀k∈ks,fitK k
 |[],_,_,e,_=>by
  cases e;exact fun _ h=>nomatch h
 |d::ds,_,_,e,r=>by
  rw[jd,Xi]at e;obtain⟨k,e1,e⟩:=e;rw[Wl]at e;obtain⟨ks,e2,e3⟩:=e;subst e3;rw[Reps]at r;obtain⟨y,ys,e4,r1,r2⟩:=r;intro z hz;rcases U6.mp hz with rfl|hz
  ·exact yT e1 r1
  ·exact u0 e2 r2 z hz
theorem qN[DecidableEq κ]{P:κ->Prop}{HS:List (κ×V)}{k:κ}(h:∀kv∈HS,P kv.1)(hk:P k):∀kv∈kS HS k y,P kv.1:=by
 intro kv Oh;unfold kS at Oh;split at Oh
 ·obtain⟨z,hz,e⟩:=Xu.mp Oh;rw[<-e];split
  ·exact h z hz
  ·exact h z hz
 ·rcases Vp.mp Oh with Oh|Oh
  ·exact h kv Oh
  ·rw[VC]at Oh;rw[Oh];exact hk
theorem yU{o ix value:Expr}{fk fv:FX}(hu:X.A.units+1<cLine)(ho:PE X o (ql i))(hi:QE X ix fk)(hv:QE X value fv)(hs:swapsWith value (some (.Subscript o ix pos')) pos.line X.env=pure false:=by rfl):
  QS (md:=md) X (.Assign [.Subscript o ix pos'] value pos) (C5 i fk fv):=dZ (Ai hu ho hi hv hs) fun Dd σ H Ig=>by
 obtain⟨G,env,fp,rel,k⟩:=Ig;unfold C5 at k;match q1:fv env,k with
 | .ok (r1,HU),k=>
  have k:OutOk X.K G H fp Dd ((fk HU).bind fun q=>match HU[i]?,q.2[i]? with
   |some (some _),some (some (.d,.dct tk ks vs))=>if eX tk q.1.2&&decide (ks.length<sizeLine) then .ok (.nx (q.2.set i (some (.d,.dct tk (oy ks vs q.1.2 r1.2).1 (oy ks vs q.1.2 r1.2).2)))) else .bad
   |_,_=>.bad):=k
  match q2:fk HU,k with
  | .ok (r2,Ic),k=>
   have k:OutOk X.K G H fp Dd (match HU[i]?,Ic[i]? with
    |some (some _),some (some (.d,.dct tk ks vs))=>if eX tk r2.2&&decide (ks.length<sizeLine) then .ok (.nx (Ic.set i (some (.d,.dct tk (oy ks vs r2.2 r1.2).1 (oy ks vs r2.2 r1.2).2)))) else .bad
    |_,_=>.bad):=k
   split at k
   ·rename_i rr tk ks ws h1 h2;split at k
    ·rename_i hc;rw[Ve,Vl]at hc;refine⟨G,env,fp,r1,HU,rel,q1,fun y H1 G1 IF Im HW=>?_⟩;obtain⟨G2,b,ry,HV,Ib⟩:=HW.freeze;obtain⟨v0,Q7,_⟩:=HV.view h1;refine⟨v0,Q7,G2,HU,b,r2,Ic,HV,q2,fun z H3 G3 JU IL IQ=>?_⟩;obtain⟨G4,b4,rz,Jk,IZ⟩:=IQ.freeze;obtain⟨p,xs,u,ep,hp,dd,rs,cg⟩:=Jk.chgD h2;rw[Q7]at ep;cases ep;have SD:Rep X.K G4 r1.2 y:=Rep.mono (IL.gg.trans IZ.gg) ry;cases tk with
     |true=>
      obtain⟨HS,eu,ek,ex,Nv⟩:=dd;subst eu;subst ex;have hk:=hc.1;unfold eX at hk;rw[U2 rfl,WN]at hk;obtain⟨kk,hk⟩:=hk;obtain⟨pz,ez,gz,dz⟩:=ia hk rz;subst ez;obtain⟨t1,t2⟩:=oz (K:=X.K) (G:=G4) kT yS (k:=kk) rs SD;have ek:ks=HS.map fun kv=>kT kv.1:=ek
      rw[<-ek,<-dz]at t1 t2;have SE:∀key∈kk,fitK key:=by
       cases hd:r2.2 with
       |tup ds=>
        rw[hd]at hk rz;obtain⟨_,Jj,_,_,JT⟩:=uM rz;exact u0 hk JT
       |_=>rw[hd]at hk;cases hk
      obtain⟨fq,Jd,Js⟩:=cg (.dT (kS HS kk y)) _ _ _ ⟨kS HS kk y,rfl,t1.symm,rfl,qN (P:=fun ks=>∀k∈ks,fitK k) Nv SE⟩ t2;have hlen:HS.length<sizeLine:=by have:=hc.2;rw[ek,U8]at this;exact this
      exact⟨p,_,rfl,DPut.t hp (Jk.gh _ _ gz) hlen,k _ _ G4 fq (Im.trans (Ib.trans (IL.trans (IZ.trans Js)))) Jd⟩
     |false=>
      obtain⟨HS,eu,ek,ex,Nv⟩:=dd;subst eu;subst ex;have hk:=hc.1;unfold eX at hk;rw[U9 U7,WN]at hk;obtain⟨kk,hk⟩:=hk;obtain⟨ez,dz⟩:=je hk rz;subst ez;obtain⟨t1,t2⟩:=oz (K:=X.K) (G:=G4) kD uX (k:=kk) rs SD;rw[<-ek,<-dz]at t1 t2;obtain⟨fq,Jd,Js⟩:=cg (.dK (kS HS kk y)) _ _ _ ⟨kS HS kk y,rfl,t1.symm,rfl,qN (P:=fitK) Nv (yT hk rz)⟩ t2;have hlen:HS.length<sizeLine:=by have:=hc.2;rw[ek,U8]at this;exact this
      exact⟨p,_,rfl,DPut.k hp hlen,k _ _ G4 fq (Im.trans (Ib.trans (IL.trans (IZ.trans Js)))) Jd⟩
    ·exact k.elim
   ·exact k.elim
end
end PV
namespace NX
section
variable{prog:Program}{w:World}{A:Around}{E:Value->Shared->Prop}{s:Shared}{d:Addr}{es:Array DictEntry}{ep:Nat}
theorem mE(nm:(d==sysModules)=false):MeetsIn prog w (Builtin.«dict.__len__» ⟨[.ref d],[]⟩) (fun _ R s=>RawD s.heap d es ep/\R (.ok (.ret (.int es.size s.toks))) {s with toks:=s.toks+1}):=
 .of_wp fun A R s Ig=>by
  obtain⟨⟨o,g,_,dat⟩,h⟩:=Ig;show wpAny _ _ (dictSize d >>= fun _=>_) _ _ s;unfold dictSize;refine UR (UR (wpAny_dictEntries g dat (Va ?_)));show wpAny _ _ (Builtin.Dict.pendingCount d >>= fun _=>_) _ _ s;refine UR (wpAny_pendingCount_other nm (wpAny_ret_mkInt ?_));rw[Nat.add_zero];exact h
theorem Az{Q:Value->Shared->Prop}(nm:(d==sysModules)=false)(x:RawD s.heap d es ep)(hf:(es.size:Int)<2 ^ 63)(h:Q (.int es.size (s.toks+1)) {s with toks:=s.toks+1+1}):wpAny (model prog w) A (call (.builtin "len") [.ref d]) Q E s:=by
 have ty:=xy x;refine YD kind_len plain_len entry_len (args_len1 _) ?_;unfold Builtin.«len»;refine UR (m:=oneArg "len" _) (Va (UR (m:=callSpecial? (.ref d) (Str.ofString "__len__")) (Wi (name:=Str.ofString "__len__") ty F.slot_dict_len
  (call_meetsIn F.slot_dict_len ty F.entry_dict_len (F.args_dict_len_1 _) (mE (es:=es) (ep:=ep) nm) ⟨x,?_⟩))))
 show wpAny _ _ _ _ _ {s with toks:=s.toks+1};refine UR (XX (Va (UR (YV ?_))));show wpAny _ _ (if((es.size:Nat):Int)<0 then _ else _) _ _ _;rw[U9 (Int.not_lt.mpr (Int.natCast_nonneg _))];show wpAny _ _ (if((es.size:Nat):Int)>=2 ^ 63 then _ else _) _ _ _;rw[U9 (Int.not_le.mpr hf)];exact UR (wpAny_mkInt (Va ⟨_,rfl,h⟩))
end
end NX
namespace PV
variable{X:Cx}{σ:L2.St}{H:Hp}
section
def gj:List D->Res R
 |[.dct _ ks _]=>.ok (.f,.int ks.length)
 |ds=>Fw ds
theorem C6{pr:List (Addr×Obj)}{s:Shared}(I:Inv X pr σ H s){p:Addr}{o:HO}{tk:Bool}{ks:List D}{xs:List V}(rd:Rd H p o)(dd:DictO o tk ks xs):(p==sysModules)=false/\∃es ep,RawD s.heap p es ep/\es.size=ks.length/\ks.length<=sizeLine:=by
 have ok:=rd.ok I.hok;cases tk with
 |true=>
  obtain⟨HS,eo,ek,_⟩:=dd;subst eo;obtain⟨z,nm,ws,r,o2,es,ep,h1,h2,h3,h4,_⟩:=ok;refine⟨nm,es,ep,⟨o2,h1,h2,h3⟩,?_,by rw[ek,U8];exact z⟩;have:=V7 List.length h4;rw[U8,WE,<-Yd r]at this;rw[ek,U8];exact this
 |false=>
  obtain⟨HS,eo,ek,_⟩:=dd;subst eo;obtain⟨z,nm,ws,r,o2,es,ep,h1,h2,h3,h4,h5,_⟩:=ok;refine⟨nm,es,ep,⟨o2,h1,h2,h3⟩,?_,by rw[ek,U8];exact z⟩;have l1:=h5.length;have l2:HS.length=ws.length:=Yd r;rw[ek,U8];rw[WE]at l1;lia
theorem cN:eA X (.builtin "len") (rC X.K gj):=by
 rintro pr s σ H xs us Q I rx ⟨G,fp,es,vs,ds,r,⟨rel,k⟩,vd,e⟩;unfold gj at e;split at e
 ·rename_i tk ks ws;cases e;obtain⟨v,ev,p,ys,o,ep,rd,dd,_⟩:=sP vd;subst ev;subst ep;obtain⟨u,rfl,ru⟩:=jB rx;cases ru;obtain⟨nm,en,ep,raw,h1,h2⟩:=C6 I rd dd;refine Az nm raw (by rw[h1];rw[Wd]at h2;lia) ?_;refine⟨.int ks.length,H,I.tok _,⟨_,by rw[h1]⟩,k _ H G fp .refl (rel.push (rep_int _))⟩
 ·exact CV pr s σ H xs us Q I rx ⟨G,fp,es,vs,_,r,⟨rel,k⟩,vd,e⟩
def HL(g:List Nat->List D->Res R)(fa:FO)(fs:FOs):FX:=fun env=>(fa env).bind fun p=>match JV p.2 p.1 with
 | .ok (.str l)=>(fs p.2).bind fun q=>(qB q.2 q.1).bind fun ds=>(g l ds).bind fun r=>.ok (r,q.2)
 |_=>.bad
end
variable{K:W.Frag}{x:Str}{st:Stmt}{N:List Str}{f:Addr}
theorem fnok_of{P:Program}{w:World}{mg:Str->Option Value}{base:Heap}{ps:List Str}{k:Nat}{g:FS}{fd:FuncData}(F:Fun K x x st f fd)(sc:FnScope N ps (defScope st))
  (body:∀(IJ:Value) (A:Around) (outer:List PySem.Env) (s:Shared) (H:Hp) (E:XK),Room k (A.deeper (envOfC x (defScope st) s.heap.objs.size f IJ))->M5 (md:=.plain) (xj Nc P w K mg base N x (defScope st) f IJ A outer s H E).nox (c8 st) g):
  FnOk P w K mg base Nc (k+1) f fd ps (spF K (fBody ps.length (N.length-ps.length) g)):=by
 refine F.ok sc (fun vs H Q E h=>?_) (fun IJ A outer s H vs Q E hr h=>?_)
 ·obtain⟨G,ds,r,_,rs,e,_⟩:=h;unfold fBody at e;split at e
  ·rename_i hl;rw[rs.length,hl]
  ·cases e
 ·obtain⟨G,ds,r,gh,rs,e,q⟩:=h;unfold fBody at e;split at e
  ·rename_i hl;refine⟨_,body IJ A outer s H E hr,G,ds.map (fun d=>some (O.f,d))++List.replicate (N.length-ps.length) none,[],⟨?_,WU,(fun _ h=>nomatch h),gh⟩,?_⟩
   ·have:=iC (K:=K) (G:=G) (H:=H) (N.length-ps.length) rs;unfold L2.start;rw[rs.length,hl];exact this
   ·obtain⟨o,eo,e⟩:=ai e;rw[eo];cases o with
    |rt r'=>
     cases e;exact fun v H' G' HZ st rel=>q v H' G' HZ st rel
    |nx env'=>
     cases e;exact fun σ' H' G' HZ st rel=>q .non H' G' [] (st.trans (Step.cut fun _ h=>nomatch h)) (rel.nilF.push mf)
    |bk env'=>cases e
    |ct env'=>cases e
  ·cases e
def xH(K:W.Frag):Sp:=fun vs H Q _=>∃(a:Addr) (ns:List Int),vs=[.ref a]/\SqL K H a (ns.map V.int)/\ns.length<=63/\∀H',Q (.bl true) H'
theorem C7{F:List D->Res R}(h:∀ns:List Int,ns.length<=63->∃o,F [.lst (ns.map D.int)]=.ok (o,.bl true)):∀vs H Q E,xH K vs H Q E->spF K F vs H Q E:=by
 rintro vs H Q E ⟨a,ns,rfl,sq,hl,q⟩;obtain⟨o,e⟩:=h ns hl;refine⟨H,_,_,.refl _,?_,e,fun v H' G' HZ st rel=>?_⟩
 ·refine .one ?_;rw[Rep];exact⟨a,_,rfl,sq,iG fun n _=>rep_int n⟩
 ·rw[cU rel.top];exact q H'
theorem _root_.L2.Room.u65{k:Nat}{A:Around}(r:Room k A):A.units+65<cLine:=by have:=r.un;lia
def HN(f:FX)(a:FG):FS:=fun env=>(f env).bind fun p=>(a p.1.2 p.2).bind fun e=>.ok (.nx e)
theorem Hr{l:PySem.W.OpenLaw}{q:Program}{loose:List Str}{XP:(Str->Option Value)->Heap->Prop}{YP:World->Heap->Prop}{d:DefRec}{K:Params->W.Frag}{k:Nat}(hn:l.most=some 63)(Rr:d.params.defaults=[])(hr:Room k PySem.callerA)
  (hY:∀(w:World) (h:Heap),YP w h->(K w.params).In h)
  (F:∀(w:World) (mg:Str->Option Value) (fa:Addr) (h:Heap),(K w.params).In h->h.Ns mainGlobals mg->mg d.name=some (.ref fa)->
   ∃fd:FuncData,(∀(s:Shared) (u:Value),BindsTo s fd ⟨[u],[]⟩ [(x,u)])/\∀base:Heap,(K w.params).In base->base.Ns mainGlobals mg->FnOk l.prog w (K w.params) mg base Nc k fa fd [x] (xH (K w.params))):
  PySem.W.WalkO q loose XP YP l.row.toRowW d [] (fun f vs=>PySem.call f vs):=
 L2.zZ (n:=63) (k:=k) (x:=x) (CX:=fun _=>Nc) (sp:=fun w=>xH (K w.params)) hn (by decide) Rr hr hY F (fun _ _ a ns hl _ hS=>⟨a,ns,rfl,hS,hl,fun _=>rfl⟩) fun _ _ _ _ _ z=>z
theorem ve:bootBuiltins "sum" = some (.builtin "sum"):=by decide +kernel
theorem vf:bootBuiltins "sorted" = some (.builtin "sorted"):=by decide +kernel
theorem C8{h:Heap}{mg:Str->Option Value}{oc:Value}{od an:Option Addr}{N1:Array (Option Value)}{kV doc pm IJ ct:Value}(X:K.In h)(G:h.Ns mainGlobals mg)
  (a:PySem.W.nsIn K mainGlobals x=some (some (.ref f))) (l:K.lookup f=some ⟨oc,od,.func (PySem.W.fnOf x x (fu st) (c8 st) (defScope st) .none kV doc pm an IJ ct),N1⟩)
  (c:PySem.W.codeIn K IJ x=true) (k:PySem.W.keepIn K (.ref f)=true):Def K mg x st:=⟨f,_,yF l c k,PySem.W.mg_of X G a⟩
inductive tQL(K:W.Frag)(f:FI)(σ:L2.St)(H:Hp)(R:It->Hp->Prop):Prop
 |mk:∀G env fp ds env',Rel K G H env σ fp->f env=.ok (ds,env')->(∀J H' G' HZ,Step G H fp G' H' HZ->Rel K G' H' env' σ HZ->(∀G2,Same G' G2->(∀(i:Nat) (r:PV.R) (v:V),env'[i]?=some (some r)->σ[i]?=some (some v)->Rep K G2 r.2 v)->Walk K G2 J ds)->R J H')->tQL K f σ H R
def Oi(X:Cx)(tg e:Expr)(f:FI):Prop:=PI X tg e (tQL X.K f)
theorem Walk.mono{G G2:Hp}{J:It}{ds:List D}(w:Walk K G J ds)(gg:Same G G2):Walk K G2 J ds:=fun G' H' es vs fp g rel=>w G' H' es vs fp (gg.trans g) rel
variable{fi:FI}{a:FG}{c:FT}
theorem qO{ix:List (Option Nat)}{f:FX}{Q:VK}(h:tQ K (cS fi ix a c f) σ H Q):nS (tQL K fi) ix (tQG K a) (tQT K c) (tQ K f) σ H Q:=by
 obtain⟨G,env,fp,r,env',rel,e,k⟩:=h;obtain⟨⟨ds,HU⟩,e1,e⟩:=ai e;obtain⟨rs,e2,e⟩:=ai e;refine⟨G,env,fp,ds,HU,rel,e1,fun J H1 G1 IF Im HW wk D hD=>?_⟩;dsimp only at e e2;split at e
 ·rename_i hz;have er:r=(.l .f,.lst rs):=by cases e;rfl
  have ee:env'=if H0 rs then HU else HU.map frz:=by cases e;rfl
  subst er;obtain⟨G2,Mt,Np,Jt,hrE,Jc⟩:=HW.lend;have wk2:=wk G2 Mt Jt;have HV:Rel K G2 H1 (bG ix HU) (dn ix σ) []:=⟨dy Jt (fun i r er=>let⟨v,ev,_⟩:=HW.view er;⟨v,ev⟩) ix,WU,(fun _ h=>nomatch h),Np⟩
  obtain⟨IQ,IL⟩:=HV.newL (ds:=[]) (xs:=[]) hD .nil;refine⟨fun i m σ1 H2=>m=ds.length-i/\i<=ds.length/\∃G' es HZ acc aU,Step G2 H1 [] G' H2 HZ/\Rel K G' H2 (some (.l .f,.lst acc)::es) (some (.ref D)::σ1) HZ/\cH a c f (ds.drop i) es=.ok aU/\acc++aU=rs,
   ⟨_,rfl,VH _,G2,bG ix HU,_,[],rs,IL,IQ,e2,rfl⟩,?_⟩
  rintro i m σ1 H2 ⟨rfl,hi,G3,es,JU,acc,aU,IZ,Jk,e4,Je⟩;obtain⟨w1,w2⟩:=wk2 G3 H2 _ _ _ IZ.gg Jk i;by_cases Iu:i<ds.length
  ·have hd:ds[i]?=some ds[i]:=US Iu;obtain⟨go,yl⟩:=w1 _ hd;rw[VZ Iu]at e4;unfold cH at e4;obtain⟨Nw,h1,e4⟩:=ai e4;obtain⟨⟨b,K2⟩,h2,e4⟩:=ai e4;dsimp only at e4;refine .inr ⟨go,fun x H3 y=>?_⟩;obtain⟨G4,rx,Jd,Js⟩:=yl x H3 y;obtain⟨fa,fb,L7,ra,Kr,bk⟩:=Jd.frame;refine⟨G4,es,fb,ds[i],Nw,Kr,rx,h1,fun σ2 G5 MQ M7 Ks=>?_⟩;refine⟨G5,Nw,MQ,b,K2,Ks,h2,fun H6 G6 Mk Oj Kt=>?_⟩;have K3:=M7.trans Oj;cases b with
   |false=>
    refine iteF ⟨ds.length-(i+1),by lia,rfl,Iu,?_⟩;obtain⟨Jn,JW⟩:=bk G6 H6 K2 σ2 Mk K3 Kt;rw[<-L7]at JW;exact⟨G6,K2,_,acc,aU,IZ.trans (Js.trans JW),Jn,e4,Je⟩
   |true=>
    have e4:((f K2).bind fun q=>(cH a c f (ds.drop (i+1)) q.2).bind fun rs=>.ok (q.1.2::rs))=.ok aU:=e4;obtain⟨⟨r,Mx⟩,h3,e4⟩:=ai e4;obtain⟨K4,h4,e4⟩:=ai e4;cases e4;refine z3 ⟨G6,K2,Mk,r,Mx,Kt,h3,fun v H7 G7 Ti PX My=>?_⟩;obtain⟨G8,PY,rv,Mz,PZ⟩:=My.freeze;obtain⟨Jn,JW⟩:=bk G8 H7 Mx σ2 PY (K3.trans (PX.trans PZ)) Mz;rw[<-L7]at JW;obtain⟨p,xs,ep,hp,LM,cg⟩:=Jn.chg (i:=0) (ds:=acc) (ds':=acc++[r.2]) rfl;have ep:some (some (V.ref D))=some (some (V.ref p)):=ep;cases ep;obtain⟨fq,MA,P0⟩:=cg (xs++[v]) (LM.app (.one rv));refine⟨xs,hp,?_,ds.length-(i+1),by lia,rfl,Iu,G8,Mx,fq,acc++[r.2],K4,IZ.trans (Js.trans (JW.trans P0)),MA,h4,?_⟩
    ·rw[LM.length];have:=V7 List.length Je;rw[VN,Vb]at this;lia
    ·rw[<-Je,V2];rfl
  ·have ei:i=ds.length:=by lia
   subst ei;rw[W5]at e4;cases e4;rw[Vu]at Je;subst Je;refine .inl ⟨w2 rfl,?_⟩;obtain⟨fa,LP,Ol⟩:=Jk.only;obtain⟨k1,k2⟩:=Jc H2 G3 fa _ _ (IZ.trans Ol) LP;rw[ee]at k;by_cases hc:H0 acc=true
   ·rw[U2 hc]at k;obtain⟨G5,MQ,Js,Jd⟩:=k1 (by rw[aP,dG];exact hc);exact k _ H2 G5 MQ (Im.trans Js) Jd
   ·rw[U9 hc]at k;obtain⟨G5,MQ,Js,Jd⟩:=k2;exact k _ H2 G5 MQ (Im.trans Js) Jd
 ·cases e
variable{pos:Pos}{i:Nat}
section
variable{md:Mode}{scope:Scope}{tg iter elt:Expr}{ifs:List Expr}{f:FX}
variable{l e:Expr}{g fj:FI}
theorem cI(h:QI X tg e fi):Oi X tg e fi:=js h fun σ H R ⟨G,env,fp,ds,env',rel,e,k⟩=>⟨G,env,fp,ds,env',rel,e,fun J H' G' HZ st IS wk=>k J H' G' HZ st IS fun _ gg _=>wk.mono gg⟩
theorem gv(h:Oi X tg e fi)(h2:Oi X tg e fj):Oi X tg e (Kq fi fj):=fun pr s σ H R I Ig=>by
 obtain⟨G,env,fp,ds,env',rel,ee,k⟩:=Ig;rcases yR ee with z|z
 ·exact h pr s σ H R I ⟨G,env,fp,ds,env',rel,z,k⟩
 ·exact h2 pr s σ H R I ⟨G,env,fp,ds,env',rel,z,k⟩
def eE(i:Nat):FI:=fun env=>match env[i]? with
 |some (some (_,.lst ds))=>.ok (ds,env)
 |_=>.bad
theorem dN(h:PE X l (ql i)):Oi X tg l (eE i):=js (pD h) fun σ H R Ig=>by
 obtain⟨G,env,fp,ds,env',rel,e,k⟩:=Ig;unfold eE at e;split at e
 ·rename_i o ds hr;cases e;obtain⟨v,ev,rv⟩:=rel.view hr;obtain⟨p,xs,RI,sq,rs⟩:=bw rv;refine⟨v,ev,p,RI,⟨xs,sq⟩,k _ H G fp .refl rel fun G2 gg Jt=>?_⟩;obtain⟨p',Jj,Nx,JG,JT⟩:=bw (Jt i _ v hr ev);rw[RI]at Nx;cases Nx;exact j6 JG JT
 ·cases e
theorem bM(ix:List (Option Nat))(N:List Str)(hc:X.calm=true)(hi:Oi X tg iter fi)(hg:∀C s H fp pn,QG (ba X scope N C s H fp pn) tg a)(ht:∀C s H fp pn,N2 (ba X scope N C s H fp pn) ifs c)(he:∀C s H fp pn,QE (ba X scope N C s H fp pn) elt f)
  (hf:cT scope X.env=true:=by rfl) (hk:scope.kind=.function:=by rfl) (Ih:∀y∈scope.names,y.2≠.cell:=by decide +kernel) (Io:∀y∈scope.names,y.2=.local->scope.names.lookup y.1=some .local:=by decide +kernel) (Ji:lq X scope N ix=true:=by rfl)
  (hs:∀x,foldedSetIterable iter X.env x=pure x:=by intro _;rfl):QE X (.ListComp elt [⟨tg,iter,ifs,0⟩] scope pos) (cS fi ix a c f):=
 bD (lS (g:=tQG X.K a) (tc:=tQT X.K c) (te:=tQ X.K f) ix N hc hi hg ht he hf hk Ih Io Ji hs) fun _ _ _=>qO
theorem qP{y:Str}{py Kh:Pos}(ix:List (Option Nat))(N:List Str)(hN:X.N.Nodup)(Ob:X.N[i]?=some y)(hy:Loc X.env.scope y)(hc:X.calm=true)(hi:Oi X tg iter fi)(hg:∀C s H fp pn,QG (ba X scope N C s H fp pn) tg a)(ht:∀C s H fp pn,N2 (ba X scope N C s H fp pn) ifs c)
  (he:∀C s H fp pn,QE (ba X scope N C s H fp pn) elt f) (Nn:swapsWith (.ListComp elt [⟨tg,iter,ifs,0⟩] scope pos) (some (.Name y py)) Kh.line X.env=pure true:=by rfl)
  (hf:cT scope X.env=true:=by rfl) (hk:scope.kind=.function:=by rfl) (Ih:∀y∈scope.names,y.2≠.cell:=by decide +kernel) (Io:∀y∈scope.names,y.2=.local->scope.names.lookup y.1=some .local:=by decide +kernel) (Ji:lq X scope N ix=true:=by rfl)
  (hs:∀x,foldedSetIterable iter X.env x=pure x:=by intro _;rfl) (Mj:X.fn y=true\/X.env.scope.names.lookup y=some .local:=by first|exact .inl rfl|exact .inr rfl):
  QS (md:=md) X (.Assign [.Name y py] (.ListComp elt [⟨tg,iter,ifs,0⟩] scope pos) Kh) (bZ i (cS fi ix a c f)):=
 dZ (uk (i:=i) (g:=tQG X.K a) (tc:=tQT X.K c) (te:=tQ X.K f) ix N hN Ob hy hc hi hg ht he Nn hf hk Ih Io Ji hs Mj) fun D σ H ⟨G,env,fp,rel,k⟩=>qO (mh rel k)
end
section
variable{a:Expr}{fa:FO}
def oA(fa:FO):FX:=fun env=>(fa env).bind fun p=>(JV p.2 p.1).bind fun d=>match d with
 | .int i=>.ok ((.f,.int (-i)),p.2)
 |_=>.bad
theorem gw(ha:QO X a fa):QE X (.UnaryOp .USub a pos) (oA fa):=bD (EZ Cf ha) fun σ H Q Ig=>by
 obtain⟨G,env,fp,r,env',rel,e,k⟩:=Ig;obtain⟨⟨o,e1⟩,h1,e⟩:=ai e;obtain⟨d,h2,e⟩:=ai e;dsimp only at e;split at e
 ·rename_i i;cases e;refine⟨G,env,fp,o,_,rel,h1,fun v H1 G1 IF Im HW Ko=>?_⟩;have:=bJ (HW.vw Ko h2);exact⟨i,this,k _ H1 G1 IF Im (HW.push (rep_int _))⟩
 ·cases e
def Gq(a b:D):Res R:=Ft a b
theorem AB:IW X (binaryOp .Mult) (rG X.K Gq):=CT
end
end PV
namespace HT
variable{prog:Program}{w:World}{A:Around}{E:Value->Shared->Prop}{s:Shared}
theorem iH{t sl:Addr}{items:Array Value}{vl vu:Value}{lo hi:Option Int}{Q:Value->Shared->Prop}(ht:IsTup s.heap t items)(hs:s.heap.IsSliceOf sl vl vu .none)(pl:IsPart vl lo)(pu:IsPart vu hi)
  (hw:sIx items.size 0 lo=0/\sIx items.size items.size hi=items.size) (h:Q (.ref t) s):wpAny (model prog w) A (getItem (.ref t) (.ref sl)) Q E s:=by
 obtain⟨os,Pq,Sn,Nj⟩:=id hs;have SW:s.TypeIs (.ref sl) "slice":=⟨os,Pq,Sn⟩
 unfold getItem;try with_reducible refine XX ?_
 first|refine UR (Va ?_)|skip
 refine UR (wpAny_sequenceKey ht.typeIs (by decide) ?_);refine UR (Wi (name:=Str.ofString "__getitem__") ht.typeIs WH
  (W3 WH ht.typeIs entry_tuple_getitem ?_ (args_tuple_getitem _ _)))
 show wpAny _ _ (Builtin.Tuple.tupleItemsOf (.ref t) >>= _) _ _ s;refine UR (tupleItemsOf_ ht ?_);refine UR (Xt SW ?_);rw[U2 (by decide)];refine UR (fU hs pl pu ?_);have hyes:(((sIx items.size 0 lo:Nat):Int)==0&&(1:Int)==1&&(sIx items.size items.size hi-sIx items.size 0 lo)==items.size)=true:=by
  rw[hw.1,hw.2];simp
 show wpAny _ _ (if(((sIx items.size 0 lo:Nat):Int)==0&&(1:Int)==1&&(sIx items.size items.size hi-sIx items.size 0 lo)==items.size)=true then _ else _) _ _ s;rw[U2 hyes];refine UR (m:=Builtin.Tuple.tupleIsExact _) ?_;unfold Builtin.Tuple.tupleIsExact;refine UR (Xt ht.typeIs (Va ?_));rw[U2 (by decide)];exact UR (wpAny_rule (Va ⟨_,rfl,Va h⟩))
end HT
namespace PV
section
variable{X:Cx}{pos:Pos}{fa:FO}
theorem AD:Pt X (fun x lo hi H Q=>∃a xs,x=.ref a/\SqT X.K H a xs/\(HT.sIx xs.length 0 lo=0/\HT.sIx xs.length xs.length hi=xs.length)/\Q x H):=by
 intro pr s σ H x v vl vu lo hi sl Q I rx hs pl pu h;obtain⟨a,xs,rfl,hx,hw,q⟩:=h;cases rx;obtain⟨HX,r,ht,hz⟩:=I.tuple hx;have hlen:HX.toArray.size=xs.length:=by rw[UT];exact r.length.symm
 refine⟨"tuple",_,PyProof.Rows.slot_tuple_getitem.lookup,ht.typeIs,?_⟩;exact HT.iH ht hs pl pu (by rw[hlen];exact hw) ⟨.ref a,H,I,rfl,q⟩
def P1(k:D)(lo hi:Option Int):Res R:=match k with
 | .tup ds=>if HT.sIx ds.length 0 lo=0/\HT.sIx ds.length ds.length hi=ds.length then .ok (.f,.tup ds) else Q5 k lo hi
 |_=>Q5 k lo hi
def BE(fa:FO)(lo hi:FP):FX:=fun env=>(fa env).bind fun p=>(lo p.2).bind fun q=>(hi q.2).bind fun t=>(JV t.2 p.1).bind fun d=>(P1 d q.1 t.1).bind fun r=>.ok (r,t.2)
inductive rSlW(K:W.Frag)(x:V)(lo:Option Int)(hi:Option Int)(H:Hp)(Q:VK):Prop
 |mk:∀G fp es vs d r,Goes K H G fp es vs r Q->Vw K G H d x->P1 d lo hi=.ok r->rSlW K x lo hi H Q
theorem C9:Pt X (rSlW X.K):=by
 rintro pr s σ H x v vl vu lo hi sl Q I rx hs pl pu ⟨G,fp,es,vs,d,r,⟨rel,k⟩,vd,e⟩;unfold P1 at e;split at e
 ·rename_i ds;split at e
  ·rename_i hw;cases e;obtain⟨p,xs,ev,sq,rs⟩:=gr vd;subst ev;refine AD pr s σ H _ v vl vu lo hi sl Q I rx hs pl pu ⟨p,xs,rfl,bK rel.gh sq,by rw[rs.length];exact hw,?_⟩;exact k _ H G fp .refl (rel.push vd)
  ·exact CU pr s σ H x v vl vu lo hi sl Q I rx hs pl pu ⟨G,fp,es,vs,_,r,⟨rel,k⟩,vd,e⟩
 ·exact CU pr s σ H x v vl vu lo hi sl Q I rx hs pl pu ⟨G,fp,es,vs,_,r,⟨rel,k⟩,vd,e⟩
theorem qQ{e:Expr}{lo hi:Option Expr}{p2:Pos}{fl fh:FP}(he:QO X e fa)(hl:QP X lo fl)(hh:QP X hi fh):QE X (.Subscript e (.Slice lo hi none p2) pos) (BE fa fl fh):=
 bD (xl C9 he hl hh) fun σ H Q Ig=>by
  obtain⟨G,env,fp,r,env',rel,e,k⟩:=Ig;obtain⟨⟨o,HU⟩,e1,e⟩:=ai e;obtain⟨⟨i,Ic⟩,e2,e⟩:=ai e;obtain⟨⟨j,IM⟩,e3,e⟩:=ai e;obtain⟨d,e4,e⟩:=ai e;obtain⟨r',e5,e⟩:=ai e;cases e;exact⟨G,env,fp,o,HU,rel,e1,fun v H1 G1 IF Im HW Ko=>⟨G1,HU,IF,i,Ic,HW,e2,fun H2 G2 IP Ib HV=>⟨G2,Ic,IP,j,IM,HV,e3,fun H3 G3 JU IL IQ=>
   ⟨G3,JU,IM,σ,d,r,⟨IQ,fun v H' G' HZ st IS=>k v H' G' HZ (Im.trans (Ib.trans (IL.trans st))) IS⟩,IQ.vw ((Ko.mono Ib.gg).mono IL.gg) e4,e5⟩⟩⟩⟩
end
end PV
namespace L2
section
variable{X:Cx}{tg:Expr}
def vg(i j c:Int):Prop:=(-1048576<=i/\i<=1048576)/\(-1048576<=j/\j<=1048576)/\(c = -1\/1<=c)/\c<=1048576
instance (i j c:Int):Decidable (vg i j c):=by unfold vg;infer_instance
end
end L2
namespace PV
section
variable{X:Cx}{tg:Expr}
def HP:List D->Res R
 |[d]=>match(om d).bind eV with
  |some (n::ns)=>.ok (.f,.int (Fh (n::ns)))
  |_=>.bad
 |[.int i,.int j]=>.ok (.f,.int (if j<i then j else i))
 |_=>.bad
def BG:List D->Res R
 |[.int i]=>.ok (.f,.int (if i<0 then -i else i))
 |_=>.bad
theorem yV:eA X (.builtin "abs") (rC X.K BG):=by
 rintro pr s σ H xs us Q I rx ⟨G,fp,es,vs,ds,r,⟨rel,k⟩,vd,e⟩;unfold BG at e;split at e
 ·cases e;obtain⟨v,ev,vt⟩:=sP vd;subst ev;cases bJ vt;exact xi pr s σ H _ us Q I rx ⟨_,rfl,k _ H G fp .refl (rel.push (rep_int _))⟩
 ·cases e
noncomputable def Fy(fs:FOs):FI:=fun env=>(fs env).bind fun p=>(qB p.2 p.1).bind fun d=>match d with
 |[.int i,.int j,.int c]=>if vg i j c then .ok ((List.range (Builtin.Range.rangeSize i j c).toNat).map fun(k:Nat)=>D.int (i+(k:Int)*c),p.2) else .bad
 |_=>.bad
end
end PV
namespace NX
section
open PySem.SeqAt
open PySem.AutoSeq1 (wpAny_loadPart')
end
end NX
namespace L2
section
variable{X:Cx}{o e:Expr}{es:List Expr}{to:TE}{t:TA}{name:Str}{apos IG:Pos}{id:String}{r:V->List V->Hp->VK->Prop}
end
end L2
namespace PV
section
variable{X:Cx}
noncomputable def HQ(g:List D->List D->Res R)(fa:FO)(fs:FOs):FX:=fun env=>(fa env).bind fun p=>(JV p.2 p.1).bind fun a=>match a with
 | .tup _=>(fs p.2).bind fun q=>(JV q.2 p.1).bind fun a2=>match a2 with
  | .tup l=>(qB q.2 q.1).bind fun ds=>(g l ds).bind fun r=>.ok (r,q.2)
  |_=>.bad
 |_=>.bad
def Hs(l:List D):List D->Res R
 |[.str c]=>match lA l with
  |some bs=>if c∈bs then .ok (.f,.int (bs.idxOf c:Nat)) else .bad
  |none=>.bad
 |_=>.bad
def i4(a b:D):Res R:=match a,b with
 | .tup [],.tup l=>.ok (.f,.tup l)
 |a,b=>addD a b
theorem dC:IW X (binaryOp .Add) (rG X.K i4):=by
 rintro pr s σ H x y v u Q I rx ry ⟨G,fp,es,vs,a,b,r,⟨rel,k⟩,va,vb,e⟩;unfold i4 at e;split at e
 ·rename_i l;cases e;obtain⟨p,xs,e1,h1,r1⟩:=gr va;obtain⟨p2,Q4,e2,h2,r2⟩:=gr vb;subst e1;subst e2;cases rx;cases ry;have hx:xs=[]:=VW (by rw[r1.length];rfl);subst hx;obtain⟨HX,v1,⟨⟨cls,dd,data,sl⟩,ho,hc,n,hd⟩,_⟩:=I.tuple (bK rel.gh h1);obtain⟨Nk,v2,⟨⟨Ro,QV,data2,QX⟩,Kg,Ni,n2,hd2⟩,_⟩:=I.tuple (bK rel.gh h2);dsimp only at hc hd Ni hd2;subst hc hd Ni hd2;cases v1;exact Zj ⟨_,ho,rfl⟩ ⟨_,Kg,rfl⟩ Y2 Z2 X1 XW (XM _ _) (tuple_addW0 p p2 _ _ n n2 dd QV sl QX rfl) ⟨ho,Kg,⟨.ref p2,H,I,rfl,k _ H G fp .refl (rel.push vb)⟩⟩
 ·exact CS pr s σ H _ _ v u Q I rx ry ⟨G,fp,es,vs,a,b,r,⟨rel,k⟩,va,vb,e⟩
def oB(fs:FOs):FI:=Kq (sM true true fs) (Kq (sM true false fs) (Kq (sM false true fs) (sM false false fs)))
theorem mF{L5:List Expr}{kt:Nat}{pt:Pos}{e1 e2:Expr}{fs:FOs}{p pos:Pos}(hg:Gl X "zip")(hm:X.mg "zip" = none)(ha:M4 X [e1,e2] fs)(he:starEach [e1,e2] X.env=(false,eval e1 X.env)::starEach [e2] X.env:=by rfl)(JR:(backTo pos (starEach [e2] X.env)).any (·.1)=false:=by rfl):
  QI X (.Tuple L5 kt pt) (.Call (.Name "zip" p) [e1,e2] [] pos) (oB fs):=uU (qH true true hg hm ha he JR) (uU (qH true false hg hm ha he JR) (uU (qH false true hg hm ha he JR) (qH false false hg hm ha he JR)))
end
end PV
namespace NX
section
open PySem.AutoSeq1 (wpAny_loadPart')
theorem oC(l:Addr)(items:Array Value)(n:Nat)(dd:Option Addr)(sl:Array (Option Value))(x:Int)(u:Tok)(h1:¬ (!Builtin.List.listFitsIndex x)=true)(h2:¬ items.size*x.toNat>(2 ^ 63-1) / 8)(h3:¬ Builtin.List.listTooLong (items.size*x.toNat)=true)(h4:(List.foldl (fun x1 x2=>x1++x2) #[] (List.replicate (if items.isEmpty=true then 0 else x.toNat) items)).size<=sizeLine):
  Meets (Builtin.«list.__mul__» ⟨[.ref l,.int x u],[]⟩)
   (fun _ R s=>s.heap.get? l=some {cls:=.type "list",dict:=dd,data:=.seq items n,slots:=sl}/\R (.ok (.ret (.ref s.heap.objs.size))) {s with heap:=s.heap.push {cls:=.type "list",data:=.seq (List.foldl (fun x1 x2=>x1++x2) #[] (List.replicate (if items.isEmpty=true then 0 else x.toNat) items))}}):=
 .of_wp fun prog w A R s h=>by
  obtain⟨hp,g,d,tk,os⟩:=s;obtain⟨hl,h⟩:=h
  wp_walk using wpAny_loadPart' hl
  rw[U9 (by lia)]
  wp_walk
  exact⟨_,rfl,h⟩
theorem oD(a:Int)(t:Tok)(l:Addr)(T:String)(items:Array Value)(n:Nat)(dd:Option Addr)(sl:Array (Option Value)):
  Meets (Builtin.«int.__rmul__» ⟨[.int a t,.ref l],[]⟩)
   (fun _ R s=>s.heap.get? l=some {cls:=.type "list",dict:=dd,data:=.seq items n,slots:=sl}/\R (.ok (.ret .notImplemented)) s):=
 .of_wp fun prog w A R s h=>by
  obtain⟨hp,g,d,tk,os⟩:=s;obtain⟨hl,h⟩:=h
  wp_walk using wpAny_loadPart' hl
  exact⟨_,rfl,h⟩
end
end NX
namespace PV
variable{md:Mode}{X:Cx}{o:Expr}{pos:Pos}{i:Nat}
section
inductive rRepS(K:W.Frag)(x:V)(y:V)(H:Hp)(Q:VK):Prop
 |mk:∀l k xs,x=.ref l->y=.int k->SqL K H l xs->-(2 ^ 62)<=k->k<2 ^ 62->xs.length*k.toNat<=sizeLine->(∀p,H p=none->Q (.ref p) (upd H p (.lst (List.replicate k.toNat xs).flatten)))->rRepS K x y H Q
theorem AE:IW X (binaryOp .Mult) (rRepS X.K):=by
 intro pr s σ H x y v u Q I rx ry h;obtain⟨l,k,xs,rfl,rfl,hH,h1,h2,hz,q⟩:=h;cases rx;obtain⟨t,rfl⟩:=ry;obtain⟨HX,r,p1,_⟩:=I.list hH;have hl:=r.length;obtain⟨⟨cls,dd,data,sl⟩,ho,hc,n,hd⟩:=id p1.isList;simp only at hc hd;subst hc hd;have hlen:HX.toArray.size*k.toNat<=sizeLine:=by rw[UT,<-hl];exact hz
 have hcap:¬ HX.toArray.size*k.toNat>(2 ^ 63-1) / 8:=by
  have:(sizeLine:Nat)<=(2 ^ 63-1) / 8:=by decide
  lia
 have Nv:¬ (!Builtin.List.listFitsIndex k)=true:=by
  rw[fitsIndex_both (by lia) (by lia)];exact U7
 have RJ:¬ Builtin.List.listTooLong (HX.toArray.size*k.toNat)=true:=by
  rw[xn hlen];exact U7
 have MB:List.foldl (fun x1 x2=>x1++x2) #[] (List.replicate (if HX.toArray.isEmpty=true then 0 else k.toNat) HX.toArray)=(List.replicate k.toNat HX).flatten.toArray:=by
  have f0:∀m:Nat,List.foldl (fun x1 x2=>x1++x2) #[] (List.replicate m HX.toArray)=(List.replicate m HX).flatten.toArray:=fun m=>by
   have:=jQ HX m [];rw[Wx]at this;exact this
  rw[f0];cases HX with
  |nil=>simp
  |cons a r'=>rw[U9 (by simp)]
 have hsz:(List.foldl (fun x1 x2=>x1++x2) #[] (List.replicate (if HX.toArray.isEmpty=true then 0 else k.toNat) HX.toArray)).size<=sizeLine:=by
  rw[MB,UT,jS,XQ];rw[UT]at hlen;exact hlen
 refine YG (T:="list") (U:="int") (by decide) ⟨_,ho,rfl⟩ (fun s'=>Yi s' k t) noFill_list_mul F.fills_int_mul Ys repeat_list F.slot_int_index.lookup
  (XN Ys (Yi s k t) F.entry_int_rmul (F.args_int_rmul_2 _ _) (oD k t l "" HX.toArray n dd sl)
   ⟨ho,rfl,⟨_,ho,rfl⟩,XN F.slot_list_mul ⟨_,ho,rfl⟩ F.entry_list_mul (F.args_list_mul_2 _ _) (oC l HX.toArray n dd sl k t Nv hcap RJ hsz) ⟨ho,?_⟩⟩)
 rw[MB];exact⟨.ref _,_,I.lnew (t':=s.toks) (r.rep k.toNat) (by rw[jS,XQ];exact hz),rfl,q _ I.fresh⟩
theorem mG{K:W.Frag}{G:Hp}{ds:List D}{xs:List V}(r:Reps K G ds xs):∀n:Nat,Reps K G (List.replicate n ds).flatten (List.replicate n xs).flatten
 | 0=>.nil
 |n+1=>by
  rw[We,We,WW,WW];exact r.app (mG r n)
def BH(a b:D):Res R:=match a,b with
 | .lst ds,.int k=>if 0<=k/\k<1000000/\ds.length*k.toNat<=sizeLine then .ok (.l .f,.lst (List.replicate k.toNat ds).flatten) else .bad
 |a,b=>Gq a b
theorem AF:IW X (binaryOp .Mult) (rG X.K BH):=by
 rintro pr s σ H x y v u Q I rx ry ⟨G,fp,es,vs,a,b,r,⟨rel,k⟩,va,vb,e⟩;unfold BH at e;split at e
 ·rename_i ds j;split at e
  ·rename_i hj;cases e;obtain⟨p,xs,e1,h1,r1⟩:=va;subst e1;cases bJ vb;refine AE pr s σ H _ _ v u Q I rx ry ⟨p,j,xs,rfl,rfl,h1,by lia,by lia,by rw[r1.length];exact hj.2.2,fun q hq=>?_⟩;obtain⟨HV,Ib⟩:=rel.newL hq (mG r1 j.toNat);exact k _ _ G _ Ib HV
  ·cases e
 ·exact AB pr s σ H _ _ v u Q I rx ry ⟨G,fp,es,vs,a,b,r,⟨rel,k⟩,va,vb,e⟩
def Fz(td ty tv:TE):TS:=fun Dd σ H=>tv σ H fun v H1=>td σ H1 fun x H2=>ty σ H2 fun y H3=>Cp x y v H3 fun H4=>Dd.nx σ H4
theorem AG{i value:Expr}{td ty tv:TE}{pos':Pos}(ho:PE X o td)(hi:PE X i ty)(hv:PE X value tv)(hs:swapsWith value (some (.Subscript o i pos')) pos.line X.env=pure false):
  PS X (.Assign [.Subscript o i pos'] value pos) (Fz td ty tv):=by
 intro pr s σ H Dd I h;refine wpAny_Assign_Subscript (Iy (hv pr s σ H _ I h) fun r s1 ⟨v,H1,I1,rv,q1⟩=>Iy (ho pr s1 σ H1 _ I1 q1) fun u s2 ⟨x,H2,I2,rx,q2⟩=>Iy (hi pr s2 σ H2 _ I2 q2) fun iv s3 ⟨y,H3,I3,ry,q3⟩=>?_) hs;exact Iy (xm pr s3 σ H3 x y v u iv r _ I3 rx ry rv q3) fun _ s4 ⟨H4,I4,q4⟩=>⟨σ,H4,I4,q4⟩
noncomputable def oE(i:Nat)(fk fv:FX):FS:=fun env=>(fv env).bind fun p=>(fk p.2).bind fun q=>match p.2[i]?,q.2[i]? with
 |some (some _),some (some (.l .f,.lst ds))=>(match q.1.2 with
  | .int k=>(match ixN ds.length k with
   |some j=>.ok (.nx (q.2.set i (some (.l .f,.lst (ds.set j p.1.2)))))
   |none=>.bad)
  |_=>.bad)
 |_,_=>.bad
theorem kj{ix value:Expr}{fk fv:FX}{pos':Pos}(ho:PE X o (ql i))(hi:QE X ix fk)(hv:QE X value fv)(hs:swapsWith value (some (.Subscript o ix pos')) pos.line X.env=pure false:=by rfl):
  QS (md:=md) X (.Assign [.Subscript o ix pos'] value pos) (oE i fk fv):=dZ (AG ho hi hv hs) fun Dd σ H Ig=>by
 obtain⟨G,env,fp,rel,k⟩:=Ig;unfold oE at k;match q1:fv env,k with
 | .ok (r1,HU),k=>
  have k:OutOk X.K G H fp Dd ((fk HU).bind fun q=>match HU[i]?,q.2[i]? with
   |some (some _),some (some (.l .f,.lst ds))=>(match q.1.2 with
    | .int k=>(match ixN ds.length k with
     |some j=>.ok (.nx (q.2.set i (some (.l .f,.lst (ds.set j r1.2)))))
     |none=>.bad)
    |_=>.bad)
   |_,_=>.bad):=k
  match q2:fk HU,k with
  | .ok (r2,Ic),k=>
   have k:OutOk X.K G H fp Dd (match HU[i]?,Ic[i]? with
    |some (some _),some (some (.l .f,.lst ds))=>(match r2.2 with
     | .int k=>(match ixN ds.length k with
      |some j=>.ok (.nx (Ic.set i (some (.l .f,.lst (ds.set j r1.2)))))
      |none=>.bad)
     |_=>.bad)
    |_,_=>.bad):=k
   split at k
   ·rename_i rr ds h1 h2;split at k
    ·rename_i kk Om;split at k
     ·rename_i j hj;refine⟨G,env,fp,r1,HU,rel,q1,fun y H1 G1 IF Im HW=>?_⟩;obtain⟨G2,b,ry,HV,Ib⟩:=HW.freeze;obtain⟨v0,Q7,_⟩:=HV.view h1;refine⟨v0,Q7,G2,HU,b,r2,Ic,HV,q2,fun z H3 G3 JU IL IQ=>?_⟩;obtain⟨G4,b4,rz,Jk,IZ⟩:=IQ.freeze;have SD:Rep X.K G4 r1.2 y:=Rep.mono (IL.gg.trans IZ.gg) ry;obtain⟨p,xs,ep,hp,rs,cg⟩:=Jk.chg (ds':=ds.set j r1.2) h2;rw[Q7]at ep;cases ep;rw[Om]at rz;have hz:=bI rz;obtain⟨fq,Jd,Js⟩:=cg _ (rs.set j SD);exact⟨p,xs,kk,j,rfl,hz,hp,by rw[rs.length];exact hj,k _ _ G4 fq (Im.trans (Ib.trans (IL.trans (IZ.trans Js)))) Jd⟩
     ·exact k.elim
    ·exact k.elim
   ·exact k.elim
end
variable{K:W.Frag}{G H:Hp}
section
def Gr(fk fv:FX):FX:=fun env=>(fk env).bind fun p=>(fv p.2).bind fun q=>if eX false p.1.2 then .ok ((.d,.dct false [p.1.2] [q.1.2]),q.2) else .bad
def getD(ks vs:List D)(k:D):Option D:=((ks.zip vs).find? fun p=>Ia k p.1).map (·.2)
theorem kn{κ:Type}[DecidableEq κ]{K:W.Frag}{G:Hp}(f:κ->D)(hf:∀a b,Ia (f a) (f b)=decide (a=b)){k:κ}:∀{HS:List (κ×V)}{vs:List D},Reps K G vs (HS.map (·.2))->((getD (HS.map fun kv=>f kv.1) vs (f k)).isSome=(n0 HS k).isSome)/\∀d,getD (HS.map fun kv=>f kv.1) vs (f k)=some d->∃v,n0 HS k=some v/\Rep K G d v
 |[],vs,r=>⟨rfl,fun d h=>nomatch h⟩
 |kv::HS,vs,r=>by
  cases vs with
  |nil=>have:=r.length;simp at this
  |cons d0 vs=>
   rw[Vo,Reps.cons_iff]at r;obtain⟨h1,h2⟩:=kn f hf (k:=k) r.2;unfold getD n0 at h1 h2 ⊢;rw[Vo,List.zip_cons_cons];have e:Ia (f k) (f kv.1)=decide (kv.1=k):=by
    rw[hf,VQ,Vl,Vl];exact⟨fun z=>z.symm,fun z=>z.symm⟩
   by_cases hk:kv.1=k
   ·rw[Xm (by show Ia (f k) (f kv.1)=true;rw[e];exact VL hk),Xm (by exact VL hk)];refine⟨rfl,fun d h=>?_⟩;cases h;exact⟨_,rfl,r.1⟩
   ·rw[Xn (by show ¬ Ia (f k) (f kv.1)=true;rw[e];simpa using hk),Xn (by simpa using hk)];exact⟨h1,h2⟩
theorem pQ(gh:Same G H){tk:Bool}{ks vs:List D}{xs:List V}{o:HO}{p:Addr}{b:D}{y:V}(rd:Rd H p o)(dd:DictO o tk ks xs)(rs:Reps K G vs xs)(hk:eX tk b=true)(ry:Rep K G b y):
  ∃ov,DGet H p y ov/\(getD ks vs b).isSome=ov.isSome/\∀d,getD ks vs b=some d->∃v,ov=some v/\Rep K G d v:=by
 unfold eX at hk;cases tk with
 |true=>
  rw[U2 rfl,WN]at hk;obtain⟨kk,hk⟩:=hk;obtain⟨pz,ez,gz,dz⟩:=ia hk ry;obtain⟨HS,eo,ek,ex,_⟩:=dd;subst eo ex ez dz;have ek:ks=HS.map fun kv=>kT kv.1:=ek
  obtain⟨h1,h2⟩:=kn (K:=K) (G:=G) kT yS (k:=kk) rs;rw[<-ek]at h1 h2;exact⟨n0 HS kk,.inr ⟨HS,kk,pz,rd,rfl,gh _ _ gz,rfl⟩,h1,h2⟩
 |false=>
  rw[U9 U7,WN]at hk;obtain⟨kk,hk⟩:=hk;obtain⟨ez,dz⟩:=je hk ry;obtain⟨HS,eo,ek,ex,_⟩:=dd;subst eo ex ez dz;obtain⟨h1,h2⟩:=kn (K:=K) (G:=G) kD uX (k:=kk) rs;rw[<-ek]at h1 h2;exact⟨n0 HS kk,.inl ⟨HS,kk,rd,rfl,rfl⟩,h1,h2⟩
def N4(a b:D):Res R:=match a with
 | .dct tk ks vs=>if eX tk b then(match getD ks vs b with
  |some d=>.ok (.f,d)
  |none=>.bad) else .bad
 |_=>.bad
theorem vh{a b:Expr}{fa fb:FO}{pos:Pos}(hu:X.A.units+1<cLine)(ha:QO X a fa)(hb:QO X b fb)(hs:NoSl b:=by exact fun _ _=>rfl):QE X (.Subscript a b pos) (aG N4 fa fb):=
 bD (Ah hu ha hb hs) fun σ H Q h=>by
  obtain⟨G,env,fp,r,env',rel,e,k⟩:=h;obtain⟨⟨oa,e1⟩,ha,e⟩:=ai e;obtain⟨⟨ob,e2⟩,hb,e⟩:=ai e;obtain⟨da,PK,e⟩:=ai e;obtain⟨db,KY,e⟩:=ai e;obtain⟨r',hr,e⟩:=ai e;cases e;refine⟨G,env,fp,oa,e1,rel,ha,fun x H1 G1 IF Im HW Ko=>⟨G1,e1,IF,ob,e2,HW,hb,fun y H2 G2 IP Ib HV Od=>?_⟩⟩;have va:=HV.vw (Ko.mono Ib.gg) PK;have vb:=HV.vw Od KY;unfold N4 at hr;split at hr
  ·rename_i tk ks vs;split at hr
   ·rename_i LQ;split at hr
    ·rename_i d hd;cases hr;obtain⟨p,xs,o,ev,rd,dd,rs⟩:=va;subst ev;have vb':Rep X.K G2 db y:=by
      cases db with
      |lst l=>cases tk <;> simp[eX,ke,lB]at LQ
      |dct _ _ _=>cases tk <;> simp[eX,ke,lB]at LQ
      |_=>exact vb
     obtain⟨ov,g,_,h2⟩:=pQ HV.gh rd dd rs LQ vb';obtain⟨v,ho,rv⟩:=h2 d hd;subst ho;exact⟨p,v,rfl,g,k _ H2 G2 IP (Im.trans Ib) (HV.push rv)⟩
    ·cases hr
   ·cases hr
  ·cases hr
def RK(a b:D):Res R:=match b with
 | .dct tk ks vs=>if eX tk a then .ok (.f,.bl (getD ks vs a).isSome) else .bad
 |_=>Og a b
def oF(a b:D):Res R:=match b with
 | .dct tk ks vs=>if eX tk a then .ok (.f,.bl (!(getD ks vs a).isSome)) else .bad
 |_=>Av a b
theorem Dc(hu:X.A.units+65<cLine):IW X (compareOp .In) (rGA X.K RK):=by
 rintro pr s σ H x y v u Q I rx ry ⟨G,fp,es,vs,a,b,r,⟨rel,k⟩,va,vb,e⟩;unfold RK at e;split at e
 ·rename_i tk ks ws;split at e
  ·rename_i LQ;cases e;obtain⟨p,xs,o,ev,rd,dd,rs⟩:=vb;subst ev;cases ry;obtain⟨ov,g,h1,_⟩:=pQ (K:=X.K) (G:=H) (fun _ _ z=>z) rd dd rs LQ va;exact Ho (by lia) I g rx fun s' I'=>⟨.bl ov.isSome,H,I',rfl,by rw[<-h1];exact k _ H G fp .refl (rel.push (dq _))⟩
  ·cases e
 ·exact Fx hu pr s σ H x y v u Q I rx ry ⟨G,fp,es,vs,a,b,r,⟨rel,k⟩,va,vb,e⟩
theorem mH(hu:X.A.units+65<cLine):IW X (compareOp .NotIn) (rGA X.K oF):=by
 rintro pr s σ H x y v u Q I rx ry ⟨G,fp,es,vs,a,b,r,⟨rel,k⟩,va,vb,e⟩;unfold oF at e;split at e
 ·rename_i tk ks ws;split at e
  ·rename_i LQ;cases e;obtain⟨p,xs,o,ev,rd,dd,rs⟩:=vb;subst ev;cases ry;obtain⟨ov,g,h1,_⟩:=pQ (K:=X.K) (G:=H) (fun _ _ z=>z) rd dd rs LQ va;exact Af (by lia) I g rx fun s' I'=>⟨.bl (!ov.isSome),H,I',rfl,by rw[<-h1];exact k _ H G fp .refl (rel.push (dq _))⟩
  ·cases e
 ·exact CZ hu pr s σ H x y v u Q I rx ry ⟨G,fp,es,vs,a,b,r,⟨rel,k⟩,va,vb,e⟩
end
def isLf:O->Bool
 | .l .f=>true
 | .pin _ (.l .f)=>true
 |_=>false
variable{ow:O}{ds:List D}{a:List Addr}
section
variable{G' H':Hp}{es:PV.Env}{vs:L2.St}{fp:List Addr}
theorem vi{v:V}(ho:isLf ow=true)(r:RepO K G H ow (.lst ds) v a):∃p xs,v=.ref p/\H p=some (.lst xs)/\a=[p]/\Reps K G ds xs/\∀(H':Hp) (ds':List D) (Jj:List V),H' p=some (.lst Jj)->Reps K G ds' Jj->RepO K G H' ow (.lst ds') (.ref p) [p]:=by
 unfold isLf at ho;split at ho
 ·obtain⟨p,xs,e,hp,ea,rs⟩:=bV.mp r;exact⟨p,xs,e,hp,ea,rs,fun H' ds' Jj h JT=>bV.mpr ⟨p,Jj,rfl,h,rfl,JT⟩⟩
 ·rename_i q;rw[RepO]at r;obtain⟨e0,r⟩:=r;obtain⟨p,xs,e,hp,ea,rs⟩:=bV.mp r;rw[e]at e0;cases e0;exact⟨_,xs,e,hp,ea,rs,fun H' ds' Jj h JT=>by rw[RepO];exact⟨rfl,bV.mpr ⟨_,Jj,rfl,h,rfl,JT⟩⟩⟩
 ·cases ho
theorem Rel.chgO{ds':List D}(ho:isLf ow=true)(q:Rel K G H es vs fp)(e:es[i]?=some (some (ow,.lst ds))):∃p xs,vs[i]?=some (some (.ref p))/\H p=some (.lst xs)/\Reps K G ds xs/\
  ∀Jj,Reps K G ds' Jj->∃fq,Rel K G (upd H p (.lst Jj)) (es.set i (some (ow,.lst ds'))) vs fq/\Step G H fp G (upd H p (.lst Jj)) fq:=by
 obtain⟨v,fq,ev,g,st,LV⟩:=q.out e;obtain⟨y,ys,e0,v',a,b,e1,e2,r1,r2⟩:=g.rep;cases e0;cases e1;obtain⟨p,xs,e3,hp,e4,rs,mk⟩:=vi ho r1;subst e3;subst e4;subst e2;have nd:=VP.mp (show(p::b).Nodup from g.nd);refine⟨p,xs,ev,hp,rs,fun Jj JT=>?_⟩;have g2:Rel K G (upd H p (.lst Jj)) (some (ow,.lst ds')::es.set i none) (some (.ref p)::vs) (p::b):=by
  refine⟨⟨some (.ref p),vs,rfl,.ref p,[p],b,rfl,rfl,mk _ _ _ aH JT,r2.step (.refl _) fun z hz=>aq fun e=>nd.1 (e▸hz)⟩,g.nd,g.gn,fun z o ez=>?_⟩;have:z≠p:=fun w=>by
   subst w;rw[g.gn z UY]at ez;cases ez
  rw[aq this];exact g.gh z o ez
 have RA:Step G H (p::b) G (upd H p (.lst Jj)) (p::b):=by
  refine⟨.refl _,fun z o ez nz=>?_,fun z hz=>.inl hz,fun z o ez=>.inl ez,fun z o ez=>?_⟩
  ·have:z≠p:=fun w=>nz (by rw[w];exact UY)
   rw[aq this];exact ez
  ·by_cases w:z=p
   ·subst w;exact⟨_,aH⟩
   ·exact⟨o,by rw[aq w];exact ez⟩
 obtain⟨fz,g3,IL⟩:=g2.back (i:=i) (by rw[VI];exact(U1.mp e).1) ev;rw[WA]at g3;exact⟨fz,g3,st.trans (RA.trans IL)⟩
theorem RepE.append:∀{es LY:PV.Env}{vs L4:L2.St}{a b:List Addr},RepE K G H es vs a->RepE K G H LY L4 b->RepE K G H (es++LY) (vs++L4) (a++b)
 |[],LY,vs,L4,a,b,r,q=>by
  rw[r.1,r.2];exact q
 |none::es,LY,vs,L4,a,b,r,q=>by
  obtain⟨y,ys,e,r⟩:=r;subst e;exact⟨y,ys++L4,rfl,RepE.append r q⟩
 |some x::es,LY,vs,L4,a,b,r,q=>by
  obtain⟨y,ys,e,v,a1,b1,e1,e2,r1,r2⟩:=r;subst e e2;exact⟨y,ys++L4,rfl,v,a1,b1++b,e1,V2 _ _ _,r1,RepE.append r2 q⟩
theorem RepE.clean{G2 G3:Hp}(h:∀p u,isT u=true->G2 p=some u->G3 p=some u):∀{es:PV.Env}{vs:L2.St}{a:List Addr},(∀r,some r∈es->aP r.1 r.2=true)->RepE K G2 H es vs a->RepE K G3 H es vs a
 |[],_,_,_,r=>r
 |none::es,vs,a,hc,r=>by
  obtain⟨y,ys,e,r⟩:=r;exact⟨y,ys,e,RepE.clean h (fun r hr=>hc r (U3 _ hr)) r⟩
 |some x::es,vs,a,hc,r=>by
  obtain⟨y,ys,e,v,a1,b1,e1,e2,r1,r2⟩:=r;exact⟨y,ys,e,v,a1,b1,e1,e2,r1.clean h (hc x UY),RepE.clean h (fun r hr=>hc r (U3 _ hr)) r2⟩
theorem Rel.lendM(q:Rel K G H es vs fp)(a:List Addr)(ha:∀z∈a,z∉fp)(Tj:∀z∈a,G z=none):∃G1,Same G G1/\Same G1 H/\(∀z∈a,G1 z=none)/\(∀(i:Nat) (r:R) (v:V),es[i]?=some (some r)->vs[i]?=some (some v)->Rep K G1 r.2 v)/\
  ∀(H2 G2:Hp) (IP:List Addr) (rs:PV.Env) (ws:L2.St),Step G1 H a G2 H2 IP->Rel K G2 H2 rs ws IP->(∀r,some r∈rs->aP r.1 r.2=true)->∃G3 JU,Step G H (a++fp) G3 H2 JU/\Rel K G3 H2 (rs++es) (ws++vs) JU:=by
 have hg:Same G (fun p=>if p∈fp then H p else G p):=fun p u e=>by
  show(if p∈fp then H p else G p)=some u;by_cases hp:p∈fp
  ·rw[U2 hp];exact q.gh p u e
  ·rw[U9 hp];exact e
 have hh:Same (fun p=>if p∈fp then H p else G p) H:=fun p u e=>by
  have e:(if p∈fp then H p else G p)=some u:=e;by_cases hp:p∈fp
  ·rw[U2 hp]at e;exact e
  ·rw[U9 hp]at e;exact q.gh p u e
 have hk:∀p∈fp,∀u,H p=some u->(fun p=>if p∈fp then H p else G p) p=some u:=fun p hp u e=>by
  show(if p∈fp then H p else G p)=some u;rw[U2 hp];exact e
 refine⟨fun p=>if p∈fp then H p else G p,hg,hh,fun z hz=>?_,fun i r v e ev=>q.rep.rep hg hk e ev,fun H2 G2 IP rs ws st k cl=>?_⟩
 ·show(if z∈fp then H z else G z)=none;rw[U9 (ha z hz)];exact Tj z hz
 have kept:∀p∈fp,H2 p=H p:=fun p hp=>by
  obtain⟨u,hu⟩:=q.rep.live p hp;rw[hu];exact st.keep p u hu fun z=>ha p z hp
 have apart:∀p∈IP,p∉fp:=fun p hp hf=>by
  rcases st.fpn p hp with z|z
  ·exact ha p z hf
  ·obtain⟨u,hu⟩:=q.rep.live p hf;rw[z]at hu;cases hu
 have g3:Same G (fun p=>if p∈fp then none else G2 p):=fun p u e=>by
  show(if p∈fp then none else G2 p)=some u;rw[U9 (fun z=>by rw[q.gn p z]at e;cases e)];exact st.gg p u (hg p u e)
 refine⟨fun p=>if p∈fp then none else G2 p,IP++fp,⟨g3,fun p u e n=>?_,fun p hp=>?_,fun p u e=>?_,st.there⟩,⟨RepE.append (RepE.clean (fun p u t e=>?_) cl k.rep) (q.rep.step g3 kept),?_,fun p hp=>?_,fun p u e=>?_⟩⟩
 ·exact st.keep p u e fun z=>n (U4 _ z)
 ·rcases Vp.mp hp with hp|hp
  ·exact(st.fpn p hp).imp_left (U4 _)
  ·exact .inl (UX _ hp)
 ·have e:(if p∈fp then none else G2 p)=some u:=e;by_cases hp:p∈fp
  ·rw[U2 hp]at e;cases e
  ·rw[U9 hp]at e;rcases st.gnew p u e with z|z|z
   ·have z:(if p∈fp then H p else G p)=some u:=z;rw[U9 hp]at z;exact .inl z
   ·exact .inr (.inl (U4 _ z))
   ·exact .inr (.inr z)
 ·show(if p∈fp then none else G2 p)=some u;by_cases hp:p∈fp
  ·exfalso;obtain⟨u',hu,hm⟩:=q.rep.mut p hp;have:=st.gg p u' (hk p hp u' hu);rw[e]at this;cases this;cases u with
   |lst _=>cases t
   |dK _=>cases t
   |dT _=>cases t
   |_=>cases hm
  ·rw[U9 hp];exact e
 ·rw[Vs];exact⟨k.nd,q.nd,fun p hp z hz e=>apart p hp (e▸hz)⟩
 ·show(if p∈fp then none else G2 p)=none;by_cases hf:p∈fp
  ·rw[U2 hf]
  ·rw[U9 hf];rcases Vp.mp hp with hp|hp
   ·exact k.gn p hp
   ·exact absurd hp hf
 ·have e:(if p∈fp then none else G2 p)=some u:=e;by_cases hp:p∈fp
  ·rw[U2 hp]at e;cases e
  ·rw[U9 hp]at e;exact k.gh p u e
end
variable{e:Expr}{x:Str}{c:O}{F:Addr->List D->Res R}{d0:D}
section
def ePop(i:Nat):FX:=fun env=>match env[i]? with
 |some (some (ow,.lst ds))=>if isLf ow then(match ds.getLast? with
  |some d=>.ok ((.f,d),env.set i (some (ow,.lst ds.dropLast)))
  |none=>.bad) else .bad
 |_=>.bad
theorem Reps.dropLast{K:W.Frag}{G:Hp}:∀{ds:List D}{xs:List V},Reps K G ds xs->Reps K G ds.dropLast xs.dropLast
 |[],xs,r=>by rw[Reps]at r;subst r;exact .nil
 |[d],xs,r=>by
  rw[Reps]at r;obtain⟨y,ys,e,r1,r2⟩:=r;rw[Reps]at r2;subst e r2;exact .nil
 |d::d2::ds,xs,r=>by
  rw[Reps]at r;obtain⟨y,ys,e,r1,r2⟩:=r;subst e;have h:=Reps.dropLast r2;cases ys with
  |nil=>have:=r2.length;simp at this
  |cons z zs=>
   rw[Yg (List.cons_ne_nil _ _),Yg (List.cons_ne_nil _ _)];exact .cons r1 h
theorem De{apos IG:Pos}(ho:PE X o (ql i))(JE:attributeBase o "pop" X.env (eval o X.env)=eval o X.env:=by rfl)(JF:(apos.endLine==IG.line)=true:=by rfl):
  QE X (.Call (.Attribute o "pop" apos) [] [] IG) (ePop i):=by
 refine bD (Cq Xh PySem.F.slot_list_pop PySem.F.type_list_pop Cr ho JE JF) fun σ H Q Ir=>?_
 obtain⟨G,env,fp,r,env',rel,e,k⟩:=Ir;unfold ePop at e;split at e
 ·rename_i ow ds Nj;split at e
  ·rename_i hlf;split at e
   ·rename_i d hd;cases e;obtain⟨p,xs,ev,hp,rs,cg⟩:=rel.chgO (ds':=ds.dropLast) hlf Nj;rw[List.getLast?_eq_getElem?]at hd;obtain⟨y,hy,ry⟩:=rs.get hd;obtain⟨fq,HV,Ib⟩:=cg xs.dropLast rs.dropLast;exact⟨.ref p,ev,.inl ⟨rfl,xs,SqL.of hp⟩,p,xs,y,rfl,rfl,hp,by rw[rs.length];exact hy,k y _ G fq Ib (HV.push ry)⟩
   ·cases e
  ·cases e
 ·cases e
def ko(i:Nat)(f:FX):FS:=fun env=>(f env).bind fun p=>match p.2[i]? with
 |some (some (.pin q c,d0))=>.ok (.rt (.t [p.1.1,.pin q c],.tup [p.1.2,d0]))
 |_=>.bad
theorem ib{i:Nat}{f:FX}{pos:Pos}(he:QE X e f):QS (md:=.mut) X (.Return (some e) pos) (ko i f):=dZ (yB he) fun Dd σ H Ig=>by
 obtain⟨G,env,fp,rel,k⟩:=Ig;unfold ko at k;match q:f env,k with
 | .ok (r,HU),k=>
  have k:OutOk (md:=.mut) X.K G H fp Dd (match HU[i]? with
   |some (some (.pin q c,d0))=>.ok (.rt (.t [r.1,.pin q c],.tup [r.2,d0]))
   |_=>.bad):=k
  split at k
  ·rename_i z c d0 hz;refine⟨G,env,fp,r,HU,rel,q,fun v H1 G1 IF Im HW=>?_⟩;obtain⟨y,ys,ey,v',a,b,e1,e2,r1,r2⟩:=HW.rep;cases ey;cases e1;subst e2;obtain⟨v0,a0,b0,Q7,ro,_,pm⟩:=r2.take hz;have hv0:v0=.ref z:=by
    have:=ro;rw[RepO]at this;exact this.1
   subst hv0;have sub:∀w∈a++a0,w∈a++b:=fun w hw=>by
    rcases Vp.mp hw with hw|hw
    ·exact U4 _ hw
    ·exact UX _ (pm.mem_iff.mpr (U4 _ hw))
   have nd:=Vs.mp HW.nd;have nd2:=Vs.mp (pm.nodup_iff.mp nd.2.1);refine k v H1 G1 (a++a0) (Im.trans (Step.cut sub)) ⟨r.1,r.2,z,c,d0,rfl,⟨⟨some v,[some (.ref z)],rfl,v,a,a0,rfl,rfl,r1,some (.ref z),[],rfl,.ref z,a0,[],rfl,(Vu _).symm,ro,rfl,rfl⟩,?_,fun p hp=>HW.gn p (sub p hp),HW.gh⟩⟩;rw[Vs];exact⟨nd.1,nd2.1,fun p hp w hw e=>nd.2.2 p hp w (pm.mem_iff.mpr (U4 _ hw)) e⟩
  ·exact k.elim
def g5(np nn:Nat)(c:O)(g:FS)(p:Addr):List D->Res R
 |d0::ds=>if ds.length+1=np then(g (some (.pin p c,d0)::(ds.map (fun d=>some (O.f,d))++List.replicate nn none))).bind fun o=>match o with
  | .rt r=>.ok r
  |_=>.bad
  else .bad
 |[]=>.bad
inductive spM(K:W.Frag)(c:O)(F:Addr->List D->Res R)(vs:List V)(H:Hp)(Q:VK)(zz:XK):Prop
 |mk:∀G p L4 d0 ds r O5,Same G H->vs=.ref p::L4->RepO K G H c d0 (.ref p) O5->O5.Nodup->(∀z∈O5,G z=none)->Reps K G ds L4->F p (d0::ds)=.ok r->(∀v H' G' HZ,Step G H O5 G' H' HZ->Gn .mut K G' H' r v HZ->Q v H')->spM K c F vs H Q zz
theorem oG{P:Program}{w:World}{mg:Str->Option Value}{base:Heap}{st:Stmt}{N ps:List Str}{k:Nat}{c:O}{g:FS}(Df:Def K mg x st)(sc:FnScope N ps (defScope st))
  (hb:∀(kV doc pm:Value) (an:Option Addr) (IJ ct:Value) (us:List Value),us.length=ps.length->bindArgs (PySem.W.fnOf x x (fu st) (c8 st) (defScope st) .none kV doc pm an IJ ct) ⟨us,[]⟩=pure (ps.zip us))
  (body:∀(f:Addr) (IJ:Value) (A:Around) (outer:List PySem.Env) (s:Shared) (H:Hp) (E:XK),Room k (A.deeper (envOfC x (defScope st) s.heap.objs.size f IJ))->M5 (md:=.mut) (xj Nc P w K mg base N x (defScope st) f IJ A outer s H E).nox (c8 st) g):
  Ct P w K mg base x (k+1) (spM K c (g5 ps.length (N.length-ps.length) c g)):=by
 obtain⟨f,fd,F,m⟩:=Df;refine⟨f,fd,ps,F.ok sc (fun vs H Q E h=>?_) (fun IJ A outer s H vs Q E hr h=>?_),m,F.kp,F.binds hb⟩
 ·obtain⟨G,p,L4,d0,ds,r,O5,_,ev,_,_,_,rs,e,_⟩:=h;unfold g5 at e;split at e
  ·rename_i Uc ds' heq;cases heq;split at e
   ·rename_i hl;rw[ev,Vb,rs.length,hl]
   ·cases e
  ·cases e
 ·obtain⟨G,p,L4,d0,ds,r,O5,gh,ev,r0,nd,gn,rs,e,q⟩:=h;unfold g5 at e;split at e
  ·rename_i Uc ds' heq;cases heq;split at e
   ·rename_i hl;refine⟨_,body f IJ A outer s H E hr,G,some (.pin p c,d0)::(ds.map (fun d=>some (O.f,d))++List.replicate (N.length-ps.length) none),O5,⟨?_,nd,gn,gh⟩,?_⟩
    ·have:=iC (K:=K) (G:=G) (H:=H) (N.length-ps.length) rs;unfold L2.start;rw[ev,Vb,rs.length,hl];exact⟨some (.ref p),_,rfl,.ref p,O5,[],rfl,(Vu _).symm,by rw[RepO];exact⟨rfl,r0⟩,this⟩
    ·obtain⟨o,eo,e⟩:=ai e;rw[eo];cases o with
     |rt r'=>
      cases e;exact fun v H' G' HZ st rel=>q v H' G' HZ st rel
     |nx env'=>cases e
     |bk env'=>cases e
     |ct env'=>cases e
   ·cases e
  ·cases e
def mI:O->O->Bool
 | .l .f,.l .f=>true
 | .l .f,.pin _ (.l .f)=>true
 | .d,.d=>true
 | .d,.pin _ .d=>true
 |_,_=>false
theorem Dg{d:D}{v:V}(h:mI c ow=true)(r:RepO K G H ow d v a):(∃p,v=.ref p)/\RepO K G H c d v a/\∀(G' H':Hp) (d':D) (a':List Addr),RepO K G' H' c d' v a'->RepO K G' H' ow d' v a':=by
 have P2:∀{d:D},RepO K G H (.l .f) d v a->∃p,v=.ref p:=fun{d} r=>by
  cases d with
  |lst ds=>obtain⟨p,_,e,_⟩:=bV.mp r;exact⟨p,e⟩
  |_=>simp only[RepO]at r
 have P4:∀{d:D},RepO K G H .d d v a->∃p,v=.ref p:=fun{d} r=>by
  cases d with
  |dct tk ks ws=>rw[RepO]at r;obtain⟨p,_,_,e,_⟩:=r;exact⟨p,e⟩
  |_=>simp only[RepO]at r
 unfold mI at h;split at h
 ·exact⟨P2 r,r,fun _ _ _ _ z=>z⟩
 ·rw[RepO]at r;exact⟨⟨_,r.1⟩,r.2,fun _ _ _ _ z=>by rw[RepO];exact⟨r.1,z⟩⟩
 ·exact⟨P4 r,r,fun _ _ _ _ z=>z⟩
 ·rw[RepO]at r;exact⟨⟨_,r.1⟩,r.2,fun _ _ _ _ z=>by rw[RepO];exact⟨r.1,z⟩⟩
 ·cases h
open Classical in
def jG(F:Addr->List D->Res R)(c:O)(d0:D)(ds:List D):Res (R×D):=
 if h:∃x:R×D,∀p,F p (d0::ds)=.ok (.t [x.1.1,.pin p c],.tup [x.1.2,x.2]) then .ok (Classical.choose h) else .bad
theorem iI{r:R}{d':D}(h:∀p,F p (d0::ds)=.ok (.t [r.1,.pin p c],.tup [r.2,d'])):jG F c d0 ds=.ok (r,d'):=by
 have h':∃x:R×D,∀p,F p (d0::ds)=.ok (.t [x.1.1,.pin p c],.tup [x.1.2,x.2]):=⟨(r,d'),h⟩
 unfold jG;rw[dif_pos h'];have e:=(Zu h' 0).symm.trans (h 0);generalize Classical.choose h'=x at e;obtain⟨⟨o,d⟩,d2⟩:=x;cases e;rfl
theorem xI{x:R×D}(h:jG F c d0 ds=.ok x)(p:Addr):F p (d0::ds)=.ok (.t [x.1.1,.pin p c],.tup [x.1.2,x.2]):=by
 unfold jG at h;split at h
 ·rename_i h';cases h;exact Zu h' p
 ·cases h
end
section
variable{p:Pos}{es:List Expr}{fs:FOs}
end
section
variable{G' H':Hp}
end
section
end
end PV
namespace NX
theorem FA{P:Program}{w:World}{k:Key}{u:Value}(h:(mixKind P w).is k u=true):RelV (kV k) u:=by
 rw[r6]at h;cases k with
 |inl i=>
  have h:Value.isInt i u=true:=h;cases u with
  |int j t=>
   have e:(j==i)=true:=h;rw[VD]at e;exact⟨t,by rw[e]⟩
  |_=>cases h
 |inr x=>
  obtain⟨t,e⟩:=Value.isStrOf_shape h;exact⟨t,e⟩
theorem FC{κ:Type}{HS:List (κ×V)}{vs:List (κ×Value)}(r:KV HS vs):∀{i:Nat}{k:κ}{v:V},HS[i]?=some (k,v)->∃u,vs[i]?=some (k,u)/\RelV v u:=by
 induction r with
 |nil=>intro i k v e;simp at e
 | @cons p q ps qs hq _ ih=>
  intro i k v e;cases i with
  |zero=>
   simp at e;subst e;obtain⟨qk,qv⟩:=q;obtain⟨e1,e2⟩:=hq;cases e1;exact⟨qv,rfl,e2⟩
  |succ i=>exact ih (by simpa using e)
theorem qR{X:Cx}{pr:List (Addr×Obj)}{σ:L2.St}{H:Hp}{s:Shared}{a:Addr}{o:Obj}{ep:Nat}{es:Array DictEntry}{HS:List (Key×V)}(I:Inv X pr σ H s)(hd:o.data=.dict es ep)(ha:H a=some (.frz o (.dK HS))):
  s.heap.get? a=some o/\∃vs,KV HS vs/\s.heap.DictAt (mixKind X.prog X.w) a vs ep:=by
 obtain⟨ho,z,nm,vs,r,o',LY,Pk,g1,ex,dat,aU⟩:=(show ObjOk X.prog X.w H s.heap a (.frz o (.dK HS)) from I.hok a _ ha)
 have e:=g1.symm.trans ho;cases e;have e2:=dat.symm.trans hd;cases e2;exact⟨ho,vs,r,o,es,ho,ex,hd,aU⟩
theorem xJ{X:Cx}{pr:List (Addr×Obj)}{σ:L2.St}{H:Hp}{s:Shared}{a:Addr}{o:Obj}{HS:List (Key×V)}(I:Inv X pr σ H s)(ha:H a=some (.dK HS))(ho:s.heap.get? a=some o):Inv X pr σ (upd H a (.frz o (.dK HS))) s:=by
 have ok:=(show ObjOk X.prog X.w H s.heap a (.dK HS) from I.hok a _ ha)
 have nt:∀c xs,H c=some (.tup xs)->c≠a:=fun c xs e z=>by rw[z,ha]at e;cases e
 have nf:∀c q u,H c=some (.frz q u)->c≠a:=fun c q u e z=>by rw[z,ha]at e;cases e
 have nb:∀c ps,H c=some (.tbl ps)->c≠a:=fun c ps e z=>by rw[z,ha]at e;cases e
 have no:∀c b,H c=some (.own b)->c≠a:=fun c b e z=>by rw[z,ha]at e;cases e
 have S0:Inv X pr σ (upd H a (.frz o (.dK HS))) {s with heap:=s.heap,gens:=s.gens,drawn:=s.drawn,toks:=s.toks}:=by
  refine I.step (ch:=[]) (fun c hc=>nomatch hc) (fun c q _ _ _ e _=>e) (fun c q _ _ _ e _=>⟨q.slots,e⟩) (fun c q _ e n=>?_) (fun c q _ e=>⟨q,e⟩)
   (fun c l e=>by rw[aq (nt c l e)];exact e) (fun c q u e=>by rw[aq (nf c q u e)];exact e) (fun c ps e=>⟨#[],by rw[aq (nb c ps e),e];simp⟩) (fun m hm=>hm) (fun c ob e=>?_) I.bare
  ·have:c≠a:=fun z=>by rw[z,ha]at n;cases n
   rw[aq this];exact n
  ·by_cases ec:c=a
   ·subst ec;rw[aH]at e;cases e;exact⟨ho,ok.stay (fun _ _ _ q=>q) (fun d q=>by rw[aq (no d _ q)];exact q) fun d l q=>by rw[aq (nt d l q)];exact q⟩
   ·rw[aq ec]at e;exact(I.hok c ob e).stay (fun _ _ _ q=>q) (fun d q=>by rw[aq (no d _ q)];exact q) fun d l q=>by rw[aq (nt d l q)];exact q
 exact S0
end NX
namespace PV
section
variable{X:Cx}
theorem vj:∀{xs:List V}{us:List Value},xs.length=us.length->(∀(i:Nat) (a:V) (b:Value),xs[i]?=some a->us[i]?=some b->RelV a b)->Vals xs us
 |[],[],_,_=>.nil
 |x::xs,u::us,hl,h=>.cons (h 0 x u rfl rfl) (vj (by simpa using hl) fun i a b ha hb=>h (i+1) a b (by simpa using ha) (by simpa using hb))
 |[],_::_,hl,_=>by simp at hl
 |_::_,[],hl,_=>by simp at hl
end
end PV
namespace NX
variable{prog:Program}{w:World}{A:Around}{E:Value->Shared->Prop}{s:Shared}
section
theorem AH:typeLookup (.type "list_reverseiterator") "__len__" = pure none:=by rw[typeLookup_type,builtinLookup_eq_fast];kernel_rfl
theorem xK:typeLookup (.type "list_reverseiterator") "__length_hint__" = pure (some (.builtin "list_reverseiterator.__length_hint__")):=by rw[typeLookup_type,builtinLookup_eq_fast];kernel_rfl
theorem xM{r:Addr}{Q:Bool->Shared->Prop}(hT:s.TypeIs (.ref r) "list_reverseiterator")(h:Q false s):wpAny (model prog w) A (Builtin.List.listLengthHint (.ref r)) Q E s:=by
 unfold Builtin.List.listLengthHint;refine UR (Zq hT AH ?_);show wpAny _ _ (specialOf (Value.ref r) (Str.ofString "__length_hint__") >>= _) _ _ _;refine UR (Zq hT xK ?_);generalize hid:("list_reverseiterator.__length_hint__" : String)=id0
 wp_delta
 rw[show splitId id0=some ("list_reverseiterator","__length_hint__") from by subst hid;decide +kernel];subst hid;refine UR (wpAny_isInstance (T:="list_reverseiterator") (b:=true) hT (by rw[isSubtype_type];kernel_rfl) ?_);refine Yt (fun KI=>absurd KI (by decide)) (fun _=>?_);refine Yt (fun _=>?_) (fun KI=>absurd (by decide +kernel) KI);refine Yt (fun KI=>absurd KI (by decide +kernel)) (fun _=>?_);exact Va h
end
variable{items:Array Value}
section
theorem AJ{R:Result->Shared->Prop}{I l:Addr}(hh:A.handled=none)(JH:l≠I)(S:Addr)(Ud:S≠I)(Tn:S≠l)(c0:Nat)(hI:s.heap.IsRevIter I l ((items.size:Int)-1))(hl:s.heap.IsList l items)(hS:s.heap.get? S=some {cls:=.type "list",data:=.seq #[] c0})(hn:items.size<=sizeLine)
  (hR:∀h' tk KJ c',(∀b o,b≠S->b≠I->s.heap.get? b=some o->h'.get? b=some o)->h'.get? S=some {cls:=.type "list",dict:=none,data:=.seq KJ c',slots:=#[]}->ItemsOf (fun i v=>items[items.size-1-i]?=some v) KJ items.size->R (.ok (.ret .none)) {s with heap:=h',toks:=tk}):
  wpAny (model prog w) A.in1 (Builtin.List.listExtendWith (.ref S) (.ref I) .none)
   (fun fin s'=>match fin with | .done f=>R (.ok f) s' | .again c'=>c'.quiet=true/\codeAny (model prog w) A c' R s') (fun e s'=>R (.error e) s') s:=by
 have W:Walks prog w A.in1 I [I,l] [I] items.size (fun i v=>items[items.size-1-i]?=some v) (fun i h=>i<=items.size/\h.IsRevIter I l ((items.size:Int)-1-(i:Int))/\h.IsList l items):=Walks.listRev (A:=A.in1) (show A.in1.handled=none from hh) I l JH items;have st:(fun(i:Nat) (h:Heap)=>i<=items.size/\h.IsRevIter I l ((items.size:Int)-1-(i:Int))/\h.IsList l items) 0 s.heap:=⟨VH _,by rw[show(items.size:Int)-1-((0:Nat):Int)=(items.size:Int)-1 by lia];exact hI,hl⟩
 have hT:=hI.typeIs;have hSf:S∉[I,l]:=by simp only[U6,V1,Yf,not_or];exact⟨Ud,Tn⟩
 unfold Builtin.List.listExtendWith;refine UR (Xt hT ?_);have h1:Builtin.List.listSameRef (.ref S) (.ref I)=false:=by simp[Builtin.List.listSameRef,Ud]
 have h2:(Value.type "list_reverseiterator" == Value.type "list")=false:=by decide
 have h3:(Value.type "list_reverseiterator" == Value.type "tuple")=false:=by decide
 simp only[h1,h2,h3,Bool.or_false,Xp,YT];refine UR (wpAny_pyIter_revIter hI ?_);refine UR (XX (xM hT ?_));refine Yt (fun KI=>absurd KI (by decide)) (fun _=>Va ⟨plainId_quiet PySem.F.plain_extend_loop _,?_⟩);refine codeAny_extend_loopS W.toS hn S hSf .none items.size 0 _ #[] c0 rfl (VH _) st hS (ItemsOf.nil _) fun s' KJ c' hm To Le=>?_
 rw[Moved.eq_with hm];refine hR s'.heap s'.toks KJ c' (fun b o hb hb2 e=>hm.heap b o (fun Lf=>?_) e) To Le;rcases U6.mp Lf with e'|Lf
 ·exact hb e'
 ·exact hb2 (VC.mp Lf)
theorem xN{Q:Value->Shared->Prop}{I l:Addr}(hh:A.handled=none)(JH:l≠I)(hI:s.heap.IsRevIter I l ((items.size:Int)-1))(hl:s.heap.IsList l items)(hn:items.size<=sizeLine)
  (hQ:∀h' tk KJ c',(∀b o,b≠I->s.heap.get? b=some o->h'.get? b=some o)->h'.get? s.heap.objs.size=some {cls:=.type "list",dict:=none,data:=.seq KJ c',slots:=#[]}->ItemsOf (fun i v=>items[items.size-1-i]?=some v) KJ items.size->Q (.ref s.heap.objs.size) {s with heap:=h',toks:=tk}):
  wpAny (model prog w) A (call (.type "list") [.ref I]) Q E s:=by
 refine callType_codes (Q₁:=fun obj s₁=>obj=.ref s.heap.objs.size/\s₁={s with heap:=s.heap.push {cls:=.type "list",data:=.seq #[]}}) PySem.F.called_list (PySem.F.typeCall_list_1 _) PySem.F.entry_list_init
  (code_list_new _ ⟨rfl,rfl⟩) fun obj s₁ h₁=>?_
 obtain⟨rfl,rfl⟩:=h₁;have hS:(s.heap.push {cls:=.type "list",data:=.seq #[]}).get? s.heap.objs.size=some {cls:=.type "list",data:=.seq #[]}:=Vh _ rfl;obtain⟨oI,gI,_⟩:=id hI;obtain⟨ol,gl,_⟩:=id hl;have nI:s.heap.objs.size≠I:=Xs (U5 gI);have nl:s.heap.objs.size≠l:=Xs (U5 gl);refine⟨⟨_,hS,rfl⟩,PySem.F.args_list_init_2 _ _,?_⟩;show wpAny _ A.in1.in1 (do let old <-Builtin.List.listItems (.ref s.heap.objs.size);Builtin.List.listUpdate (.ref s.heap.objs.size) (fun _=>#[]);letGo old.toList.reverse;Builtin.List.listExtendWith (.ref s.heap.objs.size) (.ref I) .none) _ _ _;refine UR ?_;unfold Builtin.List.listItems;refine UR (WT hS rfl (Va ?_));show wpAny _ _ (updateSeq s.heap.objs.size (fun _=>#[]) >>= fun _=>letGo (#[]:Array Value).toList.reverse >>= fun _=>Builtin.List.listExtendWith (.ref s.heap.objs.size) (.ref I) .none) _ _ _;refine UR (wpAny_updateSeq hS rfl ?_);have hS2:=X4 (Obj.mapSeq (fun _=>(#[]:Array Value))) hS rfl;have oth:∀b o,b≠s.heap.objs.size->s.heap.get? b=some o->((s.heap.push {cls:=.type "list",data:=.seq #[]}).update s.heap.objs.size (Obj.mapSeq (fun _=>(#[]:Array Value)))).get? b=some o:=
  fun b o hb e=>(WC _ _ (WD hb)).trans (UW _ e)
 refine UR (YV ?_);refine AJ (A:=A.in1) hh JH _ nI nl _ (hI.at fun o e=>oth I o (WD nI) e) (hl.at fun o e=>oth l o (WD nl) e) hS2 hn fun h' tk KJ c' hk To Le=>?_
 exact⟨rfl,hQ h' tk KJ c' (fun b o hb e=>hk b o (Vf (U5 e)) hb (oth b o (Vf (U5 e)) e)) To Le⟩
end
section
variable{X:Cx}{e:Expr}{ta:TA}{p p2 pos KL:Pos}
def Ht(K:W.Frag)(ta:TA):TE:=fun σ H Q=>ta σ H fun vs H1=>∃a xs,vs=[.ref a]/\SqL K H1 a xs/\∀l,H1 l=none->Q (.ref l) (upd H1 l (.lst xs.reverse))
theorem Dh(hc:X.calm=true)(hg:Gl X "list")(hm:X.mg "list" = none)(RG:Gl X "reversed")(O4:X.mg "reversed" = none)(ha:PA X [e] ta)
  (he:starEach [.Call (.Name "reversed" p2) [e] [] KL] X.env=(false,eval (.Call (.Name "reversed" p2) [e] [] KL) X.env)::starEach [] X.env:=by rfl) (JR:(backTo pos (starEach [] X.env)).any (·.1)=false:=by rfl)
  (RL:starEach [e] X.env=(false,eval e X.env)::starEach [] X.env:=by rfl) (P5:(backTo KL (starEach [] X.env)).any (·.1)=false:=by rfl):
  PE X (.Call (.Name "list" p) [.Call (.Name "reversed" p2) [e] [] KL] [] pos) (Ht X.K ta):=by
 intro pr s σ H Q I h;refine WM (jm I hg hm (by decide +kernel:bootBuiltins "list" = some (.type "list")) ?_ (by decide) (by decide));refine Wc ?_ he JR;rw[he];show wpAny _ _ (spliced ((false,eval (.Call (.Name "reversed" p2) [e] [] KL) X.env)::backTo pos (starEach [] X.env))) _ _ s;refine Calls.spliced_cons ?_;refine WM (jm I RG O4 (by decide +kernel:bootBuiltins "reversed" = some (.type "reversed")) ?_ (by decide) (by decide));refine Wc (Iy (ha KL pr s σ H _ I h) fun us s1 ⟨vs,H1,I1,r1,a,xs,ev,sq,q⟩=>?_) RL P5;subst ev;obtain⟨u,rfl,ra⟩:=jB r1;cases ra;obtain⟨HX,r',pl,hz⟩:=I1.list sq;have hl:=pl.isList;have hlen:=r'.length;refine call_reversed_list hl ?_;refine Calls.spliced_nil ?_;obtain⟨ol,gl,_⟩:=id hl;refine xN (I1.ok.hd hc) (Vf (U5 gl)) ⟨_,Vh _ rfl,rfl,rfl⟩ (hl.at fun o e=>UW _ e) (by simp only[UT];lia) fun h' tk KJ c' hk hS Le=>?_
 refine⟨.ref _,_,I1.laid (o:=.lst xs.reverse) (t':=tk) (fun b o e=>hk b o (Vf (U5 e)) (UW _ e)) (by rw[V4];exact WJ _) ⟨by rw[XJ];exact hz,KJ.toList,c',?_,by rw[Array.toArray_toList];exact hS⟩,rfl,q _ (I1.hok.fresh (by rw[V4];exact WJ _))⟩;have hs:HX.toArray.size=xs.length:=by rw[UT];exact hlen.symm
 refine PV.vj (by rw[XJ];exact(hs.symm.trans (Le.1.symm.trans (WE (xs:=KJ)).symm))) fun i x y hx hy=>?_
 rw[Zk]at hy;have hb:=Le.2 i y hy;have hi:i<xs.length:=by have:=(U1.mp hx).1;rw[XJ]at this;exact this
 rw[List.getElem?_reverse hi]at hx;rw[hs,List.getElem?_toArray]at hb;obtain⟨u,hu,ru⟩:=r'.get hx;rw[hb]at hu;cases hu;exact ru
end
end NX
namespace PV
theorem Reps.rev{K:W.Frag}{G:Hp}:∀{ds:List D}{xs:List V},Reps K G ds xs->Reps K G ds.reverse xs.reverse
 |[],xs,r=>by rw[Reps]at r;rw[r];exact .nil
 |d::ds,xs,r=>by
  rw[Reps]at r;obtain⟨y,ys,e,r1,r2⟩:=r;subst e;rw[List.reverse_cons,List.reverse_cons];exact(Reps.rev r2).app (.one r1)
def Eu:List D->Res R
 |[.lst ds]=>.ok (.l .f,.lst ds.reverse)
 |_=>.bad
variable{K:W.Frag}{σ:L2.St}{H:Hp}
section
variable{X:Cx}{e:Expr}{fs:FOs}{p p2 pos KL:Pos}
theorem xO{Q Q':List V->Hp->Prop}(h:tOs K fs σ H Q)(k:∀vs H,Q vs H->Q' vs H):tOs K fs σ H Q':=by
 obtain⟨G,env,fp,o,env',rel,e,q⟩:=h;exact⟨G,env,fp,o,env',rel,e,fun vs H' G' HZ st IS ok=>k _ _ (q vs H' G' HZ st IS ok)⟩
theorem Di(hc:X.calm=true)(hg:Gl X "list")(hm:X.mg "list" = none)(RG:Gl X "reversed")(O4:X.mg "reversed" = none)(ha:M4 X [e] fs)
  (he:starEach [.Call (.Name "reversed" p2) [e] [] KL] X.env=(false,eval (.Call (.Name "reversed" p2) [e] [] KL) X.env)::starEach [] X.env:=by rfl) (JR:(backTo pos (starEach [] X.env)).any (·.1)=false:=by rfl)
  (RL:starEach [e] X.env=(false,eval e X.env)::starEach [] X.env:=by rfl) (P5:(backTo KL (starEach [] X.env)).any (·.1)=false:=by rfl):
  QE X (.Call (.Name "list" p) [.Call (.Name "reversed" p2) [e] [] KL] [] pos) (bH Eu fs):=
 bD (Dh hc hg hm RG O4 ha he JR RL P5) fun σ H Q h=>by
  refine xO (pK h) fun xs H1 Ir=>?_
  obtain⟨G,fp,es,vs,ds,r,⟨rel,k⟩,vd,e⟩:=Ir;unfold Eu at e;split at e
  ·rename_i ds;cases e;obtain⟨v,ev,p,ys,ep,sq,rs⟩:=sP vd;subst ev ep;refine⟨p,ys,rfl,sq,fun q hq=>?_⟩;obtain⟨HV,Ib⟩:=rel.newL hq rs.rev;exact k _ _ G _ Ib HV
  ·cases e
end
noncomputable def compLE(a:FG)(c:FT)(f:FX):List D->PV.Env->Res (List D×PV.Env)
 |[],env=>.ok ([],env)
 |d::ds,env=>(a d env).bind fun e=>(c e).bind fun p=>if p.1 then(f p.2).bind fun q=>(compLE a c f ds q.2).bind fun rs=>.ok (q.1.2::rs.1,rs.2) else compLE a c f ds p.2
def Ew(a:FG)(c:FT)(f:FX)(ds:List D)(E:Addr->PV.Env)(k0:Nat)(x:List D×List D):Prop:=∀q,∃Ic,compLE a c f ds (E q)=.ok (x.1,Ic)/\Ic[k0]?=some (some (.pin q (.l .f),.lst x.2))
open Classical in
def mJ(a:FG)(c:FT)(f:FX)(ds:List D)(E:Addr->PV.Env)(k0:Nat):Res (List D×List D):=if h:∃x,Ew a c f ds E k0 x then .ok h.choose else .bad
variable{a:FG}{c:FT}{f:FX}{ds:List D}{E:Addr->PV.Env}{k0:Nat}{x:List D×List D}
theorem qS(h:Ew a c f ds E k0 x):mJ a c f ds E k0=.ok x:=by
 have ex:∃x,Ew a c f ds E k0 x:=⟨x,h⟩
 unfold mJ;rw[dif_pos ex];obtain⟨e1,h1,h2⟩:=ex.choose_spec 0;obtain⟨e2,h3,h4⟩:=h 0;rw[h1]at h3;have h5:=Res.ok.inj h3;have h6:=V7 Prod.fst h5;have h7:=V7 Prod.snd h5;dsimp only at h6 h7;subst h7;rw[h2]at h4;injection h4 with h4;injection h4 with h4;injection h4 with _ h4;injection h4 with h4;have:ex.choose=x:=Prod.ext h6 h4;rw[this]
theorem qT(h:mJ a c f ds E k0=.ok x):Ew a c f ds E k0 x:=by
 unfold mJ at h;split at h
 ·rename_i ex;cases h;exact ex.choose_spec
 ·cases h
noncomputable def g6(fi:FI)(ix:List (Option Nat))(j k0:Nat)(a:FG)(c:FT)(f:FX):FX:=fun env=>(fi env).bind fun p=>match p.2[j]? with
 |some (some (ow,.lst d0))=>if isLf ow then(mJ a c f p.1 (fun q=>(bG ix (p.2.set j none)).set k0 (some (.pin q (.l .f),.lst d0))) k0).bind fun x=>if x.1.length<=sizeLine/\H0 x.1=true/\H0 x.2=true then .ok ((.l .f,.lst x.1),p.2.set j (some (ow,.lst x.2))) else .bad else .bad
 |_=>.bad
theorem yW{fi:FI}{ix:List (Option Nat)}{j:Nat}{Q:VK}(hk:ix[k0]?=some (some j))(h:tQ K (g6 fi ix j k0 a c f) σ H Q):nS (tQI K fi) ix (tQG K a) (tQT K c) (tQ K f) σ H Q:=by
 obtain⟨G,env,fp,r,env',rel,e,k⟩:=h;obtain⟨⟨ds,HU⟩,e1,e⟩:=ai e;refine⟨G,env,fp,ds,HU,rel,e1,fun J H1 G1 IF Im HW wk D hD=>?_⟩;dsimp only at e;split at e
 ·rename_i ow d0 hj;split at e
  ·rename_i hlf;obtain⟨⟨rs,d'⟩,e2,e⟩:=ai e;dsimp only at e;split at e
   ·rename_i hz;cases e;obtain⟨v0,aa,b,ev,r0,r2,pm⟩:=HW.rep.take hj;obtain⟨q,RN,eq,hq,ea,RO,mk⟩:=vi hlf r0;subst eq ea;have nd:=Vs.mp (pm.nodup_iff.mp HW.nd);have Lg:Rel K G1 H1 (HU.set j none) σ b:=⟨r2,nd.2.1,fun w hw=>HW.gn w (pm.mem_iff.mpr (UX _ hw)),HW.gh⟩
    obtain⟨G2,Mt,Np,P6,Jt,Jc⟩:=Lg.lendM [q] (fun w hw hb=>nd.2.2 w hw w hb rfl) (fun w hw=>HW.gn w (pm.mem_iff.mpr (U4 _ hw)));have rE:=dy (H:=H1) Jt (fun i r er=>let⟨v,ev,_⟩:=Lg.view er;⟨v,ev⟩) ix;have RP:(bG ix (HU.set j none))[k0]?=some none:=by
     unfold bG;rw[Vg,hk];show some (match(HU.set j none)[j]? with|some (some r)=>some (O.f,r.2)|_=>none)=_;rw[Wa (U1.mp hj).1]
    have KQ:(dn ix σ)[k0]?=some (some (.ref q)):=by
     unfold dn;rw[Vg,hk];show some ((σ[j]?).bind id)=_;rw[ev];rfl
    have rP:RepO K G2 H1 (.pin q (.l .f)) (.lst d0) (.ref q) [q]:=by
     rw[RepO];exact⟨rfl,bV.mpr ⟨q,RN,rfl,hq,rfl,RO.mono Mt⟩⟩
    obtain⟨O6,O7,Ny⟩:=rE.put (i:=k0) (r:=(.pin q (.l .f),.lst d0)) (v:=.ref q) RP rP;rw[fB KQ]at O7;have HV:Rel K G2 H1 ((bG ix (HU.set j none)).set k0 (some (.pin q (.l .f),.lst d0))) (dn ix σ) O6:=⟨O7,Ny.symm.nodup_iff.mp (VP.mpr ⟨V1,WU⟩),(fun w hw=>P6 w (by have:=Ny.mem_iff.mp hw;simpa using this)),Np⟩
    have MR:Step G2 H1 [q] G2 H1 O6:=Step.cut fun w hw=>by have:=Ny.mem_iff.mp hw;simpa using this
    obtain⟨IQ,IL⟩:=HV.newL (ds:=[]) (xs:=[]) hD .nil;obtain⟨L8,eL,eK⟩:=qT e2 q;dsimp only at eL eK;refine⟨fun i m σ1 H2=>m=ds.length-i/\i<=ds.length/\∃G' es HZ acc aU,Step G2 H1 [q] G' H2 HZ/\Rel K G' H2 (some (.l .f,.lst acc)::es) (some (.ref D)::σ1) HZ/\compLE a c f (ds.drop i) es=.ok (aU,L8)/\acc++aU=rs,
     ⟨_,rfl,VH _,G2,_,_,[],rs,MR.trans IL,IQ,eL,rfl⟩,?_⟩
    rintro i m σ1 H2 ⟨rfl,hi,G3,es,JU,acc,aU,IZ,Jk,e4,Je⟩;obtain⟨w1,w2⟩:=wk G3 H2 _ _ _ (Mt.trans IZ.gg) Jk i;by_cases Iu:i<ds.length
    ·have hd:ds[i]?=some ds[i]:=US Iu;obtain⟨go,yl⟩:=w1 _ hd;rw[VZ Iu]at e4;unfold compLE at e4;obtain⟨Nw,h1,e4⟩:=ai e4;obtain⟨⟨b',K2⟩,h2,e4⟩:=ai e4;dsimp only at e4;refine .inr ⟨go,fun x H3 y=>?_⟩;obtain⟨G4,rx,Jd,Js⟩:=yl x H3 y;obtain⟨fa,fb,L7,ra,Kr,bk⟩:=Jd.frame;refine⟨G4,es,fb,ds[i],Nw,Kr,rx,h1,fun σ2 G5 MQ M7 Ks=>?_⟩;refine⟨G5,Nw,MQ,b',K2,Ks,h2,fun H6 G6 Mk Oj Kt=>?_⟩;have K3:=M7.trans Oj;cases b' with
     |false=>
      refine iteF ⟨ds.length-(i+1),by lia,rfl,Iu,?_⟩;obtain⟨Jn,JW⟩:=bk G6 H6 K2 σ2 Mk K3 Kt;rw[<-L7]at JW;exact⟨G6,K2,_,acc,aU,IZ.trans (Js.trans JW),Jn,e4,Je⟩
     |true=>
      have e4:((f K2).bind fun q=>(compLE a c f (ds.drop (i+1)) q.2).bind fun rs=>.ok (q.1.2::rs.1,rs.2))=.ok (aU,L8):=e4;obtain⟨⟨r,Mx⟩,h3,e4⟩:=ai e4;obtain⟨⟨K4,O8⟩,h4,e4⟩:=ai e4;cases e4;refine z3 ⟨G6,K2,Mk,r,Mx,Kt,h3,fun v H7 G7 Ti PX My=>?_⟩;obtain⟨G8,PY,rv,Mz,PZ⟩:=My.freeze;obtain⟨Jn,JW⟩:=bk G8 H7 Mx σ2 PY (K3.trans (PX.trans PZ)) Mz;rw[<-L7]at JW;obtain⟨p,xs,ep,hp,LM,cg⟩:=Jn.chg (i:=0) (ds:=acc) (ds':=acc++[r.2]) rfl;have ep:some (some (V.ref D))=some (some (V.ref p)):=ep;cases ep;obtain⟨fq,MA,P0⟩:=cg (xs++[v]) (LM.app (.one rv));refine⟨xs,hp,?_,ds.length-(i+1),by lia,rfl,Iu,G8,Mx,fq,acc++[r.2],K4,IZ.trans (Js.trans (JW.trans P0)),MA,h4,?_⟩
      ·rw[LM.length];have:=V7 List.length Je;rw[VN,Vb]at this;have:=hz.1;lia
      ·rw[<-Je,V2];rfl
    ·have ei:i=ds.length:=by lia
     subst ei;rw[W5]at e4;cases e4;rw[Vu]at Je;subst Je;refine .inl ⟨w2 rfl,?_⟩;obtain⟨fa,fb,L7,ra,Kr,bk⟩:=Jk.frame;obtain⟨v1,Ue,Q8,LP,Ol,_⟩:=Kr.out eK;obtain⟨fx,L9,stx⟩:=LP.only;have PL:v1=.ref q:=by
      obtain⟨y,ys,ey,v2,a2,b2,Nz,O9,Ku,Pa⟩:=L9.rep;cases ey;cases Nz;have Ku:RepO K G3 H2 (.pin q (.l .f)) (.lst d') v1 a2:=Ku;rw[RepO]at Ku;exact Ku.1
     subst PL;obtain⟨Jn,JW⟩:=bk G3 H2 _ _ fx (Ol.trans stx) L9;rw[<-L7]at JW;obtain⟨G5,MQ,Js,Jd⟩:=Jc H2 G3 _ _ _ (IZ.trans JW) Jn (fun w hw=>by
      rcases U6.mp hw with hw|hw
      ·cases hw;rw[aP,dG];exact hz.2.1
      ·rw[VC]at hw;cases hw;rw[aP,aP,dG];exact hz.2.2)
     obtain⟨a1,b1,ef,ro,IA,comb⟩:=Rel.frame Jd;have MC:Rel K G5 H2 (some (ow,.lst d')::HU.set j none) (some (.ref q)::σ) b1:=by
      obtain⟨y2,Ug,RQ,v2,a2,b2,Nz,O9,Ku,Pa⟩:=IA.rep;cases RQ;cases Nz;have Ku:RepO K G5 H2 (.pin q (.l .f)) (.lst d') (.ref q) a2:=Ku;rw[RepO]at Ku;obtain⟨q',zs,Tp,N5,Tq,rz⟩:=bV.mp Ku.2;cases Tp;subst Tq;have r3:RepO K G1 H1 ow (.lst d0) (.ref q) [q]:=r0;refine⟨⟨_,_,rfl,_,[q],b2,rfl,O9,?_,Pa⟩,IA.nd,IA.gn,IA.gh⟩;show RepO K G5 H2 ow (.lst d') (.ref q) [q];unfold isLf at hlf;split at hlf
      ·exact bV.mpr ⟨q,zs,rfl,N5,rfl,rz⟩
      ·rw[RepO]at r3 ⊢;exact⟨r3.1,bV.mpr ⟨q,zs,rfl,N5,rfl,rz⟩⟩
      ·cases hlf
     obtain⟨fq,Lh,P7⟩:=MC.back (i:=j) (by rw[VI];exact(U1.mp hj).1) ev;rw[WA]at Lh;obtain⟨Ma,NA⟩:=comb G5 H2 _ _ fq P7 Lh;rw[<-ef]at NA;exact k _ H2 G5 _ (Im.trans ((Js.perm (fun w=>pm.mem_iff.symm) (fun w hw=>hw)).trans NA)) Ma
   ·cases e
  ·cases e
 ·cases e
end PV
namespace NX
section
open PySem.AutoSeq1 (wpAny_loadPart')
theorem jH:fillsNumberSlot (.type "tuple") "mul" = pure false:=
 PySem.fillsNumberSlot_seq (id:="tuple.__mul__") (r:=some (.builtin "tuple.__rmul__")) F.slot_tuple_mul.lookup (by decide +kernel) F.slot_tuple_rmul.lookup (by decide +kernel)
theorem oH:seqRepeat? (.type "tuple")=pure (some (.builtin "tuple.__mul__")):=by
 unfold seqRepeat?;rw[PySem.seqSlot_of (T:="tuple") (name:="__mul__") (id:="tuple.__mul__") F.slot_tuple_mul.lookup (by decide +kernel),PySem.seqSlot_of (T:="tuple") (name:="__rmul__") (id:="tuple.__rmul__") F.slot_tuple_rmul.lookup (by decide +kernel)];rfl
theorem oJ(a:Int)(t:Tok)(l:Addr)(items:Array Value)(n:Nat)(dd:Option Addr)(sl:Array (Option Value)):
  Meets (Builtin.«int.__rmul__» ⟨[.int a t,.ref l],[]⟩)
   (fun _ R s=>s.heap.get? l=some {cls:=.type "tuple",dict:=dd,data:=.seq items n,slots:=sl}/\R (.ok (.ret .notImplemented)) s):=
 .of_wp fun prog w A R s h=>by
  obtain⟨hp,g,d,tk,os⟩:=s;obtain⟨hl,h⟩:=h
  wp_walk using wpAny_loadPart' hl
  exact⟨_,rfl,h⟩
theorem vk(l:Addr)(items:Array Value)(n:Nat)(dd:Option Addr)(sl:Array (Option Value))(x:Int)(u:Tok)(JH:items.isEmpty=false)(h0:x=0):
  Meets (Builtin.«tuple.__mul__» ⟨[.ref l,.int x u],[]⟩)
   (fun _ R s=>s.heap.get? l=some {cls:=.type "tuple",dict:=dd,data:=.seq items n,slots:=sl}/\R (.ok (.ret (.ref s.heap.objs.size))) {s with heap:=s.heap.push {cls:=.type "tuple",data:=.seq #[]}}):=
 .of_wp fun prog w A R s h=>by
  obtain⟨hp,g,d,tk,os⟩:=s;obtain⟨hl,h⟩:=h;subst h0
  wp_walk using wpAny_loadPart' hl
  exact⟨_,rfl,h⟩
theorem vm(l:Addr)(items:Array Value)(n:Nat)(dd:Option Addr)(sl:Array (Option Value))(u:Tok):
  Meets (Builtin.«tuple.__mul__» ⟨[.ref l,.int 1 u],[]⟩)
   (fun _ R s=>s.heap.get? l=some {cls:=.type "tuple",dict:=dd,data:=.seq items n,slots:=sl}/\R (.ok (.ret (.ref l))) s):=
 .of_wp fun prog w A R s h=>by
  obtain⟨hp,g,d,tk,os⟩:=s;obtain⟨hl,h⟩:=h
  wp_walk using wpAny_loadPart' hl
  exact⟨_,rfl,h⟩
theorem vn(l:Addr)(items:Array Value)(n:Nat)(dd:Option Addr)(sl:Array (Option Value))(x:Int)(u:Tok)(JH:items.isEmpty=false)(h2:(x==1)=false)(h3:¬ x<=0)(h4:x<2 ^ 63)(h5:¬ (items.size:Int)*x>(2 ^ 63-1) / 8)(h6:((List.replicate x.toNat items).foldl (fun a b=>a++b) #[]).size<=sizeLine)(h7:(items.size:Int)*x<=10000):
  Meets (Builtin.«tuple.__mul__» ⟨[.ref l,.int x u],[]⟩)
   (fun _ R s=>s.heap.get? l=some {cls:=.type "tuple",dict:=dd,data:=.seq items n,slots:=sl}/\R (.ok (.ret (.ref s.heap.objs.size))) {s with heap:=s.heap.push {cls:=.type "tuple",data:=.seq ((List.replicate x.toNat items).foldl (fun a b=>a++b) #[])}}):=
 .of_wp fun prog w A R s h=>by
  obtain⟨hp,g,d,tk,os⟩:=s;obtain⟨hl,h⟩:=h
  wp_walk using wpAny_loadPart' hl
  rw[U9 (by rw[Zo,Vl,Vl];lia)]
  wp_walk using wpAny_loadPart' hl
  rw[U9 h5]
  wp_walk
  rw[U9 (by unfold Builtin.Tuple.tupleTooMany;rw[Vl,Wd];lia)]
  wp_walk
  exact⟨_,rfl,h⟩
end
end NX
namespace PV
section
variable{X:Cx}
inductive rRepU(K:W.Frag)(x:V)(y:V)(H:Hp)(Q:VK):Prop
 |mk:∀l k xs,x=.ref l->y=.int k->SqT K H l xs->xs≠[]->0<=k->k<1000->xs.length<=10->((k=1->Q (.ref l) H))->((k≠1->∀p,H p=none->Q (.ref p) (upd H p (.tup (List.replicate k.toNat xs).flatten))))->rRepU K x y H Q
theorem AK:IW X (binaryOp .Mult) (rRepU X.K):=by
 intro pr s σ H x y v u Q I rx ry h;obtain⟨l,k,xs,rfl,rfl,hH,JH,h1,h2,hz,q1,q2⟩:=h;cases rx;obtain⟨t,rfl⟩:=ry;obtain⟨HX,r,p1,_⟩:=I.tuple hH;have hl:=r.length;obtain⟨⟨cls,dd,data,sl⟩,ho,hc,n,hd⟩:=id p1;simp only at hc hd;subst hc hd;have RS:HX.toArray.isEmpty=false:=by
  cases HX with
  |nil=>exact absurd (VW hl) JH
  |cons a r'=>rfl
 refine YG (T:="tuple") (U:="int") (by decide) ⟨_,ho,rfl⟩ (fun s'=>Yi s' k t) jH F.fills_int_mul Ys oH F.slot_int_index.lookup
  (XN Ys (Yi s k t) F.entry_int_rmul (F.args_int_rmul_2 _ _) (oJ k t l HX.toArray n dd sl) ⟨ho,rfl,⟨_,ho,rfl⟩,?_⟩)
 by_cases k0:k=0
 ·subst k0;refine XN Y4 ⟨_,ho,rfl⟩ YO (Yw _ _) (vk l HX.toArray n dd sl 0 t RS rfl) ⟨ho,?_⟩;exact⟨.ref _,_,I.laid (o:=.tup []) (t':=s.toks) (fun b o e=>UW _ e) (UZ _) ⟨VH _,[],.nil,IsTupN.new _ _⟩,rfl,q2 (by decide) _ (I.hok.fresh (UZ _))⟩
 ·by_cases k1:k=1
  ·subst k1;refine XN Y4 ⟨_,ho,rfl⟩ YO (Yw _ _) (vm l HX.toArray n dd sl t) ⟨ho,?_⟩;exact⟨.ref l,H,I,rfl,q1 rfl⟩
  ·have MB:List.foldl (fun x1 x2=>x1++x2) #[] (List.replicate k.toNat HX.toArray)=(List.replicate k.toNat HX).flatten.toArray:=by
    have:=jQ HX k.toNat []
    rw[Wx]at this;exact this
   have hb:(HX.length:Int)*k<=10*1000:=Int.mul_le_mul (by lia) (by lia) h1 (by decide);have hlen:(List.replicate k.toNat HX).flatten.length<=10000:=by
    rw[jS];have:((k.toNat*HX.length:Nat):Int)<=10000:=by
     rw[Int.natCast_mul,Int.toNat_of_nonneg h1,VM];lia
    lia
   refine XN Y4 ⟨_,ho,rfl⟩ YO (Yw _ _) (vn l HX.toArray n dd sl k t RS (by simpa using k1) (by lia) (by lia) (by rw[UT];lia) (by rw[MB,UT,Wd];lia) (by rw[UT];lia)) ⟨ho,?_⟩;rw[MB];exact⟨.ref _,_,I.laid (o:=.tup (List.replicate k.toNat xs).flatten) (t':=s.toks) (fun b o e=>UW _ e) (UZ _) ⟨by rw[jS,hl,<-jS,Wd];lia,_,r.rep k.toNat,IsTupN.new _ _⟩,rfl,q2 k1 _ (I.hok.fresh (UZ _))⟩
def vo(a b:D):Res R:=match a,b with
 | .tup ds,.int k=>if ds≠[]/\ds.length<=10/\0<=k/\k<1000 then .ok (.f,.tup (List.replicate k.toNat ds).flatten) else .bad
 |_,_=>.bad
theorem pR:IW X (binaryOp .Mult) (rG X.K vo):=by
 rintro pr s σ H x y v u Q I rx ry ⟨G,fp,es,vs,a,b,r,⟨rel,k⟩,va,vb,e⟩;unfold vo at e;split at e
 ·rename_i ds j;split at e
  ·rename_i hj;cases e;obtain⟨p,xs,e1,h1,r1⟩:=gr va;subst e1;cases bJ vb;refine AK pr s σ H _ _ v u Q I rx ry ⟨p,j,xs,rfl,rfl,bK rel.gh h1,?_,hj.2.2.1,hj.2.2.2,by rw[r1.length];exact hj.2.1,fun e=>?_,fun e q hq=>?_⟩
   ·intro z;have:=r1.length;rw[z]at this;exact hj.1 (VW this.symm)
   ·subst e;refine k _ H G fp .refl (rel.push ?_);have e3:(List.replicate (1:Int).toNat ds).flatten=ds:=by simp
    rw[e3];exact va
   ·obtain⟨HV,Ib⟩:=rel.newF (u:=.tup (List.replicate j.toNat xs).flatten) hq;refine k _ _ _ fp Ib (HV.push ?_);rw[Rep];exact⟨q,_,rfl,aH,Reps.mono Ib.gg (mG r1 j.toNat)⟩
  ·cases e
 ·cases e
end
section
variable{md:Mode}{X:Cx}{scope:Scope}{N:List Str}{tg iter elt:Expr}{ifs:List Expr}{pos:Pos}{fi:FI}{a:FG}{c:FT}{f:FX}{j k0:Nat}
theorem xP(ix:List (Option Nat))(N:List Str)(hc:X.calm=true)(hi:QI X tg iter fi)(hg:∀C s H fp pn,QG (ba X scope N C s H fp pn) tg a)(ht:∀C s H fp pn,N2 (ba X scope N C s H fp pn) ifs c)(he:∀C s H fp pn,QE (ba X scope N C s H fp pn) elt f)
  (P8:ix[k0]?=some (some j):=by rfl)
  (hf:cT scope X.env=true:=by rfl) (hk:scope.kind=.function:=by rfl) (Ih:∀y∈scope.names,y.2≠.cell:=by decide +kernel) (Io:∀y∈scope.names,y.2=.local->scope.names.lookup y.1=some .local:=by decide +kernel) (Ji:lq X scope N ix=true:=by rfl)
  (hs:∀x,foldedSetIterable iter X.env x=pure x:=by intro _;rfl):QE X (.ListComp elt [⟨tg,iter,ifs,0⟩] scope pos) (g6 fi ix j k0 a c f):=
 bD (lS (g:=tQG X.K a) (tc:=tQT X.K c) (te:=tQ X.K f) ix N hc hi hg ht he hf hk Ih Io Ji hs) fun _ _ _=>yW P8
theorem xQ{i:Nat}{y:Str}{py Kh:Pos}(ix:List (Option Nat))(N:List Str)(hN:X.N.Nodup)(Ob:X.N[i]?=some y)(hy:Loc X.env.scope y)(hc:X.calm=true)(hi:QI X tg iter fi)(hg:∀C s H fp pn,QG (ba X scope N C s H fp pn) tg a)(ht:∀C s H fp pn,N2 (ba X scope N C s H fp pn) ifs c)
  (he:∀C s H fp pn,QE (ba X scope N C s H fp pn) elt f) (P8:ix[k0]?=some (some j):=by rfl) (Nn:swapsWith (.ListComp elt [⟨tg,iter,ifs,0⟩] scope pos) (some (.Name y py)) Kh.line X.env=pure true:=by rfl)
  (hf:cT scope X.env=true:=by rfl) (hk:scope.kind=.function:=by rfl) (Ih:∀y∈scope.names,y.2≠.cell:=by decide +kernel) (Io:∀y∈scope.names,y.2=.local->scope.names.lookup y.1=some .local:=by decide +kernel) (Ji:lq X scope N ix=true:=by rfl)
  (hs:∀x,foldedSetIterable iter X.env x=pure x:=by intro _;rfl) (Mj:X.fn y=true\/X.env.scope.names.lookup y=some .local:=by first|exact .inl rfl|exact .inr rfl):
  QS (md:=md) X (.Assign [.Name y py] (.ListComp elt [⟨tg,iter,ifs,0⟩] scope pos) Kh) (bZ i (g6 fi ix j k0 a c f)):=
 dZ (uk (i:=i) (g:=tQG X.K a) (tc:=tQT X.K c) (te:=tQ X.K f) ix N hN Ob hy hc hi hg ht he Nn hf hk Ih Io Ji hs Mj) fun D σ H ⟨G,env,fp,rel,k⟩=>yW P8 (mh rel k)
end
section
variable{X:Cx}{x:Str}{p pos:Pos}{e:Expr}{es:List Expr}{f0:FX}{fs:FOs}
end
section
variable{X:Cx}
end
end PV
namespace NX
section
variable{prog:Program}{w:World}{A:Around}{R:Result->Shared->Prop}{it:Addr}{fp wr:List Addr}{n:Nat}{Pv:Nat->Value->Prop}{Sx:Nat->Heap->Prop}{kw:List (Str×Value)}
end
section
variable{X:Cx}{e k:Expr}{te tk:TE}{p pos Rm:Pos}
end
end NX
namespace PV
variable{X:Cx}
section
end
variable{es:List Expr}{fa:FO}
section
noncomputable def Dj(g:List D->List D->Res R)(fa:FO)(fs:FOs):FX:=fun env=>(fa env).bind fun p=>(JV p.2 p.1).bind fun a=>match a with
 | .lst _=>(fs p.2).bind fun q=>(JV q.2 p.1).bind fun a2=>match a2 with
  | .lst l=>(qB q.2 q.1).bind fun ds=>(g l ds).bind fun r=>.ok (r,q.2)
  |_=>.bad
 |_=>.bad
inductive rMtL(K:W.Frag)(g:List D->List D->Res R)(x:V)(xs:List V)(H:Hp)(Q:VK):Prop
 |mk:∀G fp es vs l ds r,Goes K H G fp es vs r Q->Vw K G H (.lst l) x->RB K G H ds xs->g l ds=.ok r->rMtL K g x xs H Q
theorem Dk{g:List D->List D->Res R}{id:String}{name:Str}{o e:Expr}{fs:FOs}{apos IG:Pos}(slot:Slot "list" name id)(Rq:typeOf (.builtin id)=pure (.type "method_descriptor"))(hm:So X id (rMtL X.K g))(ho:QO X o fa)(ha:M4 X (e::es) fs)
  (JE:attributeBase o name X.env (eval o X.env)=eval o X.env:=by rfl)
  (KH:((backTo IG (starEach (e::es) X.env)).all (fun x=>!x.1)&&(backToKw IG (keywordEach [] X.env)).all (fun x=>x.1.isSome)&&decide ((e::es).length+([]:List Keyword).length+(if([]:List Keyword).isEmpty then 0 else 1)<30))=true:=by rfl)
  (JF:(apos.endLine==IG.line)=true:=by rfl) (hs:starEach (e::es) X.env=(false,eval e X.env)::starEach es X.env:=by rfl) (Ka:(backTo IG (starEach es X.env)).any (·.1)=false:=by rfl):
  QE X (.Call (.Attribute o name apos) (e::es) [] IG) (Dj g fa fs):=by
 refine bD (zX Xh slot Rq hm ho ha JE KH JF hs Ka) fun σ H Q Ir=>?_
 obtain⟨G,env,fp,r,env',rel,e,k⟩:=Ir;obtain⟨⟨oa,HU⟩,e1,e⟩:=ai e;obtain⟨da,PK,e⟩:=ai e;dsimp only at e;split at e
 ·obtain⟨⟨os,Ic⟩,e2,e⟩:=ai e;obtain⟨d2,hd2,e⟩:=ai e;dsimp only at e;split at e
  ·obtain⟨ds,e3,e⟩:=ai e;obtain⟨r',e4,e⟩:=ai e;cases e;refine⟨G,env,fp,oa,HU,rel,e1,fun v H1 G1 IF Im HW Ko=>?_⟩;obtain⟨p,xs,ev,sq,_⟩:=HW.vw Ko PK;subst ev;exact⟨.inl ⟨rfl,xs,sq⟩,G1,HU,IF,os,_,HW,e2,fun vs H2 G2 IP Ib HV Od=>⟨G2,IP,_,σ,_,ds,r,⟨HV,fun v H' G' HZ st IS=>k v H' G' HZ (Im.trans (Ib.trans st)) IS⟩,HV.vw (Ko.mono Ib.gg) hd2,HV.vws Od e3,e4⟩⟩
  ·cases e
 ·cases e
open PySem.SeqAt in
theorem AL{pr:List (Addr×Obj)}{σ:L2.St}{H:Hp}{s:Shared}(I:Inv X pr σ H s){a:D}{x:V}{v:Value}{A:Around}(h:plainD 40 a=true)(hu:A.units+64<cLine)(r:Rep X.K H a x)(rx:RelV x v):
  ∀(ds:List D) (xs:List V) (us:List Value),plainDs 40 ds=true->Reps X.K H ds xs->Vals xs us->∃e:Value->Bool,(∀(j:Nat) (d:D) (u:Value),ds[j]?=some d->us[j]?=some u->e u=Ia d a)/\∀u∈us,EqAt A s u v (e u):=by
 classical
 intro ds xs us hp rs vl;have key:∀(j:Nat) (d:D) (u:Value),ds[j]?=some d->us[j]?=some u->decide (∃(j:Nat) (d:D),ds[j]?=some d/\us[j]?=some u/\Ia d a=true)=Ia d a:=by
  intro j d u hd hj;obtain⟨w1,L6,Mu⟩:=rs.get hd;obtain⟨u1,K0,Mw⟩:=vl.get L6;rw[hj]at K0;cases K0;rw[VQ,Vl];constructor
  ·rintro⟨j2,d2,k1,k2,k3⟩;obtain⟨w2,Nr,Nt⟩:=rs.get k1;obtain⟨u2,LN,Nu⟩:=vl.get Nr;rw[k2]at LN;cases LN;have:=Mw.inj Nu;subst this;rw[j9 I _ _ _ 40 (plainDs_mem hp hd) Mu Nt];exact k3
  ·intro k3;exact⟨j,_,hd,hj,k3⟩
 refine⟨fun u=>decide (∃(j:Nat) (d:D),ds[j]?=some d/\us[j]?=some u/\Ia d a=true),key,fun u Tf=>?_⟩;obtain⟨j,hj⟩:=W9.mp Tf;have l1:=vl.length;have l2:=rs.length;have Tg:=(U1.mp hj).1;have g1:ds[j]?=some (ds[j]'(by lia)):=US _;obtain⟨w1,L6,Mu⟩:=rs.get g1;obtain⟨u1,K0,Mw⟩:=vl.get L6;rw[hj]at K0;cases K0;have z:=Au I _ _ w1 x u v A 40 (plainDs_mem hp g1) h (by lia) Mu r Mw rx;show EqAt A s u v (decide (∃(j:Nat) (d:D),ds[j]?=some d/\us[j]?=some u/\Ia d a=true));rw[key j _ u g1 hj];exact z
def sR(l:List D):List D->Res R
 |[a]=>if plainD 40 a&&plainDs 40 l&&l.any (fun d=>Ia d a) then .ok (.f,.int (l.findIdx (fun d=>Ia d a):Nat)) else .bad
 |_=>.bad
theorem pS(hu:X.A.units+65<cLine):So X "list.index" (rMtL X.K sR):=by
 rintro pr s σ H x xs v us Q I rx rv ⟨G,fp,es,vs,l,ds,r,⟨rel,k⟩,vx,vd,e⟩;unfold sR at e;split at e
 ·rename_i a;split at e
  ·rename_i hp;rw[Ve,Ve]at hp;cases e;obtain⟨p,ys,ev,sq,rs⟩:=vx;subst ev;cases rx;obtain⟨w',ew,va⟩:=sP vd;subst ew;obtain⟨u,rfl,ru⟩:=jB rv;obtain⟨HX,vl,pl,hz⟩:=I.list sq;obtain⟨⟨cls,dd,data,sl⟩,ho,hc,n,hd⟩:=id pl.isList;simp only at hc hd;subst hc hd;obtain⟨ef,Uh,RL⟩:=AL (A:=X.A.in1) I hp.1.1 (by first|lia|(simp only[Around.in1_units];lia)) (va.rep rel.gh) ru l ys HX hp.1.2 (Reps.mono rel.gh rs) vl;have Iu:l.findIdx (fun d=>Ia d a)<l.length:=List.findIdx_lt_length.mpr (by rw[<-W6];exact hp.2);have l1:=vl.length;have l2:=rs.length;have hlt2:l.findIdx (fun d=>Ia d a)<HX.toArray.size:=by rw[UT];lia
   have hb:(l.findIdx (fun d=>Ia d a):Int)<2 ^ 63-1:=by
    rw[Wd]at hz;lia
   refine PySem.call_meets YZ ⟨_,ho,rfl⟩ PySem.F.entry_list_index (PySem.F.args_list_index_2 _ _) (PySem.SeqAt.list_indexAt p HX.toArray n _ _ u ef (l.findIdx fun d=>Ia d a) hlt2 hb ?_ ?_) ⟨ho,fun y hy=>?_,⟨.int (l.findIdx (fun d=>Ia d a):Nat),H,I.tok _,⟨_,rfl⟩,k _ H G fp .refl (rel.push (rep_int _))⟩⟩
   ·rw[Uh _ _ _ (US Iu) (by rw[Zz];exact US _)];exact List.findIdx_getElem (w:=Iu)
   ·intro m hm hlt3;rw[Uh m (l[m]'(by lia)) _ (US _) (by rw[Zz];exact US _)];exact List.not_of_lt_findIdx hlt3
   ·exact RL y (by simpa using hy)
  ·cases e
 ·cases e
end
section
variable{K:W.Frag}{G G' H H':Hp}{es:PV.Env}{vs:L2.St}{fp:List Addr}
theorem Rel.lendM2(q:Rel K G H es vs fp)(a:List Addr)(ha:∀z∈a,z∉fp)(Tj:∀z∈a,G z=none):∃G1,Same G G1/\Same G1 H/\(∀z∈a,G1 z=none)/\(∀(i:Nat) (r:R) (v:V),es[i]?=some (some r)->vs[i]?=some (some v)->Rep K G1 r.2 v)/\
  ∀(H2 G2:Hp) (IP:List Addr) (rs:PV.Env) (ws:L2.St),Step G1 H a G2 H2 IP->Rel K G2 H2 rs ws IP->((∀r,some r∈rs->aP r.1 r.2=true)->∃G3 JU,Step G H (a++fp) G3 H2 JU/\Rel K G3 H2 (rs++es) (ws++vs) JU)/\∃G3 JU,Step G H (a++fp) G3 H2 JU/\Rel K G3 H2 (rs++es.map PV.frz) (ws++vs) JU:=by
 have hg:Same G (fun p=>if p∈fp then H p else G p):=fun p u e=>by
  show(if p∈fp then H p else G p)=some u;by_cases hp:p∈fp
  ·rw[U2 hp];exact q.gh p u e
  ·rw[U9 hp];exact e
 have hh:Same (fun p=>if p∈fp then H p else G p) H:=fun p u e=>by
  have e:(if p∈fp then H p else G p)=some u:=e;by_cases hp:p∈fp
  ·rw[U2 hp]at e;exact e
  ·rw[U9 hp]at e;exact q.gh p u e
 have hk:∀p∈fp,∀u,H p=some u->(fun p=>if p∈fp then H p else G p) p=some u:=fun p hp u e=>by
  show(if p∈fp then H p else G p)=some u;rw[U2 hp];exact e
 refine⟨fun p=>if p∈fp then H p else G p,hg,hh,fun z hz=>?_,fun i r v e ev=>q.rep.rep hg hk e ev,fun H2 G2 IP rs ws st k=>⟨fun cl=>?_,?_⟩⟩
 ·show(if z∈fp then H z else G z)=none;rw[U9 (ha z hz)];exact Tj z hz
 ·have kept:∀p∈fp,H2 p=H p:=fun p hp=>by
   obtain⟨u,hu⟩:=q.rep.live p hp;rw[hu];exact st.keep p u hu fun z=>ha p z hp
  have apart:∀p∈IP,p∉fp:=fun p hp hf=>by
   rcases st.fpn p hp with z|z
   ·exact ha p z hf
   ·obtain⟨u,hu⟩:=q.rep.live p hf;rw[z]at hu;cases hu
  have g3:Same G (fun p=>if p∈fp then none else G2 p):=fun p u e=>by
   show(if p∈fp then none else G2 p)=some u;rw[U9 (fun z=>by rw[q.gn p z]at e;cases e)];exact st.gg p u (hg p u e)
  refine⟨fun p=>if p∈fp then none else G2 p,IP++fp,⟨g3,fun p u e n=>?_,fun p hp=>?_,fun p u e=>?_,st.there⟩,⟨RepE.append (RepE.clean (fun p u t e=>?_) cl k.rep) (q.rep.step g3 kept),?_,fun p hp=>?_,fun p u e=>?_⟩⟩
  ·exact st.keep p u e fun z=>n (U4 _ z)
  ·rcases Vp.mp hp with hp|hp
   ·exact(st.fpn p hp).imp_left (U4 _)
   ·exact .inl (UX _ hp)
  ·have e:(if p∈fp then none else G2 p)=some u:=e;by_cases hp:p∈fp
   ·rw[U2 hp]at e;cases e
   ·rw[U9 hp]at e;rcases st.gnew p u e with z|z|z
    ·have z:(if p∈fp then H p else G p)=some u:=z;rw[U9 hp]at z;exact .inl z
    ·exact .inr (.inl (U4 _ z))
    ·exact .inr (.inr z)
  ·show(if p∈fp then none else G2 p)=some u;by_cases hp:p∈fp
   ·exfalso;obtain⟨u',hu,hm⟩:=q.rep.mut p hp;have:=st.gg p u' (hk p hp u' hu);rw[e]at this;cases this;cases u with
    |lst _=>cases t
    |dK _=>cases t
    |dT _=>cases t
    |_=>cases hm
   ·rw[U9 hp];exact e
  ·rw[Vs];exact⟨k.nd,q.nd,fun p hp z hz e=>apart p hp (e▸hz)⟩
  ·show(if p∈fp then none else G2 p)=none;by_cases hf:p∈fp
   ·rw[U2 hf]
   ·rw[U9 hf];rcases Vp.mp hp with hp|hp
    ·exact k.gn p hp
    ·exact absurd hp hf
  ·have e:(if p∈fp then none else G2 p)=some u:=e;by_cases hp:p∈fp
   ·rw[U2 hp]at e;cases e
   ·rw[U9 hp]at e;exact k.gh p u e
 ·have Ui:=hg.trans st.gg;have rf:RepE K G2 H2 (es.map PV.frz) vs []:=q.rep.frz Ui fun p hp u e=>st.gg p u (hk p hp u e)
  have ra:=RepE.append k.rep rf;rw[Vu]at ra;refine⟨G2,IP,⟨Ui,fun p u e n=>st.keep p u e fun z=>n (U4 _ z),fun p hp=>(st.fpn p hp).imp_left (U4 _),fun p u e=>?_,st.there⟩,⟨ra,k.nd,k.gn,k.gh⟩⟩;rcases st.gnew p u e with z|z|z
  ·have z:(if p∈fp then H p else G p)=some u:=z;by_cases hp:p∈fp
   ·exact .inr (.inl (UX _ hp))
   ·rw[U9 hp]at z;exact .inl z
  ·exact .inr (.inl (U4 _ z))
  ·exact .inr (.inr z)
end
noncomputable def eFunW(c:O)(F:Addr->List D->Res R)(i:Nat)(fs:FOs):FX:=fun env=>(fs env).bind fun p=>match p.1 with
 | .var j::os=>if j=i then(match p.2[i]? with
  |some (some (ow,d0))=>if mI c ow then(kU (p.2.set i none) os).bind fun ds=>(jG F c d0 ds).bind fun x=>if aP x.1.1 x.1.2&&aP c x.2 then .ok (x.1,(p.2.set i none).set i (some (ow,x.2))) else .ok (x.1,((p.2.set i none).map frz).set i (some (ow,x.2))) else .bad
  |_=>.bad) else .bad
 |_=>.bad
variable{pos:Pos}
section
variable{x:Str}{p:Pos}{e:Expr}{f0:FX}{fs:FOs}
theorem de{F:Addr->List D->Res R}{c:O}{i k:Nat}(C:Ct X.prog X.w X.K X.mg X.base x k (spM X.K c F))(hr:Room k X.A)(hg:Gl X x)(ha:M4 X (e::es) fs)(KY:(x==("__debug__" : Str))=false:=by decide)
  (he:starEach (e::es) X.env=(false,eval e X.env)::starEach es X.env:=by rfl) (JR:(backTo pos (starEach es X.env)).any (·.1)=false:=by rfl):QE X (.Call (.Name x p) (e::es) [] pos) (eFunW c F i fs):=
 bD (Cw C hr hg ha KY he JR) fun σ H Q Ig=>by
  obtain⟨G,env,fp,r,env',rel,e,k⟩:=Ig;obtain⟨⟨os,e1⟩,ha,e⟩:=ai e;dsimp only at e;split at e
  ·rename_i j T4;split at e
   ·rename_i hj;subst hj;split at e
    ·rename_i ow d0 hi;split at e
     ·rename_i how;obtain⟨ds,hd,e⟩:=ai e;obtain⟨z,hz,e⟩:=ai e;refine⟨G,env,fp,_,e1,rel,ha,fun vs H1 G1 IF Im HW Ko=>?_⟩;show spM X.K c F (vs++[]) H1 Q _;rw[Vu];obtain⟨y,ys,ey,k1,k2⟩:=Ko;obtain⟨v0,a,b,ev,r0,r2,pm⟩:=HW.rep.take hi;have k1:σ[j]?=some (some y):=k1;rw[k1]at ev;cases ev;obtain⟨⟨q,hq⟩,rc,back⟩:=Dg how r0;subst hq;have nd:=Vs.mp (pm.nodup_iff.mp HW.nd);have Lg:Rel X.K G1 H1 (e1.set j none) σ b:=⟨r2,nd.2.1,fun w hw=>HW.gn w (pm.mem_iff.mpr (UX _ hw)),HW.gh⟩
      obtain⟨G2,Mt,Np,P6,Jt,Jc⟩:=Lg.lendM2 a (fun w hw hb=>nd.2.2 w hw w hb rfl) (fun w hw=>HW.gn w (pm.mem_iff.mpr (U4 _ hw)));refine⟨G2,q,ys,d0,ds,_,a,Np,ey,rc.step Mt (fun _ _=>rfl),nd.1,P6,jZ Mt Jt k2 hd,xI hz q,fun v H' G' HZ st rt=>?_⟩;obtain⟨o',d',p',c',Uc,er,rl⟩:=rt;cases er;have fin:∀(ee:PV.Env),ee.length=e1.length->(∃G3 JU,Step G1 H1 (a++b) G3 H' JU/\Rel X.K G3 H' (some z.1::some (.pin q c,z.2)::ee) (some v::some (.ref q)::σ) JU)->(z.1,ee.set j (some (ow,z.2)))=(r,env')->Q v H':=by
       rintro ee hel ⟨G3,JU,IL,IQ⟩ eee;cases eee;obtain⟨a1,b1,ef,ro,IA,comb⟩:=Rel.frame IQ;have MC:Rel X.K G3 H' (some (ow,z.2)::ee) (some (.ref q)::σ) b1:=by
        obtain⟨y2,Ug,RQ,v2,a2,b2,Nz,O9,Ku,Pa⟩:=IA.rep;cases RQ;cases Nz;rw[RepO]at Ku;exact⟨⟨_,_,rfl,_,a2,b2,rfl,O9,back _ _ _ _ Ku.2,Pa⟩,IA.nd,IA.gn,IA.gh⟩
       obtain⟨fq,Lh,P7⟩:=MC.back (i:=j) (by rw[hel];exact(U1.mp hi).1) k1;obtain⟨Ma,NA⟩:=comb G3 H' _ _ fq P7 Lh;rw[<-ef]at NA;exact k v H' G3 _ (Im.trans ((IL.perm (fun w=>pm.mem_iff.symm) (fun w hw=>hw)).trans NA)) Ma
      obtain⟨b1,b2⟩:=Jc H' G' HZ _ _ st rl;split at e
      ·rename_i JI;rw[Ve]at JI;have e:=Res.ok.inj e;refine fin (e1.set j none) (by rw[VI]) (b1 fun w hw=>?_) e;rcases U6.mp hw with hw|hw
       ·cases hw;exact JI.1
       ·rw[VC]at hw;cases hw;simp only[aP];exact JI.2
      ·have e:=Res.ok.inj e;exact fin ((e1.set j none).map frz) (by rw[U8,VI]) b2 e
     ·cases e
    ·cases e
   ·cases e
  ·cases e
end
theorem vals_pick{xs:List V}{us:List Value}(r:Vals xs us):∀ix:List Nat,Vals (ix.filterMap fun i=>xs[i]?) (ix.filterMap fun i=>us[i]?)
 |[]=>.nil
 |i::ix=>by
  have ih:=vals_pick r ix;cases e:xs[i]? with
  |none=>
   rw[YQ e,YQ (r.none_of e)];exact ih
  |some d=>
   obtain⟨v,e2,rv⟩:=r.get e;rw[YR e,YR e2];exact .cons rv ih
section
end
section
end
section
variable{scope:Scope}{N:List Str}{tg iter elt:Expr}{ifs:List Expr}{fi:FI}{a:FG}{c:FT}{f:FX}
theorem vp(ix:List (Option Nat))(N:List Str)(hc:X.calm=true)(hi:Oi X tg iter fi)(hg:∀C s H fp pn,QG (br X scope N C s H fp pn) tg a)(ht:∀C s H fp pn,N2 (br X scope N C s H fp pn) ifs c)(he:∀C s H fp pn,QE (br X scope N C s H fp pn) elt f)
  (hf:cT scope X.env=true:=by rfl) (hk:scope.kind=.function:=by rfl) (Ih:∀y∈scope.names,y.2=.cell->scope.names.lookup y.1=some .cell:=by decide +kernel) (Io:∀y∈scope.names,y.2=.local->scope.names.lookup y.1=some .local:=by decide +kernel) (Ji:lq X scope N ix=true:=by rfl)
  (hs:∀x,foldedSetIterable iter X.env x=pure x:=by intro _;rfl):QE X (.ListComp elt [⟨tg,iter,ifs,0⟩] scope pos) (cS fi ix a c f):=
 bD (xA (g:=tQG X.K a) (tc:=tQT X.K c) (te:=tQ X.K f) ix N hc hi hg ht he hf hk Ih Io Ji hs) fun _ _ _=>qO
end
end PV
namespace L2
section
variable{X:Cx}{tg:Expr}
end
end L2
namespace PV
section
variable{X:Cx}{tg:Expr}
end
abbrev FB:=PV.Env->Bool
section
variable{X:Cx}{st:Stmt}{Ta:List Stmt}{g:FS}{x:FB}{Ww:Hp->Prop}{c:FT}{pos np IG:Pos}{e:Expr}{es:List Expr}{fs:FOs}{C:Addr}{y:Str}
end
abbrev FXE:=PV.Env->Option PV.Env
section
variable{md:Mode}{X:Cx}{x:Str}{p pos:Pos}{e a b:Expr}{es:List Expr}{C:Addr}{F:List D->Bool}{fs:FOs}{k:Nat}{xe:FXE}{aU:List Stmt}
end
section
variable{X:Cx}{x:Str}{p pos:Pos}{e:Expr}{es:List Expr}{fs:FOs}
end
section
variable{X:Cx}{x:Str}{p pos:Pos}{e:Expr}{es:List Expr}{f0:FX}{fs:FOs}
end
end PV
namespace NX
noncomputable def Q9(o:Obj)(n:Nat)(a:Addr):It:=
 ⟨fun i H=>∃HS k v,H a=some (.frz o (.dK HS))/\HS.length=n/\HS[i]?=some (k,v),
  fun i H x H'=>H'=H/\∀HS k v,H a=some (.frz o (.dK HS))->HS[i]?=some (k,v)->x=kV k,
  fun i H=>∃HS,H a=some (.frz o (.dK HS))/\HS.length=n/\HS.length<=i⟩
theorem vq{P:Program}{w:World}{K:W.Frag}{tg:Expr}(o:Obj)(es:Array DictEntry)(ep n:Nat)(a it:Addr)(hd:o.data=.dict es ep):
  Turn P w K tg (Q9 o n a) [it] it (fun i h=>h.IsKeyIter it a i n ep) where
 mem:=by simp
 obj:=fun i h st b hb=>by
  have e:b=it:=by simpa using hb
  subst e;obtain⟨o,e,c,d⟩:=st;exact⟨o,e,fun v z=>by rw[d]at z;cases z⟩
 keep:=fun i h h' st k=>by
  obtain⟨o,e,c,d⟩:=st;exact⟨o,k it (by simp) o e,c,d⟩
 item:=by
  intro X hP hw hK hc i pr s σ H E I hf st hg;subst hP hw hK;obtain⟨HS,k,v,ha,hn,hx⟩:=hg;obtain⟨ho,vs,r,hm⟩:=qR I hd ha;have hl:vs.length=n:=by rw[<-hn];exact r.length.symm
  subst hl;obtain⟨u,hu,ru⟩:=FC r hx;obtain⟨f0,f1,f2,f3,f4,f5⟩:=hf it (by simp);refine wpAny_pyNext_dict_item st hm hu fun key h' LQ LV sb=>?_
  have I1:Inv X pr σ H {s with heap:=h'}:=I.turned (t':=s.toks) (fun b o hb e=>(sb.2 b hb).trans e) f0 f1 f3 f4 f5;obtain⟨o',e,c,d⟩:=id LV;exact⟨key,rfl,xg (s:={s with heap:=h'}) e c d (by decide) ⟨kV k,H,I1,FA LQ,⟨rfl,fun kvs' k' v' h1 h2=>by
   rw[ha]at h1;cases h1;rw[hx]at h2;cases h2;rfl⟩,LV,fun b hb=>(hf b hb).1⟩⟩
 done:=by
  intro X hP hw hK hc i pr s σ H E I hf st hg;subst hP hw hK;obtain⟨HS,ha,hn,hi⟩:=hg;obtain⟨ho,vs,r,hm⟩:=qR I hd ha;have hl:vs.length=n:=by rw[<-hn];exact r.length.symm
  subst hl;obtain⟨f0,f1,f2,f3,f4,f5⟩:=hf it (by simp);exact wpAny_pyNext_dict_end (I.ok.hd hc) st hm (X5 (by lia)) fun h' eb=>⟨rfl,I.turned (t':=s.toks) (fun b o hb e=>eb b o hb e) f0 f1 f3 f4 f5⟩
 self:=fun _ _ _ _ _ st h=>wpAny_pyIter_keyiter st h
def Hu(td:TE):TI:=fun σ H R=>td σ H fun v H1=>∃a o HS,v=.ref a/\H1 a=some (.frz o (.dK HS))/\R (Q9 o HS.length a) H1
theorem vv{X:Cx}{l tg:Expr}{td:TE}(hl:PE X l td):PI X tg l (Hu td):=by
 intro pr s σ H R I h;refine Iy (hl pr s σ H _ I h) fun v s1 Ir=>?_
 obtain⟨x,H1,I1,r1,a,o,HS,ex,ha,q⟩:=Ir;subst ex;cases r1;obtain⟨ho,z,nm,vs,r,o',LY,Pk,g1,ex,dat,aU⟩:=(show ObjOk X.prog X.w H1 s1.heap a (.frz o (.dK HS)) from I1.hok a _ ha)
 have e:=g1.symm.trans ho;cases e;have JS:s1.heap.DictAt (mixKind X.prog X.w) a vs Pk:=⟨_,LY,g1,ex,dat,aU⟩
 refine wpAny_pyIter_dict nm JS ?_;refine⟨s1.heap.objs.size,[s1.heap.objs.size],_,Q9 _ HS.length a,H1,rfl,I1.kept (t':=s1.toks) fun b o e=>UW _ e,vq _ LY Pk HS.length a _ dat,⟨_,Vh _ rfl,rfl,?_⟩,fun b hb=>?_,q⟩
 ·rw[r.length];rfl
 ·have e:b=s1.heap.objs.size:=by simpa using hb
  subst e;exact I1.fpOk (UZ _) (I1.hok.fresh (UZ _))
theorem gQ{X:Cx}{pr:List (Addr×Obj)}{σ:L2.St}{H:Hp}{s:Shared}{a:Addr}{o:Obj}{HS:List (Key×V)}(I:Inv X pr σ H s)(ha:H a=some (.frz o (.dK HS)))(h0:∀q u,X.H₀ a≠some (.frz q u)):Inv X pr σ (upd H a (.dK HS)) s:=by
 have ok:=(show ObjOk X.prog X.w H s.heap a (.frz o (.dK HS)) from I.hok a _ ha)
 have nn:∀c,H c=none->c≠a:=fun c e z=>by rw[z,ha]at e;cases e
 have nt:∀c xs,H c=some (.tup xs)->c≠a:=fun c xs e z=>by rw[z,ha]at e;cases e
 have nb:∀c ps,H c=some (.tbl ps)->c≠a:=fun c ps e z=>by rw[z,ha]at e;cases e
 have no:∀c b,H c=some (.own b)->c≠a:=fun c b e z=>by rw[z,ha]at e;cases e
 have nf:∀c,H c=none->upd H a (.dK HS) c=none:=fun c e=>by rw[aq (nn c e)];exact e
 refine⟨I.ok,I.os,I.bare,⟨I.base.keep,I.base.slot,fun b q e n x=>nf b (I.base.free b q e n x),I.base.there,fun b xs e=>?_,fun b q u e=>?_,fun b ps e=>?_⟩,I.loc,I.cell,nf _ I.free,fun x c e=>nf _ (I.freeC x c e),fun p hp=>?_,fun c ob e=>?_,I.len⟩
 ·have h:=I.base.tups b xs e;rw[aq (nt b xs h)];exact h
 ·have:b≠a:=fun z=>h0 q u (z▸e)
  rw[aq this];exact I.base.frzs b q u e
 ·obtain⟨m,h⟩:=I.base.tbls b ps e;exact⟨m,by rw[aq (nb b _ h)];exact h⟩
 ·obtain⟨h1,h2,h3⟩:=I.pin p hp;exact⟨h1,nf _ h2,h3⟩
 ·by_cases ec:c=a
  ·subst ec;rw[aH]at e;cases e;exact(show ObjOk X.prog X.w H s.heap c (.dK HS) from ok.2).stay (fun _ _ _ q=>q) (fun d q=>by rw[aq (no d _ q)];exact q) fun d l q=>by rw[aq (nt d l q)];exact q
  ·rw[aq ec]at e;exact(I.hok c ob e).stay (fun _ _ _ q=>q) (fun d q=>by rw[aq (no d _ q)];exact q) fun d l q=>by rw[aq (nt d l q)];exact q
noncomputable def Oo(a:Addr)(o:Obj)(HS:List (Key×V))(D:Ends):Ends:=
 ⟨fun σ H=>H a=some (.frz o (.dK HS))/\D.nx σ (upd H a (.dK HS)),fun v H=>H a=some (.frz o (.dK HS))/\D.rt v (upd H a (.dK HS)),fun σ H=>H a=some (.frz o (.dK HS))/\D.bk σ (upd H a (.dK HS)),fun σ H=>H a=some (.frz o (.dK HS))/\D.ct σ (upd H a (.dK HS))⟩
def FD(t:TS):TS:=fun D σ H=>∃a HS,H a=some (.dK HS)/\∀o,t (Oo a o HS D) σ (upd H a (.frz o (.dK HS)))
theorem vy{X:Cx}{st:Stmt}{t:TS}(h:PS X st t):PS X st (FD t):=by
 rintro pr s σ H D I ⟨a,HS,ha,k⟩;obtain⟨z,nm,vs,r,o,es,ep,g1,aU⟩:=(show ObjOk X.prog X.w H s.heap a (.dK HS) from I.hok a _ ha)
 have h0:∀q u,X.H₀ a≠some (.frz q u):=fun q u e=>by
  have:=I.base.frzs a q u e;rw[ha]at this;cases this
 refine Iy (h pr s σ _ _ (xJ I ha g1) (k o)) fun f s' sp=>?_
 cases f with
 |next=>obtain⟨σ',H',I',e,q⟩:=sp;exact⟨σ',_,gQ I' e h0,q⟩
 |brk=>obtain⟨σ',H',I',e,q⟩:=sp;exact⟨σ',_,gQ I' e h0,q⟩
 |cont=>obtain⟨σ',H',I',e,q⟩:=sp;exact⟨σ',_,gQ I' e h0,q⟩
 |ret u=>obtain⟨v,σ',H',I',rv,e,q⟩:=sp;exact⟨v,σ',_,gQ I' e h0,rv,q⟩
end NX
namespace PV
variable{K:W.Frag}{G:Hp}{es:PV.Env}{fp:List Addr}
section
variable{H:Hp}{vs:L2.St}
end
noncomputable def sPutP(i:Nat)(fk fv:FX):FS:=fun env=>(fv env).bind fun p=>(fk p.2).bind fun q=>match p.2[i]?,q.2[i]? with
 |some (some _),some (some (.pin pp .d,.dct tk ks vs))=>if eX tk q.1.2&&decide (ks.length<sizeLine) then .ok (.nx (q.2.set i (some (.pin pp .d,.dct tk (oy ks vs q.1.2 p.1.2).1 (oy ks vs q.1.2 p.1.2).2)))) else .bad
 |_,_=>.bad
variable{X:Cx}
section
variable{md:Mode}
end
def cleanE(i:Nat)(env:PV.Env):Bool:=(env.set i none).all fun r=>match r with
 |some r=>aP r.1 r.2
 |none=>true
def mK(i:Nat)(p:Addr)(env:PV.Env):Bool:=match env[i]? with
 |some (some (.pin q .f,_))=>decide (q=p)
 |_=>false
noncomputable def vz(i:Nat)(p:Addr)(d:D):Out->Res Out
 | .nx env=>if mK i p env&&cleanE i env then .ok (.nx (env.set i (some (.pin p .d,d)))) else .bad
 | .rt (.t [o,.pin q .f],.tup [r,_])=>if decide (q=p)&&aP o r then .ok (.rt (.t [o,.pin p .d],.tup [r,d])) else .bad
 |_=>.bad
def oK(i:Nat)(a:FG)(g:FS):FS:=fun env=>match env[i]? with
 |some (some (.pin p .d,.dct false ks vs))=>(eC a g ks (env.set i (some (.pin p .f,.dct false ks vs)))).bind (vz i p (.dct false ks vs))
 |_=>.bad
def off(G:Hp)(p:Addr):Hp:=fun z=>if z=p then none else G z
variable{p:Addr}{HS:List (Key×V)}{o:Obj}{i:Nat}{vs:List D}
theorem oM{H G' H':Hp}{IF HZ:List Addr}{σ:L2.St}{d':D}(gp:G p=none)(pf:p∈fp)(f1:∀z∈IF,z∈fp)
  (st:Step (upd G p (.frz o (.dK HS))) (upd H p (.frz o (.dK HS))) IF G' H' HZ) (rel:Rel K G' H' es σ HZ) (hi:es[i]?=some (some (.pin p .f,d'))) (cl:cleanE i es=true) (hf:∀kv∈HS,fitK kv.1) (rs:Reps K G vs (HS.map (·.2))):
  H' p=some (.frz o (.dK HS))/\∃G2 fz,Step G H fp G2 (upd H' p (.dK HS)) fz/\Rel K G2 (upd H' p (.dK HS)) (es.set i (some (.pin p .d,.dct false (HS.map fun kv=>kD kv.1) vs))) σ fz:=by
 have P9:G' p=some (.frz o (.dK HS)):=st.gg p _ aH;refine⟨rel.gh p _ P9,?_⟩;obtain⟨v,fq,ev,g,Im,_⟩:=rel.out hi;have Ib:=st.trans Im;obtain⟨y,ys,e0,v',a,b,e1,e2,r1,r2⟩:=g.rep;cases e0;cases e1;rw[RepO]at r1;obtain⟨ep,r1⟩:=r1;obtain⟨_,ea⟩:=eU.mp r1;subst ea;subst ep;have e2:fq=b:=e2;subst e2;have np:∀z∈fq,z≠p:=fun z hz e=>by
  have:=g.gn z hz;rw[e,P9]at this;cases this
 have Qa:(off G' p) p=none:=U2 rfl;have NB:∀z,z≠p->(off G' p) z=G' z:=fun z h=>U9 h
 have gg:Same G (off G' p):=fun z u e=>by
  have hz:z≠p:=fun h=>by rw[h,gp]at e;cases e
  rw[NB z hz];exact st.gg z u (by rw[aq hz];exact e)
 have rc:RepE K (off G' p) H' (es.set i none) σ fq:=by
  refine RepE.clean (fun z u t e=>?_) (fun r hr=>?_) r2
  ·have hz:z≠p:=fun h=>by rw[h,P9]at e;cases e;cases t
   rw[NB z hz];exact e
  ·have:=VA.mp cl _ hr;exact this
 have HV:Rel K (off G' p) (upd H' p (.dK HS)) (some (.pin p .d,.dct false (HS.map fun kv=>kD kv.1) vs)::es.set i none) (some (.ref p)::σ) (p::fq):=by
  refine⟨⟨some (.ref p),σ,rfl,.ref p,[p],fq,rfl,rfl,?_,rc.step (.refl _) fun z hz=>aq (np z hz)⟩,VP.mpr ⟨fun h=>np p h rfl,g.nd⟩,fun z hz=>?_,fun z u e=>?_⟩
  ·rw[RepO];refine⟨rfl,?_⟩;rw[RepO];exact⟨p,HS.map (·.2),.dK HS,rfl,aH,⟨HS,rfl,rfl,rfl,hf⟩,rfl,Reps.mono gg rs⟩
  ·rcases U6.mp hz with h|h
   ·rw[h];exact Qa
   ·rw[NB z (np z h)];exact g.gn z h
  ·by_cases hz:z=p
   ·rw[hz,Qa]at e;cases e
   ·rw[NB z hz]at e;rw[aq hz];exact rel.gh z u e
 have Tr:Step G H fp (off G' p) (upd H' p (.dK HS)) (p::fq):=by
  refine⟨gg,fun z u e n=>?_,fun z hz=>?_,fun z u e=>?_,fun z u e=>?_⟩
  ·have hz:z≠p:=fun h=>n (h▸pf)
   rw[aq hz];exact Ib.keep z u (by rw[aq hz];exact e) fun h=>n (f1 z h)
  ·rcases U6.mp hz with h|h
   ·exact .inl (h▸pf)
   ·rcases Ib.fpn z h with h2|h2
    ·exact .inl (f1 z h2)
    ·rw[aq (np z h)]at h2;exact .inr h2
  ·by_cases hz:z=p
   ·rw[hz,Qa]at e;cases e
   ·rw[NB z hz]at e;rcases Ib.gnew z u e with h|h|h|⟨t,h⟩
    ·rw[aq hz]at h;exact .inl h
    ·exact .inr (.inl (f1 z h))
    ·rw[aq hz]at h;exact .inr (.inr (.inl h))
    ·rw[aq hz]at h;exact .inr (.inr (.inr ⟨t,h⟩))
  ·by_cases hz:z=p
   ·exact⟨_,by rw[hz,aH]⟩
   ·obtain⟨u',h⟩:=Ib.there z u (by rw[aq hz];exact e);exact⟨u',by rw[aq hz];exact h⟩
 obtain⟨fz,g3,IL⟩:=HV.back (i:=i) (by rw[VI];exact(U1.mp hi).1) ev;rw[WA]at g3;exact⟨_,fz,Tr.trans IL,g3⟩
theorem xR{H:Hp}{f1 b0:List Addr}{o:Obj}{i:Nat}{D0:Ends}{r:Res Out}(gp:G p=none)(MR:Step G H fp G H (p::b0))(Pb:∀z∈f1,z∈p::b0)(hf:∀kv∈HS,fitK kv.1)(rs:Reps K G vs (HS.map (·.2)))
  (k:OutOk (md:=.mut) K G H fp D0 (r.bind (vz i p (.dct false (HS.map fun kv=>kD kv.1) vs)))):OutOk (md:=.mut) K (upd G p (.frz o (.dK HS))) (upd H p (.frz o (.dK HS))) f1 (Oo p o HS D0) r:=by
 cases r with
 |bad=>exact k
 |exc c=>exact k
 |ok out=>
  have k:OutOk (md:=.mut) K G H fp D0 (vz i p (.dct false (HS.map fun kv=>kD kv.1) vs) out):=k;unfold vz at k;split at k
  ·rename_i e';split at k
   ·rename_i JI;rw[Ve]at JI;obtain⟨h1,h2⟩:=JI;unfold mK at h1;split at h1
    ·rename_i q' d' N5;rw[Vl]at h1;subst h1;intro σ' H' G' HZ st rl;obtain⟨z,G2,fz,Ib,RT⟩:=oM (G:=G) (H:=H) (fp:=q'::b0) gp UY Pb st rl N5 h2 hf rs;exact⟨z,k σ' _ G2 fz (MR.trans Ib) RT⟩
    ·cases h1
   ·exact k.elim
  ·rename_i o' q' r d0 _;split at k
   ·rename_i JI;rw[Ve,Vl]at JI;obtain⟨h1,h2⟩:=JI;subst h1;rintro v H' G' HZ st ⟨o2,d2,p2,c2,d02,er,rl⟩;cases er;obtain⟨z,G2,fz,Ib,RT⟩:=oM (G:=G) (H:=H) (fp:=q'::b0) (i:=1) gp UY Pb st rl rfl (by show(List.all [some (o',r),none] _)=true;simp only[Xg,Zw,h2,Vr]) hf rs;exact⟨z,k v _ G2 fz (MR.trans Ib) ⟨_,_,_,_,_,rfl,RT⟩⟩
   ·exact k.elim
  ·exact k.elim
theorem oN{a:Addr}(h:G a=some (.frz o (.dK HS)))(hf:∀kv∈HS,fitK kv.1):Walk K G (Q9 o HS.length a) (HS.map fun kv=>kD kv.1):=by
 intro G' H' es vs fp gg rel i;have h':H' a=some (.frz o (.dK HS)):=rel.gh _ _ (gg _ _ h);refine⟨fun d hd=>?_,fun e=>⟨HS,h',rfl,by rw[U8]at e;lia⟩⟩;rw[Vg]at hd;cases hk:HS[i]? with
 |none=>rw[hk]at hd;cases hd
 |some kv=>
  rw[hk]at hd;cases hd;refine⟨⟨HS,kv.1,kv.2,h',rfl,hk⟩,fun y H2 ⟨e,hy⟩=>?_⟩;subst e;have:=hy HS kv.1 kv.2 h' hk;subst this;exact⟨G',C4 (hf _ (VU hk)),rel,.refl⟩
section
theorem pT{tg iter:Expr}{body:List Stmt}{a:FG}{g:FS}{pos:Pos}(hp:PassesOwn (model X.prog X.w) X.A X.env X.xe)(hc:X.calm=true)(hn:PE X iter (ql i))(hg:QG X tg a)(hb:M5 (md:=.mut) X body g)(hs:∀x,foldedSetIterable iter X.env x=pure x:=by intro _;rfl):
  QS (md:=.mut) X (.For tg iter body [] pos) (oK i a g):=
 dZ (vy (tP hp hc (vv hn) hg hb hs)) fun D0 σ H Ig=>by
  obtain⟨G,env,fp,rel,k⟩:=Ig;unfold oK at k;split at k
  ·rename_i p ks vs hi;obtain⟨v,fq,ev,g1,MR,_⟩:=rel.out hi;obtain⟨y,ys,e0,v',a0,b0,e1,e2,r1,r2⟩:=g1.rep;cases e0;cases e1;rw[RepO]at r1;obtain⟨ep,r1⟩:=r1;subst ep;rw[RepO]at r1;obtain⟨p',xs,o0,Q8,hH,dd,ea,rs⟩:=r1;cases Q8;subst ea;subst e2;obtain⟨HS,eo,ek,ex,hf⟩:=(show ∃HS:List (Key×V),o0=.dK HS/\ks=HS.map (fun kv=>kD kv.1)/\xs=HS.map (·.2)/\∀kv∈HS,fitK kv.1 from dd)
   subst eo ex ek;have nd:=VP.mp (show(p::b0).Nodup from g1.nd);have gp:G p=none:=g1.gn p UY;have RU:∀z∈b0,z≠p:=fun z hz e=>nd.1 (e▸hz)
   refine⟨p,HS,hH,fun o=>?_⟩;have RV:Same G (upd G p (.frz o (.dK HS))):=fun z u e=>by rw[aq (aN e gp)];exact e
   have Qb:Rel X.K (upd G p (.frz o (.dK HS))) (upd H p (.frz o (.dK HS))) (some (.pin p .f,.dct false (HS.map fun kv=>kD kv.1) vs)::env.set i none) (some (.ref p)::σ) b0:=by
    refine⟨⟨_,_,rfl,.ref p,[],b0,rfl,rfl,?_,r2.step RV fun z hz=>aq (RU z hz)⟩,nd.2,fun z hz=>?_,fun z u e=>?_⟩
    ·rw[RepO];refine⟨rfl,eU.mpr ⟨?_,rfl⟩⟩;rw[Rep];exact⟨p,HS.map (·.2),.dK HS,rfl,.inr ⟨o,aH⟩,⟨HS,rfl,rfl,rfl,hf⟩,Reps.mono RV rs⟩
    ·rw[aq (RU z hz)];exact g1.gn z (U3 _ hz)
    ·by_cases hz:z=p
     ·subst hz;rw[aH]at e ⊢;exact e
     ·rw[aq hz]at e ⊢;exact g1.gh z u e
   obtain⟨f1,HW,Im⟩:=Qb.back (i:=i) (by rw[VI];exact(U1.mp hi).1) ev;rw[WA]at HW;have Pb:∀z∈f1,z∈p::b0:=fun z hz=>by
    rcases Im.fpn z hz with h|h
    ·exact U3 _ h
    ·exfalso;obtain⟨u,hu⟩:=HW.rep.live z hz;rw[h]at hu;cases hu
   refine⟨.ref p,ev,p,o,HS,rfl,aH,?_⟩;have k1:=xR (o:=o) (G:=G) (H:=H) (fp:=fp) gp MR Pb hf rs k;have wk:Walk X.K (upd G p (.frz o (.dK HS))) (Q9 o HS.length p) (HS.map fun kv=>kD kv.1):=oN aH hf;generalize (HS.map fun kv=>kD kv.1)=ds at k1 wk HW;refine⟨fun j m σ' H'=>m=ds.length-j/\j<=ds.length/\∃G' env' HZ,Same (upd G p (.frz o (.dK HS))) G'/\Rel X.K G' H' env' σ' HZ/\OutOk (md:=.mut) X.K G' H' HZ (Oo p o HS D0) (eC a g (ds.drop j) env'),⟨_,rfl,VH _,_,_,f1,.refl _,HW,k1⟩,?_⟩;rintro j m σ2 H2 ⟨rfl,hj,G2,Ic,IP,gg,HV,k2⟩;obtain⟨w1,w2⟩:=wk G2 H2 _ _ _ gg HV j;by_cases Iu:j<ds.length
   ·have hd:ds[j]?=some ds[j]:=US Iu;obtain⟨go,yl⟩:=w1 _ hd;rw[VZ Iu]at k2;refine .inr ⟨go,fun σ' H'=>∃G' env' HZ,Same (upd G p (.frz o (.dK HS))) G'/\Rel X.K G' H' env' σ' HZ/\OutOk (md:=.mut) X.K G' H' HZ (Oo p o HS D0) (eC a g (ds.drop (j+1)) env'),fun σ' H' z=>⟨ds.length-(j+1),by lia,rfl,Iu,z⟩,fun x H3 y=>?_⟩;obtain⟨G3,rx,IQ,IL⟩:=yl x H3 y;unfold eC at k2;match q3:a ds[j] Ic,k2 with
    | .ok IM,k2=>
     refine⟨G3,Ic,IP,ds[j],IM,IQ,rx,q3,fun σ4 G4 RE IZ Jk=>⟨G4,IM,RE,Jk,?_⟩⟩;have k3:OutOk (md:=.mut) X.K G2 H2 IP (Oo p o HS D0) ((g IM).bind fun o=>match o with | .nx e=>eC a g (ds.drop (j+1)) e | .ct e=>eC a g (ds.drop (j+1)) e | .bk e=>.ok (.nx e) | .rt r=>.ok (.rt r)):=k2;match q4:g IM,k3 with
     | .ok (.nx e),k3=>exact fun σ' H' G' HZ st rel=>⟨G',e,HZ,gg.trans (IL.gg.trans (IZ.gg.trans st.gg)),rel,OutOk.after (IL.trans (IZ.trans st)) k3⟩
     | .ok (.ct e),k3=>exact fun σ' H' G' HZ st rel=>⟨G',e,HZ,gg.trans (IL.gg.trans (IZ.gg.trans st.gg)),rel,OutOk.after (IL.trans (IZ.trans st)) k3⟩
     | .ok (.bk e),k3=>exact fun σ' H' G' HZ st rel=>k3 σ' H' G' HZ (IL.trans (IZ.trans st)) rel
     | .ok (.rt r),k3=>exact fun v H' G' HZ st rel=>k3 v H' G' HZ (IL.trans (IZ.trans st)) rel
   ·have e:j=ds.length:=by lia
    subst e;rw[W5]at k2;exact .inl ⟨w2 rfl,k2 σ2 H2 G2 IP .refl HV⟩
  ·exact k.elim
end
end PV
namespace NX
section
variable{X:Cx}
def AM:V->List V->Hp->VK->Prop:=fun x vs H Q=>∃l xs y k,x=.ref l/\vs=[.int k,y]/\H l=some (.lst xs)/\xs.length<sizeLine/\(0<=k/\k.toNat<=xs.length)/\Q .non (upd H l (.lst (xs.take k.toNat++y::xs.drop k.toNat)))
theorem jg:∀{vs:List V}{us:List Value},Vals vs us->∀k:Nat,Vals (vs.take k) (us.take k)/\Vals (vs.drop k) (us.drop k)
 |_,_,.nil,k=>⟨by rw[List.take_nil,List.take_nil];exact .nil,by rw[List.drop_nil,List.drop_nil];exact .nil⟩
 |_,_,.cons h r,0=>⟨.nil,.cons h r⟩
 |_,_,.cons h r,k+1=>⟨.cons h (jg r k).1,(jg r k).2⟩
theorem vA:MtM X "list.insert" AM:=by
 intro pr s σ H x vs v us Q I rx rv h;obtain⟨l,xs,y,k,rfl,rfl,hH,hz,hk,q⟩:=h;cases rx;obtain⟨u1,u,rfl,r1,ru⟩:=rv.two;obtain⟨t,rfl⟩:=r1;obtain⟨z,HX,n,r,hl,e⟩:=I.lstM hH;have MD:HX.length=xs.length:=by have:=r.length;lia
 have hf:¬ (!Builtin.List.listFitsIndex k)=true:=by
  have KQ:k.toNat<9223372036854775808:=VX hk.2 (U0 hz (by rw[Wd];decide));have:Builtin.List.listFitsIndex k=true:=by
   unfold Builtin.List.listFitsIndex;rw[Ve,Vl,Vl];lia
  rw[this];exact U7
 have hsz:HX.toArray.size<=sizeLine:=by rw[UT];lia
 refine XN F.slot_list_insert ⟨_,e,rfl⟩ F.entry_list_insert (F.args_list_insert_3 _ _ _) (PySem.AutoSeq1.list_insert_list_int_val_1 l HX.toArray n k t u hf hsz) ⟨e,?_⟩;obtain⟨t1,t2⟩:=jg r k.toNat
 refine⟨.non,_,I.lset (its':=HX.take k.toNat++u::HX.drop k.toNat) hH e ?_ (t1.append (.cons ru t2)) ?_,rfl,q⟩
 ·dsimp only;rw[U9 (by lia),UT,Nat.min_eq_left (by lia)];apply Array.ext';simp;exact Wb (by rw[Wz];lia)
 ·rw[VN,Vb,VE,Wz];lia
end
end NX
namespace PV
noncomputable def Dl(i:Nat)(f g:FX):FX:=fun env=>if pM env i then(f env).bind fun p=>(g p.2).bind fun q=>match q.2[i]?,p.1.2 with
 |some (some (.l .f,.lst ds)),.int k=>if ds.length<sizeLine/\0<=k/\k.toNat<=ds.length then .ok ((.f,.non),q.2.set i (some (.l .f,.lst (ds.take k.toNat++q.1.2::ds.drop k.toNat)))) else .bad
 |_,_=>.bad
 else .bad
section
variable{X:Cx}
theorem vB{i:Nat}{o a e:Expr}{f g:FX}{apos IG:Pos}(ho:PE X o (ql i))(ha:QE X a f)(he:QE X e g)
  (JE:attributeBase o "insert" X.env (eval o X.env)=eval o X.env:=by rfl)
  (KH:((backTo IG (starEach [a,e] X.env)).all (fun x=>!x.1)&&(backToKw IG (keywordEach [] X.env)).all (fun x=>x.1.isSome)&&decide ([a,e].length+([]:List Keyword).length+(if([]:List Keyword).isEmpty then 0 else 1)<30))=true:=by rfl)
  (JF:(apos.endLine==IG.line)=true:=by rfl) (hs:starEach [a,e] X.env=(false,eval a X.env)::starEach [e] X.env:=by rfl) (Th:starEach [e] X.env=(false,eval e X.env)::starEach [] X.env:=by rfl) (Ka:(backTo IG (starEach [e] X.env)).any (·.1)=false:=by rfl):
  QE X (.Call (.Attribute o "insert" apos) [a,e] [] IG) (Dl i f g):=by
 refine bD (zX Xh PySem.F.slot_list_insert PySem.F.type_list_insert vA ho (az ha (az he aQ Th) hs) JE KH JF hs Ka) fun σ H Q Ir=>?_
 obtain⟨G,env,fp,r,env',rel,e,k⟩:=Ir;unfold Dl at e;split at e
 ·rename_i hil;obtain⟨v,ev,ty⟩:=qL rel hil;obtain⟨⟨r1,HU⟩,e1,e⟩:=ai e;obtain⟨⟨r2,Ic⟩,e2,e⟩:=ai e;dsimp only at e e2;split at e
  ·rename_i ds kk Nj Om;split at e
   ·rename_i hl;cases e;refine⟨v,ev,ty,G,env,fp,[r1.2,r2.2],Ic,rel,by show(f env).bind _=_;rw[e1];show((g HU).bind _).bind _=_;rw[e2];rfl,fun vs H1 G1 IF Im HW rs=>?_⟩;rw[Reps]at rs;obtain⟨y1,ys1,eys1,Uj,rs⟩:=rs;rw[Reps]at rs;obtain⟨y,ys,Te,ry,rn⟩:=rs;rw[Reps]at rn;subst rn Te;rw[Om]at Uj;have hz:=bI Uj;obtain⟨p,xs,ep,hp,LM,cg⟩:=HW.chg (ds':=ds.take kk.toNat++r2.2::ds.drop kk.toNat) Nj;rw[ev]at ep;cases ep;obtain⟨fq,HV,Ib⟩:=cg (xs.take kk.toNat++y::xs.drop kk.toNat) ((LM.take _).app (.cons ry (LM.drop _)));exact⟨p,xs,y,kk,rfl,by rw[eys1,hz],hp,by rw[LM.length];exact hl.1,⟨hl.2.1,by rw[LM.length];exact hl.2.2⟩,k _ _ G1 fq (Im.trans Ib) (HV.push mf)⟩
   ·cases e
  ·cases e
 ·cases e
end
inductive BExp where
 |con (b:Bool)|var (j:Nat)|not (x:BExp)|and (x y:BExp)
section
variable{X:Cx}{a:Addr}{o:Obj}{i:Nat}{e b:Expr}{aU:List Expr}{x y:BExp}{pos p q:Pos}{n:Str}
inductive Cls(mg:Str->Option Value):List Expr->List Addr->Prop
 |nil:Cls mg [] []
 |cons {x:Str}{p:Pos}{es:List Expr}{c:Addr}{cs:List Addr}:mg x=some (.ref c)->Cls mg es cs->Cls mg (.Name x p::es) (c::cs)
variable{C:Addr}{vs:Array Value}
end
section
variable{md:Mode}{X:Cx}{x:Str}{pos:Pos}{C:Addr}{xe:FXE}
end
end PV
namespace PV
section
variable{X:Cx}
def sS(ds:List D):List D:=ds.zipIdx.map fun z=>D.tup [.int (z.2:Int),z.1]
def qU(k:Bool)(fs:FOs):FI:=fun env=>(fs env).bind fun p=>match p.1 with
 |[.val d]=>(iA k d).bind fun a=>.ok (sS a,p.2)
 |_=>.bad
theorem vC{K:W.Frag}{G:Hp}{k:Bool}{p1:Addr}{xs:List V}{as:List D}(s1:if k then SqL K G p1 xs else SqT K G p1 xs)(r1:Reps K G as xs):Walk K G (S9 K k p1) (sS as):=by
 intro G' H' es vs fp gg rel i;have g1:=i9 (gg.trans rel.gh) s1;refine⟨fun d hd=>?_,fun e=>⟨xs,g1,?_⟩⟩
 ·unfold sS at hd;rw[Vg,List.getElem?_zipIdx]at hd;cases hz:as[i]? with
  |none=>rw[hz]at hd;cases hd
  |some z=>
   rw[hz]at hd;have hd:D.tup [.int ((0+i:Nat):Int),z]=d:=Vy hd;rw[XR]at hd;subst hd;obtain⟨x,hx,rx⟩:=r1.get hz;refine⟨⟨xs,x,g1,hx⟩,fun v H2 ⟨T,hT,ev,hh⟩=>?_⟩;have e2:=hh xs x g1 hx;subst e2;obtain⟨HV,Ib⟩:=rel.newF (u:=.tup [.int (i:Int),x]) hT;refine⟨_,?_,HV,Ib⟩;rw[Rep];exact⟨T,[.int (i:Int),x],ev,aH,.cons (by rw[Rep]) (.one (Rep.mono (gg.trans Ib.gg) rx))⟩
 ·unfold sS at e;rw[U8,List.length_zipIdx]at e;rw[r1.length];exact e
theorem vD(k:Bool){L5:List Expr}{kt:Nat}{pt:Pos}{e1:Expr}{fs:FOs}{p pos:Pos}(hg:Gl X "enumerate")(hm:X.mg "enumerate" = none)(ha:M4 X [e1] fs)(he:starEach [e1] X.env=[(false,eval e1 X.env)]:=by rfl):
  QI X (.Tuple L5 kt pt) (.Call (.Name "enumerate" p) [e1] [] pos) (qU k fs):=
 js (Ak k hg hm ha he) fun σ H R Ig=>by
  obtain⟨G,env,fp,ds,env',rel,e,kk⟩:=Ig;obtain⟨⟨o,HU⟩,e1,e⟩:=ai e;dsimp only at e;split at e
  ·rename_i d1;obtain⟨a,ea,e⟩:=ai e;cases e;refine⟨G,env,fp,_,_,rel,e1,fun vs H1 G1 IF Im HW Ko=>?_⟩;obtain⟨y,ys,ev,v1,e3⟩:=Ko;have e3:ys=[]:=e3;subst e3;obtain⟨p1,Tb,Tc,q1,r1⟩:=mn ea v1;subst Tc;exact⟨p1,Tb,ev,i9 HW.gh q1,kk _ H1 G1 IF Im HW (vC q1 r1)⟩
  ·cases e
def ju(fs:FOs):FI:=Kq (qU true fs) (qU false fs)
theorem mL{L5:List Expr}{kt:Nat}{pt:Pos}{e1:Expr}{fs:FOs}{p pos:Pos}(hg:Gl X "enumerate")(hm:X.mg "enumerate" = none)(ha:M4 X [e1] fs)(he:starEach [e1] X.env=[(false,eval e1 X.env)]:=by rfl):
  QI X (.Tuple L5 kt pt) (.Call (.Name "enumerate" p) [e1] [] pos) (ju fs):=uU (vD true hg hm ha he) (vD false hg hm ha he)
end
end PV
namespace PV
variable{K:W.Frag}{G H:Hp}
section
theorem AllO.length{P:D->V->List Addr->Prop}:∀{ds:List D}{xs:List V}{fp:List Addr},AllO P ds xs fp->xs.length=ds.length
 |[],xs,fp,r=>by
  rw[r.1];rfl
 |d'::ds,xs,fp,r=>by
  obtain⟨y,ys,a1,b1,e1,e2,p,r⟩:=r;subst e1;rw[Vb,Vb,r.length]
end
variable{md:Mode}{X:Cx}{scope:Scope}{N:List Str}{elt iter tg:Expr}{ifs:List Expr}{pos:Pos}{fi:FI}{a:FG}{c:FT}{f:FX}
section
end
variable{x:Str}{fb:FX}
section
variable{p Pp:Pos}{e1 e2 e3:Expr}{fo:FO}
end
section
variable{p p1 p2 q1 q2:Pos}{o o':Expr}{j1 j2:_}
end
section
end
section
variable{a b:Expr}{fa:FX}
end
section
end
section
end
variable{e:Expr}
section
def FE(f:FX):FX:=fun env=>(f (env.map frz)).bind fun p=>.ok (p.1,if aP p.1.1 p.1.2 then env else env.map frz)
def AN(f:FT):FT:=fun env=>(f (env.map frz)).bind fun p=>.ok (p.1,env)
theorem FH(h:QE X e f):QE X e (FE f):=bD h fun σ H Q Ig=>by
 obtain⟨G,env,fp,r,env',rel,e,k⟩:=Ig;obtain⟨⟨r1,HU⟩,e1,e⟩:=ai e;obtain⟨G1,g1,Ts,Jt,hE,Jc⟩:=rel.lend;refine⟨G1,env.map frz,[],r1,HU,⟨hE,WU,(fun _ h=>nomatch h),Ts⟩,e1,fun v H' G' HZ st IS=>?_⟩;obtain⟨a,LP,Ol⟩:=IS.only;obtain⟨k1,k2⟩:=Jc H' G' a r1 v (st.trans Ol) LP;have e:Res.ok (r1,if aP r1.1 r1.2 then env else env.map frz)=.ok (r,env'):=e;by_cases hc:aP r1.1 r1.2=true
 ·rw[U2 hc]at e;cases e;obtain⟨G6,Mk,M7,Ks⟩:=k1 hc;exact k v H' G6 Mk M7 Ks
 ·rw[U9 hc]at e;cases e;obtain⟨G6,Mk,M7,Ks⟩:=k2;exact k v H' G6 Mk M7 Ks
theorem AO{f:FT}(h:QT X e f):QT X e (AN f):=oi h fun σ H Q Ig=>by
 obtain⟨G,env,fp,b,env',rel,e,k⟩:=Ig;obtain⟨⟨b1,HU⟩,e1,e⟩:=ai e;cases e;obtain⟨G1,g1,Ts,Jt,hE,Jc⟩:=rel.lend;refine⟨G1,env.map frz,[],b1,HU,⟨hE,WU,(fun _ h=>nomatch h),Ts⟩,e1,fun H' G' HZ st IS=>?_⟩;have rl:Rel X.K G' H' [some (.f,.bl b1)] [some (.bl b1)] []:=(IS.nilF).push (by rw[Rep]);obtain⟨k1,_⟩:=Jc H' G' [] (.f,.bl b1) (.bl b1) (st.trans (Step.cut fun _ h=>nomatch h)) rl;obtain⟨G6,Mk,M7,Ks⟩:=k1 rfl;obtain⟨bb,Kt,Oj⟩:=Ks.drop;exact k H' G6 bb (M7.trans Oj) Kt
end
section
end
section
variable{a b:Expr}{fa:FX}
end
section
variable{Pp:Pos}
end
variable{C:Addr}
section
variable{aU a b:List Stmt}{ct:Expr}
end
section
variable{y:Str}{p pos' IG:Pos}{es:List Expr}{F:List D->Bool}{fs:FOs}{k:Nat}{aU:List Stmt}{Ww:Hp->Prop}
end
variable{i j:Nat}
section
variable{a:Addr}{jc:Nat}{x1 x2:BExp}{e1 e2 vc:Expr}{n nc:Str}{pos1 KL pos' pos'' bp p:Pos}
end
section
variable{xe:FXE}
end
section
end
section
end
section
end
section
def Hv:D->D->Res R
 | .int i,.int j=>if j≠0/\j.natAbs<2 ^ 1000 then .ok (.f,.int (i.fdiv j)) else .bad
 |_,_=>.bad
def Dm:D->D->Res R
 | .int i,.int j=>if j≠0 then .ok (.f,.int (i.fmod j)) else .bad
 |_,_=>.bad
theorem AQ:IW X (binaryOp .Mod) (rG X.K Dm):=by
 rintro pr s σ H x y v u Q I rx ry ⟨G,fp,es,vs,a,b,r,⟨rel,k⟩,va,vb,e⟩;unfold Dm at e;split at e
 ·rename_i i j;split at e
  ·rename_i hc;cases e;cases bJ va;cases bJ vb;exact zM pr s σ H _ _ v u Q I rx ry ⟨i,j,rfl,rfl,hc,k _ H G fp .refl (rel.push (rep_int _))⟩
  ·cases e
 ·cases e
end
section
variable{l:Expr}{g fj:FI}
theorem vE{y:Str}{py Kh:Pos}(ix:List (Option Nat))(N:List Str)(hN:X.N.Nodup)(Ob:X.N[i]?=some y)(hy:Loc X.env.scope y)(hc:X.calm=true)(hi:Oi X tg iter fi)(hg:∀C s H fp pn,QG (br X scope N C s H fp pn) tg a)(ht:∀C s H fp pn,N2 (br X scope N C s H fp pn) ifs c)
  (he:∀C s H fp pn,QE (br X scope N C s H fp pn) elt f) (Nn:swapsWith (.ListComp elt [⟨tg,iter,ifs,0⟩] scope pos) (some (.Name y py)) Kh.line X.env=pure true:=by rfl)
  (hf:cT scope X.env=true:=by rfl) (hk:scope.kind=.function:=by rfl) (Ih:∀y∈scope.names,y.2=.cell->scope.names.lookup y.1=some .cell:=by decide +kernel) (Io:∀y∈scope.names,y.2=.local->scope.names.lookup y.1=some .local:=by decide +kernel) (Ji:lq X scope N ix=true:=by rfl)
  (hs:∀x,foldedSetIterable iter X.env x=pure x:=by intro _;rfl) (Mj:X.fn y=true\/X.env.scope.names.lookup y=some .local:=by first|exact .inl rfl|exact .inr rfl):
  QS (md:=md) X (.Assign [.Name y py] (.ListComp elt [⟨tg,iter,ifs,0⟩] scope pos) Kh) (bZ i (cS fi ix a c f)):=
 dZ (xB (i:=i) (g:=tQG X.K a) (tc:=tQT X.K c) (te:=tQ X.K f) ix N hN Ob hy hc hi hg ht he Nn hf hk Ih Io Ji hs Mj) fun D σ H ⟨G,env,fp,rel,k⟩=>qO (mh rel k)
end
open Classical in
def AR(f:Addr->Res Out):Res Out:=if h:∃r,∀p,f p=r then h.choose else .bad
theorem AS{f:Addr->Res Out}{r:Res Out}(h:∀p,f p=r):AR f=r:=by
 have ex:∃r,∀p,f p=r:=⟨r,h⟩
 unfold AR;rw[dif_pos ex];exact(ex.choose_spec 0).symm.trans (h 0)
theorem AU(f:Addr->Res Out):AR f=.bad\/∀p,AR f=f p:=by
 by_cases ex:∃r,∀p,f p=r
 ·right;intro p;unfold AR;rw[dif_pos ex];exact(ex.choose_spec p).symm
 ·left;unfold AR;rw[dif_neg ex]
mutual
noncomputable def noD:D->Bool
 | .tup ds=>vF ds
 | .lst ds=>vF ds
 | .dct _ _ _=>false
 |_=>true
noncomputable def vF:List D->Bool
 |[]=>true
 |d::ds=>noD d&&vF ds
end
def noFD:HO->Bool
 | .frz _ (.dK _)=>false
 |_=>true
def okO(o:O)(d:D):Bool:=match o,d with
 | .f,d=>noD d
 | .l .f,.lst ds=>vF ds
 | .d,.dct _ _ vs=>vF vs
 |_,_=>false
def oO(i:Nat)(env:PV.Env):Bool:=(env.set i none).all fun r=>match r with
 |some r=>okO r.1 r.2
 |none=>true
section
variable{G2 G3:Hp}
theorem Rd.noFD{a:Addr}{u:HO}(h:∀p u,PV.noFD u=true->G2 p=some u->G3 p=some u)(hu:∀o,PV.noFD (.frz o u)=true)(LN:PV.noFD u=true)(r:Rd G2 a u):Rd G3 a u:=by
 rcases r with r|⟨o,r⟩
 ·exact .inl (h _ _ LN r)
 ·exact .inr ⟨o,h _ _ (hu o) r⟩
mutual
theorem Rep.noD(h:∀p u,PV.noFD u=true->G2 p=some u->G3 p=some u):∀{d:D}{v:V},PV.noD d=true->Rep K G2 d v->Rep K G3 d v
 | .non,_,_,r=>by simpa only[Rep] using r
 | .bl _,_,_,r=>by simpa only[Rep] using r
 | .int _,_,_,r=>by simpa only[Rep] using r
 | .str _,_,_,r=>by simpa only[Rep] using r
 | .tup ds,_,e,r=>by
  simp only[Rep]at r ⊢;rw[PV.noD]at e;obtain⟨p,xs,ev,hp,rs⟩:=r;exact⟨p,xs,ev,h _ _ rfl hp,Reps.noD h e rs⟩
 | .lst ds,_,e,r=>by
  simp only[Rep]at r ⊢;rw[PV.noD]at e;obtain⟨p,xs,ev,hp,rs⟩:=r;refine⟨p,xs,ev,?_,Reps.noD h e rs⟩;rcases hp with hp|hp
  ·exact .inl (Rd.noFD h (fun _=>rfl) rfl hp)
  ·exact .inr hp
 | .dct _ _ _,_,e,_=>by
  rw[PV.noD]at e;cases e
theorem Reps.noD(h:∀p u,PV.noFD u=true->G2 p=some u->G3 p=some u):∀{ds:List D}{xs:List V},PV.vF ds=true->Reps K G2 ds xs->Reps K G3 ds xs
 |[],_,_,r=>by simpa only[Reps] using r
 |d::ds,_,e,r=>by
  simp only[Reps]at r ⊢;rw[PV.vF,Ve]at e;obtain⟨y,ys,ev,r1,r2⟩:=r;exact⟨y,ys,ev,Rep.noD h e.1 r1,Reps.noD h e.2 r2⟩
end
theorem RepO.okO(h:∀p u,PV.noFD u=true->G2 p=some u->G3 p=some u){o:O}{d:D}{v:V}{a:List Addr}(e:PV.okO o d=true)(r:RepO K G2 H o d v a):RepO K G3 H o d v a:=by
 unfold PV.okO at e;split at e
 ·obtain⟨r1,r2⟩:=eU.mp r;exact eU.mpr ⟨Rep.noD h e r1,r2⟩
 ·obtain⟨p,xs,ev,hp,ea,rs⟩:=bV.mp r;exact bV.mpr ⟨p,xs,ev,hp,ea,Reps.noD h e rs⟩
 ·rw[RepO]at r ⊢;obtain⟨p,xs,o,ev,hp,dd,ea,rs⟩:=r;exact⟨p,xs,o,ev,hp,dd,ea,Reps.noD h e rs⟩
 ·cases e
theorem RepE.okO(h:∀p u,PV.noFD u=true->G2 p=some u->G3 p=some u):∀{es:PV.Env}{vs:L2.St}{a:List Addr},(∀r,some r∈es->PV.okO r.1 r.2=true)->RepE K G2 H es vs a->RepE K G3 H es vs a
 |[],_,_,_,r=>r
 |none::es,vs,a,hc,r=>by
  obtain⟨y,ys,e,r⟩:=r;exact⟨y,ys,e,RepE.okO h (fun r hr=>hc r (U3 _ hr)) r⟩
 |some x::es,vs,a,hc,r=>by
  obtain⟨y,ys,e,v,a1,b1,e1,e2,r1,r2⟩:=r;exact⟨y,ys,e,v,a1,b1,e1,e2,r1.okO h (hc x UY),RepE.okO h (fun r hr=>hc r (U3 _ hr)) r2⟩
end
variable{p:Addr}{HS:List (Key×V)}{σ:L2.St}{vs:List D}
theorem loan_backO{G' H':Hp}{fp IF HZ:List Addr}{o:Obj}{es:PV.Env}{d':D}(gp:G p=none)(pf:p∈fp)(f1:∀z∈IF,z∈fp)
  (st:Step (upd G p (.frz o (.dK HS))) (upd H p (.frz o (.dK HS))) IF G' H' HZ) (rel:Rel K G' H' es σ HZ) (hi:es[i]?=some (some (.pin p .f,d'))) (cl:oO i es=true) (hf:∀kv∈HS,fitK kv.1) (rs:Reps K G vs (HS.map (·.2))):
  H' p=some (.frz o (.dK HS))/\∃G2 fz,Step G H fp G2 (upd H' p (.dK HS)) fz/\Rel K G2 (upd H' p (.dK HS)) (es.set i (some (.pin p .d,.dct false (HS.map fun kv=>kD kv.1) vs))) σ fz:=by
 have P9:G' p=some (.frz o (.dK HS)):=st.gg p _ aH;refine⟨rel.gh p _ P9,?_⟩;obtain⟨v,fq,ev,g,Im,_⟩:=rel.out hi;have Ib:=st.trans Im;obtain⟨y,ys,e0,v',a,b,e1,e2,r1,r2⟩:=g.rep;cases e0;cases e1;rw[RepO]at r1;obtain⟨ep,r1⟩:=r1;obtain⟨_,ea⟩:=eU.mp r1;subst ea;subst ep;have e2:fq=b:=e2;subst e2;have np:∀z∈fq,z≠p:=fun z hz e=>by
  have:=g.gn z hz;rw[e,P9]at this;cases this
 have Qa:(off G' p) p=none:=U2 rfl;have NB:∀z,z≠p->(off G' p) z=G' z:=fun z h=>U9 h
 have gg:Same G (off G' p):=fun z u e=>by
  have hz:z≠p:=fun h=>by rw[h,gp]at e;cases e
  rw[NB z hz];exact st.gg z u (by rw[aq hz];exact e)
 have rc:RepE K (off G' p) H' (es.set i none) σ fq:=by
  refine RepE.okO (fun z u t e=>?_) (fun r hr=>?_) r2
  ·have hz:z≠p:=fun h=>by rw[h,P9]at e;cases e;cases t
   rw[NB z hz];exact e
  ·have:=VA.mp cl _ hr;exact this
 have HV:Rel K (off G' p) (upd H' p (.dK HS)) (some (.pin p .d,.dct false (HS.map fun kv=>kD kv.1) vs)::es.set i none) (some (.ref p)::σ) (p::fq):=by
  refine⟨⟨some (.ref p),σ,rfl,.ref p,[p],fq,rfl,rfl,?_,rc.step (.refl _) fun z hz=>aq (np z hz)⟩,VP.mpr ⟨fun h=>np p h rfl,g.nd⟩,fun z hz=>?_,fun z u e=>?_⟩
  ·rw[RepO];refine⟨rfl,?_⟩;rw[RepO];exact⟨p,HS.map (·.2),.dK HS,rfl,aH,⟨HS,rfl,rfl,rfl,hf⟩,rfl,Reps.mono gg rs⟩
  ·rcases U6.mp hz with h|h
   ·rw[h];exact Qa
   ·rw[NB z (np z h)];exact g.gn z h
  ·by_cases hz:z=p
   ·rw[hz,Qa]at e;cases e
   ·rw[NB z hz]at e;rw[aq hz];exact rel.gh z u e
 have Tr:Step G H fp (off G' p) (upd H' p (.dK HS)) (p::fq):=by
  refine⟨gg,fun z u e n=>?_,fun z hz=>?_,fun z u e=>?_,fun z u e=>?_⟩
  ·have hz:z≠p:=fun h=>n (h▸pf)
   rw[aq hz];exact Ib.keep z u (by rw[aq hz];exact e) fun h=>n (f1 z h)
  ·rcases U6.mp hz with h|h
   ·exact .inl (h▸pf)
   ·rcases Ib.fpn z h with h2|h2
    ·exact .inl (f1 z h2)
    ·rw[aq (np z h)]at h2;exact .inr h2
  ·by_cases hz:z=p
   ·rw[hz,Qa]at e;cases e
   ·rw[NB z hz]at e;rcases Ib.gnew z u e with h|h|h|⟨t,h⟩
    ·rw[aq hz]at h;exact .inl h
    ·exact .inr (.inl (f1 z h))
    ·rw[aq hz]at h;exact .inr (.inr (.inl h))
    ·rw[aq hz]at h;exact .inr (.inr (.inr ⟨t,h⟩))
  ·by_cases hz:z=p
   ·exact⟨_,by rw[hz,aH]⟩
   ·obtain⟨u',h⟩:=Ib.there z u (by rw[aq hz];exact e);exact⟨u',by rw[aq hz];exact h⟩
 obtain⟨fz,g3,IL⟩:=HV.back (i:=i) (by rw[VI];exact(U1.mp hi).1) ev;rw[WA]at g3;exact⟨_,fz,Tr.trans IL,g3⟩
def vG(i:Nat)(p:Addr)(d:D):Out->Res Out
 | .nx env=>if mK i p env&&oO i env then .ok (.nx (env.set i (some (.d,d)))) else .bad
 |_=>.bad
def vH(i:Nat)(a:FG)(g:FS):FS:=fun env=>match env[i]? with
 |some (some (.d,.dct false ks vs))=>AR fun p=>(eC a g ks (env.set i (some (.pin p .f,.dct false ks vs)))).bind (vG i p (.dct false ks vs))
 |_=>.bad
section
theorem RepE.unpin:∀{es:PV.Env}{vs:List (Option V)}{fp:List Addr}{i:Nat}{p:Addr}{c:O}{d:D},RepE K G H es vs fp->es[i]?=some (some (.pin p c,d))->RepE K G H (es.set i (some (c,d))) vs fp
 |[],_,_,_,_,_,_,_,e=>by simp at e
 |none::es,vs,fp,i,p,c,d,q,e=>by
  cases i with
  |zero=>simp at e
  |succ i=>
   obtain⟨y,ys,ev,q⟩:=q;exact⟨y,ys,ev,RepE.unpin q (by simpa using e)⟩
 |some r::es,vs,fp,i,p,c,d,q,e=>by
  obtain⟨y,ys,ev,v,a,b,e1,e2,r1,r2⟩:=q;cases i with
  |zero=>
   have e:r=(.pin p c,d):=by simpa using e
   subst e;have r1:RepO K G H (.pin p c) d v a:=r1;rw[RepO]at r1;exact⟨y,ys,ev,v,a,b,e1,e2,r1.2,r2⟩
  |succ i=>exact⟨y,ys,ev,v,a,b,e1,e2,r1,RepE.unpin r2 (by simpa using e)⟩
theorem Rel.unpin{es:PV.Env}{vs:List (Option V)}{fp:List Addr}{i:Nat}{p:Addr}{c:O}{d:D}(q:Rel K G H es vs fp)(e:es[i]?=some (some (.pin p c,d))):Rel K G H (es.set i (some (c,d))) vs fp:=⟨q.rep.unpin e,q.nd,q.gn,q.gh⟩
end
theorem loan_outO{fp f1 b0:List Addr}{o:Obj}{i:Nat}{D0:Ends}{r:Res Out}(gp:G p=none)(MR:Step G H fp G H (p::b0))(Pb:∀z∈f1,z∈p::b0)(hf:∀kv∈HS,fitK kv.1)(rs:Reps K G vs (HS.map (·.2)))
  (k:OutOk (md:=md) K G H fp D0 (r.bind (vG i p (.dct false (HS.map fun kv=>kD kv.1) vs)))):OutOk (md:=md) K (upd G p (.frz o (.dK HS))) (upd H p (.frz o (.dK HS))) f1 (Oo p o HS D0) r:=by
 cases r with
 |bad=>exact k
 |exc c=>exact k
 |ok out=>
  have k:OutOk (md:=md) K G H fp D0 (vG i p (.dct false (HS.map fun kv=>kD kv.1) vs) out):=k;unfold vG at k;split at k
  ·rename_i e';split at k
   ·rename_i JI;rw[Ve]at JI;obtain⟨h1,h2⟩:=JI;unfold mK at h1;split at h1
    ·rename_i q' d' N5;rw[Vl]at h1;subst h1;intro σ' H' G' HZ st rl;obtain⟨z,G2,fz,Ib,RT⟩:=loan_backO (G:=G) (H:=H) (fp:=q'::b0) gp UY Pb st rl N5 h2 hf rs;have Iu:=(U1.mp N5).1;have Uk:=RT.unpin (i:=i) (c:=.d) (by rw[Wa Iu]);rw[WA]at Uk;exact⟨z,k σ' _ G2 fz (MR.trans Ib) Uk⟩
    ·cases h1
   ·exact k.elim
  ·exact k.elim
section
theorem AV{body:List Stmt}{g:FS}{pos:Pos}(hp:PassesOwn (model X.prog X.w) X.A X.env X.xe)(hc:X.calm=true)(hn:PE X iter (ql i))(hg:QG X tg a)(hb:M5 (md:=md) X body g)(hs:∀x,foldedSetIterable iter X.env x=pure x:=by intro _;rfl):
  QS (md:=md) X (.For tg iter body [] pos) (vH i a g):=
 dZ (vy (tP hp hc (vv hn) hg hb hs)) fun D0 σ H Ig=>by
  obtain⟨G,env,fp,rel,k⟩:=Ig;unfold vH at k;split at k
  ·rename_i ks vs hi;obtain⟨v,fq,ev,g1,MR,_⟩:=rel.out hi;obtain⟨y,ys,e0,v',a0,b0,e1,e2,r1,r2⟩:=g1.rep;cases e0;cases e1;rw[RepO]at r1;obtain⟨p,xs,o0,Q8,hH,dd,ea,rs⟩:=r1;subst Q8;subst ea;subst e2;rcases AU (fun p=>(eC a g ks (env.set i (some (.pin p .f,.dct false ks vs)))).bind (vG i p (.dct false ks vs))) with eb|eb
   ·rw[eb]at k;exact k.elim
   rw[eb p]at k;clear eb;obtain⟨HS,eo,ek,ex,hf⟩:=(show ∃HS:List (Key×V),o0=.dK HS/\ks=HS.map (fun kv=>kD kv.1)/\xs=HS.map (·.2)/\∀kv∈HS,fitK kv.1 from dd)
   subst eo ex ek;have nd:=VP.mp (show(p::b0).Nodup from g1.nd);have gp:G p=none:=g1.gn p UY;have RU:∀z∈b0,z≠p:=fun z hz e=>nd.1 (e▸hz)
   refine⟨p,HS,hH,fun o=>?_⟩;have RV:Same G (upd G p (.frz o (.dK HS))):=fun z u e=>by rw[aq (aN e gp)];exact e
   have Qb:Rel X.K (upd G p (.frz o (.dK HS))) (upd H p (.frz o (.dK HS))) (some (.pin p .f,.dct false (HS.map fun kv=>kD kv.1) vs)::env.set i none) (some (.ref p)::σ) b0:=by
    refine⟨⟨_,_,rfl,.ref p,[],b0,rfl,rfl,?_,r2.step RV fun z hz=>aq (RU z hz)⟩,nd.2,fun z hz=>?_,fun z u e=>?_⟩
    ·rw[RepO];refine⟨rfl,eU.mpr ⟨?_,rfl⟩⟩;rw[Rep];exact⟨p,HS.map (·.2),.dK HS,rfl,.inr ⟨o,aH⟩,⟨HS,rfl,rfl,rfl,hf⟩,Reps.mono RV rs⟩
    ·rw[aq (RU z hz)];exact g1.gn z (U3 _ hz)
    ·by_cases hz:z=p
     ·subst hz;rw[aH]at e ⊢;exact e
     ·rw[aq hz]at e ⊢;exact g1.gh z u e
   obtain⟨f1,HW,Im⟩:=Qb.back (i:=i) (by rw[VI];exact(U1.mp hi).1) ev;rw[WA]at HW;have Pb:∀z∈f1,z∈p::b0:=fun z hz=>by
    rcases Im.fpn z hz with h|h
    ·exact U3 _ h
    ·exfalso;obtain⟨u,hu⟩:=HW.rep.live z hz;rw[h]at hu;cases hu
   refine⟨.ref p,ev,p,o,HS,rfl,aH,?_⟩;have k1:=loan_outO (o:=o) (G:=G) (H:=H) (fp:=fp) gp MR Pb hf rs k;have wk:Walk X.K (upd G p (.frz o (.dK HS))) (Q9 o HS.length p) (HS.map fun kv=>kD kv.1):=oN aH hf;generalize (HS.map fun kv=>kD kv.1)=ds at k1 wk HW;refine⟨fun j m σ' H'=>m=ds.length-j/\j<=ds.length/\∃G' env' HZ,Same (upd G p (.frz o (.dK HS))) G'/\Rel X.K G' H' env' σ' HZ/\OutOk (md:=md) X.K G' H' HZ (Oo p o HS D0) (eC a g (ds.drop j) env'),⟨_,rfl,VH _,_,_,f1,.refl _,HW,k1⟩,?_⟩;rintro j m σ2 H2 ⟨rfl,hj,G2,Ic,IP,gg,HV,k2⟩;obtain⟨w1,w2⟩:=wk G2 H2 _ _ _ gg HV j;by_cases Iu:j<ds.length
   ·have hd:ds[j]?=some ds[j]:=US Iu;obtain⟨go,yl⟩:=w1 _ hd;rw[VZ Iu]at k2;refine .inr ⟨go,fun σ' H'=>∃G' env' HZ,Same (upd G p (.frz o (.dK HS))) G'/\Rel X.K G' H' env' σ' HZ/\OutOk (md:=md) X.K G' H' HZ (Oo p o HS D0) (eC a g (ds.drop (j+1)) env'),fun σ' H' z=>⟨ds.length-(j+1),by lia,rfl,Iu,z⟩,fun x H3 y=>?_⟩;obtain⟨G3,rx,IQ,IL⟩:=yl x H3 y;unfold eC at k2;match q3:a ds[j] Ic,k2 with
    | .ok IM,k2=>
     refine⟨G3,Ic,IP,ds[j],IM,IQ,rx,q3,fun σ4 G4 RE IZ Jk=>⟨G4,IM,RE,Jk,?_⟩⟩;have k3:OutOk (md:=md) X.K G2 H2 IP (Oo p o HS D0) ((g IM).bind fun o=>match o with | .nx e=>eC a g (ds.drop (j+1)) e | .ct e=>eC a g (ds.drop (j+1)) e | .bk e=>.ok (.nx e) | .rt r=>.ok (.rt r)):=k2;match q4:g IM,k3 with
     | .ok (.nx e),k3=>exact fun σ' H' G' HZ st rel=>⟨G',e,HZ,gg.trans (IL.gg.trans (IZ.gg.trans st.gg)),rel,OutOk.after (IL.trans (IZ.trans st)) k3⟩
     | .ok (.ct e),k3=>exact fun σ' H' G' HZ st rel=>⟨G',e,HZ,gg.trans (IL.gg.trans (IZ.gg.trans st.gg)),rel,OutOk.after (IL.trans (IZ.trans st)) k3⟩
     | .ok (.bk e),k3=>exact fun σ' H' G' HZ st rel=>k3 σ' H' G' HZ (IL.trans (IZ.trans st)) rel
     | .ok (.rt r),k3=>exact fun v H' G' HZ st rel=>k3 v H' G' HZ (IL.trans (IZ.trans st)) rel
   ·have e:j=ds.length:=by lia
    subst e;rw[W5]at k2;exact .inl ⟨w2 rfl,k2 σ2 H2 G2 IP .refl HV⟩
  ·exact k.elim
end
theorem bt_abs:bootBuiltins "abs" = some (.builtin "abs"):=by decide +kernel
def Ex(a:FG)(c:FT)(f:FX)(ds:List D)(E:Addr->PV.Env)(k0:Nat)(d0:D)(x:List D):Prop:=∀q,∃Ic,compLE a c f ds (E q)=.ok (x,Ic)/\Ic[k0]?=some (some (.pin q .d,d0))
open Classical in
def pU(a:FG)(c:FT)(f:FX)(ds:List D)(E:Addr->PV.Env)(k0:Nat)(d0:D):Res (List D):=if h:∃x,Ex a c f ds E k0 d0 x then .ok h.choose else .bad
variable{ds:List D}{E:Addr->PV.Env}{k0:Nat}{d0:D}
theorem xS{x:List D}(h:Ex a c f ds E k0 d0 x):pU a c f ds E k0 d0=.ok x:=by
 have ex:∃x,Ex a c f ds E k0 d0 x:=⟨x,h⟩
 unfold pU;rw[dif_pos ex];obtain⟨e1,h1,_⟩:=ex.choose_spec 0;obtain⟨e2,h3,_⟩:=h 0;rw[h1]at h3;exact V7 Res.ok (V7 Prod.fst (Res.ok.inj h3))
theorem xT{x:List D}(h:pU a c f ds E k0 d0=.ok x):Ex a c f ds E k0 d0 x:=by
 unfold pU at h;split at h
 ·rename_i ex;cases h;exact ex.choose_spec
 ·cases h
noncomputable def lD(fi:FI)(ix:List (Option Nat))(j k0:Nat)(a:FG)(c:FT)(f:FX):FX:=fun env=>(fi env).bind fun p=>match p.2[j]? with
 |some (some (.d,.dct false ks vs))=>(pU a c f p.1 (fun q=>(bG ix (p.2.set j none)).set k0 (some (.pin q .d,.dct false ks vs))) k0 (.dct false ks vs)).bind fun x=>if x.length<=sizeLine/\H0 x=true/\H0 vs=true then .ok ((.l .f,.lst x),p.2) else .bad
 |_=>.bad
theorem Dn{ix:List (Option Nat)}{Q:VK}(hk:ix[k0]?=some (some j))(h:tQ K (lD fi ix j k0 a c f) σ H Q):nS (tQI K fi) ix (tQG K a) (tQT K c) (tQ K f) σ H Q:=by
 obtain⟨G,env,fp,r,env',rel,e,k⟩:=h;obtain⟨⟨ds,HU⟩,e1,e⟩:=ai e;refine⟨G,env,fp,ds,HU,rel,e1,fun J H1 G1 IF Im HW wk D hD=>?_⟩;dsimp only at e;split at e
 ·rename_i ks vs hj
  ·obtain⟨rs,e2,e⟩:=ai e;split at e
   ·rename_i hz;injection e with e;injection e with e5 e6;subst e5;subst e6;obtain⟨v0,aa,b,ev,r0,r2,pm⟩:=HW.rep.take hj;have r0:RepO K G1 H1 .d (.dct false ks vs) v0 aa:=r0;have r00:=r0;rw[RepO]at r0;obtain⟨q,RN,o0,eq,hq,dd0,ea,RO⟩:=r0;subst eq ea;have nd:=Vs.mp (pm.nodup_iff.mp HW.nd);have Lg:Rel K G1 H1 (HU.set j none) σ b:=⟨r2,nd.2.1,fun w hw=>HW.gn w (pm.mem_iff.mpr (UX _ hw)),HW.gh⟩
    obtain⟨G2,Mt,Np,P6,Jt,Jc⟩:=Lg.lendM [q] (fun w hw hb=>nd.2.2 w hw w hb rfl) (fun w hw=>HW.gn w (pm.mem_iff.mpr (U4 _ hw)));have rE:=dy (H:=H1) Jt (fun i r er=>let⟨v,ev,_⟩:=Lg.view er;⟨v,ev⟩) ix;have RP:(bG ix (HU.set j none))[k0]?=some none:=by
     unfold bG;rw[Vg,hk];show some (match(HU.set j none)[j]? with|some (some r)=>some (O.f,r.2)|_=>none)=_;rw[Wa (U1.mp hj).1]
    have KQ:(dn ix σ)[k0]?=some (some (.ref q)):=by
     unfold dn;rw[Vg,hk];show some ((σ[j]?).bind id)=_;rw[ev];rfl
    have rP:RepO K G2 H1 (.pin q .d) (.dct false ks vs) (.ref q) [q]:=by
     rw[RepO];refine⟨rfl,?_⟩;rw[RepO];exact⟨q,RN,o0,rfl,hq,dd0,rfl,RO.mono Mt⟩
    obtain⟨O6,O7,Ny⟩:=rE.put (i:=k0) (r:=(.pin q .d,.dct false ks vs)) (v:=.ref q) RP rP;rw[fB KQ]at O7;have HV:Rel K G2 H1 ((bG ix (HU.set j none)).set k0 (some (.pin q .d,.dct false ks vs))) (dn ix σ) O6:=⟨O7,Ny.symm.nodup_iff.mp (VP.mpr ⟨V1,WU⟩),(fun w hw=>P6 w (by have:=Ny.mem_iff.mp hw;simpa using this)),Np⟩
    have MR:Step G2 H1 [q] G2 H1 O6:=Step.cut fun w hw=>by have:=Ny.mem_iff.mp hw;simpa using this
    obtain⟨IQ,IL⟩:=HV.newL (ds:=[]) (xs:=[]) hD .nil;obtain⟨L8,eL,eK⟩:=xT e2 q;dsimp only at eL eK;refine⟨fun i m σ1 H2=>m=ds.length-i/\i<=ds.length/\∃G' es HZ acc aU,Step G2 H1 [q] G' H2 HZ/\Rel K G' H2 (some (.l .f,.lst acc)::es) (some (.ref D)::σ1) HZ/\compLE a c f (ds.drop i) es=.ok (aU,L8)/\acc++aU=rs,
     ⟨_,rfl,VH _,G2,_,_,[],rs,MR.trans IL,IQ,eL,rfl⟩,?_⟩
    rintro i m σ1 H2 ⟨rfl,hi,G3,es,JU,acc,aU,IZ,Jk,e4,Je⟩;obtain⟨w1,w2⟩:=wk G3 H2 _ _ _ (Mt.trans IZ.gg) Jk i;by_cases Iu:i<ds.length
    ·have hd:ds[i]?=some ds[i]:=US Iu;obtain⟨go,yl⟩:=w1 _ hd;rw[VZ Iu]at e4;unfold compLE at e4;obtain⟨Nw,h1,e4⟩:=ai e4;obtain⟨⟨b',K2⟩,h2,e4⟩:=ai e4;dsimp only at e4;refine .inr ⟨go,fun x H3 y=>?_⟩;obtain⟨G4,rx,Jd,Js⟩:=yl x H3 y;obtain⟨fa,fb,L7,ra,Kr,bk⟩:=Jd.frame;refine⟨G4,es,fb,ds[i],Nw,Kr,rx,h1,fun σ2 G5 MQ M7 Ks=>?_⟩;refine⟨G5,Nw,MQ,b',K2,Ks,h2,fun H6 G6 Mk Oj Kt=>?_⟩;have K3:=M7.trans Oj;cases b' with
     |false=>
      refine iteF ⟨ds.length-(i+1),by lia,rfl,Iu,?_⟩;obtain⟨Jn,JW⟩:=bk G6 H6 K2 σ2 Mk K3 Kt;rw[<-L7]at JW;exact⟨G6,K2,_,acc,aU,IZ.trans (Js.trans JW),Jn,e4,Je⟩
     |true=>
      have e4:((f K2).bind fun q=>(compLE a c f (ds.drop (i+1)) q.2).bind fun rs=>.ok (q.1.2::rs.1,rs.2))=.ok (aU,L8):=e4;obtain⟨⟨r,Mx⟩,h3,e4⟩:=ai e4;obtain⟨⟨K4,O8⟩,h4,e4⟩:=ai e4;cases e4;refine z3 ⟨G6,K2,Mk,r,Mx,Kt,h3,fun v H7 G7 Ti PX My=>?_⟩;obtain⟨G8,PY,rv,Mz,PZ⟩:=My.freeze;obtain⟨Jn,JW⟩:=bk G8 H7 Mx σ2 PY (K3.trans (PX.trans PZ)) Mz;rw[<-L7]at JW;obtain⟨p,xs,ep,hp,LM,cg⟩:=Jn.chg (i:=0) (ds:=acc) (ds':=acc++[r.2]) rfl;have ep:some (some (V.ref D))=some (some (V.ref p)):=ep;cases ep;obtain⟨fq,MA,P0⟩:=cg (xs++[v]) (LM.app (.one rv));refine⟨xs,hp,?_,ds.length-(i+1),by lia,rfl,Iu,G8,Mx,fq,acc++[r.2],K4,IZ.trans (Js.trans (JW.trans P0)),MA,h4,?_⟩
      ·rw[LM.length];have:=V7 List.length Je;rw[VN,Vb]at this;have:=hz.1;lia
      ·rw[<-Je,V2];rfl
    ·have ei:i=ds.length:=by lia
     subst ei;rw[W5]at e4;cases e4;rw[Vu]at Je;subst Je;refine .inl ⟨w2 rfl,?_⟩;obtain⟨fa,fb,L7,ra,Kr,bk⟩:=Jk.frame;obtain⟨v1,Ue,Q8,LP,Ol,_⟩:=Kr.out eK;obtain⟨fx,L9,stx⟩:=LP.only;have PL:v1=.ref q:=by
      obtain⟨y,ys,ey,v2,a2,b2,Nz,O9,Ku,Pa⟩:=L9.rep;cases ey;cases Nz;have Ku:RepO K G3 H2 (.pin q .d) (.dct false ks vs) v1 a2:=Ku;rw[RepO]at Ku;exact Ku.1
     subst PL;obtain⟨Jn,JW⟩:=bk G3 H2 _ _ fx (Ol.trans stx) L9;rw[<-L7]at JW;obtain⟨G5,MQ,Js,Jd⟩:=Jc H2 G3 _ _ _ (IZ.trans JW) Jn (fun w hw=>by
      rcases U6.mp hw with hw|hw
      ·cases hw;rw[aP,dG];exact hz.2.1
      ·rw[VC]at hw;cases hw;rw[aP,aP];exact hz.2.2)
     obtain⟨a1,b1,ef,ro,IA,comb⟩:=Rel.frame Jd;have MC:Rel K G5 H2 (some (.d,.dct false ks vs)::HU.set j none) (some (.ref q)::σ) b1:=IA.unpin (i:=0) rfl;obtain⟨fq,Lh,P7⟩:=MC.back (i:=j) (by rw[VI];exact(U1.mp hj).1) ev;rw[WA]at Lh;obtain⟨Ma,NA⟩:=comb G5 H2 _ _ fq P7 Lh;rw[<-ef]at NA;rw[fB hj]at Ma;exact k _ H2 G5 _ (Im.trans ((Js.perm (fun w=>pm.mem_iff.symm) (fun w hw=>hw)).trans NA)) Ma
   ·cases e
 ·cases e
section
theorem xU(ix:List (Option Nat))(N:List Str)(hc:X.calm=true)(hi:QI X tg iter fi)(hg:∀C s H fp pn,QG (ba X scope N C s H fp pn) tg a)(ht:∀C s H fp pn,N2 (ba X scope N C s H fp pn) ifs c)(he:∀C s H fp pn,QE (ba X scope N C s H fp pn) elt f)
  (P8:ix[k0]?=some (some j):=by rfl)
  (hf:cT scope X.env=true:=by rfl) (hk:scope.kind=.function:=by rfl) (Ih:∀y∈scope.names,y.2≠.cell:=by decide +kernel) (Io:∀y∈scope.names,y.2=.local->scope.names.lookup y.1=some .local:=by decide +kernel) (Ji:lq X scope N ix=true:=by rfl)
  (hs:∀x,foldedSetIterable iter X.env x=pure x:=by intro _;rfl):QE X (.ListComp elt [⟨tg,iter,ifs,0⟩] scope pos) (lD fi ix j k0 a c f):=
 bD (lS (g:=tQG X.K a) (tc:=tQT X.K c) (te:=tQ X.K f) ix N hc hi hg ht he hf hk Ih Io Ji hs) fun _ _ _=>Dn P8
end
end PV
namespace NX
section
open PySem.AutoSeq1 (wpAny_loadPart')
end
end NX
namespace PV
variable{X:Cx}
section
end
section
theorem qV{i:Int}(h:i.natAbs.log2<900000):Builtin.Int.intBits i<=2 ^ 20:=by
 unfold Builtin.Int.intBits;have e:(2:Nat) ^ 20=1048576:=by decide
 split
 ·exact VH _
 ·lia
theorem AW:IW X (binaryOp .Mult) (rI (fun i j=>i.natAbs.log2<900000/\j.natAbs.log2<900000) fun i j=>.int (i*j)):=Po fun _ _ _ _ _ _ _ hc q=>mul_int q (.of_bits (qV hc.1) (qV hc.2))
def kq(a b:D):Res R:=match a,b with
 | .int i,.int j=>if i.natAbs.log2<900000/\j.natAbs.log2<900000 then .ok (.f,.int (i*j)) else .bad
 |a,b=>BH a b
theorem dD:IW X (binaryOp .Mult) (rG X.K kq):=by
 rintro pr s σ H x y v u Q I rx ry ⟨G,fp,es,vs,a,b,r,⟨rel,k⟩,va,vb,e⟩;unfold kq at e;split at e
 ·rename_i i j;split at e
  ·rename_i hc;cases e;cases bJ va;cases bJ vb;exact AW pr s σ H _ _ v u Q I rx ry ⟨i,j,rfl,rfl,hc,k _ H G fp .refl (rel.push (rep_int _))⟩
  ·cases e
 ·exact AF pr s σ H x y v u Q I rx ry ⟨G,fp,es,vs,_,_,r,⟨rel,k⟩,va,vb,e⟩
theorem xV:IW X (binaryOp .FloorDiv) (rI (fun _ j=>j≠0/\j.natAbs.log2<9000) fun i j=>.int (i.fdiv j)):=Po fun _ _ _ _ _ _ _ hc q=>floordiv_int hc.1 q (.inl (PyProof.noPylong_of_log2 hc.2))
def mM:D->D->Res R
 | .int i,.int j=>if j≠0/\j.natAbs.log2<9000 then .ok (.f,.int (i.fdiv j)) else .bad
 |_,_=>.bad
theorem mN:IW X (binaryOp .FloorDiv) (rG X.K mM):=by
 rintro pr s σ H x y v u Q I rx ry ⟨G,fp,es,vs,a,b,r,⟨rel,k⟩,va,vb,e⟩;unfold mM at e;split at e
 ·rename_i i j;split at e
  ·rename_i hc;cases e;cases bJ va;cases bJ vb;exact xV pr s σ H _ _ v u Q I rx ry ⟨i,j,rfl,rfl,hc,k _ H G fp .refl (rel.push (rep_int _))⟩
  ·cases e
 ·cases e
end
variable{K:W.Frag}{H:Hp}
section
variable{G:Hp}
end
variable{md:Mode}
section
end
section
variable{G:Hp}
end
section
end
inductive tQLj(K:W.Frag)(j:Nat)(f:FI)(σ:L2.St)(H:Hp)(R:It->Hp->Prop):Prop
 |mk:∀G env fp ds env',Rel K G H env σ fp->f env=.ok (ds,env')->(∀J H' G' HZ,Step G H fp G' H' HZ->Rel K G' H' env' σ HZ->(∀G2,Same G' G2->(∀(i:Nat) (r:PV.R) (v:V),(env'.set j none)[i]?=some (some r)->σ[i]?=some (some v)->Rep K G2 r.2 v)->Walk K G2 J ds)->R J H')->tQLj K j f σ H R
def Gs(X:Cx)(j:Nat)(tg e:Expr)(f:FI):Prop:=PI X tg e (tQLj X.K j f)
variable{fi:FI}{a:FG}{c:FT}{f:FX}
theorem AX{ix:List (Option Nat)}{j k0:Nat}{σ:L2.St}{Q:VK}(hk:ix[k0]?=some (some j))(h:tQ K (g6 fi ix j k0 a c f) σ H Q):nS (tQLj K j fi) ix (tQG K a) (tQT K c) (tQ K f) σ H Q:=by
 obtain⟨G,env,fp,r,env',rel,e,k⟩:=h;obtain⟨⟨ds,HU⟩,e1,e⟩:=ai e;refine⟨G,env,fp,ds,HU,rel,e1,fun J H1 G1 IF Im HW wk D hD=>?_⟩;dsimp only at e;split at e
 ·rename_i ow d0 hj;split at e
  ·rename_i hlf;obtain⟨⟨rs,d'⟩,e2,e⟩:=ai e;dsimp only at e;split at e
   ·rename_i hz;cases e;obtain⟨v0,aa,b,ev,r0,r2,pm⟩:=HW.rep.take hj;obtain⟨q,RN,eq,hq,ea,RO,mk⟩:=vi hlf r0;subst eq ea;have nd:=Vs.mp (pm.nodup_iff.mp HW.nd);have Lg:Rel K G1 H1 (HU.set j none) σ b:=⟨r2,nd.2.1,fun w hw=>HW.gn w (pm.mem_iff.mpr (UX _ hw)),HW.gh⟩
    obtain⟨G2,Mt,Np,P6,Jt,Jc⟩:=Lg.lendM [q] (fun w hw hb=>nd.2.2 w hw w hb rfl) (fun w hw=>HW.gn w (pm.mem_iff.mpr (U4 _ hw)));have rE:=dy (H:=H1) Jt (fun i r er=>let⟨v,ev,_⟩:=Lg.view er;⟨v,ev⟩) ix;have RP:(bG ix (HU.set j none))[k0]?=some none:=by
     unfold bG;rw[Vg,hk];show some (match(HU.set j none)[j]? with|some (some r)=>some (O.f,r.2)|_=>none)=_;rw[Wa (U1.mp hj).1]
    have KQ:(dn ix σ)[k0]?=some (some (.ref q)):=by
     unfold dn;rw[Vg,hk];show some ((σ[j]?).bind id)=_;rw[ev];rfl
    have rP:RepO K G2 H1 (.pin q (.l .f)) (.lst d0) (.ref q) [q]:=by
     rw[RepO];exact⟨rfl,bV.mpr ⟨q,RN,rfl,hq,rfl,RO.mono Mt⟩⟩
    obtain⟨O6,O7,Ny⟩:=rE.put (i:=k0) (r:=(.pin q (.l .f),.lst d0)) (v:=.ref q) RP rP;rw[fB KQ]at O7;have HV:Rel K G2 H1 ((bG ix (HU.set j none)).set k0 (some (.pin q (.l .f),.lst d0))) (dn ix σ) O6:=⟨O7,Ny.symm.nodup_iff.mp (VP.mpr ⟨V1,WU⟩),(fun w hw=>P6 w (by have:=Ny.mem_iff.mp hw;simpa using this)),Np⟩
    have MR:Step G2 H1 [q] G2 H1 O6:=Step.cut fun w hw=>by have:=Ny.mem_iff.mp hw;simpa using this
    obtain⟨IQ,IL⟩:=HV.newL (ds:=[]) (xs:=[]) hD .nil;obtain⟨L8,eL,eK⟩:=qT e2 q;dsimp only at eL eK;refine⟨fun i m σ1 H2=>m=ds.length-i/\i<=ds.length/\∃G' es HZ acc aU,Step G2 H1 [q] G' H2 HZ/\Rel K G' H2 (some (.l .f,.lst acc)::es) (some (.ref D)::σ1) HZ/\compLE a c f (ds.drop i) es=.ok (aU,L8)/\acc++aU=rs,
     ⟨_,rfl,VH _,G2,_,_,[],rs,MR.trans IL,IQ,eL,rfl⟩,?_⟩
    rintro i m σ1 H2 ⟨rfl,hi,G3,es,JU,acc,aU,IZ,Jk,e4,Je⟩;obtain⟨w1,w2⟩:=wk G2 Mt Jt G3 H2 _ _ _ IZ.gg Jk i;by_cases Iu:i<ds.length
    ·have hd:ds[i]?=some ds[i]:=US Iu;obtain⟨go,yl⟩:=w1 _ hd;rw[VZ Iu]at e4;unfold compLE at e4;obtain⟨Nw,h1,e4⟩:=ai e4;obtain⟨⟨b',K2⟩,h2,e4⟩:=ai e4;dsimp only at e4;refine .inr ⟨go,fun x H3 y=>?_⟩;obtain⟨G4,rx,Jd,Js⟩:=yl x H3 y;obtain⟨fa,fb,L7,ra,Kr,bk⟩:=Jd.frame;refine⟨G4,es,fb,ds[i],Nw,Kr,rx,h1,fun σ2 G5 MQ M7 Ks=>?_⟩;refine⟨G5,Nw,MQ,b',K2,Ks,h2,fun H6 G6 Mk Oj Kt=>?_⟩;have K3:=M7.trans Oj;cases b' with
     |false=>
      refine iteF ⟨ds.length-(i+1),by lia,rfl,Iu,?_⟩;obtain⟨Jn,JW⟩:=bk G6 H6 K2 σ2 Mk K3 Kt;rw[<-L7]at JW;exact⟨G6,K2,_,acc,aU,IZ.trans (Js.trans JW),Jn,e4,Je⟩
     |true=>
      have e4:((f K2).bind fun q=>(compLE a c f (ds.drop (i+1)) q.2).bind fun rs=>.ok (q.1.2::rs.1,rs.2))=.ok (aU,L8):=e4;obtain⟨⟨r,Mx⟩,h3,e4⟩:=ai e4;obtain⟨⟨K4,O8⟩,h4,e4⟩:=ai e4;cases e4;refine z3 ⟨G6,K2,Mk,r,Mx,Kt,h3,fun v H7 G7 Ti PX My=>?_⟩;obtain⟨G8,PY,rv,Mz,PZ⟩:=My.freeze;obtain⟨Jn,JW⟩:=bk G8 H7 Mx σ2 PY (K3.trans (PX.trans PZ)) Mz;rw[<-L7]at JW;obtain⟨p,xs,ep,hp,LM,cg⟩:=Jn.chg (i:=0) (ds:=acc) (ds':=acc++[r.2]) rfl;have ep:some (some (V.ref D))=some (some (V.ref p)):=ep;cases ep;obtain⟨fq,MA,P0⟩:=cg (xs++[v]) (LM.app (.one rv));refine⟨xs,hp,?_,ds.length-(i+1),by lia,rfl,Iu,G8,Mx,fq,acc++[r.2],K4,IZ.trans (Js.trans (JW.trans P0)),MA,h4,?_⟩
      ·rw[LM.length];have:=V7 List.length Je;rw[VN,Vb]at this;have:=hz.1;lia
      ·rw[<-Je,V2];rfl
    ·have ei:i=ds.length:=by lia
     subst ei;rw[W5]at e4;cases e4;rw[Vu]at Je;subst Je;refine .inl ⟨w2 rfl,?_⟩;obtain⟨fa,fb,L7,ra,Kr,bk⟩:=Jk.frame;obtain⟨v1,Ue,Q8,LP,Ol,_⟩:=Kr.out eK;obtain⟨fx,L9,stx⟩:=LP.only;have PL:v1=.ref q:=by
      obtain⟨y,ys,ey,v2,a2,b2,Nz,O9,Ku,Pa⟩:=L9.rep;cases ey;cases Nz;have Ku:RepO K G3 H2 (.pin q (.l .f)) (.lst d') v1 a2:=Ku;rw[RepO]at Ku;exact Ku.1
     subst PL;obtain⟨Jn,JW⟩:=bk G3 H2 _ _ fx (Ol.trans stx) L9;rw[<-L7]at JW;obtain⟨G5,MQ,Js,Jd⟩:=Jc H2 G3 _ _ _ (IZ.trans JW) Jn (fun w hw=>by
      rcases U6.mp hw with hw|hw
      ·cases hw;rw[aP,dG];exact hz.2.1
      ·rw[VC]at hw;cases hw;rw[aP,aP,dG];exact hz.2.2)
     obtain⟨a1,b1,ef,ro,IA,comb⟩:=Rel.frame Jd;have MC:Rel K G5 H2 (some (ow,.lst d')::HU.set j none) (some (.ref q)::σ) b1:=by
      obtain⟨y2,Ug,RQ,v2,a2,b2,Nz,O9,Ku,Pa⟩:=IA.rep;cases RQ;cases Nz;have Ku:RepO K G5 H2 (.pin q (.l .f)) (.lst d') (.ref q) a2:=Ku;rw[RepO]at Ku;obtain⟨q',zs,Tp,N5,Tq,rz⟩:=bV.mp Ku.2;cases Tp;subst Tq;have r3:RepO K G1 H1 ow (.lst d0) (.ref q) [q]:=r0;refine⟨⟨_,_,rfl,_,[q],b2,rfl,O9,?_,Pa⟩,IA.nd,IA.gn,IA.gh⟩;show RepO K G5 H2 ow (.lst d') (.ref q) [q];unfold isLf at hlf;split at hlf
      ·exact bV.mpr ⟨q,zs,rfl,N5,rfl,rz⟩
      ·rw[RepO]at r3 ⊢;exact⟨r3.1,bV.mpr ⟨q,zs,rfl,N5,rfl,rz⟩⟩
      ·cases hlf
     obtain⟨fq,Lh,P7⟩:=MC.back (i:=j) (by rw[VI];exact(U1.mp hj).1) ev;rw[WA]at Lh;obtain⟨Ma,NA⟩:=comb G5 H2 _ _ fq P7 Lh;rw[<-ef]at NA;exact k _ H2 G5 _ (Im.trans ((Js.perm (fun w=>pm.mem_iff.symm) (fun w hw=>hw)).trans NA)) Ma
   ·cases e
  ·cases e
 ·cases e
section
variable{scope:Scope}{N:List Str}{tg iter elt l:Expr}{ifs:List Expr}{pos:Pos}{j k0:Nat}
theorem xW{i:Nat}(h:PE X l (ql i))(Ms:j≠i:=by decide):Gs X j tg l (eE i):=js (pD h) fun σ H R Ig=>by
 obtain⟨G,env,fp,ds,env',rel,e,k⟩:=Ig;unfold eE at e;split at e
 ·rename_i o ds hr;cases e;obtain⟨v,ev,rv⟩:=rel.view hr;obtain⟨p,xs,RI,sq,rs⟩:=bw rv;refine⟨v,ev,p,RI,⟨xs,sq⟩,k _ H G fp .refl rel fun G2 gg Jt=>?_⟩;obtain⟨p',Jj,Nx,JG,JT⟩:=bw (Jt i _ v (by rw[XE Ms];exact hr) ev);rw[RI]at Nx;cases Nx;exact j6 JG JT
 ·cases e
theorem vI(ix:List (Option Nat))(N:List Str)(hc:X.calm=true)(hi:Gs X j tg iter fi)(hg:∀C s H fp pn,QG (ba X scope N C s H fp pn) tg a)(ht:∀C s H fp pn,N2 (ba X scope N C s H fp pn) ifs c)(he:∀C s H fp pn,QE (ba X scope N C s H fp pn) elt f)
  (P8:ix[k0]?=some (some j):=by rfl)
  (hf:cT scope X.env=true:=by rfl) (hk:scope.kind=.function:=by rfl) (Ih:∀y∈scope.names,y.2≠.cell:=by decide +kernel) (Io:∀y∈scope.names,y.2=.local->scope.names.lookup y.1=some .local:=by decide +kernel) (Ji:lq X scope N ix=true:=by rfl)
  (hs:∀x,foldedSetIterable iter X.env x=pure x:=by intro _;rfl):QE X (.ListComp elt [⟨tg,iter,ifs,0⟩] scope pos) (g6 fi ix j k0 a c f):=
 bD (lS (g:=tQG X.K a) (tc:=tQT X.K c) (te:=tQ X.K f) ix N hc hi hg ht he hf hk Ih Io Ji hs) fun _ _ _=>AX P8
end
end PV
namespace LW
open PV
abbrev yX(f:FX):FI:=Kq (CQ f) (gd f)
def oP:FS:=(fC (bH yQ (af (ao (cS (oB (af (ao (aK 0)) (af (ao (aK 1)) aw))) [none,none] (iZ 2 (aJ (ax 0) (aJ (ax 1) c9))) dX (aG kq (aj 0) (aj 1)))) aw)))
def cw:List D->Res R:=fBody 2 0 oP
noncomputable def qW:FS:=(fC (bH g0 (af (ao (cS (cM (aj 2)) [none,some 0,some 1] (ax 0) dX (bH yQ (af (ao (cS (oB (af (ao (aK 1)) (af (ao (aK 2)) aw))) [none,none,some 0] (iZ 2 (aJ (ax 0) (aJ (ax 1) c9))) dX (aG kq (ao (aG IK (aj 0) (aj 2))) (aj 1)))) aw)))) aw)))
def fD:List D->Res R:=fBody 3 0 qW
def aT:FS:=(sSeq (bZ 2 (aG Dm (aj 0) (aj 1)))
  (sSeq (bZ 0 (aK 1))
  (bZ 1 (aK 2))))
def d7:FS:=(cP (Iz (aV K1 (aj 1) (ao (aE (.int 0)))))
  aT 100000)
def dO:FS:=(fC (bH BG (af (aj 0) aw)))
def fX:FS:=(sSeq d7
  dO)
def aZ:List D->Res R:=fBody 2 1 fX
def fE:FS:=(bZ 1 (dv aZ (af (aj 1) (af (aj 2) aw))))
def lE:FS:=(tu (yX (aK 0)) (ax 2)
  fE)
def ku:FS:=(sSeq (JD (Iz (aV Ja (aj 1) (ao (aE (.int 0)))))
  (fC (j0 0))
  cE)
  (fC (bH g0 (af (ao (cS (Kq (eE 0) (gd (aK 0))) [none,some 1] (ax 0) dX (aG mM (aj 0) (aj 1)))) aw))))
def qX:FS:=(sSeq (bZ 1 (aE (.int 0)))
  (sSeq lE
  ku))
def cJ:List D->Res R:=fBody 1 2 qX
noncomputable def oQ:FS:=(sSeq (JD (Iz (aV Ja (ao (aG IK (aj 0) (aj 1))) (ao (aE (.int 0)))))
  (fC (j0 0))
  cE)
  (fC (dv fD (af (ao (gO (aD (aK 0) (aD (aK 2) bt)))) (af (ao (gO (aD (aG IK (aj 2) (aj 1)) (aD (oA (ao (aG IK (aj 0) (aj 1)))) bt)))) (af (ao (bH gj (af (aj 0) aw))) aw))))))
def cV:List D->Res R:=fBody 3 0 oQ
def cK:FS:=(C5 3 (aK 4) (dv cJ (af (ao (dv cV (af (ao (aG N4 (aj 0) (aj 4))) (af (aj 1) (af (aj 2) aw))))) aw)))
def dP:FS:=(oK 0 (ax 4)
  cK)
def fY:FS:=(sSeq (C5 3 (aK 1) (aK 2))
  (ko 0 (j0 3)))
def iJ:FS:=(sSeq (bZ 3 (eNewD false))
  (sSeq dP
  fY))
def bN:Addr->List D->Res R:=g5 3 2 (.d) iJ
def cW:FS:=(bZ 3 (dv cV (af (aj 3) (af (aj 4) (af (ao (aG N4 (aj 1) (aj 4))) aw)))))
def eF:FS:=(vH 1 (ax 4)
  cW)
noncomputable def bQ:FS:=(sSeq (bZ 5 (cS (ju (af (ao (aK 3)) aw)) [none,none] (iZ 2 (aJ (ax 0) (aJ (ax 1) c9))) (Iz (aV K1 (aj 1) (ao (aE (.int 0))))) (aK 0)))
  (JD (Iz (aG Of (ao (bH gj (af (aj 5) aw))) (ao (aE (.int 0)))))
  (bZ 1 (eFunW (.d) bN 1 (af (aj 1) (af (ao (aG IK (aj 5) (ao (aE (.int 0))))) (af (ao (dv cJ (af (aj 3) aw))) aw)))))
  cE))
def cx:FS:=(sSeq (bZ 3 (aK 2))
  (sSeq eF
  bQ))
def g7:FS:=(tu (yX (aK 0)) (ax 2)
  cx)
def gx:FS:=(fC (j0 1))
def jv:FS:=(sSeq (bZ 1 (eNewD false))
  (sSeq g7
  gx))
def aR:List D->Res R:=fBody 1 5 jv
def dQ:FS:=(oE 6 (aK 4) (aG kq (ao (oA (ao (aG IK (ao (aG N4 (aj 0) (aj 4))) (aj 1))))) (ao (aG mM (aj 3) (ao (aG IK (ao (aG N4 (aj 0) (aj 4))) (aj 4)))))))
def eG:FS:=(oK 0 (ax 4)
  dQ)
def gy:FS:=(ko 0 (dv cJ (af (ao (bH g0 (af (aj 6) aw))) aw)))
def dR:FS:=(sSeq (bZ 5 (aG IK (ao (aG N4 (aj 0) (aj 4))) (aj 4)))
  (bZ 3 (aG mM (ao (bH BG (af (ao (aG kq (aj 3) (aj 5))) aw))) (ao (dv aZ (af (aj 3) (af (aj 5) aw)))))))
def eI:FS:=(oK 0 (ax 4)
  dR)
def gA:FS:=(sSeq (bZ 6 (aG kq (ao (gO (aD (aE (.int 0)) bt))) (aj 2)))
  (sSeq (oE 6 (aK 1) (aK 3))
  (sSeq eG
  gy)))
def jw:FS:=(sSeq (bZ 3 (aE (.int 1)))
  (sSeq eI
  gA))
def aO:Addr->List D->Res R:=g5 3 4 (.d) jw
def qY:FS:=(sSeq (bZ 2 (dv aR (af (aj 0) aw)))
  (fC (lD (cM (aj 1)) [none,some 2,some 1] 2 1 (ax 0) (Iz (aV oF (aj 0) (aj 1))) (eFunW (.d) aO 1 (af (aj 1) (af (aj 0) (af (aj 2) aw)))))))
def gR:List D->Res R:=fBody 2 1 qY
def iK:FS:=(sSeq (bZ 2 (dv aR (af (aj 0) aw)))
  (sSeq (JD (Iz (aV RK (ao (aG tw (aj 1) (ao (aE (.int 1))))) (aj 2)))
  (fC (aE .non))
  cE)
  (fC (eFunW (.d) aO 2 (af (aj 2) (af (ao (aG tw (aj 1) (ao (aE (.int 1))))) (af (aj 1) aw)))))))
def bz:List D->Res R:=fBody 2 1 iK
noncomputable def kx:FS:=(sSeq (bZ 2 (aG i4 (ao (bH pN (af (aj 0) aw))) (ao (gO (aD (aK 1) bt)))))
  (sSeq (bZ 3 (cS (cM (ao (bH gj (af (aj 1) aw)))) [none,some 2] (ax 0) dX (bH g0 (af (ao (cS (Kq (eE 1) (gd (aK 1))) [none,some 0] (ax 0) dX (aG IK (aj 0) (aj 1)))) aw))))
  (sSeq (bZ 4 (dv bz (af (aj 3) (af (ao (bH gj (af (aj 2) aw))) aw))))
  (sSeq (JD (Iz (aV N3 (aj 4) (ao (aE .non))))
  (fC (mr (aD (aE (.str [114,111,119])) (aD (aG IK (ao (cS (yX (dv gR (af (aj 0) (af (ao (bH gj (af (aj 1) aw))) aw)))) [none,some 1] (ax 0) (Iz (aV K1 (ao (dv cw (af (aj 0) (af (aj 1) aw)))) (ao (aE (.int 0))))) (aK 0))) (ao (aE (.int 0)))) bt))))
  cE)
  (fC (mr (aD (aE (.str [115,117,109])) (aD (aG IK (aj 4) (ao (oA (ao (aE (.int 1)))))) (aD (cS (yX (BE (aj 4) sN (sO (oA (ao (aE (.int 1))))))) [none] (ax 0) dX (oA (aj 0))) bt)))))))))
def bR:List D->Res R:=fBody 2 3 kx
def b6:FS:=(JD (AN (Iz (aV Ja (ao (aG IK (ao (dv bR (af (ao (cS (Kq (eE 1) (gd (aK 1))) [none,some 0] (ax 0) dX (aG IK (aj 1) (aj 0)))) (af (aj 3) aw)))) (ao (aE (.int 0))))) (ao (aE (.str [114,111,119]))))))
  (oj (BD 1 (aK 2)))
  cE)
def gB:FS:=(tu (ju (af (ao (aK 0)) aw)) (iZ 2 (aJ (ax 2) (aJ (ax 3) c9)))
  b6)
def fZ:FS:=(fC (j0 1))
def iL:FS:=(sSeq (bZ 1 (gO bt))
  (sSeq gB
  fZ))
def cA:List D->Res R:=fBody 1 3 iL
def ky:FS:=(fC (dv bz (af (ao (cS (Kq (eE 0) (gd (aK 0))) [none] (ax 0) dX (aG i4 (aj 0) (ao (mr (aD (oA (ao (aE (.int 1)))) bt)))))) (af (ao (aG i4 (aj 1) (ao (aE (.int 1))))) aw))))
def cy:List D->Res R:=fBody 2 0 ky
def bu:FS:=(JD (Iz (aG LO (ao (dv cw (af (aj 3) (af (ao (BE (aj 1) sN (sO (oA (ao (aE (.int 1))))))) aw)))) (ao (aG IK (aj 1) (ao (oA (ao (aE (.int 1)))))))))
  (fC (j0 2))
  cE)
def dS:FS:=(tu (ju (af (ao (aK 0)) aw)) (iZ 2 (aJ (ax 2) (aJ (ax 3) c9)))
  bu)
def jI:FS:=(fC (aE .non))
def iM:FS:=(sSeq dS
  jI)
def bA:List D->Res R:=fBody 2 2 iM
def eY:FS:=(oE 6 (aK 7) (oA (aj 8)))
def oR:FS:=(tu (oB (af (ao (aK 2)) (af (ao (aG IK (aj 5) (ao (aE (.int 2))))) aw))) (iZ 2 (aJ (ax 7) (aJ (ax 8) c9)))
  eY)
noncomputable def df:FS:=(sSeq (bZ 9 (cS (Kq (eE 2) (gd (aK 2))) [none,some 6] (ax 0) (Iz (aG LO (ao (aG IK (aj 1) (aj 0))) (ao (aE (.int 0))))) (aK 0)))
  (sSeq (JD (Iz (aV Ja (ao (bH gj (af (aj 9) aw))) (ao (aE (.int 0)))))
  (fC (mr (aD (aE (.str [115,117,109])) (aD (aK 6) bt))))
  cE)
  (bZ 2 (bH ki (af (ao (aG i4 (ao (cS (Kq (eE 2) (gd (aK 2))) [none,some 9] (ax 0) (Iz (aV K1 (aj 0) (ao (aG IK (aj 1) (ao (aE (.int 0))))))) (aK 0))) (ao (gO (aD (aK 4) bt))))) aw)))))
noncomputable def cQ:FS:=(sSeq (bZ 3 (dv cy (af (ao (cS (Kq (eE 2) (gd (aK 2))) [none,some 0] (ax 0) dX (aG IK (aj 1) (aj 0)))) (af (aj 1) aw))))
  (sSeq (bZ 4 (dv bA (af (aj 0) (af (aj 3) aw))))
  (sSeq (JD (Iz (aV N3 (aj 4) (ao (aE .non))))
  (fC (mr (aD (aE (.str [114,111,119])) (aD (BE (aj 3) sN (sO (oA (ao (aE (.int 1)))))) bt))))
  cE)
  (sSeq (bZ 5 (dv bR (af (ao (cS (Kq (eE 2) (gd (aK 2))) [none,some 0] (ax 0) dX (aG IK (aj 1) (aj 0)))) (af (ao (aG IK (aj 0) (aj 4))) aw))))
  (sSeq (bZ 6 (aG kq (ao (gO (aD (aE (.int 0)) bt))) (ao (bH gj (af (aj 0) aw)))))
  (sSeq (oE 6 (aK 4) (aG IK (aj 5) (ao (aE (.int 1)))))
  (sSeq oR
  df)))))))
def oS:FS:=(cP (Iz (aE (.bl true)))
  cQ 100000)
def vJ:FS:=(sSeq (bZ 2 (dv cA (af (aj 0) aw)))
  oS)
def fF:List D->Res R:=fBody 2 8 vJ
def dg:FS:=(sSeq (bZ 3 (aG jF (ao (aG i4 (ao (aG i4 (ao (aG kq (aj 3) (aj 3))) (ao (aG kq (ao (aE (.int 48271))) (aj 3))))) (ao (bH gj (af (aj 2) aw))))) (ao (aE (.int 2147483647)))))
  (oj (BD 2 (aK 3))))
def f6:FS:=(cP (Iz (aG LO (ao (bH gj (af (aj 2) aw))) (aj 1)))
  dg 100000)
def eZ:FS:=(fC (bH Eu (af (aj 2) aw)))
noncomputable def g8:FS:=(sSeq (bZ 2 (cS (yX (BE (aj 0) sN (sO (aK 1)))) [none] (ax 0) dX (aG jF (aj 0) (ao (aG uP (ao (aE (.int 10))) (ao (aE (.int 59))))))))
  (sSeq (bZ 3 (aG i4 (ao (aE (.int 48271))) (ao (aG jF (ao (bH yQ (af (aj 2) aw))) (ao (aE (.int 2147483647)))))))
  (sSeq f6
  eZ)))
def b8:List D->Res R:=fBody 2 2 g8
def kz:FS:=(sSeq (JD (Iz (aV Ja (aj 0) (ao (gO bt))))
  (ko 0 (aE (.int 0)))
  cE)
  (ko 0 (aG jF (ao (ePop 0)) (aj 1))))
def aI:Addr->List D->Res R:=g5 2 0 (.l .f) kz
noncomputable def iN:FS:=(sSeq (bZ 1 (eFunW (.l .f) aI 0 (af (aj 0) (af (ao (aG uP (ao (aE (.int 10))) (ao (aE (.int 59))))) aw))))
  (sSeq (JD (Iz (aV Ja (ao (aG jF (aj 1) (ao (aE (.int 4))))) (ao (aE (.int 3)))))
  (ko 0 (aG tw (ao (aG jF (ao (aG pL (aj 1) (ao (aE (.int 4))))) (ao (aG i4 (ao (aG kq (ao (aE (.int 2))) (ao (aG uP (ao (aE (.int 10))) (ao (aE (.int 30))))))) (ao (aE (.int 1))))))) (ao (aG uP (ao (aE (.int 10))) (ao (aE (.int 30)))))))
  cE)
  (ko 0 (aG tw (ao (aG jF (ao (aG pL (aj 1) (ao (aE (.int 4))))) (ao (aE (.int 7))))) (ao (aE (.int 3)))))))
def bO:Addr->List D->Res R:=g5 1 1 (.l .f) iN
def lF:FS:=(ko 0 (bH g0 (af (ao (g6 (cM (aj 1)) [none,some 0] 0 1 (ax 0) dX (eFunW (.l .f) bO 1 (af (aj 1) aw)))) aw)))
def bS:Addr->List D->Res R:=g5 2 0 (.l .f) lF
def dh:FS:=(bZ 2 (aG i4 (aj 2) (ao (aG kq (ao (aG IK (aj 0) (aj 3))) (ao (aG IK (aj 1) (aj 3)))))))
def f7:FS:=(tu (cM (ao (bH gj (af (aj 0) aw)))) (ax 3)
  dh)
def e9:FS:=(fC (j0 2))
def g9:FS:=(sSeq (bZ 2 (aE (.int 0)))
  (sSeq f7
  e9))
def aS:List D->Res R:=fBody 2 2 g9
def fG:FS:=(oE 3 (aK 6) (aG i4 (ao (aG IK (aj 3) (aj 6))) (ao (aG kq (ao (aG IK (aj 4) (aj 6))) (aj 5)))))
def gC:FS:=(tu (cM (aj 2)) (ax 6)
  fG)
def iO:FS:=gC
def jx:FS:=(tu (oB (af (ao (aK 0)) (af (ao (aK 1)) aw))) (iZ 2 (aJ (ax 4) (aJ (ax 5) c9)))
  iO)
def iP:FS:=(fC (bH g0 (af (aj 3) aw)))
def lG:FS:=(sSeq (bZ 3 (aG kq (ao (gO (aD (aE (.int 0)) bt))) (aj 2)))
  (sSeq jx
  iP))
def bq:List D->Res R:=fBody 3 4 lG
def jy:FS:=(fC (CN (PQ "int" (aj 0)) (Fp (PQ "bool" (aj 0)))))
def m__law_whole:List D->Res R:=fBody 1 0 jy
noncomputable def iQ:FS:=(sSeq (JD (RD (CM (Iz (PQ "tuple" (aj 0)))) (Iz (aV K1 (ao (bH gj (af (aj 0) aw))) (aj 1))))
  (fC (aE (.bl false)))
  cE)
  (fC (aV oF (ao (aE (.bl false))) (ao (cS (Kq (eE 0) (gd (aK 0))) [none] (ax 0) dX (dv m__law_whole (af (aj 0) aw)))))))
def cB:List D->Res R:=fBody 2 0 iQ
noncomputable def d8:FS:=(sSeq (JD (RD (CM (Iz (PQ "list" (aj 0)))) (Iz (aV K1 (ao (bH gj (af (aj 0) aw))) (aj 1))))
  (fC (aE (.bl false)))
  cE)
  (fC (aV oF (ao (aE (.bl false))) (ao (cS (Kq (eE 0) (gd (aK 0))) [none] (ax 0) dX (dv m__law_whole (af (aj 0) aw)))))))
def aX:List D->Res R:=fBody 2 0 d8
noncomputable def fH:FS:=(sSeq (JD (RD (CM (Iz (PQ "tuple" (aj 0)))) (Iz (aV K1 (ao (bH gj (af (aj 0) aw))) (ao (aE (.int 2))))))
  (fC (aE (.str [])))
  cE)
  (sSeq (JD (Am (Iz (aV Ja (ao (aG IK (aj 0) (ao (aE (.int 0))))) (ao (aE (.str [114,111,119]))))) (Iz (dv cB (af (ao (aG IK (aj 0) (ao (aE (.int 1))))) (af (aj 2) aw)))))
  (JD (Iz (aV Ja (ao (cS (Kq (eE 1) (gd (aK 1))) [none,some 0] (ax 0) (Iz (aG LO (ao (dv aS (af (aj 0) (af (ao (aG IK (aj 1) (ao (aE (.int 1))))) aw)))) (ao (aE (.int 1))))) (aK 0))) (ao (gO bt))))
  (fC (aE (.str [114,111,119])))
  cE)
  cE)
  (sSeq (JD (Am (Iz (aV Ja (ao (aG IK (aj 0) (ao (aE (.int 0))))) (ao (aE (.str [115,117,109]))))) (Iz (dv aX (af (ao (aG IK (aj 0) (ao (aE (.int 1))))) (af (ao (bH gj (af (aj 1) aw))) aw)))))
  (JD (Am (Iz (aV Ja (ao (cS (yX (aG IK (aj 0) (ao (aE (.int 1))))) [none] (ax 0) (Iz (aG LO (aj 0) (ao (aE (.int 0))))) (aK 0))) (ao (gO bt)))) (Iz (aV K1 (ao (cS (yX (aG IK (aj 0) (ao (aE (.int 1))))) [none] (ax 0) (Iz (aG Of (aj 0) (ao (aE (.int 0))))) (aK 0))) (ao (gO bt)))))
  (JD (Iz (aV Ja (ao (dv bq (af (aj 1) (af (ao (aG IK (aj 0) (ao (aE (.int 1))))) (af (aj 2) aw))))) (ao (aG vo (ao (mr (aD (aE (.int 0)) bt))) (aj 2)))))
  (fC (aE (.str [115,117,109])))
  cE)
  cE)
  cE)
  (fC (aE (.str []))))))
def bB:List D->Res R:=fBody 3 0 fH
noncomputable def b7:FS:=(sSeq (bZ 5 (dv aS (af (aj 4) (af (aj 1) aw))))
  (sSeq (JD (Iz (aG LO (aj 5) (ao (aE (.int 0)))))
  (bZ 4 (dv bq (af (ao (gO (aD (aK 4) bt))) (af (ao (gO (aD (oA (ao (aE (.int 1)))) bt))) (af (aj 2) aw)))))
  cE)
  (sSeq (JD (Iz (aV Ja (aj 5) (ao (aE (.int 0)))))
  (bZ 4 (dv bq (af (ao (gO (aD (aK 4) (aD (aK 1) bt)))) (af (ao (gO (aD (aE (.int 1)) (aD (aE (.int 1)) bt)))) (af (aj 2) aw)))))
  cE)
  (oj (BD 3 (aK 4))))))
def gD:FS:=(tu (yX (aK 0)) (ax 4)
  b7)
def f9:FS:=(fC (j0 3))
def iR:FS:=(sSeq (bZ 3 (gO bt))
  (sSeq gD
  f9))
def bW:List D->Res R:=fBody 3 3 iR
noncomputable def Dp:FS:=(sSeq (bZ 1 (dv b8 (af (aj 0) (af (ao (aE (.int 80))) aw))))
  (sSeq (bZ 2 (eFunW (.l .f) aI 1 (af (aj 1) (af (ao (aE (.int 5))) aw))))
  (sSeq (bZ 3 (eFunW (.l .f) aI 1 (af (aj 1) (af (ao (aE (.int 10))) aw))))
  (sSeq (JD (Iz (aV Ja (ao (eFunW (.l .f) aI 1 (af (aj 1) (af (ao (aE (.int 6))) aw)))) (ao (aE (.int 1)))))
  (sSeq (bZ 2 (aG IK (ao (gO (aD (aE (.int 5)) (aD (aE (.int 6)) (aD (aE (.int 2)) bt))))) (ao (aG jF (aj 2) (ao (aE (.int 3)))))))
  (bZ 3 (aG IK (ao (gO (aD (aG jF (aj 3) (ao (aE (.int 6)))) (aD (aG jF (aj 3) (ao (aE (.int 6)))) (aD (aE (.int 11)) bt))))) (ao (Dj sR (ao (gO (aD (aE (.int 5)) (aD (aE (.int 6)) (aD (aE (.int 2)) bt))))) (af (aj 2) aw))))))
  cE)
  (sSeq (bZ 4 (g6 (cM (aj 3)) [none,some 1,some 2] 1 1 (ax 0) dX (eFunW (.l .f) bS 1 (af (aj 1) (af (aj 2) aw)))))
  (sSeq (bZ 5 (eFunW (.l .f) aI 1 (af (aj 1) (af (ao (aE (.int 3))) aw))))
  (sSeq (bZ 6 (gO (aD (aE (.str [114,111,119])) (aD (aE (.str [115,117,109])) bt))))
  (sSeq (JD (Am (Iz (aV Ja (aj 5) (ao (aE (.int 1))))) (Iz (aG Of (aj 2) (ao (aE (.int 0))))))
  (sSeq (bZ 7 (eFunW (.l .f) bS 1 (af (aj 1) (af (aj 2) aw))))
  (sSeq (JD (Iz (aV Ja (aj 7) (ao (aG vo (ao (mr (aD (aE (.int 0)) bt))) (aj 2)))))
  (bZ 7 (aG i4 (ao (aG vo (ao (mr (aD (aE (.int 0)) bt))) (ao (aG tw (aj 2) (ao (aE (.int 1))))))) (ao (mr (aD (aE (.int 1)) bt)))))
  cE)
  (sSeq (bZ 4 (dv bW (af (aj 4) (af (aj 7) (af (aj 2) aw)))))
  (bZ 6 (gO (aD (aE (.str [114,111,119])) bt))))))
  cE)
  (sSeq (JD (Iz (aV Ja (aj 5) (ao (aE (.int 2)))))
  (sSeq (bZ 8 (dv bq (af (aj 4) (af (ao (g6 (eE 4) [none,some 1] 1 1 (ax 0) dX (aG tw (ao (aE (.int 0))) (ao (eFunW (.l .f) aI 1 (af (aj 1) (af (ao (aE (.int 5))) aw))))))) (af (aj 2) aw)))))
  (sSeq (oj (Dl 4 (eFunW (.l .f) aI 1 (af (aj 1) (af (ao (aG i4 (ao (bH gj (af (aj 4) aw))) (ao (aE (.int 1))))) aw))) (aK 8)))
  (bZ 6 (gO (aD (aE (.str [115,117,109])) bt)))))
  cE)
  (sSeq (bZ 9 (bH pN (af (aj 4) aw)))
  (sSeq (bZ 10 (dv fF (af (aj 9) (af (aj 2) aw))))
  (sSeq (JD (Iz (aV oF (ao (dv bB (af (aj 10) (af (aj 4) (af (aj 2) aw))))) (aj 6)))
  (fC (aE (.bl false)))
  cE)
  (fC (CN (aV Ja (ao (dv fF (af (aj 9) (af (aj 2) aw)))) (aj 10)) (aV Ja (aj 9) (aj 4))))))))))))))))
def AY:List D->Res R:=fBody 1 10 Dp
end LW
namespace LW
open PV
variable{α:Type}
theorem Dq{Q:List α->Prop}(h:∀a,Q [a]):∀us,us.length=1->Q us
 |[a],_=>h a
theorem qZ{Q:List α->Prop}(h:∀a b,Q [a,b]):∀us,us.length=2->Q us
 |[a,b],_=>h a b
theorem AZ{Q:List α->Prop}(h:∀a b c,Q [a,b,c]):∀us,us.length=3->Q us
 |[a,b,c],_=>h a b c
theorem jz{X:Cx}{tg e:Expr}{f:FX}(h:QE X e f):QI X tg e (Kq (CQ f) (gd f)):=uU (Ao h) (fW h)
def top(i:Nat):Stmt:=PySem.Challenge.pw_netfinder_k43_above_or_not.main.body.getD i (.Pass ⟨0,0,0,0⟩)
theorem BJ:Str.ofString "sum" = S [115,117,109]:=by decide +kernel
theorem A0:Str.ofString "row" = S [114,111,119]:=by decide +kernel
theorem Gu:Str.ofString "" = S []:=by decide +kernel
section
variable{P:Program}{w:World}{K:W.Frag}{mg:Str->Option Value}{base:Heap}
abbrev kA:Stmt:=top 1
theorem sT:FnScope ["one","other"] ["one","other"] (defScope kA):=fs
theorem sU(Df:Def K mg "product" kA)(KA:mg "sum" = none)(JX:mg "zip" = none):Ct P w K mg base "product" 1 (spF K cw):=
 eD Df sT (fun _ _ _ _ _ _=>qZ fun _ _=>rfl) fun f IJ A outer s H E hr=>
  (au (bo (bc (uS rfl) (by rfl) KA ve (ab (ae (bM [none,none] ["number","factor"] rfl (cI (mF (by rfl) JX (ab (ae (aB (pv 0))) (ab (ae (aB (pv 1))) ak)))) (fun _ _ _ _ _=>(have h:=(show List.Nodup (["number","factor"]:List Str) from by decide +kernel);(j5 rfl (cf (aF (i:=0) h rfl (lo rfl)) (cf (aF (i:=1) h rfl (lo rfl)) h8))))) (fun _ _ _ _ _=>cq) (fun _ _ _ _ _=>(bg dD (ag (pv 0)) (ag (pv 1)))))) ak))))
abbrev mO:Stmt:=top 2
theorem vK:FnScope ["rows","numbers","width"] ["rows","numbers","width"] (defScope mO):=fs
theorem vM(Df:Def K mg "summed" mO)(IB:mg "range" = none)(KA:mg "sum" = none)(Ip:mg "tuple" = none)(JX:mg "zip" = none):Ct P w K mg base "summed" 1 (spF K fD):=
 eD Df vK (fun _ _ _ _ _ _=>AZ fun _ _ _=>rfl) fun f IJ A outer s H E hr=>
  (au (bo (du gP (by rfl) Ip dY (ab (ae (vp [none,some 0,some 1] ["at","rows","numbers"] rfl (cI (dM (by rfl) IB (ag (pv 2)))) (fun _ _ _ _ _=>(aF (i:=0) (show List.Nodup (["at","rows","numbers"]:List Str) from by decide +kernel) rfl (lo rfl))) (fun _ _ _ _ _=>cq) (fun _ _ _ _ _=>(bc (uS rfl) (by rfl) KA ve (ab (ae (bM [none,none,some 0] ["row","number","at"] rfl (cI (mF (by rfl) JX (ab (ae (aB (pv 1))) (ab (ae (aB (pv 2))) ak)))) (fun _ _ _ _ _=>(have h:=(show List.Nodup (["row","number","at"]:List Str) from by decide +kernel);(j5 rfl (cf (aF (i:=0) h rfl (lo rfl)) (cf (aF (i:=1) h rfl (lo rfl)) h8))))) (fun _ _ _ _ _=>cq) (fun _ _ _ _ _=>(bg dD (ae (cv (ag (pv 0)) (ag (pv 2)))) (ag (pv 1)))))) ak))))) ak))))
abbrev dE:Stmt:=top 3
theorem cC:FnScope ["one","other","rest"] ["one","other"] (defScope dE):=fs
theorem jh(Df:Def K mg "common_divisor" dE)(Lz:mg "abs" = none):Ct P w K mg base "common_divisor" 1 (spF K aZ):=
 eD Df cC (fun _ _ _ _ _ _=>qZ fun _ _=>rfl) fun f IJ A outer s H E hr=>
  (ah (mm 100000 VR (aW (ot hr.units) (ag (pv 1)) (ae ar) (a7 _))
  (ah (aM (i:=2) cC.nd rfl (lo rfl) (bg AQ (ag (pv 0)) (ag (pv 1))))
  (ah (aM (i:=0) cC.nd rfl (lo rfl) (aB (pv 1)))
  (au (aM (i:=1) cC.nd rfl (lo rfl) (aB (pv 2)))))))
  (au (bo (bc yV (by rfl) Lz bt_abs (ab (ag (pv 0)) ak)))))
abbrev mP:Stmt:=top 4
theorem iS:FnScope ["row","divisor","number"] ["row"] (defScope mP):=fs
theorem vN(Df:Def K mg "lowest" mP)(IU:Ct P w K mg base "common_divisor" 1 (spF K aZ))(Ip:mg "tuple" = none):Ct P w K mg base "lowest" 2 (spF K cJ):=
 eD Df iS (fun _ _ _ _ _ _=>Dq fun _=>rfl) fun f IJ A outer s H E hr=>
  (ah (aM (i:=1) iS.nd rfl (lo rfl) ar)
  (ah (iz VR rfl (jz (aB (pv 0))) (aF (i:=2) iS.nd rfl (lo rfl))
  (au (aM (i:=1) iS.nd rfl (lo rfl) (bh IU hr.m (by rfl) (ab (ag (pv 1)) (ab (ag (pv 2)) ak))))))
  (ah (dw (aW (gf hr.units) (ag (pv 1)) (ae ar) (a7 _))
  (au (bo (gq (pv 0))))
  bj)
  (au (bo (du gP (by rfl) Ip dY (ab (ae (bM [none,some 1] ["number","divisor"] rfl (gv (dN (pv 0)) (cI (fW (aB (pv 0))))) (fun _ _ _ _ _=>(aF (i:=0) (show List.Nodup (["number","divisor"]:List Str) from by decide +kernel) rfl (lo rfl))) (fun _ _ _ _ _=>cq) (fun _ _ _ _ _=>(bg mN (ag (pv 0)) (ag (pv 1)))))) ak)))))))
abbrev kB:Stmt:=top 6
theorem sV:FnScope ["row","column","by"] ["row","column","by"] (defScope kB):=fs
theorem sW(Df:Def K mg "cleared" kB)(NC:Ct P w K mg base "summed" 1 (spF K fD))(ID:mg "len" = none):Ct P w K mg base "cleared" 2 (spF K cV):=
 eD Df sV (fun _ _ _ _ _ _=>AZ fun _ _ _=>rfl) fun f IJ A outer s H E hr=>
  (ah (dw (aW (gf hr.units) (ae (cv (ag (pv 0)) (ag (pv 1)))) (ae ar) (a7 _))
  (au (bo (gq (pv 0))))
  bj)
  (au (bo (bh NC hr.m (by rfl) (ab (ae (cu (az (aB (pv 0)) (az (aB (pv 2)) aQ)))) (ab (ae (cu (az (cv (ag (pv 2)) (ag (pv 1))) (az (gw (ae (cv (ag (pv 0)) (ag (pv 1))))) aQ)))) (ab (ae (bc cN (by rfl) ID bt_len (ab (ag (pv 0)) ak))) ak)))))))
abbrev fJ:Stmt:=top 7
theorem eJ:FnScope ["leaders","column","leader","joined","other"] ["leaders","column","leader"] (defScope fJ):=fs
theorem kW(Df:Def K mg "with_leader" fJ)(Kv:Ct P w K mg base "cleared" 2 (spF K cV))(JK:Ct P w K mg base "lowest" 2 (spF K cJ)):Ct P w K mg base "with_leader" 3 (spM K (.d) bN):=
 oG Df eJ (fun _ _ _ _ _ _=>AZ fun _ _ _=>rfl) fun f IJ A outer s H E hr=>
  (ah (aM (i:=3) eJ.nd rfl (lo rfl) uW)
  (ah (pT VR rfl (pv 0) (aF (i:=4) eJ.nd rfl (lo rfl))
  (au (yU (hu_of hr) (pv 3) (aB (pv 4)) (bh JK hr.m (by rfl) (ab (ae (bh Kv hr.m (by rfl) (ab (ae (vh (hu_of hr) (ag (pv 0)) (ag (pv 4)))) (ab (ag (pv 1)) (ab (ag (pv 2)) ak))))) ak)))))
  (ah (yU (hu_of hr) (pv 3) (aB (pv 1)) (aB (pv 2)))
  (au (ib (i:=0) (gq (pv 3)))))))
abbrev gE:Stmt:=top 8
theorem bP:FnScope ["rows","leaders","row","rest","column","filled"] ["rows"] (defScope gE):=fs
theorem mQ(Df:Def K mg "leaders_of" gE)(Kv:Ct P w K mg base "cleared" 2 (spF K cV))(JK:Ct P w K mg base "lowest" 2 (spF K cJ))(Li:Ct P w K mg base "with_leader" 3 (spM K (.d) bN))(IH:mg "enumerate" = none)(ID:mg "len" = none):Ct P w K mg base "leaders_of" 4 (spF K aR):=
 eD Df bP (fun _ _ _ _ _ _=>Dq fun _=>rfl) fun f IJ A outer s H E hr=>
  (ah (aM (i:=1) bP.nd rfl (lo rfl) uW)
  (ah (iz VR rfl (jz (aB (pv 0))) (aF (i:=2) bP.nd rfl (lo rfl))
  (ah (aM (i:=3) bP.nd rfl (lo rfl) (aB (pv 2)))
  (ah (AV VR rfl (pv 1) (aF (i:=4) bP.nd rfl (lo rfl))
  (au (aM (i:=3) bP.nd rfl (lo rfl) (bh Kv hr.m (by rfl) (ab (ag (pv 3)) (ab (ag (pv 4)) (ab (ae (vh (hu_of hr) (ag (pv 1)) (ag (pv 4)))) ak)))))))
  (ah (qP (i:=5) [none,none] ["column","number"] bP.nd rfl (lo rfl) rfl (cI (mL (by rfl) IH (ab (ae (aB (pv 3))) ak))) (fun _ _ _ _ _=>(have h:=(show List.Nodup (["column","number"]:List Str) from by decide +kernel);(j5 rfl (cf (aF (i:=0) h rfl (lo rfl)) (cf (aF (i:=1) h rfl (lo rfl)) h8))))) (fun _ _ _ _ _=>(gs (aW (ot hr.units) (ag (pv 1)) (ae ar) (a7 _)))) (fun _ _ _ _ _=>(aB (pv 0))))
  (au (dw (iy Aq (ae (bc cN (by rfl) ID bt_len (ab (ag (pv 5)) ak))) (ae ar) (a7 _))
  (au (aM (i:=1) bP.nd rfl (lo rfl) (de (i:=1) Li hr.m (by rfl) (ab (ag (pv 1)) (ab (ae (cv (ag (pv 5)) (ae ar))) (ab (ae (bh JK hr.m (by rfl) (ab (ag (pv 3)) ak))) ak))))))
  bj))))))
  (au (bo (gq (pv 1))))))
abbrev gF:Stmt:=top 9
theorem bX:FnScope ["leaders","column","width","scale","at","leading","told"] ["leaders","column","width"] (defScope gF):=fs
theorem mR(Df:Def K mg "kernel_row" gF)(IU:Ct P w K mg base "common_divisor" 1 (spF K aZ))(JK:Ct P w K mg base "lowest" 2 (spF K cJ))(Lz:mg "abs" = none)(Ip:mg "tuple" = none):Ct P w K mg base "kernel_row" 3 (spM K (.d) aO):=
 oG Df bX (fun _ _ _ _ _ _=>AZ fun _ _ _=>rfl) fun f IJ A outer s H E hr=>
  (ah (aM (i:=3) bX.nd rfl (lo rfl) ar)
  (ah (pT VR rfl (pv 0) (aF (i:=4) bX.nd rfl (lo rfl))
  (ah (aM (i:=5) bX.nd rfl (lo rfl) (cv (ae (vh (hu_of hr) (ag (pv 0)) (ag (pv 4)))) (ag (pv 4))))
  (au (aM (i:=3) bX.nd rfl (lo rfl) (bg mN (ae (bc yV (by rfl) Lz bt_abs (ab (ae (bg dD (ag (pv 3)) (ag (pv 5)))) ak))) (ae (bh IU hr.m (by rfl) (ab (ag (pv 3)) (ab (ag (pv 5)) ak)))))))))
  (ah (aM (i:=6) bX.nd rfl (lo rfl) (bg dD (ae (cu (az ar aQ))) (ag (pv 2))))
  (ah (kj (pv 6) (aB (pv 1)) (aB (pv 3)))
  (ah (pT VR rfl (pv 0) (aF (i:=4) bX.nd rfl (lo rfl))
  (au (kj (pv 6) (aB (pv 4)) (bg dD (ae (gw (ae (cv (ae (vh (hu_of hr) (ag (pv 0)) (ag (pv 4)))) (ag (pv 1)))))) (ae (bg mN (ag (pv 3)) (ae (cv (ae (vh (hu_of hr) (ag (pv 0)) (ag (pv 4)))) (ag (pv 4))))))))))
  (au (ib (i:=0) (bh JK hr.m (by rfl) (ab (ae (du gP (by rfl) Ip dY (ab (ag (pv 6)) ak))) ak)))))))))
abbrev mS:Stmt:=top 10
theorem oT:FnScope ["rows","width","leaders"] ["rows","width"] (defScope mS):=fs
theorem vO(Df:Def K mg "kernel" mS)(Ju:Ct P w K mg base "kernel_row" 3 (spM K (.d) aO))(Jv:Ct P w K mg base "leaders_of" 4 (spF K aR))(IB:mg "range" = none):Ct P w K mg base "kernel" 5 (spF K gR):=
 eD Df oT (fun _ _ _ _ _ _=>qZ fun _ _=>rfl) fun f IJ A outer s H E hr=>
  (ah (aM (i:=2) oT.nd rfl (lo rfl) (bh Jv hr.m (by rfl) (ab (ag (pv 0)) ak)))
  (au (bo (xU (j:=2) (k0:=1) [none,some 2,some 1] ["column","leaders","width"] rfl (dM (by rfl) IB (ag (pv 1))) (fun _ _ _ _ _=>(aF (i:=0) (show List.Nodup (["column","leaders","width"]:List Str) from by decide +kernel) rfl (lo rfl))) (fun _ _ _ _ _=>(gs (aW (mH hr.u65) (ag (pv 0)) (ag (pv 1)) (by with_unfolding_all rfl)))) (fun _ _ _ _ _=>(de (i:=1) Ju hr.m (by rfl) (ab (ag (pv 1)) (ab (ag (pv 0)) (ab (ag (pv 2)) ak)))))))))
abbrev fK:Stmt:=top 11
theorem hJ:FnScope ["rows","width","leaders"] ["rows","width"] (defScope fK):=fs
theorem kX(Df:Def K mg "closing_row" fK)(Ju:Ct P w K mg base "kernel_row" 3 (spM K (.d) aO))(Jv:Ct P w K mg base "leaders_of" 4 (spF K aR)):Ct P w K mg base "closing_row" 5 (spF K bz):=
 eD Df hJ (fun _ _ _ _ _ _=>qZ fun _ _=>rfl) fun f IJ A outer s H E hr=>
  (ah (aM (i:=2) hJ.nd rfl (lo rfl) (bh Jv hr.m (by rfl) (ab (ag (pv 0)) ak)))
  (ah (dw (aW (Dc hr.u65) (ae (bg lx (ag (pv 1)) (ae ar))) (ag (pv 2)) (by with_unfolding_all rfl))
  (au (bo qF))
  bj)
  (au (bo (de (i:=2) Ju hr.m (by rfl) (ab (ag (pv 2)) (ab (ae (bg lx (ag (pv 1)) (ae ar))) (ab (ag (pv 1)) ak))))))))
abbrev kC:Stmt:=top 13
theorem gS:FnScope ["rows","row","joined","columns","closing"] ["rows","row"] (defScope kC):=fs
theorem sX(Df:Def K mg "spanned" kC)(Jo:Ct P w K mg base "closing_row" 5 (spF K bz))(ND:Ct P w K mg base "kernel" 5 (spF K gR))(Kw:Ct P w K mg base "product" 1 (spF K cw))(ID:mg "len" = none)(Jp:mg "list" = none)(IB:mg "range" = none)(Ip:mg "tuple" = none):Ct P w K mg base "spanned" 6 (spF K bR):=
 eD Df gS (fun _ _ _ _ _ _=>qZ fun _ _=>rfl) fun f IJ A outer s H E hr=>
  (ah (aM (i:=2) gS.nd rfl (lo rfl) (bg dC (ae (du uQ (by rfl) Jp pG (ab (ag (pv 0)) ak))) (ae (cu (az (aB (pv 1)) aQ)))))
  (ah (vE (i:=3) [none,some 2] ["at","joined"] gS.nd rfl (lo rfl) rfl (cI (dM (by rfl) IB (ae (bc cN (by rfl) ID bt_len (ab (ag (pv 1)) ak))))) (fun _ _ _ _ _=>(aF (i:=0) (show List.Nodup (["at","joined"]:List Str) from by decide +kernel) rfl (lo rfl))) (fun _ _ _ _ _=>cq) (fun _ _ _ _ _=>(du gP (by rfl) Ip dY (ab (ae (bM [none,some 0] ["one","at"] rfl (gv (dN (pv 1)) (cI (fW (aB (pv 1))))) (fun _ _ _ _ _=>(aF (i:=0) (show List.Nodup (["one","at"]:List Str) from by decide +kernel) rfl (lo rfl))) (fun _ _ _ _ _=>cq) (fun _ _ _ _ _=>(cv (ag (pv 0)) (ag (pv 1)))))) ak))))
  (ah (aM (i:=4) gS.nd rfl (lo rfl) (bh Jo hr.m (by rfl) (ab (ag (pv 3)) (ab (ae (bc cN (by rfl) ID bt_len (ab (ag (pv 2)) ak))) ak))))
  (ah (dw (aW C0 (ag (pv 4)) (ae qF) (a7 _))
  (au (bo (iE (az (dJ A0 (by decide)) (az (cv (ae (bM [none,some 1] ["other","row"] rfl (cI (jz (bh ND hr.m (by rfl) (ab (ag (pv 0)) (ab (ae (bc cN (by rfl) ID bt_len (ab (ag (pv 1)) ak))) ak))))) (fun _ _ _ _ _=>(aF (i:=0) (show List.Nodup (["other","row"]:List Str) from by decide +kernel) rfl (lo rfl))) (fun _ _ _ _ _=>(gs (aW (ot hr.units) (ae (bh Kw hr.m (by rfl) (ab (ag (pv 0)) (ab (ag (pv 1)) ak)))) (ae ar) (a7 _)))) (fun _ _ _ _ _=>(aB (pv 0))))) (ae ar)) aQ)))))
  bj)
  (au (bo (iE (az (dJ BJ (by decide)) (az (cv (ag (pv 4)) (ae (gw (ae ar)))) (az (bM [none] ["number"] rfl (cI (jz (qQ (ag (pv 4)) mw (mx (gw (ae ar)))))) (fun _ _ _ _ _=>(aF (i:=0) (show List.Nodup (["number"]:List Str) from by decide +kernel) rfl (lo rfl))) (fun _ _ _ _ _=>cq) (fun _ _ _ _ _=>(gw (ag (pv 0))))) aQ))))))))))
abbrev fM:Stmt:=top 15
theorem dk:FnScope ["rows","chosen","at","row"] ["rows"] (defScope fM):=fs
theorem kY(Df:Def K mg "independent" fM)(Kx:Ct P w K mg base "spanned" 6 (spF K bR))(IH:mg "enumerate" = none):Ct P w K mg base "independent" 7 (spF K cA):=
 eD Df dk (fun _ _ _ _ _ _=>Dq fun _=>rfl) fun f IJ A outer s H E hr=>
  (ah (aM (i:=1) dk.nd rfl (lo rfl) (cu aQ))
  (ah (iz VR rfl (mL (by rfl) IH (ab (ae (aB (pv 0))) ak)) (j5 rfl (cf (aF (i:=2) dk.nd rfl (lo rfl)) (cf (aF (i:=3) dk.nd rfl (lo rfl)) h8)))
  (au (dw (AO (aW (gf hr.units) (ae (cv (ae (bh Kx hr.m (by rfl) (ab (ae (bM [none,some 0] ["other","rows"] rfl (gv (dN (pv 1)) (cI (fW (aB (pv 1))))) (fun _ _ _ _ _=>(aF (i:=0) (show List.Nodup (["other","rows"]:List Str) from by decide +kernel) rfl (lo rfl))) (fun _ _ _ _ _=>cq) (fun _ _ _ _ _=>(cv (ag (pv 1)) (ag (pv 0)))))) (ab (ag (pv 3)) ak)))) (ae ar))) (ae (dJ A0 (by decide))) (a7 _)))
  (au (ml (j7 (pv 1) (aB (pv 2)))))
  bj)))
  (au (bo (gq (pv 1))))))
abbrev ic:Stmt:=top 16
theorem oU:FnScope ["rows","width"] ["rows","width"] (defScope ic):=fs
theorem oV(Df:Def K mg "level_row" ic)(Jo:Ct P w K mg base "closing_row" 5 (spF K bz)):Ct P w K mg base "level_row" 6 (spF K cy):=
 eD Df oU (fun _ _ _ _ _ _=>qZ fun _ _=>rfl) fun f IJ A outer s H E hr=>
  (au (bo (bh Jo hr.m (by rfl) (ab (ae (bM [none] ["row"] rfl (gv (dN (pv 0)) (cI (fW (aB (pv 0))))) (fun _ _ _ _ _=>(aF (i:=0) (show List.Nodup (["row"]:List Str) from by decide +kernel) rfl (lo rfl))) (fun _ _ _ _ _=>cq) (fun _ _ _ _ _=>(bg dC (ag (pv 0)) (ae (iE (az (gw (ae ar)) aQ))))))) (ab (ae (bg dC (ag (pv 1)) (ae ar))) ak)))))
abbrev fN:Stmt:=top 17
theorem eM:FnScope ["rows","level","at","row"] ["rows","level"] (defScope fN):=fs
theorem kZ(Df:Def K mg "first_below" fN)(Kw:Ct P w K mg base "product" 1 (spF K cw))(IH:mg "enumerate" = none):Ct P w K mg base "first_below" 2 (spF K bA):=
 eD Df eM (fun _ _ _ _ _ _=>qZ fun _ _=>rfl) fun f IJ A outer s H E hr=>
  (ah (iz VR rfl (mL (by rfl) IH (ab (ae (aB (pv 0))) ak)) (j5 rfl (cf (aF (i:=2) eM.nd rfl (lo rfl)) (cf (aF (i:=3) eM.nd rfl (lo rfl)) h8)))
  (au (dw (iy (lC hr.units0) (ae (bh Kw hr.m (by rfl) (ab (ag (pv 3)) (ab (ae (qQ (ag (pv 1)) mw (mx (gw (ae ar))))) ak)))) (ae (cv (ag (pv 1)) (ae (gw (ae ar))))) (a7 _))
  (au (bo (gq (pv 2))))
  bj)))
  (au (bo qF)))
abbrev pV:Stmt:=top 18
theorem dm:FnScope ["rows","width","chosen","level","low","answer","numbers","at","number","leaving"] ["rows","width"] (defScope pV):=fs
theorem xX(Df:Def K mg "above" pV)(Lj:Ct P w K mg base "first_below" 2 (spF K bA))(Lk:Ct P w K mg base "independent" 7 (spF K cA))(Mb:Ct P w K mg base "level_row" 6 (spF K cy))(Kx:Ct P w K mg base "spanned" 6 (spF K bR))(ID:mg "len" = none)(Ki:mg "sorted" = none)(JX:mg "zip" = none):Ct P w K mg base "above" 8 (spF K fF):=
 eD Df dm (fun _ _ _ _ _ _=>qZ fun _ _=>rfl) fun f IJ A outer s H E hr=>
  (ah (aM (i:=2) dm.nd rfl (lo rfl) (bh Lk hr.m (by rfl) (ab (ag (pv 0)) ak)))
  (au (mm 100000 VR (lu sJ)
  (ah (aM (i:=3) dm.nd rfl (lo rfl) (bh Mb hr.m (by rfl) (ab (ae (bM [none,some 0] ["at","rows"] rfl (gv (dN (pv 2)) (cI (fW (aB (pv 2))))) (fun _ _ _ _ _=>(aF (i:=0) (show List.Nodup (["at","rows"]:List Str) from by decide +kernel) rfl (lo rfl))) (fun _ _ _ _ _=>cq) (fun _ _ _ _ _=>(cv (ag (pv 1)) (ag (pv 0)))))) (ab (ag (pv 1)) ak))))
  (ah (aM (i:=4) dm.nd rfl (lo rfl) (bh Lj hr.m (by rfl) (ab (ag (pv 0)) (ab (ag (pv 3)) ak))))
  (ah (dw (aW C0 (ag (pv 4)) (ae qF) (a7 _))
  (au (bo (iE (az (dJ A0 (by decide)) (az (qQ (ag (pv 3)) mw (mx (gw (ae ar)))) aQ)))))
  bj)
  (ah (aM (i:=5) dm.nd rfl (lo rfl) (bh Kx hr.m (by rfl) (ab (ae (bM [none,some 0] ["at","rows"] rfl (gv (dN (pv 2)) (cI (fW (aB (pv 2))))) (fun _ _ _ _ _=>(aF (i:=0) (show List.Nodup (["at","rows"]:List Str) from by decide +kernel) rfl (lo rfl))) (fun _ _ _ _ _=>cq) (fun _ _ _ _ _=>(cv (ag (pv 1)) (ag (pv 0)))))) (ab (ae (cv (ag (pv 0)) (ag (pv 4)))) ak))))
  (ah (aM (i:=6) dm.nd rfl (lo rfl) (bg dD (ae (cu (az ar aQ))) (ae (bc cN (by rfl) ID bt_len (ab (ag (pv 0)) ak)))))
  (ah (kj (pv 6) (aB (pv 4)) (cv (ag (pv 5)) (ae ar)))
  (ah (iz VR rfl (mF (by rfl) JX (ab (ae (aB (pv 2))) (ab (ae (cv (ag (pv 5)) (ae ar))) ak))) (j5 rfl (cf (aF (i:=7) dm.nd rfl (lo rfl)) (cf (aF (i:=8) dm.nd rfl (lo rfl)) h8)))
  (au (kj (pv 6) (aB (pv 7)) (gw (ag (pv 8))))))
  (ah (aM (i:=9) dm.nd rfl (lo rfl) (bM [none,some 6] ["at","numbers"] rfl (gv (dN (pv 2)) (cI (fW (aB (pv 2))))) (fun _ _ _ _ _=>(aF (i:=0) (show List.Nodup (["at","numbers"]:List Str) from by decide +kernel) rfl (lo rfl))) (fun _ _ _ _ _=>(gs (iy (lC hr.units0) (ae (cv (ag (pv 1)) (ag (pv 0)))) (ae ar) (a7 _)))) (fun _ _ _ _ _=>(aB (pv 0)))))
  (ah (dw (aW (gf hr.units) (ae (bc cN (by rfl) ID bt_len (ab (ag (pv 9)) ak))) (ae ar) (a7 _))
  (au (bo (iE (az (dJ BJ (by decide)) (az (aB (pv 6)) aQ)))))
  bj)
  (au (aM (i:=2) dm.nd rfl (lo rfl) (bc (uV rfl) (by rfl) Ki vf (ab (ae (bg dC (ae (bM [none,some 9] ["at","leaving"] rfl (gv (dN (pv 2)) (cI (fW (aB (pv 2))))) (fun _ _ _ _ _=>(aF (i:=0) (show List.Nodup (["at","leaving"]:List Str) from by decide +kernel) rfl (lo rfl))) (fun _ _ _ _ _=>(gs (aW (ot hr.units) (ag (pv 0)) (ae (cv (ag (pv 1)) (ae ar))) (a7 _)))) (fun _ _ _ _ _=>(aB (pv 0))))) (ae (cu (az (aB (pv 4)) aQ))))) ak))))))))))))))))
abbrev eN:Stmt:=top 20
theorem cX:FnScope ["_law_script","_law_most","_law_deck","_law_last"] ["_law_script","_law_most"] (defScope eN):=fs
theorem kF(Df:Def K mg "_law_numbers" eN)(ID:mg "len" = none)(Jp:mg "list" = none)(Jw:mg "reversed" = none)(KA:mg "sum" = none):Ct P w K mg base "_law_numbers" 1 (spF K b8):=
 eD Df cX (fun _ _ _ _ _ _=>qZ fun _ _=>rfl) fun f IJ A outer s H E hr=>
  (ah (qP (i:=2) [none] ["_law_cell"] cX.nd rfl (lo rfl) rfl (cI (jz (qQ (ag (pv 0)) mw (mx (aB (pv 1)))))) (fun _ _ _ _ _=>(aF (i:=0) (show List.Nodup (["_law_cell"]:List Str) from by decide +kernel) rfl (lo rfl))) (fun _ _ _ _ _=>cq) (fun _ _ _ _ _=>(bg gZ (ag (pv 0)) (ae (bg qI (ae ar) (ae ar))))))
  (ah (aM (i:=3) cX.nd rfl (lo rfl) (bg dC (ae ar) (ae (bg gZ (ae (bc (uS rfl) (by rfl) KA ve (ab (ag (pv 2)) ak))) (ae ar)))))
  (ah (mm 100000 VR (iy (lC hr.units0) (ae (bc cN (by rfl) ID bt_len (ab (ag (pv 2)) ak))) (ag (pv 1)) (a7 _))
  (ah (aM (i:=3) cX.nd rfl (lo rfl) (bg gZ (ae (bg dC (ae (bg dC (ae (bg dD (ag (pv 3)) (ag (pv 3)))) (ae (bg dD (ae ar) (ag (pv 3)))))) (ae (bc cN (by rfl) ID bt_len (ab (ag (pv 2)) ak))))) (ae ar)))
  (au (ml (j7 (pv 2) (aB (pv 3)))))))
  (au (bo (Di rfl (by rfl) Jp (by rfl) Jw (ab (ag (pv 2)) ak)))))))
abbrev ie:Stmt:=top 21
theorem oW:FnScope ["_law_deck","_law_most"] ["_law_deck","_law_most"] (defScope ie):=fs
theorem oX(Df:Def K mg "_law_draw" ie):Ct P w K mg base "_law_draw" 1 (spM K (.l .f) aI):=
 oG Df oW (fun _ _ _ _ _ _=>qZ fun _ _=>rfl) fun f IJ A outer s H E hr=>
  (ah (dw (aW (gf hr.units) (ag (pv 0)) (ae (cu aQ)) (a7 _))
  (au (ib (i:=0) ar))
  bj)
  (au (ib (i:=0) (bg gZ (ae (De (pv 0))) (ag (pv 1))))))
abbrev fO:Stmt:=top 22
theorem hU:FnScope ["_law_deck","_law_number_here"] ["_law_deck"] (defScope fO):=fs
theorem k7(Df:Def K mg "_law_number" fO)(II:Ct P w K mg base "_law_draw" 1 (spM K (.l .f) aI)):Ct P w K mg base "_law_number" 2 (spM K (.l .f) bO):=
 oG Df hU (fun _ _ _ _ _ _=>Dq fun _=>rfl) fun f IJ A outer s H E hr=>
  (ah (aM (i:=1) hU.nd rfl (lo rfl) (de (i:=0) II hr.m (by rfl) (ab (ag (pv 0)) (ab (ae (bg qI (ae ar) (ae ar))) ak))))
  (ah (dw (aW (gf hr.units) (ae (bg gZ (ag (pv 1)) (ae ar))) (ae ar) (a7 _))
  (au (ib (i:=0) (bg lx (ae (bg gZ (ae (bg uO (ag (pv 1)) (ae ar))) (ae (bg dC (ae (bg dD (ae ar) (ae (bg qI (ae ar) (ae ar))))) (ae ar))))) (ae (bg qI (ae ar) (ae ar))))))
  bj)
  (au (ib (i:=0) (bg lx (ae (bg gZ (ae (bg uO (ag (pv 1)) (ae ar))) (ae ar))) (ae ar))))))
abbrev ji:Stmt:=top 23
theorem pW:FnScope ["_law_deck","_law_width"] ["_law_deck","_law_width"] (defScope ji):=fs
theorem pX(Df:Def K mg "_law_row" ji)(Ll:Ct P w K mg base "_law_number" 2 (spM K (.l .f) bO))(IB:mg "range" = none)(Ip:mg "tuple" = none):Ct P w K mg base "_law_row" 3 (spM K (.l .f) bS):=
 oG Df pW (fun _ _ _ _ _ _=>qZ fun _ _=>rfl) fun f IJ A outer s H E hr=>
  (au (ib (i:=0) (du gP (by rfl) Ip dY (ab (ae (xP (j:=0) (k0:=1) [none,some 0] ["_law_k","_law_deck"] rfl (dM (by rfl) IB (ag (pv 1))) (fun _ _ _ _ _=>(aF (i:=0) (show List.Nodup (["_law_k","_law_deck"]:List Str) from by decide +kernel) rfl (lo rfl))) (fun _ _ _ _ _=>cq) (fun _ _ _ _ _=>(de (i:=1) Ll hr.m (by rfl) (ab (ag (pv 1)) ak))))) ak))))
abbrev eO:Stmt:=top 24
theorem cY:FnScope ["_law_one","_law_other","_law_total","_law_k"] ["_law_one","_law_other"] (defScope eO):=fs
theorem kG(Df:Def K mg "_law_product" eO)(ID:mg "len" = none)(IB:mg "range" = none):Ct P w K mg base "_law_product" 1 (spF K aS):=
 eD Df cY (fun _ _ _ _ _ _=>qZ fun _ _=>rfl) fun f IJ A outer s H E hr=>
  (ah (aM (i:=2) cY.nd rfl (lo rfl) ar)
  (ah (iz VR rfl (dM (by rfl) IB (ae (bc cN (by rfl) ID bt_len (ab (ag (pv 0)) ak)))) (aF (i:=3) cY.nd rfl (lo rfl))
  (au (aM (i:=2) cY.nd rfl (lo rfl) (bg dC (ag (pv 2)) (ae (bg dD (ae (cv (ag (pv 0)) (ag (pv 3)))) (ae (cv (ag (pv 1)) (ag (pv 3))))))))))
  (au (bo (gq (pv 2))))))
abbrev jj:Stmt:=top 25
theorem dU:FnScope ["_law_rows","_law_numbers_here","_law_width","_law_due","_law_row_here","_law_number_here","_law_k"] ["_law_rows","_law_numbers_here","_law_width"] (defScope jj):=fs
theorem pY(Df:Def K mg "_law_sum" jj)(IB:mg "range" = none)(Ip:mg "tuple" = none)(JX:mg "zip" = none):Ct P w K mg base "_law_sum" 1 (spF K bq):=
 eD Df dU (fun _ _ _ _ _ _=>AZ fun _ _ _=>rfl) fun f IJ A outer s H E hr=>
  (ah (aM (i:=3) dU.nd rfl (lo rfl) (bg dD (ae (cu (az ar aQ))) (ag (pv 2))))
  (ah (iz VR rfl (mF (by rfl) JX (ab (ae (aB (pv 0))) (ab (ae (aB (pv 1))) ak))) (j5 rfl (cf (aF (i:=4) dU.nd rfl (lo rfl)) (cf (aF (i:=5) dU.nd rfl (lo rfl)) h8)))
  (au (iz VR rfl (dM (by rfl) IB (ag (pv 2))) (aF (i:=6) dU.nd rfl (lo rfl))
  (au (kj (pv 3) (aB (pv 6)) (bg dC (ae (cv (ag (pv 3)) (ag (pv 6)))) (ae (bg dD (ae (cv (ag (pv 4)) (ag (pv 6)))) (ag (pv 5))))))))))
  (au (bo (du gP (by rfl) Ip dY (ab (ag (pv 3)) ak))))))
abbrev gG:Stmt:=top 26
theorem mT:FnScope ["_law_found"] ["_law_found"] (defScope gG):=fs
theorem mU(Df:Def K mg "_law_whole" gG)(LR:mg "bool" = none)(MS:mg "int" = none)(Ie:mg "isinstance" = none):Ct P w K mg base "_law_whole" 1 (spF K m__law_whole):=
 eD Df mT (fun _ _ _ _ _ _=>Dq fun _=>rfl) fun f IJ A outer s H E hr=>
  (au (bo (yM (uT (T:="int") (by decide) (ag (pv 0)) (by rfl) Ie (by rfl) MS Cy) (yL (CP (uT (T:="bool") (by decide) (ag (pv 0)) (by rfl) Ie (by rfl) LR z5))))))
abbrev fP:Stmt:=top 27
theorem k8:FnScope ["_law_told","_law_width"] ["_law_told","_law_width"] (defScope fP):=fs
theorem k9(Df:Def K mg "_law_is_row" fP)(Jx:Ct P w K mg base "_law_whole" 1 (spF K m__law_whole))(Ie:mg "isinstance" = none)(ID:mg "len" = none)(Ip:mg "tuple" = none):Ct P w K mg base "_law_is_row" 2 (spF K cB):=
 eD Df k8 (fun _ _ _ _ _ _=>qZ fun _ _=>rfl) fun f IJ A outer s H E hr=>
  (ah (dw (QW.qt (An (uL (lu (uT (T:="tuple") (by decide) (ag (pv 0)) (by rfl) Ie (by rfl) Ip dY))) (uK (aW (ot hr.units) (ae (bc cN (by rfl) ID bt_len (ab (ag (pv 0)) ak))) (ag (pv 1)) (a7 _)))))
  (au (bo sJ))
  bj)
  (au (bo (ma (mH hr.u65) (ae sJ) (ae (bM [none] ["_law_number_here"] rfl (gv (dN (pv 0)) (cI (fW (aB (pv 0))))) (fun _ _ _ _ _=>(aF (i:=0) (show List.Nodup (["_law_number_here"]:List Str) from by decide +kernel) rfl (lo rfl))) (fun _ _ _ _ _=>cq) (fun _ _ _ _ _=>(bh Jx hr.m (by rfl) (ab (ag (pv 0)) ak))))) (by with_unfolding_all rfl)))))
abbrev cZ:Stmt:=top 28
theorem ig:FnScope ["_law_told","_law_count"] ["_law_told","_law_count"] (defScope cZ):=fs
theorem ij(Df:Def K mg "_law_are_numbers" cZ)(Jx:Ct P w K mg base "_law_whole" 1 (spF K m__law_whole))(Ie:mg "isinstance" = none)(ID:mg "len" = none)(Jp:mg "list" = none):Ct P w K mg base "_law_are_numbers" 2 (spF K aX):=
 eD Df ig (fun _ _ _ _ _ _=>qZ fun _ _=>rfl) fun f IJ A outer s H E hr=>
  (ah (dw (QW.qt (An (uL (lu (uT (T:="list") (by decide) (ag (pv 0)) (by rfl) Ie (by rfl) Jp pG))) (uK (aW (ot hr.units) (ae (bc cN (by rfl) ID bt_len (ab (ag (pv 0)) ak))) (ag (pv 1)) (a7 _)))))
  (au (bo sJ))
  bj)
  (au (bo (ma (mH hr.u65) (ae sJ) (ae (bM [none] ["_law_number_here"] rfl (gv (dN (pv 0)) (cI (fW (aB (pv 0))))) (fun _ _ _ _ _=>(aF (i:=0) (show List.Nodup (["_law_number_here"]:List Str) from by decide +kernel) rfl (lo rfl))) (fun _ _ _ _ _=>cq) (fun _ _ _ _ _=>(bh Jx hr.m (by rfl) (ab (ag (pv 0)) ak))))) (by with_unfolding_all rfl)))))
abbrev fQ:Stmt:=top 29
theorem lb:FnScope ["_law_told","_law_rows","_law_width"] ["_law_told","_law_rows","_law_width"] (defScope fQ):=fs
theorem lg(Df:Def K mg "_law_walked" fQ)(Kb:Ct P w K mg base "_law_are_numbers" 2 (spF K aX))(Lm:Ct P w K mg base "_law_is_row" 2 (spF K cB))(Jf:Ct P w K mg base "_law_product" 1 (spF K aS))(IV:Ct P w K mg base "_law_sum" 1 (spF K bq))(Ie:mg "isinstance" = none)(ID:mg "len" = none)(Ip:mg "tuple" = none):Ct P w K mg base "_law_walked" 3 (spF K bB):=
 eD Df lb (fun _ _ _ _ _ _=>AZ fun _ _ _=>rfl) fun f IJ A outer s H E hr=>
  (ah (dw (QW.qt (An (uL (lu (uT (T:="tuple") (by decide) (ag (pv 0)) (by rfl) Ie (by rfl) Ip dY))) (uK (aW (ot hr.units) (ae (bc cN (by rfl) ID bt_len (ab (ag (pv 0)) ak))) (ae ar) (a7 _)))))
  (au (bo (dJ Gu (by decide))))
  bj)
  (ah (dw (QW.qt (qG (aW (gf hr.units) (ae (cv (ag (pv 0)) (ae ar))) (ae (dJ A0 (by decide))) (a7 _)) (me (lu (bh Lm hr.m (by rfl) (ab (ae (cv (ag (pv 0)) (ae ar))) (ab (ag (pv 2)) ak)))))))
  (au (dw (aW (gf hr.units) (ae (bM [none,some 0] ["_law_row_here","_law_told"] rfl (gv (dN (pv 1)) (cI (fW (aB (pv 1))))) (fun _ _ _ _ _=>(aF (i:=0) (show List.Nodup (["_law_row_here","_law_told"]:List Str) from by decide +kernel) rfl (lo rfl))) (fun _ _ _ _ _=>(gs (iy (lC hr.units0) (ae (bh Jf hr.m (by rfl) (ab (ag (pv 0)) (ab (ae (cv (ag (pv 1)) (ae ar))) ak)))) (ae ar) (a7 _)))) (fun _ _ _ _ _=>(aB (pv 0))))) (ae (cu aQ)) (a7 _))
  (au (bo (dJ A0 (by decide))))
  bj))
  bj)
  (ah (dw (QW.qt (qG (aW (gf hr.units) (ae (cv (ag (pv 0)) (ae ar))) (ae (dJ BJ (by decide))) (a7 _)) (me (lu (bh Kb hr.m (by rfl) (ab (ae (cv (ag (pv 0)) (ae ar))) (ab (ae (bc cN (by rfl) ID bt_len (ab (ag (pv 1)) ak))) ak)))))))
  (au (dw (QW.qt (qG (aW (gf hr.units) (ae (bM [none] ["_law_number_here"] rfl (cI (jz (cv (ag (pv 0)) (ae ar)))) (fun _ _ _ _ _=>(aF (i:=0) (show List.Nodup (["_law_number_here"]:List Str) from by decide +kernel) rfl (lo rfl))) (fun _ _ _ _ _=>(gs (iy (lC hr.units0) (ag (pv 0)) (ae ar) (a7 _)))) (fun _ _ _ _ _=>(aB (pv 0))))) (ae (cu aQ)) (a7 _)) (me (aW (ot hr.units) (ae (bM [none] ["_law_number_here"] rfl (cI (jz (cv (ag (pv 0)) (ae ar)))) (fun _ _ _ _ _=>(aF (i:=0) (show List.Nodup (["_law_number_here"]:List Str) from by decide +kernel) rfl (lo rfl))) (fun _ _ _ _ _=>(gs (iy Aq (ag (pv 0)) (ae ar) (a7 _)))) (fun _ _ _ _ _=>(aB (pv 0))))) (ae (cu aQ)) (a7 _)))))
  (au (dw (aW (gf hr.units) (ae (bh IV hr.m (by rfl) (ab (ag (pv 1)) (ab (ae (cv (ag (pv 0)) (ae ar))) (ab (ag (pv 2)) ak))))) (ae (bg pR (ae (iE (az ar aQ))) (ag (pv 2)))) (a7 _))
  (au (bo (dJ BJ (by decide))))
  bj))
  bj))
  bj)
  (au (bo (dJ Gu (by decide)))))))
abbrev fR:Stmt:=top 30
theorem b9:FnScope ["_law_rows","_law_other","_law_width","_law_due","_law_row_here","_law_value"] ["_law_rows","_law_other","_law_width"] (defScope fR):=fs
theorem lh(Df:Def K mg "_law_turned" fR)(Jf:Ct P w K mg base "_law_product" 1 (spF K aS))(IV:Ct P w K mg base "_law_sum" 1 (spF K bq)):Ct P w K mg base "_law_turned" 2 (spF K bW):=
 eD Df b9 (fun _ _ _ _ _ _=>AZ fun _ _ _=>rfl) fun f IJ A outer s H E hr=>
  (ah (aM (i:=3) b9.nd rfl (lo rfl) (cu aQ))
  (ah (iz VR rfl (jz (aB (pv 0))) (aF (i:=4) b9.nd rfl (lo rfl))
  (ah (aM (i:=5) b9.nd rfl (lo rfl) (bh Jf hr.m (by rfl) (ab (ag (pv 4)) (ab (ag (pv 1)) ak))))
  (ah (dw (iy (lC hr.units0) (ag (pv 5)) (ae ar) (a7 _))
  (au (aM (i:=4) b9.nd rfl (lo rfl) (bh IV hr.m (by rfl) (ab (ae (cu (az (aB (pv 4)) aQ))) (ab (ae (cu (az (gw (ae ar)) aQ))) (ab (ag (pv 2)) ak))))))
  bj)
  (ah (dw (aW (gf hr.units) (ag (pv 5)) (ae ar) (a7 _))
  (au (aM (i:=4) b9.nd rfl (lo rfl) (bh IV hr.m (by rfl) (ab (ae (cu (az (aB (pv 4)) (az (aB (pv 1)) aQ)))) (ab (ae (cu (az ar (az ar aQ)))) (ab (ag (pv 2)) ak))))))
  bj)
  (au (ml (j7 (pv 3) (aB (pv 4)))))))))
  (au (bo (gq (pv 3))))))
abbrev mV:Stmt:=top 31
theorem dA:FnScope ["_law_script","_law_deck","_law_width","_law_count","_law_rows","_law_way","_law_due","_law_other","_law_last","_law_handed","_law_told"] ["_law_script"] (defScope mV):=fs
theorem Dr{f:Addr}{fd:FuncData}(F:Fun K "law" "law" mV f fd)(II:Ct P w K mg base "_law_draw" 1 (spM K (.l .f) aI))(K5:Ct P w K mg base "_law_numbers" 1 (spF K b8))(K6:Ct P w K mg base "_law_row" 3 (spM K (.l .f) bS))(IV:Ct P w K mg base "_law_sum" 1 (spF K bq))(Ln:Ct P w K mg base "_law_turned" 2 (spF K bW))(Lo:Ct P w K mg base "_law_walked" 3 (spF K bB))(MT:Ct P w K mg base "above" 8 (spF K fF))(ID:mg "len" = none)(Jp:mg "list" = none)(IB:mg "range" = none):FnOk P w K mg base Nc 9 f fd ["_law_script"] (spF K AY):=
 fnok_of F dA fun IJ A outer s H E hr=>
  (ah (aM (i:=1) dA.nd rfl (lo rfl) (bh K5 hr.m (by rfl) (ab (ag (pv 0)) (ab (ae ar) ak))))
  (ah (aM (i:=2) dA.nd rfl (lo rfl) (de (i:=1) II hr.m (by rfl) (ab (ag (pv 1)) (ab (ae ar) ak))))
  (ah (aM (i:=3) dA.nd rfl (lo rfl) (de (i:=1) II hr.m (by rfl) (ab (ag (pv 1)) (ab (ae ar) ak))))
  (ah (dw (aW (gf hr.units) (ae (de (i:=1) II hr.m (by rfl) (ab (ag (pv 1)) (ab (ae ar) ak)))) (ae ar) (a7 _))
  (ah (aM (i:=2) dA.nd rfl (lo rfl) (cv (ae (cu (az ar (az ar (az ar aQ))))) (ae (bg gZ (ag (pv 2)) (ae ar)))))
  (au (aM (i:=3) dA.nd rfl (lo rfl) (cv (ae (cu (az (bg gZ (ag (pv 3)) (ae ar)) (az (bg gZ (ag (pv 3)) (ae ar)) (az ar aQ))))) (ae (Dk YZ PySem.F.type_list_index (pS hr.u65) (ae (cu (az ar (az ar (az ar aQ))))) (ab (ag (pv 2)) ak)))))))
  bj)
  (ah (xQ (i:=4) (j:=1) (k0:=1) [none,some 1,some 2] ["_law_k","_law_deck","_law_width"] dA.nd rfl (lo rfl) rfl (dM (by rfl) IB (ag (pv 3))) (fun _ _ _ _ _=>(aF (i:=0) (show List.Nodup (["_law_k","_law_deck","_law_width"]:List Str) from by decide +kernel) rfl (lo rfl))) (fun _ _ _ _ _=>cq) (fun _ _ _ _ _=>(de (i:=1) K6 hr.m (by rfl) (ab (ag (pv 1)) (ab (ag (pv 2)) ak)))))
  (ah (aM (i:=5) dA.nd rfl (lo rfl) (de (i:=1) II hr.m (by rfl) (ab (ag (pv 1)) (ab (ae ar) ak))))
  (ah (aM (i:=6) dA.nd rfl (lo rfl) (cu (az (dJ A0 (by decide)) (az (dJ BJ (by decide)) aQ))))
  (ah (dw (QW.qt (qG (aW (gf hr.units) (ag (pv 5)) (ae ar) (a7 _)) (me (iy Aq (ag (pv 2)) (ae ar) (a7 _)))))
  (ah (aM (i:=7) dA.nd rfl (lo rfl) (de (i:=1) K6 hr.m (by rfl) (ab (ag (pv 1)) (ab (ag (pv 2)) ak))))
  (ah (dw (aW (gf hr.units) (ag (pv 7)) (ae (bg pR (ae (iE (az ar aQ))) (ag (pv 2)))) (a7 _))
  (au (aM (i:=7) dA.nd rfl (lo rfl) (bg dC (ae (bg pR (ae (iE (az ar aQ))) (ae (bg lx (ag (pv 2)) (ae ar))))) (ae (iE (az ar aQ))))))
  bj)
  (ah (aM (i:=4) dA.nd rfl (lo rfl) (bh Ln hr.m (by rfl) (ab (ag (pv 4)) (ab (ag (pv 7)) (ab (ag (pv 2)) ak)))))
  (au (aM (i:=6) dA.nd rfl (lo rfl) (cu (az (dJ A0 (by decide)) aQ)))))))
  bj)
  (ah (dw (aW (gf hr.units) (ag (pv 5)) (ae ar) (a7 _))
  (ah (aM (i:=8) dA.nd rfl (lo rfl) (bh IV hr.m (by rfl) (ab (ag (pv 4)) (ab (ae (vI (j:=1) (k0:=1) [none,some 1] ["_law_row_here","_law_deck"] rfl (xW (pv 4)) (fun _ _ _ _ _=>(aF (i:=0) (show List.Nodup (["_law_row_here","_law_deck"]:List Str) from by decide +kernel) rfl (lo rfl))) (fun _ _ _ _ _=>cq) (fun _ _ _ _ _=>(bg lx (ae ar) (ae (de (i:=1) II hr.m (by rfl) (ab (ag (pv 1)) (ab (ae ar) ak)))))))) (ab (ag (pv 2)) ak)))))
  (ah (ml (vB (pv 4) (de (i:=1) II hr.m (by rfl) (ab (ag (pv 1)) (ab (ae (bg dC (ae (bc cN (by rfl) ID bt_len (ab (ag (pv 4)) ak))) (ae ar))) ak))) (aB (pv 8))))
  (au (aM (i:=6) dA.nd rfl (lo rfl) (cu (az (dJ BJ (by decide)) aQ))))))
  bj)
  (ah (aM (i:=9) dA.nd rfl (lo rfl) (du uQ (by rfl) Jp pG (ab (ag (pv 4)) ak)))
  (ah (aM (i:=10) dA.nd rfl (lo rfl) (bh MT hr.m (by rfl) (ab (ag (pv 9)) (ab (ag (pv 2)) ak))))
  (ah (dw (aW (mH hr.u65) (ae (bh Lo hr.m (by rfl) (ab (ag (pv 10)) (ab (ag (pv 4)) (ab (ag (pv 2)) ak))))) (ag (pv 6)) (by with_unfolding_all rfl))
  (au (bo sJ))
  bj)
  (au (bo (yM (ma (gf hr.units) (ae (bh MT hr.m (by rfl) (ab (ag (pv 9)) (ab (ag (pv 2)) ak)))) (ag (pv 10)) (a7 _)) (yL (ma (gf hr.units) (ag (pv 9)) (ag (pv 4)) (a7 _))))))))))))))))))
end
end LW
namespace PV
class Cont (α β:Type) where
 run:α->Res β
def Res.bnd{α β:Type}[f:Cont α β](x:Res α):Res β:=x.bind f.run
variable{α:Type}
theorem Jl{β:Type}(a:α)(f:α->Res β):Res.bnd (Res.ok a) (f:=⟨f⟩)=f a:=id rfl
section
variable(env:PV.Env)(i n:Nat)(d:D)(f g:FX)(c c':FT)(fo SF fo'':FO)(fs:FOs)(fd:FDs)(s t:FS)(op op':D->D->Res R)(F:List D->Res R)(a:FG)(as:Oe)(fi fj:FI)(fp HZ:FP)(T:String)
theorem Qc:aE d env=.ok ((.f,d),env):=id rfl
theorem MU:aK i env=match env[i]? with|some (some r)=>.ok ((.f,r.2),env.set i (some (fz r.1,r.2)))|_=>.bad:=id rfl
theorem RW:fz .f=.f:=id rfl
theorem RX(c:O):fz (.l c)=.f:=id rfl
theorem Oq(p:Addr):yJ (.pin p .f)=true:=id rfl
theorem NH(p:Addr):yJ (.pin p .d)=true:=id rfl
theorem Ot:j0 i env=match env[i]? with|some (some r)=>.ok (r,env.set i none)|_=>.bad:=id rfl
theorem Qd:ao f env=Res.bnd (f env) (f:=⟨fun p=>.ok (.val p.1.2,p.2)⟩):=id rfl
theorem Qe:aj i env=match env[i]? with|some (some _)=>.ok (.var i,env)|_=>.bad:=id rfl
theorem Ou:aw env=.ok ([],env):=id rfl
theorem NJ:af fo fs env=Res.bnd (fo env) (f:=⟨fun p=>Res.bnd (fs p.2) (f:=⟨fun q=>.ok (p.1::q.1,q.2)⟩)⟩):=id rfl
theorem Ov:bt env=.ok ([],env):=id rfl
theorem NK:aD f fd env=Res.bnd (f env) (f:=⟨fun p=>Res.bnd (fd p.2) (f:=⟨fun q=>.ok (p.1.2::q.1,q.2)⟩)⟩):=id rfl
theorem Qf:JV env (.val d)=.ok d:=id rfl
theorem Qg:JV env (.var i)=match env[i]? with|some (some r)=>if yJ r.1 then .ok r.2 else .bad|_=>.bad:=id rfl
theorem Iv:sI env (.val d)=.ok d:=id rfl
theorem Iw:sI env (.var i)=match env[i]? with|some (some r)=>.ok r.2|_=>.bad:=id rfl
theorem Ow:qB env []=.ok []:=id rfl
theorem Ox(o:Opd)(os:List Opd):qB env (o::os)=Res.bnd (JV env o) (f:=⟨fun d=>Res.bnd (qB env os) (f:=⟨fun ds=>.ok (d::ds)⟩)⟩):=id rfl
theorem NM:kU env []=.ok []:=id rfl
theorem NO(o:Opd)(os:List Opd):kU env (o::os)=Res.bnd (sI env o) (f:=⟨fun d=>Res.bnd (kU env os) (f:=⟨fun ds=>.ok (d::ds)⟩)⟩):=id rfl
theorem Oy:yJ .f=true:=id rfl
theorem Oz:yJ (.l .f)=true:=id rfl
theorem Qh:aG op fo SF env=Res.bnd (fo env) (f:=⟨fun p=>Res.bnd (SF p.2) (f:=⟨fun q=>Res.bnd (JV q.2 p.1) (f:=⟨fun a=>Res.bnd (JV q.2 q.1) (f:=⟨fun b=>Res.bnd (op a b) (f:=⟨fun r=>.ok (r,q.2)⟩)⟩)⟩)⟩)⟩):=id rfl
theorem OA:aV op fo SF env=Res.bnd (fo env) (f:=⟨fun p=>Res.bnd (SF p.2) (f:=⟨fun q=>Res.bnd (sI q.2 p.1) (f:=⟨fun a=>Res.bnd (sI q.2 q.1) (f:=⟨fun b=>Res.bnd (op a b) (f:=⟨fun r=>.ok (r,q.2)⟩)⟩)⟩)⟩)⟩):=id rfl
theorem RY:Iz f env=Res.bnd (f env) (f:=⟨fun p=>match p.1.2 with | .bl k=>.ok (k,p.2)|_=>.bad⟩):=id rfl
theorem Qi:Am c c' env=Res.bnd (c env) (f:=⟨fun p=>if p.1 then c' p.2 else .ok (false,p.2)⟩):=id rfl
theorem RZ:RD c c' env=Res.bnd (c env) (f:=⟨fun p=>if p.1 then .ok (true,p.2) else c' p.2⟩):=id rfl
theorem Qj:CM c env=Res.bnd (c env) (f:=⟨fun p=>.ok (!p.1,p.2)⟩):=id rfl
theorem Qk:CN f g env=Res.bnd (f env) (f:=⟨fun p=>match p.1.2 with | .bl true=>g p.2 | .bl false=>.ok ((.f,.bl false),p.2)|_=>.bad⟩):=id rfl
theorem Ql:Fp f env=Res.bnd (f env) (f:=⟨fun p=>match p.1.2 with | .bl k=>.ok ((.f,.bl (!k)),p.2)|_=>.bad⟩):=id rfl
theorem OB:bH F fs env=Res.bnd (fs env) (f:=⟨fun p=>Res.bnd (qB p.2 p.1) (f:=⟨fun ds=>Res.bnd (F ds) (f:=⟨fun r=>.ok (r,p.2)⟩)⟩)⟩):=id rfl
theorem Qm:dv F fs env=Res.bnd (fs env) (f:=⟨fun p=>Res.bnd (kU p.2 p.1) (f:=⟨fun ds=>Res.bnd (F ds) (f:=⟨fun r=>.ok (r,if aP r.1 r.2 then p.2 else p.2.map frz)⟩)⟩)⟩):=id rfl
theorem Qn:mr fd env=Res.bnd (fd env) (f:=⟨fun p=>if p.1.length<=1000 then .ok ((.f,.tup p.1),p.2) else .bad⟩):=id rfl
theorem Qo:gO fd env=Res.bnd (fd env) (f:=⟨fun p=>if p.1.length<=1000 then .ok ((.l .f,.lst p.1),p.2) else .bad⟩):=id rfl
theorem OC:sN env=.ok (none,env):=id rfl
theorem OD:sO f env=Res.bnd (f env) (f:=⟨fun p=>match p.1.2 with | .int i=>.ok (some i,p.2)|_=>.bad⟩):=id rfl
theorem Qp:BD i f env=if pM env i then(Res.bnd (f env) (f:=⟨fun(p:R×PV.Env)=>match p.2[i]? with
 |some (some (.l .f,.lst ds))=>if ds.length<sizeLine then .ok ((.f,.non),p.2.set i (some (.l .f,.lst (ds++[p.1.2])))) else .bad
 |_=>.bad⟩)) else .bad:=id rfl
theorem OE:pM env i=match env[i]? with|some (some (_,.lst _))=>true|_=>false:=id rfl
theorem R1:PQ T fo env=Res.bnd (fo env) (f:=⟨fun p=>Res.bnd (sI p.2 p.1) (f:=⟨fun d=>.ok ((.f,.bl (sQ T d)),p.2)⟩)⟩):=id rfl
theorem OF(tk:Bool):eNewD tk env=.ok ((.d,.dct tk [] []),env):=id rfl
theorem OG(ix:List (Option Nat)):cS fi ix a c f env=Res.bnd (fi env) (f:=⟨fun p=>Res.bnd (cH a c f p.1 (bG ix p.2)) (f:=⟨fun ds=>if ds.length<=sizeLine then .ok ((.l .f,.lst ds),if H0 ds then p.2 else p.2.map frz) else .bad⟩)⟩):=id rfl
theorem ME:bG [] env=[]:=id rfl
theorem MF(ix:List (Option Nat)):bG (none::ix) env=none::bG ix env:=id rfl
theorem MG(ix:List (Option Nat)):bG (some i::ix) env=(match env[i]? with|some (some r)=>some (O.f,r.2)|_=>none)::bG ix env:=id rfl
theorem yY:dX env=.ok (true,env):=id rfl
theorem q5(ds:List D):cH a c f (d::ds) env=Res.bnd (a d env) (f:=⟨fun e=>Res.bnd (c e) (f:=⟨fun p=>if p.1 then(Res.bnd (f p.2) (f:=⟨fun q=>Res.bnd (cH a c f ds q.2) (f:=⟨fun rs=>.ok (q.1.2::rs)⟩)⟩)) else cH a c f ds p.2⟩)⟩):=id rfl
theorem Ds:CQ f env=Res.bnd (f env) (f:=⟨fun p=>match p.1.2 with | .lst ds=>.ok (ds,p.2)|_=>.bad⟩):=id rfl
theorem vP:gd f env=Res.bnd (f env) (f:=⟨fun p=>match p.1.2 with | .tup ds=>.ok (ds,p.2)|_=>.bad⟩):=id rfl
theorem vQ:Kq fi fj env=match fi env with | .ok a=>.ok a|_=>fj env:=by
 unfold Kq;cases fi env <;> rfl
theorem Qq:Kq (CQ f) (gd f) env=Res.bnd (f env) (f:=⟨fun p=>match p.1.2 with
 | .lst ds=>.ok (ds,p.2)
 | .tup ds=>.ok (ds,p.2)
 |_=>.bad⟩):=by
 rw[vQ,Ds,vP];cases f env with
 |ok p=>
  obtain⟨⟨o,d⟩,e⟩:=p;cases d <;> rfl
 |exc c=>rfl
 |bad=>rfl
theorem OH:Kq (eE i) (gd (aK i)) env=match env[i]? with
 |some (some (_,.lst ds))=>.ok (ds,env)
 |some (some (o,.tup ds))=>.ok (ds,env.set i (some (fz o,.tup ds)))
 |_=>.bad:=by
 rw[vQ,vP,MU];unfold eE;cases env[i]? with
 |none=>rfl
 |some r=>
  cases r with
  |none=>rfl
  |some r=>
   obtain⟨o,d⟩:=r;cases d <;> rfl
theorem LB:cM fo env=Res.bnd (fo env) (f:=⟨fun p=>Res.bnd (JV p.2 p.1) (f:=⟨fun d=>match d with
 | .int j=>if -4611686018427387904<=j/\j<4611686018427387904 then .ok ((List.range j.toNat).map fun(k:Nat)=>D.int (k:Int),p.2) else .bad
 |_=>.bad⟩)⟩):=id rfl
theorem mW(k1 k2:Bool):sM k1 k2 fs env=Res.bnd (fs env) (f:=⟨fun p=>match p.1 with
 |[.val d1,.val d2]=>Res.bnd (iA k1 d1) (f:=⟨fun a=>Res.bnd (iA k2 d2) (f:=⟨fun b=>.ok ((a.zip b).map fun z=>D.tup [z.1,z.2],p.2)⟩)⟩)
 |_=>.bad⟩):=id rfl
theorem Jy:ax i d env=if i<env.length then .ok (env.set i (some (.f,d))) else .bad:=id rfl
theorem OI:c9 [] env=.ok env:=id rfl
theorem JL(ds:List D):aJ a as (d::ds) env=Res.bnd (a d env) (f:=⟨fun e=>as ds e⟩):=id rfl
theorem MH(ds:List D):iZ n as (.tup ds) env=if ds.length=n then as ds env else .bad:=id rfl
theorem Jg:sSeq s t env=Res.bnd (s env) (f:=⟨fun o=>match o with | .nx e=>t e|o=>.ok o⟩):=id rfl
theorem OJ:cE env=.ok (.nx env):=id rfl
theorem Qr:bZ i f env=Res.bnd (f env) (f:=⟨fun p=>if i<p.2.length then .ok (.nx (p.2.set i (some p.1))) else .bad⟩):=id rfl
theorem OK:oj f env=Res.bnd (f env) (f:=⟨fun p=>.ok (.nx p.2)⟩):=id rfl
theorem Qs:fC f env=Res.bnd (f env) (f:=⟨fun p=>.ok (.rt p.1)⟩):=id rfl
theorem R3:JD c s t env=Res.bnd (c env) (f:=⟨fun p=>if p.1 then s p.2 else t p.2⟩):=id rfl
theorem LS:tu fi a s env=Res.bnd (fi env) (f:=⟨fun p=>eC a s p.1 p.2⟩):=id rfl
theorem jk(ds:List D):eC a s (d::ds) env=Res.bnd (a d env) (f:=⟨fun e=>Res.bnd (s e) (f:=⟨fun o=>match o with
 | .nx e=>eC a s ds e
 | .ct e=>eC a s ds e
 | .bk e=>.ok (.nx e)
 | .rt r=>.ok (.rt r)⟩)⟩):=id rfl
theorem gT:cP c s (n+1) env=Res.bnd (c env) (f:=⟨fun p=>if p.1 then(Res.bnd (s p.2) (f:=⟨fun o=>match o with
  | .nx e=>cP c s n e
  | .ct e=>cP c s n e
  | .bk e=>.ok (.nx e)
  | .rt r=>.ok (.rt r)⟩)) else .ok (.nx p.2)⟩):=id rfl
theorem bC(ds:List D)(nn:Nat)(h:ds.length=n):fBody n nn s ds=Res.bnd (s (ds.map (fun d=>some (O.f,d))++List.replicate nn none)) (f:=⟨fun o=>match o with
 | .rt r=>.ok r
 | .nx _=>.ok (.f,.non)
 |_=>.bad⟩):=by
 unfold fBody;rw[U2 h];all_goals cases s (ds.map (fun d=>some (O.f,d))++List.replicate nn none) with
 |ok o=>cases o <;> rfl
 |exc c=>rfl
 |bad=>rfl
end
theorem line_le{n:Nat}(h:n<=16777216):n<=sizeLine:=by rw[line_eq];exact h
section
variable(a b:Int)(x y:List Nat)(p q:Bool)(ds es:List D)
theorem FJ:Ja (.int a) (.int b)=.ok (.f,.bl (a==b)):=by simp only[Ja,plainD,Ia,Vr,Wt]
theorem FK:Ja (.str x) (.str y)=.ok (.f,.bl (x==y)):=by simp only[Ja,plainD,Ia,Vr,Wt]
theorem FL:K1 (.int a) (.int b)=.ok (.f,.bl (!(a==b))):=by simp only[K1,plainD,Ia,Vr,Wt]
theorem Dt:tw (.int a) (.int b)=.ok (.f,.int (a-b)):=id rfl
theorem A1:pL (.int a) (.int b)=if 0<b/\b<1073741824 then .ok (.f,.int (a / b)) else .bad:=id rfl
theorem Du:jF (.int a) (.int b)=if 0<b then .ok (.f,.int (a%b)) else .bad:=id rfl
theorem Dv:uP (.int a) (.int b)=if 0<=b/\b<=1000000/\a.natAbs<2 ^ 64 then .ok (.f,.int (a ^ b.toNat)) else .bad:=id rfl
theorem FN:LO (.int a) (.int b)=.ok (.f,.bl (decide (a<b))):=id rfl
theorem FQ:Of (.int a) (.int b)=.ok (.f,.bl (decide (b<a))):=id rfl
theorem Dw:gj [.lst ds]=.ok (.f,.int ds.length):=id rfl
theorem Dx:gj [.tup ds]=.ok (.f,.int ds.length):=id rfl
theorem A2:pN [.lst ds]=.ok (.l .f,.lst ds):=id rfl
theorem xY:g0 [.lst ds]=.ok (.f,.tup ds):=id rfl
theorem FR:IK (.lst ds) (.int a)=match Kz ds a with|some d=>.ok (.f,d)|none=>.bad:=id rfl
theorem Dy:IK (.tup ds) (.int a)=match Kz ds a with|some d=>.ok (.f,d)|none=>.bad:=id rfl
end
theorem HY(l:List Int):H0 (l.map D.int)=true:=by
 rw[cO,Xw,VA];intro b _;rfl
theorem flat_strs(l:List (List Nat)):H0 (l.map D.str)=true:=by
 rw[cO,Xw,VA];intro b _;rfl
theorem cF(d:D):aP .f d=cR d:=by rw[aP]
theorem cj(ds:List D):aP (.l .f) (.lst ds)=H0 ds:=by rw[aP,dG]
theorem ck(i:Int):cR (.int i)=true:=by rw[cR];all_goals simp
theorem KR(i:Bool):cR (.bl i)=true:=by rw[cR];all_goals simp
theorem xZ(i:List Nat):cR (.str i)=true:=by rw[cR];all_goals simp
theorem d9(ds:List D):cR (.tup ds)=H0 ds:=by rw[cR]
theorem cb(n:Nat)(l:List Int):plainDs n (l.map D.int)=true:=by
 induction l with
 |nil=>rfl
 |cons a l ih=>rw[Vo,plainDs,ih,plainD];all_goals simp
theorem BK(n:Nat)(l:List (List Nat)):plainDs n (l.map D.str)=true:=by
 induction l with
 |nil=>rfl
 |cons a l ih=>rw[Vo,plainDs,ih,plainD];all_goals simp
theorem iT:∀a b:List Int,jK (a.map D.int) (b.map D.int)=(a==b)
 |[],[]=>by simp[jK]
 |[],_::_=>by simp[jK]
 |_::_,[]=>by simp[jK]
 |a::r,b::t=>by
  rw[Vo,Vo,jK,Ia,iT r t,VQ];simp
theorem x3(a:Int)(l:List Int):tF (.int a) (l.map D.int)=decide (a∈l):=by
 unfold tF;rw[XO,VQ,W6,Vl];constructor
 ·rintro⟨x,hx,e⟩;have e:Ia (.int x) (.int a)=true:=e;rw[Ia,VD]at e;rw[<-e];exact hx
 ·intro h;refine⟨a,h,?_⟩;show Ia (.int a) (.int a)=true;rw[Ia,V0]
theorem Ey(a:List Nat)(l:List (List Nat)):tF (.str a) (l.map D.str)=decide (a∈l):=by
 unfold tF;rw[XO,VQ,W6,Vl];constructor
 ·rintro⟨x,hx,e⟩;have e:Ia (.str x) (.str a)=true:=e;rw[Ia,VD]at e;rw[<-e];exact hx
 ·intro h;refine⟨a,h,?_⟩;show Ia (.str a) (.str a)=true;rw[Ia,V0]
theorem Gv(a:Int)(l:List Int):Og (.int a) (.lst (l.map D.int))=.ok (.f,.bl (decide (a∈l))):=by
 unfold Og;dsimp only;rw[cb,x3,plainD];all_goals simp
variable{a:FG}{f:FX}
theorem fS{c:FT}{e:α->D}{p:α->Bool}{r:α->D}(I:PV.Env->Prop)(l:List α)
  (h:∀x∈l,∀env,I env->∃HU,a (e x) env=.ok HU/\∃Ic,c HU=.ok (p x,Ic)/\if p x then ∃o IM,f Ic=.ok ((o,r x),IM)/\I IM else I Ic):∀env,I env->cH a c f (l.map e) env=.ok ((l.filter p).map r):=by
 induction l with
 |nil=>intro env _;rfl
 |cons x l ih=>
  intro env hI;obtain⟨HU,h1,Ic,h2,h3⟩:=h x UY env hI;have ih:=ih fun y hy=>h y (U3 _ hy)
  rw[Vo,q5,h1,Jl,h2,Jl];cases hp:p x with
  |true=>
   rw[hp]at h3;obtain⟨o,IM,h4,h5⟩:=h3;rw[U2 rfl,h4,Jl,ih IM h5,Jl,WR hp];rfl
  |false=>
   rw[hp]at h3;rw[U9 U7,ih Ic h3,WS (by rw[hp];exact U7)]
theorem c7{e:α->D}{r:α->D}(I:PV.Env->Prop)(l:List α)
  (h:∀x∈l,∀env,I env->∃HU,a (e x) env=.ok HU/\∃o IM,f HU=.ok ((o,r x),IM)/\I IM):∀env,I env->cH a dX f (l.map e) env=.ok (l.map r):=by
 induction l with
 |nil=>intro env _;rfl
 |cons x l ih=>
  intro env hI;obtain⟨HU,h1,o,IM,h4,h5⟩:=h x UY env hI;have ih:=ih fun y hy=>h y (U3 _ hy)
  rw[Vo,q5,h1,Jl,yY,Jl,U2 rfl,h4,Jl,ih IM h5];rfl
theorem A3{g:FS}(P:Nat->PV.Env->Prop)(ds:List D)(h:∀i d env,ds[i]?=some d->P i env->∃HU,a d env=.ok HU/\∃Ic,(g HU=.ok (.nx Ic)\/g HU=.ok (.ct Ic))/\P (i+1) Ic):
  ∀env,P 0 env->∃env',eC a g ds env=.ok (.nx env')/\P ds.length env':=by
 have key:∀(l:List D) (k:Nat) (env:PV.Env),(∀i d,l[i]?=some d->ds[k+i]?=some d)->P k env->∃env',eC a g l env=.ok (.nx env')/\P (k+l.length) env':=by
  intro l;induction l with
  |nil=>exact fun k env _ hp=>⟨env,rfl,hp⟩
  |cons d l ih=>
   intro k env hd hp;obtain⟨HU,h1,Ic,h2,h3⟩:=h k d env (hd 0 d rfl) hp;obtain⟨env',h4,h5⟩:=ih (k+1) Ic (fun i d e=>by have:=hd (i+1) d (by simpa using e);rw[show k+1+i=k+(i+1) by lia];exact this) h3;refine⟨env',?_,by rw[Vb,show k+(l.length+1)=k+1+l.length by lia];exact h5⟩;rw[jk,h1,Jl];rcases h2 with h2|h2
   ·rw[h2,Jl];exact h4
   ·rw[h2,Jl];exact h4
 intro env hp;obtain⟨env',h1,h2⟩:=key ds 0 env (fun i d e=>by rw[XR];exact e) hp;exact⟨env',h1,by rw[XR]at h2;exact h2⟩
section
variable(env:PV.Env)(fo:FO)(fp HZ:FP)(a b:Int)(ds:List D)(x:List Nat)
theorem Qt:BE fo fp HZ env=Res.bnd (fo env) (f:=⟨fun p=>Res.bnd (fp p.2) (f:=⟨fun q=>Res.bnd (HZ q.2) (f:=⟨fun t=>Res.bnd (JV t.2 p.1) (f:=⟨fun d=>Res.bnd (P1 d q.1 t.1) (f:=⟨fun r=>.ok (r,t.2)⟩)⟩)⟩)⟩)⟩):=id rfl
theorem Qu:oA fo env=Res.bnd (fo env) (f:=⟨fun p=>Res.bnd (JV p.2 p.1) (f:=⟨fun d=>match d with
 | .int i=>.ok ((.f,.int (-i)),p.2)
 |_=>.bad⟩)⟩):=id rfl
theorem Dz(lo hi:Option Int):P1 (.lst ds) lo hi=.ok (.l .f,.lst (kQ ds lo hi)):=id rfl
theorem vR(lo hi:Option Int)(h:HT.sIx ds.length 0 lo=0/\HT.sIx ds.length ds.length hi=ds.length):kQ ds lo hi=ds:=by
 unfold kQ;rw[h.1,h.2,XG,aaw,Wb (UZ _)]
theorem DA(lo hi:Option Int):P1 (.tup ds) lo hi=.ok (.f,.tup (kQ ds lo hi)):=by
 unfold P1;dsimp only;split
 ·rename_i h;rw[vR ds lo hi h]
 ·rename_i h;unfold Q5;dsimp only;rw[U2 h]
end
section
variable(env:PV.Env)(fo:FO)(fs:FOs)(f g:FX)(a b c:Int)(ds es:List D)(x y:List Nat)
theorem Gw(d:D):(∃l,iA true d=.ok l/\iA false d=.bad/\om d=some l)\/(∃l,iA true d=.bad/\iA false d=.ok l/\om d=some l)\/(iA true d=.bad/\iA false d=.bad/\om d=none):=by
 cases d with
 |lst l=>exact .inl ⟨l,rfl,rfl,rfl⟩
 |tup l=>exact .inr (.inl ⟨l,rfl,rfl,rfl⟩)
 |_=>exact .inr (.inr ⟨rfl,rfl,rfl⟩)
def x4(k1 k2:Bool)(e:PV.Env)(d1 d2:D):Res (List D×PV.Env):=(iA k1 d1).bind fun a=>(iA k2 d2).bind fun b=>.ok ((a.zip b).map fun z=>D.tup [z.1,z.2],e)
def FU(e:PV.Env)(d1 d2:D):Res (List D×PV.Env):=match om d1,om d2 with|some a,some b=>.ok ((a.zip b).map fun z=>D.tup [z.1,z.2],e)|_,_=>.bad
def Pc(a b:Res (List D×PV.Env)):Res (List D×PV.Env):=match a with | .ok a=>.ok a|_=>b
def wZ(g:D->D->Res (List D×PV.Env))(os:List Opd):Res (List D×PV.Env):=match os with|[.val d1,.val d2]=>g d1 d2|_=>.bad
theorem pZ(g h:D->D->Res (List D×PV.Env))(os:List Opd):Pc (wZ g os) (wZ h os)=wZ (fun a b=>Pc (g a b) (h a b)) os:=by
 unfold wZ;split <;> rfl
theorem A4(e:PV.Env)(a b:D):Pc (x4 true true e a b) (Pc (x4 true false e a b) (Pc (x4 false true e a b) (x4 false false e a b)))=FU e a b:=by
 unfold x4 FU;rcases Gw a with⟨l,h1,h2,h3⟩|⟨l,h1,h2,h3⟩|⟨h1,h2,h3⟩ <;> rcases Gw b with⟨m,i1,i2,i3⟩|⟨m,i1,i2,i3⟩|⟨i1,i2,i3⟩ <;> rw[h1,h2,h3,i1,i2,i3] <;> rfl
theorem OL:oB fs env=Res.bnd (fs env) (f:=⟨fun p=>match p.1 with
 |[.val d1,.val d2]=>(match om d1,om d2 with|some a,some b=>.ok ((a.zip b).map fun z=>D.tup [z.1,z.2],p.2)|_,_=>.bad)
 |_=>.bad⟩):=by
 unfold oB;rw[vQ,vQ,vQ,mW,mW,mW,mW];cases fs env with
 |ok p=>
  show Pc (wZ (x4 true true p.2) p.1) (Pc (wZ (x4 true false p.2) p.1) (Pc (wZ (x4 false true p.2) p.1) (wZ (x4 false false p.2) p.1)))=wZ (FU p.2) p.1;rw[pZ,pZ,pZ];exact V7 (fun g=>wZ g p.1) (funext fun a=>funext fun b=>A4 p.2 a b)
 |_=>rfl
theorem ON:om (.lst ds)=some ds:=id rfl
theorem OO:om (.tup ds)=some ds:=id rfl
theorem OP(i:Nat):oE i f g env=Res.bnd (g env) (f:=⟨fun(p:R×PV.Env)=>Res.bnd (f p.2) (f:=⟨fun(q:R×PV.Env)=>match p.2[i]?,q.2[i]? with
 |some (some _),some (some (.l .f,.lst ds))=>(match q.1.2 with
  | .int k=>(match ixN ds.length k with
   |some j=>.ok (.nx (q.2.set i (some (.l .f,.lst (ds.set j p.1.2)))))
   |none=>.bad)
  |_=>.bad)
 |_,_=>.bad⟩)⟩):=id rfl
theorem vS:BH (.lst ds) (.int b)=if 0<=b/\b<1000000/\ds.length*b.toNat<=sizeLine then .ok (.l .f,.lst (List.replicate b.toNat ds).flatten) else .bad:=id rfl
theorem DB:eX false (.str x)=true:=id rfl
theorem A5:i4 (.int a) (.int b)=.ok (.f,.int (a+b)):=id rfl
theorem vT:i4 (.lst ds) (.lst es)=if ds.length+es.length<=sizeLine then .ok (.l .f,.lst (ds++es)) else .bad:=id rfl
theorem vU:i4 (.tup ds) (.tup es)=if ds.length+es.length<=sizeLine\/ds=[] then .ok (.f,.tup (ds++es)) else .bad:=by
 unfold i4;cases ds with
 |nil=>rw[U2 (.inr rfl)];rfl
 |cons d ds=>
  dsimp only;unfold addD;dsimp only;by_cases h:(d::ds).length+es.length<=sizeLine
  ·rw[U2 ⟨nofun,h⟩,U2 (.inl h)]
  ·rw[U9 (fun z=>h z.2),U9 (fun z=>z.elim h nofun)]
end
section
variable(env:PV.Env)(f g:FX)(ds ks:List D)(i:Nat)
theorem yZ:isLf (.l .f)=true:=id rfl
end
section
variable(env:PV.Env)(f:FX)(fs:FOs)(ds:List D)(i:Nat)
theorem DE:ePop i env=match env[i]? with
 |some (some (ow,.lst ds))=>if isLf ow then(match ds.getLast? with
  |some d=>.ok ((.f,d),env.set i (some (ow,.lst ds.dropLast)))
  |none=>.bad) else .bad
 |_=>.bad:=id rfl
theorem A6(p:Addr):isLf (.pin p (.l .f))=true:=id rfl
theorem fg:mI (.l .f) (.l .f)=true:=id rfl
theorem fm(p:Addr):mI (.l .f) (.pin p (.l .f))=true:=id rfl
theorem bY:ko i f env=Res.bnd (f env) (f:=⟨fun(p:R×PV.Env)=>match p.2[i]? with
 |some (some (.pin q c,d))=>.ok (.rt (.t [p.1.1,.pin q c],.tup [p.1.2,d]))
 |_=>.bad⟩):=by
 first
  |exact id rfl
  |(unfold ko;rfl)
theorem mX(fi:FI)(ix:List (Option Nat))(j k0:Nat)(a:FG)(c:FT):g6 fi ix j k0 a c f env=Res.bnd (fi env) (f:=⟨fun(p:List D×PV.Env)=>match p.2[j]? with
 |some (some (ow,.lst d0))=>if isLf ow then Res.bnd (mJ a c f p.1 (fun q=>(bG ix (p.2.set j none)).set k0 (some (.pin q (.l .f),.lst d0))) k0) (f:=⟨fun x=>if x.1.length<=sizeLine/\H0 x.1=true/\H0 x.2=true then .ok ((.l .f,.lst x.1),p.2.set j (some (ow,.lst x.2))) else .bad⟩) else .bad
 |_=>.bad⟩):=id rfl
theorem FV:Eu [.lst ds]=.ok (.l .f,.lst ds.reverse):=id rfl
theorem DF(k:Int):vo (.tup ds) (.int k)=if ds≠[]/\ds.length<=10/\0<=k/\k<1000 then .ok (.f,.tup (List.replicate k.toNat ds).flatten) else .bad:=id rfl
theorem iU(np nn:Nat)(c:O)(g:FS)(p:Addr)(d0:D)(h:ds.length+1=np):g5 np nn c g p (d0::ds)=Res.bnd (g (some (.pin p c,d0)::(ds.map (fun d=>some (O.f,d))++List.replicate nn none))) (f:=⟨fun o=>match o with
  | .rt r=>.ok r
  |_=>.bad⟩):=by
 unfold g5;dsimp only;rw[U2 h];rfl
theorem lH{α:Type}{a:FG}{f:FX}{e:α->D}(I:Nat->PV.Env->List D->Prop):∀(l:List α) (n:Nat) (env:PV.Env) (acc:List D),I n env acc->
  (∀k x env acc,l[k]?=some x->I (n+k) env acc->∃HU,a (e x) env=.ok HU/\∃o r IM,f HU=.ok ((o,r),IM)/\I (n+k+1) IM (acc++[r]))->∃rs Ic,compLE a dX f (l.map e) env=.ok (rs,Ic)/\I (n+l.length) Ic (acc++rs)
 |[],n,env,acc,h,_=>⟨[],env,rfl,by rw[Vu];exact h⟩
 |x::l,n,env,acc,h,hs=>by
  obtain⟨HU,h1,o,r,IM,h2,h3⟩:=hs 0 x env acc rfl h;obtain⟨rs,Ic,h4,h5⟩:=lH I l (n+1) IM (acc++[r]) h3 fun k y env acc hk hI=>by
   have:=hs (k+1) y env acc (by simpa using hk) (by rw[show n+(k+1)=n+1+k by lia];exact hI);rw[show n+(k+1)+1=n+1+k+1 by lia]at this;exact this
  refine⟨r::rs,Ic,?_,?_⟩
  ·rw[Vo];show((a (e x) env).bind fun e=>(dX e).bind fun p=>if p.1 then(f p.2).bind fun q=>(compLE a dX f (l.map _) q.2).bind fun rs=>.ok (q.1.2::rs.1,rs.2) else compLE a dX f (l.map _) p.2)=_;rw[h1];show((f HU).bind fun q=>(compLE a dX f (l.map _) q.2).bind fun rs=>.ok (q.1.2::rs.1,rs.2))=_;rw[h2];show((compLE a dX f (l.map _) IM).bind fun rs=>.ok (r::rs.1,rs.2))=_;rw[h4];rfl
  ·rw[Vb,show n+(l.length+1)=n+1+l.length by lia];rw[V2]at h5;exact h5
end
noncomputable def pv:=(Zv @Jl (Zv @Qc (Zv @MU (Zv @Ot (Zv @Qd (Zv @Qe (Zv @Ou (Zv @NJ (Zv @Ov (Zv @NK (Zv @Qf (Zv @Qg (Zv @Iv (Zv @Iw (Zv @Ow (Zv @Ox (Zv @NM (Zv @NO (Zv @Oy (Zv @Oz (Zv @Qh (Zv @OA (Zv @RY (Zv @Qi (Zv @RZ (Zv @Qj (Zv @Qk (Zv @Ql (Zv @OB (Zv @Qm (Zv @Qn (Zv @Qo (Zv @Qt (Zv @Qu (Zv @OC (Zv @OD (Zv @Qp (Zv @OE (Zv @R1 (Zv @OF (Zv @OG (Zv @ME (Zv @MF (Zv @MG (Zv @Qq (Zv @OH (Zv @LB (Zv @Jy (Zv @OI (Zv @JL (Zv @MH (Zv @Jg (Zv @OJ (Zv @Qr (Zv @OK (Zv @Qs (Zv @R3 (Zv @LS (Zv @List.getElem?_cons_zero.{0} (Zv @List.getElem?_cons_succ.{0} (Zv @List.set_cons_zero.{0} (Zv @List.set_cons_succ.{0} (Zv @List.length_cons.{0} (Zv @List.length_nil.{0} (Zv @List.map_cons.{0,0} (Zv @List.map_nil.{0,0} (Zv @List.replicate_succ.{0} (Zv @List.replicate_zero.{0} (Zv @List.cons_append.{0} (Zv @List.nil_append.{0} (Zv @Nat.zero_add (Zv @OL (Zv @ON (Zv @OO (Zv @OP (Zv @RW (Zv @RX (Zv @Oq @NH))))))))))))))))))))))))))))))))))))))))))))))))))))))))))))))))))))))))))))))
noncomputable def op:=(Zv @FJ (Zv @FK (Zv @FL (Zv @Dt (Zv @FN (Zv @FQ (Zv @Dw (Zv @Dx (Zv @A2 (Zv @xY (Zv @FR (Zv @Dy (Zv @Dz (Zv @DA (Zv @cF (Zv @cj (Zv @ck (Zv @KR (Zv @xZ (Zv @HY (Zv @A5 @DB)))))))))))))))))))))
theorem dV(n:Nat)(w:PV.Env):(∃d,JV w (.var n)=.ok d)\/JV w (.var n)=.bad:=by
 unfold JV;dsimp only;split
 ·split
  ·exact .inl ⟨_,rfl⟩
  ·exact .inr rfl
 ·exact .inr rfl
section
variable(w:PV.Env)(op:D->D->Res R)(F:List D->Res R)(f g h:FX)(n n' n'':Nat)(x y:D)
end
section
variable(a b c d e g h i j k l m:Option R)(z:PV.Env)(r:R)(o:O)(x:D){ρ:Type}
end
end PV
namespace LW
abbrev fq(d:PV.D):Option PV.R:=some (.f,d)
abbrev fI(i:Int):Option PV.R:=some (.f,.int i)
abbrev fL(l:List PV.D):Option PV.R:=some (.l .f,.lst l)
open PV
theorem for_list{α:Type}{a:FG}{g:FS}{e:α->D}(l:List α)(P:Nat->PV.Env->Prop)
  (h:∀k x env,l[k]?=some x->P k env->∃HU,a (e x) env=.ok HU/\∃Ic,g HU=.ok (.nx Ic)/\P (k+1) Ic):∀env,P 0 env->∃env',eC a g (l.map e) env=.ok (.nx env')/\P l.length env':=by
 intro env h0;have:=A3 (a:=a) (g:=g) P (l.map e) (fun i d env hi hp=>by
  rw[Vg,Wl]at hi;obtain⟨x,hx,rfl⟩:=hi;obtain⟨HU,h1,Ic,h2,h3⟩:=h i x env hx hp;exact⟨HU,h1,Ic,.inl h2,h3⟩) env h0
 rwa [U8]at this
theorem vV{a:FG}{g:FS}{e:Nat->D}(n:Nat)(P:Nat->PV.Env->Prop)
  (h:∀k env,k<n->P k env->∃HU,a (e k) env=.ok HU/\∃Ic,g HU=.ok (.nx Ic)/\P (k+1) Ic):∀env,P 0 env->∃env',eC a g ((List.range n).map e) env=.ok (.nx env')/\P n env':=by
 intro env h0;have:=for_list (a:=a) (g:=g) (e:=e) (List.range n) P (fun k x env hk hp=>by
  obtain⟨h1,h2⟩:=U1.mp hk;rw[Vi]at h1;rw[Xq]at h2;subst h2;exact h k env h1 hp) env h0
 rwa [Vi]at this
abbrev Tt:=List (List Nat)
theorem bf{α β:Type}{l:List α}(f:α->β):(l.map f).length=l.length:=U8 f
theorem ik:(false=true)=False:=Xp
theorem y0{α:Type}{l:List α}{i:Nat}{a:α}(h:l[i]?=some a):∃h:i<l.length,l[i]=a:=U1.mp h
theorem iV{α:Type}{l:List α}{i:Nat}(h:i<l.length):l[i]?=some l[i]:=US h
theorem gX{α β:Type}{f:α->β}{a:α}{l:List α}:(a::l).map f=f a::l.map f:=Vo
theorem rg{α:Type}{a b:α}(h:a∈[b]):a=b:=VC.mp h
theorem nH{α β:Type}{f:α->β}{l:List α}{b:β}(h:b∈l.map f):∃a,a∈l/\f a=b:=Xu.mp h
theorem w4{α:Type}{a:α}{s t:List α}(h:a∈s++t):a∈s\/a∈t:=Vp.mp h
theorem rh{α:Type}{s t:List α}:(s++t).length=s.length+t.length:=VN
theorem av{s t:FS}{env env':PV.Env}(h:s env=.ok (.nx env')):sSeq s t env=t env':=by rw[Jg,h,Jl]
theorem vW{ds:List D}(h:ds.length<=16777216):ds.length<=sizeLine:=line_le h
theorem lI{l:List Int}{k:Nat}(h:k<l.length):Kz (l.map D.int) (k:Int)=some (.int (l.getD k 0)):=hW (by rw[Vg,UQ,iV h];rfl)
theorem kH(x y:D)(t1 t2:Option R)(aU:PV.Env):iZ 2 (aJ (ax 0) (aJ (ax 1) c9)) (.tup [x,y]) (t1::t2::aU)=.ok (fq x::fq y::aU):=by
 rw[MH,U2 (by simp),JL,Jy,U2 (by simp),Jl,JL,Jy,U2 (by simp),Jl];rfl
theorem sY(x b:Int)(h:0<b):0<=x%b/\x%b<b:=⟨WZ _ (by lia),Xr _ h⟩
theorem Gx(n:Nat)(h:n<=200):uP (.int 10) (.int (n:Int))=.ok (.f,.int (10 ^ n)):=by
 rw[Dv,U2 (by lia),VV]
theorem x5(x b:Int)(h:0<b):jF (.int x) (.int b)=.ok (.f,.int (x%b)):=by rw[Du,U2 h]
theorem FY(x b:Int)(h:0<b)(h2:b<1073741824):pL (.int x) (.int b)=.ok (.f,.int (x / b)):=by rw[A1,U2 ⟨h,h2⟩]
theorem x6{α:Type}(l:List α)(k:Nat):kQ l none (some (k:Int))=l.take k:=by
 unfold kQ;rw[HT.qp,HT.zQ,XG,aaw];by_cases h:k<=l.length
 ·rw[Nat.min_eq_left h]
 ·rw[Nat.min_eq_right (by lia),Wb (UZ _),Wb (by lia)]
theorem Ez(j:Int)(h0:0<=j)(h:j<=1000)(fo:FO)(env env':PV.Env)(o:Opd)(e1:fo env=.ok (o,env'))(e2:JV env' o=.ok (.int j)):cM fo env=.ok ((List.range j.toNat).map fun(k:Nat)=>D.int (k:Int),env'):=by
 rw[LB,e1,Jl];dsimp only;rw[e2,Jl];dsimp only;rw[U2 (by lia)]
theorem kI(d:D)(h:plainD 40 d=true):Ja d d=.ok (.f,.bl true):=by
 unfold Ja;rw[h,jL d 40 h];rfl
theorem mY(n k:Nat)(h:k<n):ixN n (k:Int)=some k:=by
 unfold ixN;rw[U2 (by lia),U2 (by lia)];rfl
theorem vX(l:List Int):yQ [.lst (l.map D.int)]=.ok (.f,.int l.sum):=by
 unfold yQ;dsimp only;have:(om (D.lst (l.map D.int))).bind eV=some l:=ly l;rw[this]
theorem isT(ds:List D):sQ "tuple" (.tup ds)=true:=rfl
theorem oY{c:FT}{g:FS}(P:Nat->PV.Env->Prop)(fin:PV.Env->Prop)(h:∀k env,P k env->(∃HU,c env=.ok (false,HU)/\fin HU)\/(∃HU,c env=.ok (true,HU)/\∃Ic k',g HU=.ok (.nx Ic)/\k'<k/\P k' Ic)):
  ∀n k env,k<n->P k env->∃env',cP c g n env=.ok (.nx env')/\fin env'
 | 0,k,env,hk,_=>absurd hk (Vj _)
 |n+1,k,env,hk,hp=>by
  rcases h k env hp with⟨HU,h1,h2⟩|⟨HU,h1,Ic,k',h2,h3,h4⟩
  ·exact⟨HU,by rw[gT,h1,Jl];rfl,h2⟩
  ·obtain⟨env',e,hf⟩:=oY P fin h n k' Ic (by lia) h4;refine⟨env',?_,hf⟩;rw[gT,h1,Jl];dsimp only;rw[U2 rfl,h2,Jl];exact e
theorem mZ{α β:Type}(f:α->β)(l:List α)(lo hi:Option Int):kQ (l.map f) lo hi=(kQ l lo hi).map f:=by
 unfold kQ;rw[bf,<-List.map_drop,<-List.map_take]
theorem short{α:Type}{l:List α}(h:l.length<=100000):l.length<sizeLine:=U0 (VB _) (line_le (by lia))
end LW
namespace LW
open PV
section
variable(env:PV.Env)(f:FX)(fs:FOs)(fo:FO)
theorem cG(i:Nat)(c:O)(F:Addr->List D->Res R):eFunW c F i fs env=Res.bnd (fs env) (f:=⟨fun p=>match p.1 with
 | .var j::os=>if j=i then(match p.2[i]? with
  |some (some (ow,d0))=>if mI c ow then Res.bnd (kU (p.2.set i none) os) (f:=⟨fun ds=>Res.bnd (jG F c d0 ds) (f:=⟨fun x=>if aP x.1.1 x.1.2&&aP c x.2 then .ok (x.1,(p.2.set i none).set i (some (ow,x.2))) else .ok (x.1,((p.2.set i none).map frz).set i (some (ow,x.2)))⟩)⟩) else .bad
  |_=>.bad) else .bad
 |_=>.bad⟩):=id rfl
theorem DG(r:R):frz (some r)=fq r.2:=id rfl
theorem DH:frz none=none:=id rfl
theorem DI(gg:List D->List D->Res R):Dj gg fo fs env=Res.bnd (fo env) (f:=⟨fun p=>Res.bnd (JV p.2 p.1) (f:=⟨fun d=>match d with
 | .lst _=>Res.bnd (fs p.2) (f:=⟨fun q=>Res.bnd (JV q.2 p.1) (f:=⟨fun d2=>match d2 with
  | .lst l=>Res.bnd (qB q.2 q.1) (f:=⟨fun ds=>Res.bnd (gg l ds) (f:=⟨fun r=>.ok (r,q.2)⟩)⟩)
  |_=>.bad⟩)⟩)
 |_=>.bad⟩)⟩):=id rfl
end
theorem pop0(o:O)(h:isLf o=true)(ys:List Int)(x:Int)(env:PV.Env):ePop 0 (some (o,.lst ((ys++[x]).map D.int))::env)=.ok ((.f,.int x),some (o,.lst (ys.map D.int))::env):=by
 rw[DE];simp only[List.getElem?_cons_zero,Vt,gX,V6,ZA,ZC,h,Wt,List.set_cons_zero]
theorem Hw(p:Addr)(ys:List Int)(x:Int)(env:PV.Env):ePop 0 (some (.pin p (.l .f),.lst ((ys++[x]).map D.int))::env)=.ok ((.f,.int x),some (.pin p (.l .f),.lst (ys.map D.int))::env):=pop0 _ rfl ys x env
variable{α:Type}
theorem jA(n k:Nat)(g:Nat->α)(v:α):((List.range n).map g).set k v=(List.range n).map fun i=>if i=k then v else g i:=by
 apply Y5
 ·rw[VI,bf,bf]
 ·intro i h1 h2;rw[List.getElem_set,Xk,Xk,Xq];by_cases h:i=k
  ·rw[U2 h.symm,U2 h]
  ·rw[U9 (WD h),U9 h]
theorem x9(l:List Int)(k:Nat)(h:k<l.length):(l.take (k+1)).sum=(l.take k).sum+l[k]:=by
 rw[WB h,ZO,List.sum_cons,aax,Wf]
theorem rj(a b:List Int):Ja (.lst (a.map D.int)) (.lst (b.map D.int))=.ok (.f,.bl (a==b)):=by
 unfold Ja;rw[plainD,plainD,cb,cb,Ia,iT];rfl
variable{x:Int}{n:Nat}
theorem DK(hx:x.natAbs<2 ^ n)(hn:n<=900000):x.natAbs.log2<900000:=by
 rcases Nat.eq_zero_or_pos x.natAbs with e|e
 ·rw[e];decide
 ·have:=(Nat.log2_lt (Xs e)).mpr hx;lia
theorem y3{y:Int}{m:Nat}(hx:x.natAbs<2 ^ n)(hy:y.natAbs<2 ^ m)(hn:n<=900000)(hm:m<=900000):kq (.int x) (.int y)=.ok (.f,.int (x*y)):=by
 unfold kq;dsimp only;rw[U2 ⟨DK hx hn,DK hy hm⟩]
theorem Ul:(2:Nat) ^ 32=4294967296:=by decide +kernel
theorem Gy{y:Int}(hx:x.natAbs<4294967296)(hy:y.natAbs<4294967296):kq (.int x) (.int y)=.ok (.f,.int (x*y)):=y3 (n:=32) (m:=32) (by rw[Ul];exact hx) (by rw[Ul];exact hy) (by decide) (by decide)
theorem DM:uP (.int 10) (.int 59)=.ok (.f,.int (10 ^ 59)):=Gx 59 (by decide)
theorem FZ:uP (.int 10) (.int 30)=.ok (.f,.int (10 ^ 30)):=Gx 30 (by decide)
theorem Um:(0:Int)<10 ^ 59:=by decide +kernel
theorem vY(ns:List Int)(h:ns.length<=63):∃d:List Int,d.length=80/\b8 [.lst (ns.map D.int),.int 80]=.ok (.l .f,.lst (d.map D.int)):=by
 have ct:kQ (ns.map D.int) none (some (80:Int))=(ns.take 80).map D.int:=by
  rw[mZ];exact V7 (List.map D.int) (x6 ns 80)
 have hc:cH (ax 0) dX (aG jF (aj 0) (ao (aG uP (ao (aE (.int 10))) (ao (aE (.int 59)))))) ((ns.take 80).map D.int) [none]=.ok (((ns.take 80).map fun x=>x%10 ^ 59).map D.int):=by
  rw[Vm];refine c7 (fun env=>∃t,env=[t]) _ ?_ _ ⟨_,rfl⟩;rintro x _ env ⟨t,rfl⟩;refine⟨[fI x],by simp only[pv,↓reduceIte,Nat.reduceAdd,Nat.reduceLT,Nat.reduceLeDiff,Nat.reduceEqDiff],?_⟩;simp only[pv,↓reduceIte,Nat.reduceAdd,Nat.reduceLT,Nat.reduceLeDiff,Nat.reduceEqDiff,op,DM,x5 _ _ Um];exact⟨_,_,rfl,_,rfl⟩
 have hl:((ns.take 80).map fun x=>x%10 ^ 59).length<=80:=by
  rw[bf,VE];lia
 generalize (ns.take 80).map (fun x=>x%10 ^ 59)=d0 at hc hl;unfold b8 g8;rw[bC (h:=by rfl)];have fl:(d0.map D.int).length<=sizeLine:=line_le (by rw[bf];lia);rw[av (env':=[fq (.lst (ns.map D.int)),fI 80,fL (d0.map D.int),none]) (by simp only[pv,↓reduceIte,Nat.reduceAdd,Nat.reduceLT,Nat.reduceLeDiff,Nat.reduceEqDiff,op,ct,hc,HY,fl])];have mB:=x5 d0.sum 2147483647 (by decide);rw[av (env':=[fq (.lst (ns.map D.int)),fI 80,fL (d0.map D.int),fI (48271+d0.sum%2147483647)]) (by simp only[pv,↓reduceIte,Nat.reduceAdd,Nat.reduceLT,Nat.reduceLeDiff,Nat.reduceEqDiff,op,vX,mB])];have b0:=sY d0.sum 2147483647 (by decide);have hb:0<=48271+d0.sum%2147483647/\48271+d0.sum%2147483647<4294967296:=by lia
 clear b0 mB;generalize 48271+d0.sum%2147483647=l0 at hb;obtain⟨env',hw,d,l,hd,rfl⟩:=oY (c:=Iz (aG LO (ao (bH gj (af (aj 2) aw))) (aj 1))) (g:=dg) (fun k env=>∃(d:List Int) (l:Int),d.length+k=80/\0<=l/\l<4294967296/\env=[fq (.lst (ns.map D.int)),fI 80,fL (d.map D.int),fI l])
  (fun env=>∃(d:List Int) (l:Int),d.length=80/\env=[fq (.lst (ns.map D.int)),fI 80,fL (d.map D.int),fI l]) (by
   rintro k env ⟨d,l,hk,h0,h1,rfl⟩;by_cases Iu:d.length<80
   ·refine .inr ⟨[fq (.lst (ns.map D.int)),fI 80,fL (d.map D.int),fI l],?_,[fq (.lst (ns.map D.int)),fI 80,fL (((d++[(l*l+48271*l+(d.length:Int))%2147483647]).map D.int)),fI (((l*l+48271*l+(d.length:Int))%2147483647))],k-1,?_,by lia,_,_,?_,(sY _ _ (by decide)).1,?_,rfl⟩
    ·have:decide ((d.length:Int)<80)=true:=VL (by lia);simp only[pv,↓reduceIte,Nat.reduceAdd,Nat.reduceLT,Nat.reduceLeDiff,Nat.reduceEqDiff,op,bf,this]
    ·have e1:=Gy (x:=l) (y:=l) (by lia) (by lia);have e2:=Gy (x:=48271) (y:=l) (by decide) (by lia);have e3:∀x,jF (.int x) (.int 2147483647)=.ok (.f,.int (x%2147483647)):=fun x=>x5 x _ (by decide)
     have e4:(d.map D.int).length<sizeLine:=short (by rw[bf];lia);rw[Vt];unfold dg;rw[av (env':=[fq (.lst (ns.map D.int)),fI 80,fL (d.map D.int),fI (((l*l+48271*l+(d.length:Int))%2147483647))]) (by simp only[pv,↓reduceIte,Nat.reduceAdd,Nat.reduceLT,Nat.reduceLeDiff,Nat.reduceEqDiff,op,bf,e1,e2,e3])];simp only[pv,↓reduceIte,Nat.reduceAdd,Nat.reduceLT,Nat.reduceLeDiff,Nat.reduceEqDiff,e4]
    ·rw[rh,Vb,V3];lia
    ·have:=(sY (l*l+48271*l+(d.length:Int)) 2147483647 (by decide)).2;lia
   ·refine .inl ⟨[fq (.lst (ns.map D.int)),fI 80,fL (d.map D.int),fI l],?_,d,l,by lia,rfl⟩;have:decide ((d.length:Int)<80)=false:=VG (by lia);simp only[pv,↓reduceIte,Nat.reduceAdd,Nat.reduceLT,Nat.reduceLeDiff,Nat.reduceEqDiff,op,bf,this]) 100000 (80-d0.length) [fq (.lst (ns.map D.int)),fI 80,fL (d0.map D.int),fI l0] (by lia) ⟨d0,l0,by lia,hb.1,hb.2,rfl⟩
 refine⟨d.reverse,by rw[XJ,hd],?_⟩;unfold f6 eZ;rw[av hw];simp only[pv,↓reduceIte,Nat.reduceAdd,Nat.reduceLT,Nat.reduceLeDiff,Nat.reduceEqDiff,FV,List.map_reverse]
def dr(d:List Int)(m:Int):Int:=match d.getLast? with
 |some x=>x%m
 |none=>0
theorem DN(p:Addr)(d:List Int)(m:Int)(hm:0<m):aI p [.lst (d.map D.int),.int m]=.ok (.t [.f,.pin p (.l .f)],.tup [.int (dr d m),.lst (d.dropLast.map D.int)]):=by
 unfold aI kz;rw[iU (h:=by rfl)];rcases List.eq_nil_or_concat d with rfl|⟨ys,x,rfl⟩
 ·have e:=rj [] [];rw[V6]at e;simp only[pv,seval,bY,V6,e,V0];rfl
 ·have e:=rj (ys++[x]) [];have ne:((ys++[x])==([]:List Int))=false:=by cases ys <;> rfl
  rw[ne,V6]at e;rw[List.concat_eq_append];generalize hl:D.lst ((ys++[x]).map D.int)=L at e;simp only[pv,seval,e,ik];rw[<-hl];simp only[pv,seval,bY,Hw,x5 _ _ hm];unfold dr;rw[ZA,ZC]
theorem kJ(d:List Int)(m:Int)(hm:0<m):jG aI (.l .f) (.lst (d.map D.int)) [.int m]=.ok ((.f,.int (dr d m)),.lst (d.dropLast.map D.int)):=iI (r:=(.f,.int (dr d m))) fun p=>DN p d m hm
def nu(d:List Int):Int:=if dr d (10 ^ 59)%4==3 then dr d (10 ^ 59) / 4%(2*10 ^ 30+1)-10 ^ 30 else dr d (10 ^ 59) / 4%7-3
theorem Hx(d:List Int):(nu d).natAbs<=10 ^ 30:=by
 unfold nu;generalize dr d (10 ^ 59) / 4=y;split
 ·have h:=sY y (2*10 ^ 30+1) (by decide +kernel);generalize y%(2*10 ^ 30+1)=z at h;obtain⟨h1,h2⟩:=h;lia
 ·have h:=sY y 7 (by decide);lia
theorem yc(p:Addr)(d:List Int):bO p [.lst (d.map D.int)]=.ok (.t [.f,.pin p (.l .f)],.tup [.int (nu d),.lst (d.dropLast.map D.int)]):=by
 unfold bO iN;rw[iU (h:=by rfl)];have m4:∀x,jF (.int x) (.int 4)=.ok (.f,.int (x%4)):=fun x=>x5 x 4 (by decide)
 have m7:∀x,jF (.int x) (.int 7)=.ok (.f,.int (x%7)):=fun x=>x5 x 7 (by decide)
 have m30:∀x,jF (.int x) (.int (2*10 ^ 30+1))=.ok (.f,.int (x%(2*10 ^ 30+1))):=fun x=>x5 x _ (by decide +kernel)
 have f4:∀x,pL (.int x) (.int 4)=.ok (.f,.int (x / 4)):=fun x=>FY x 4 (by decide) (by decide)
 have u2:kq (.int 2) (.int (10 ^ 30))=.ok (.f,.int (2*10 ^ 30)):=y3 (n:=2) (m:=200) (by decide) (by decide +kernel) (by decide) (by decide);rw[V6,Wx];rw[av (env':=[some (.pin p (.l .f),.lst (d.dropLast.map D.int)),fI (dr d (10 ^ 59))]) (by simp only[pv,↓reduceIte,Nat.reduceAdd,Nat.reduceLT,Nat.reduceLeDiff,Nat.reduceEqDiff,op,DM,kJ d _ Um,cG,fm,fg,bY,Iv,Iw,cF,cj,ck,HY,Vr,Wn,Wt])];unfold nu;generalize dr d (10 ^ 59)=z;cases h:z%4==3 with
 |true=>
  simp only[pv,↓reduceIte,Nat.reduceAdd,Nat.reduceLT,Nat.reduceLeDiff,Nat.reduceEqDiff,op,m4,m30,f4,u2,FZ,h,bY]
 |false=>
  simp only[pv,↓reduceIte,Nat.reduceAdd,Nat.reduceLT,Nat.reduceLeDiff,Nat.reduceEqDiff,op,m4,m7,f4,h,bY,ik]
theorem yd(d:List Int):jG bO (.l .f) (.lst (d.map D.int)) []=.ok ((.f,.int (nu d)),.lst (d.dropLast.map D.int)):=iI (r:=(.f,.int (nu d))) fun p=>yc p d
def it(nx:List Int->List Int):Nat->List Int->List Int
 | 0,d=>d
 |n+1,d=>nx (it nx n d)
variable{f:FX}{v:List Int->D}{nx:List Int->List Int}
theorem ye(aU:PV.Env)(q:Addr)(hf:∀(d:List Int) (k:Int),∃o,f (fI k::some (.pin q (.l .f),.lst (d.map D.int))::aU)=.ok ((o,v d),fI k::some (.pin q (.l .f),.lst ((nx d).map D.int))::aU))(n:Nat)(d:List Int)(t:Option R):
  ∃t',compLE (ax 0) dX f ((List.range n).map fun(k:Nat)=>D.int (k:Int)) (t::some (.pin q (.l .f),.lst (d.map D.int))::aU)=.ok ((List.range n).map (fun i=>v (it nx i d)),t'::some (.pin q (.l .f),.lst ((it nx n d).map D.int))::aU):=by
 obtain⟨rs,Ic,h1,t',h2,h3⟩:=lH (a:=ax 0) (f:=f) (e:=fun(k:Nat)=>D.int (k:Int)) (fun n env acc=>∃t',env=t'::some (.pin q (.l .f),.lst ((it nx n d).map D.int))::aU/\acc=(List.range n).map (fun i=>v (it nx i d))) (List.range n) 0 (t::some (.pin q (.l .f),.lst (d.map D.int))::aU) [] ⟨t,rfl,rfl⟩ (by
  rintro k x env acc hk ⟨t',rfl,rfl⟩;rw[XR];obtain⟨o,e⟩:=hf (it nx k d) (x:Int);exact⟨fI (x:Int)::some (.pin q (.l .f),.lst ((it nx k d).map D.int))::aU,by rw[Jy,U2 (by rw[Vb];exact Xx _)];rfl,o,_,_,e,_,rfl,by rw[Yn,Vt];rfl⟩)
 rw[XR,Vi]at h2;rw[XR,Vi,Wx]at h3;subst h2 h3;exact⟨t',h1⟩
theorem rk(aU:PV.Env)(hf:∀(q:Addr) (d:List Int) (k:Int),∃o,f (fI k::some (.pin q (.l .f),.lst (d.map D.int))::aU)=.ok ((o,v d),fI k::some (.pin q (.l .f),.lst ((nx d).map D.int))::aU))(n:Nat)(d:List Int)(t:Option R):
  mJ (ax 0) dX f ((List.range n).map fun(k:Nat)=>D.int (k:Int)) (fun q=>t::some (.pin q (.l .f),.lst (d.map D.int))::aU) 1=.ok ((List.range n).map (fun i=>v (it nx i d)),(it nx n d).map D.int):=by
 refine qS fun q=>?_
 obtain⟨t',h⟩:=ye aU q (hf q) n d t;exact⟨_,h,rfl⟩
def Mc(w:Nat)(d:List Int):List Int:=(List.range w).map fun i=>nu (it List.dropLast i d)
theorem p0(w:Nat)(d:List Int):(Mc w d).length=w:=by unfold Mc;rw[bf,Vi]
theorem DO(w:Nat)(d:List Int):∀x∈Mc w d,x.natAbs<=10 ^ 30:=by
 intro x hx;unfold Mc at hx;obtain⟨i,_,rfl⟩:=nH hx;exact Hx _
theorem F0(p:Addr)(d:List Int)(w:Nat)(hw:w<=1000):bS p [.lst (d.map D.int),.int (w:Int)]=.ok (.t [.f,.pin p (.l .f)],.tup [.tup ((Mc w d).map D.int),.lst ((it List.dropLast w d).map D.int)]):=by
 have hc:=rk (f:=eFunW (.l .f) bO 1 (af (aj 1) aw)) (v:=fun d=>.int (nu d)) (nx:=List.dropLast) [] (fun q d k=>⟨.f,by simp only[pv,seval,yd,cG,fm,fg,bY,Iv,Iw,cF,cj,ck,HY,Vr,Wn,Wt]⟩) w d none;have e1:(List.range w).map (fun i=>D.int (nu (it List.dropLast i d)))=(Mc w d).map D.int:=by
  unfold Mc;rw[Vm];rfl
 rw[e1]at hc;have hl:((Mc w d).map D.int).length<=sizeLine:=line_le (by rw[bf,p0];lia);have hr:-4611686018427387904<=(w:Int)/\(w:Int)<4611686018427387904:=by lia
 unfold bS lF;rw[iU (h:=by rfl)];simp only[gX,V6,List.replicate_zero,Vu,W4,Wx];simp only[pv,seval,op,mX,hr,VV,A6,hc,hl,HY,bY,and_self]
theorem DP(d:List Int)(w:Nat)(hw:w<=1000):jG bS (.l .f) (.lst (d.map D.int)) [.int (w:Int)]=.ok ((.f,.tup ((Mc w d).map D.int)),.lst ((it List.dropLast w d).map D.int)):=iI (r:=(.f,.tup ((Mc w d).map D.int))) fun p=>F0 p d w hw
theorem bT(l:List α)(k:Nat)(d:α)(h:k<l.length):l.getD k d=l[k]:=by rw[UQ,iV h];rfl
theorem rm(a b:List Int)(k:Nat)(ha:k<a.length)(hb:k<b.length):(((a.zip b).map fun z=>z.1*z.2).take (k+1)).sum=(((a.zip b).map fun z=>z.1*z.2).take k).sum+a.getD k 0*b.getD k 0:=by
 have h:k<((a.zip b).map fun z=>z.1*z.2).length:=by
  rw[bf,Wv];lia
 rw[x9 _ k h,Xk,X9,bT _ _ _ ha,bT _ _ _ hb]
theorem vZ(rows:List (List Int))(uZ:List Int)(j k:Nat)(ha:j<rows.length)(hb:j<uZ.length):(((rows.zip uZ).take (j+1)).map fun z=>z.1.getD k 0*z.2).sum=(((rows.zip uZ).take j).map fun z=>z.1.getD k 0*z.2).sum+(rows[j].getD k 0)*uZ[j]:=by
 have h:j<(rows.zip uZ).length:=by
  rw[Wv];lia
 rw[WB h,Vt,ZO,gX,V6,List.sum_cons,aax,Wf,X9]
theorem fT{l:List Int}{k:Nat}(h:k<l.length):l.getD k 0∈l:=by
 rw[bT _ _ _ h];exact XI h
abbrev Bg(n:Nat)(a:List Int):Prop:=∀x∈a,x.natAbs<2 ^ n
def eR(r:List Int):D:=.tup (r.map D.int)
def dot(a b:List Int):Int:=((a.zip b).map fun z=>z.1*z.2).sum
theorem yf(a b:List Int):((a.map D.int).zip (b.map D.int)).map (fun z=>D.tup [z.1,z.2])=(a.zip b).map fun z=>D.tup [.int z.1,.int z.2]:=by
 rw[aay,Vm];rfl
theorem oZ{m:Nat}(hn:n<=900000)(hm:m<=900000)(a b:List Int)(ha:Bg n a)(hb:Bg m b)(hl:a.length<=1000):cw [eR a,eR b]=.ok (.f,.int (dot a b)):=by
 have hc:cH (iZ 2 (aJ (ax 0) (aJ (ax 1) c9))) dX (aG kq (aj 0) (aj 1)) ((a.zip b).map fun z=>D.tup [.int z.1,.int z.2]) [none,none]=.ok (((a.zip b).map fun z=>z.1*z.2).map D.int):=by
  rw[Vm];refine c7 (fun env=>∃t u,env=[t,u]) _ ?_ _ ⟨_,_,rfl⟩;rintro⟨x,y⟩ hz env ⟨t,u,rfl⟩;have hx:=ha x (Xd hz).1;have hy:=hb y (Xd hz).2;refine⟨_,kH _ _ _ _ _,?_⟩;simp only[pv,seval,y3 hx hy hn hm];exact⟨_,_,rfl,_,_,rfl⟩
 have Tu:(((a.zip b).map fun z=>z.1*z.2).map D.int).length<=16777216:=by
  rw[bf,bf,Wv];lia
 unfold cw oP eR;rw[bC (h:=by rfl)];simp only[pv,seval,op,yf,hc,line_le Tu,HY,vX];rfl
theorem lJ{m:Nat}(hn:n<=900000)(hm:m<=900000)(a b:List Int)(ha:Bg n a)(hb:Bg m b)(hl:a.length<=1000)(KI:a.length=b.length):aS [eR a,eR b]=.ok (.f,.int (dot a b)):=by
 have hz:((a.zip b).map fun z=>z.1*z.2).take a.length=(a.zip b).map fun z=>z.1*z.2:=by
  rw[Wb];rw[bf,Wv];lia
 obtain⟨env',hf,t,rfl⟩:=vV (a:=ax 3) (g:=dh) (e:=fun k=>D.int (k:Int)) a.length (fun k env=>∃t,env=[fq (eR a),fq (eR b),fI ((((a.zip b).map fun z=>z.1*z.2).take k).sum),t]) (by
  rintro k env hk ⟨t,rfl⟩;have KQ:k<b.length:=KI▸hk;refine⟨[fq (eR a),fq (eR b),fI ((((a.zip b).map fun z=>z.1*z.2).take k).sum),fI (k:Int)],by simp only[pv,seval],[fq (eR a),fq (eR b),fI ((((a.zip b).map fun z=>z.1*z.2).take (k+1)).sum),fI (k:Int)],?_,_,rfl⟩;have e1:=lI (l:=a) hk;have e2:=lI (l:=b) KQ;have e3:=y3 (ha _ (fT hk)) (hb _ (fT KQ)) hn hm;rw[rm a b k hk KQ];unfold dh eR;simp only[pv,seval,op,e1,e2,e3]) [fq (eR a),fq (eR b),fI 0,none] ⟨_,by rw[YF,aax]⟩
 unfold aS g9;rw[bC (h:=by rfl)];have hr:cM (ao (bH gj (af (aj 0) aw))) [fq (eR a),fq (eR b),fI 0,none]=.ok ((List.range a.length).map fun(k:Nat)=>D.int (k:Int),[fq (eR a),fq (eR b),fI 0,none]):=by
  refine(Ez (a.length:Int) (by lia) (by lia) _ _ _ (.val (.int (a.length:Int))) ?_ rfl);unfold eR;simp only[pv,seval,op,bf]
 rw[av (env':=[fq (eR a),fq (eR b),fI 0,none]) (by simp only[pv,seval])];rw[av (env':=[fq (eR a),fq (eR b),fI (dot a b),t]) (by
  unfold f7;rw[LS,hr,Jl];rw[hz]at hf;exact hf)]
 unfold e9;simp only[pv,seval]
def co(rows:List (List Int))(uZ:List Int)(j k:Nat):Int:=(((rows.zip uZ).take j).map fun z=>z.1.getD k 0*z.2).sum
theorem rp(rows:List (List Int))(uZ:List Int):((rows.map eR).zip (uZ.map D.int)).map (fun z=>D.tup [z.1,z.2])=(rows.zip uZ).map fun z=>D.tup [eR z.1,.int z.2]:=by
 rw[aay,Vm];rfl
def Rows(n w:Nat)(rows:List (List Int)):Prop:=∀r∈rows,r.length=w/\Bg n r
theorem m5(rows:List (List Int)):H0 (rows.map eR)=true:=by
 rw[cO,Xw,VA];intro r _;show cR (.tup _)=true;rw[d9,HY]
theorem F1{m:Nat}(hn:n<=900000)(hm:m<=900000)(w k:Nat)(hk:k<w)(rows:List (List Int))(uZ:List Int)(hr:Rows n w rows)(Md:Bg m uZ):cH (iZ 2 (aJ (ax 0) (aJ (ax 1) c9))) dX (aG kq (ao (aG IK (aj 0) (aj 2))) (aj 1)) ((rows.zip uZ).map fun z=>D.tup [eR z.1,.int z.2]) [none,none,fI (k:Int)]=.ok (((rows.zip uZ).map fun z=>z.1.getD k 0*z.2).map D.int):=by
 rw[Vm];refine c7 (fun env=>∃t u,env=[t,u,fI (k:Int)]) _ ?_ _ ⟨_,_,rfl⟩;rintro⟨r,y⟩ hz env ⟨t,u,rfl⟩;have O4:=Xd hz;obtain⟨h1,h2⟩:=hr r O4.1;have KQ:k<r.length:=h1▸hk;have e1:=lI (l:=r) KQ;have e2:=y3 (h2 _ (fT KQ)) (Md y O4.2) hn hm;refine⟨_,kH _ _ _ _ _,?_⟩;unfold eR;simp only[pv,seval,op,e1,e2];exact⟨_,_,rfl,_,_,rfl⟩
theorem yg{m:Nat}(hn:n<=900000)(hm:m<=900000)(w:Nat)(hw:w<=1000)(rows:List (List Int))(uZ:List Int)(hr:Rows n w rows)(Md:Bg m uZ)(hl:rows.length<=1000):fD [.lst (rows.map eR),.lst (uZ.map D.int),.int (w:Int)]=.ok (.f,eR ((List.range w).map (co rows uZ rows.length))):=by
 have SG:∀k,((rows.zip uZ).map fun z=>z.1.getD k 0*z.2).sum=co rows uZ rows.length k:=fun k=>by
  unfold co;rw[Wb];rw[Wv];lia
 have Tu:∀k,(((rows.zip uZ).map fun z=>z.1.getD k 0*z.2).map D.int).length<=16777216:=fun k=>by
  rw[bf,bf,Wv];lia
 have hc:cH (ax 0) dX (bH yQ (af (ao (cS (oB (af (ao (aK 1)) (af (ao (aK 2)) aw))) [none,none,some 0] (iZ 2 (aJ (ax 0) (aJ (ax 1) c9))) dX (aG kq (ao (aG IK (aj 0) (aj 2))) (aj 1)))) aw)) ((List.range w).map fun(k:Nat)=>D.int (k:Int)) [none,fq (.lst (rows.map eR)),fq (.lst (uZ.map D.int))]=.ok (((List.range w).map (co rows uZ rows.length)).map D.int):=by
  rw[Vm];refine c7 (fun env=>∃t,env=[t,fq (.lst (rows.map eR)),fq (.lst (uZ.map D.int))]) _ ?_ _ ⟨_,rfl⟩;rintro k hk env ⟨t,rfl⟩;have hk:k<w:=V8.mp hk;refine⟨[fI (k:Int),fq (.lst (rows.map eR)),fq (.lst (uZ.map D.int))],by simp only[pv,seval],?_⟩;simp only[pv,seval,op,rp,F1 hn hm w k hk rows uZ hr Md,line_le (Tu k),HY,vX,SG];exact⟨_,_,rfl,_,rfl⟩
 have hl3:(((List.range w).map (co rows uZ rows.length)).map D.int).length<=16777216:=by
  rw[bf,bf,Vi];lia
 unfold fD qW eR;rw[bC (h:=by rfl)];have OQ:-4611686018427387904<=(w:Int)/\(w:Int)<4611686018427387904:=by lia
 unfold eR at hc;simp only[pv,seval,op,OQ,VV,and_self,hc,line_le hl3,HY]
theorem di(w k:Nat)(f:Nat->Int)(h:k<w):((List.range w).map f).getD k 0=f k:=by
 rw[bT _ _ _ (by rw[bf,Vi];exact h),Xk,Xq]
theorem A7(x y:D)(a b c d t1 t2 t3:Option R):iZ 2 (aJ (ax 4) (aJ (ax 5) c9)) (.tup [x,y]) [a,b,c,d,t1,t2,t3]=.ok [a,b,c,d,fq x,fq y,t3]:=by
 rw[MH,U2 (by simp),JL,Jy,U2 (by simp),Jl,JL,Jy,U2 (by simp),Jl];rfl
theorem A8{m:Nat}(hn:n<=900000)(hm:m<=900000)(w:Nat)(hw:w<=1000)(R0 N0:D)(f:Nat->Int)(r:List Int)(y:Int)(hr:r.length=w/\Bg n r)(hy:y.natAbs<2 ^ m)(t:Option R):
  ∃t',gC [fq R0,fq N0,fI (w:Int),fL ((((List.range w).map f).map D.int)),fq (eR r),fI y,t] =
   .ok (.nx [fq R0,fq N0,fI (w:Int),fL ((((List.range w).map fun k=>f k+r.getD k 0*y).map D.int)),fq (eR r),fI y,t']):=by
 obtain⟨env',hf,t',rfl⟩:=vV (a:=ax 6) (g:=fG) (e:=fun k=>D.int (k:Int)) w (fun k env=>∃t,env=[fq R0,fq N0,fI (w:Int),fL ((((List.range w).map fun i=>if i<k then f i+r.getD i 0*y else f i).map D.int)),fq (eR r),fI y,t]) (by
  rintro k env hk ⟨t,rfl⟩;have KQ:k<r.length:=hr.1.symm▸hk;generalize hg:(fun i=>if i<k then f i+r.getD i 0*y else f i)=g;have gk:g k=f k:=by rw[<-hg];exact U9 (Wm _)
  have e0:Kz (((List.range w).map g).map D.int) (k:Int)=some (.int (f k)):=by
   rw[lI (by rw[bf,Vi];exact hk),di w k g hk,gk]
  have e1:=lI (l:=r) KQ;have e2:=y3 (hr.2 _ (fT KQ)) hy hn hm;have e3:ixN (((List.range w).map g).map D.int).length (k:Int)=some k:=mY _ _ (by rw[bf,bf,Vi];exact hk);have e4:(((List.range w).map g).map D.int).set k (.int (f k+r.getD k 0*y))=((List.range w).map fun i=>if i<k+1 then f i+r.getD i 0*y else f i).map D.int:=by
   rw[Vm,jA,Vm];refine VY fun i _=>?_
   show(if i=k then D.int _ else D.int (g i))=D.int (if i<k+1 then f i+r.getD i 0*y else f i);by_cases h:i=k
   ·subst h;rw[U2 rfl,U2 (Nat.lt_add_one _)]
   ·rw[U9 h,<-hg];dsimp only;by_cases h2:i<k
    ·rw[U2 h2,U2 (by lia)]
    ·rw[U9 h2,U9 (by lia)]
  refine⟨[fq R0,fq N0,fI (w:Int),fL ((((List.range w).map g).map D.int)),fq (eR r),fI y,fI (k:Int)],by simp only[pv,seval],
   [fq R0,fq N0,fI (w:Int),fL ((((List.range w).map fun i=>if i<k+1 then f i+r.getD i 0*y else f i).map D.int)),fq (eR r),fI y,fI (k:Int)],?_,_,rfl⟩
  rw[<-e4];unfold fG eR;simp only[pv,seval,op,e0,e1,e2,e3]) [fq R0,fq N0,fI (w:Int),fL ((((List.range w).map f).map D.int)),fq (eR r),fI y,t] ⟨t,by simp only[Vj,YT]⟩
 refine⟨t',?_⟩;unfold gC;rw[LS,Ez (w:Int) (by lia) (by lia) _ _ _ (.var 2) rfl rfl,Jl];refine hf.trans ?_;have:(List.range w).map (fun i=>if i<w then f i+r.getD i 0*y else f i)=(List.range w).map fun k=>f k+r.getD k 0*y:=VY fun i hi=>U2 (V8.mp hi)
 rw[this]
theorem rq{m:Nat}(hn:n<=900000)(hm:m<=900000)(w:Nat)(hw:w<=1000)(rows:List (List Int))(uZ:List Int)(hr:Rows n w rows)(Md:Bg m uZ)(hl:rows.length<=1000)(Tv:rows.length=uZ.length):bq [.lst (rows.map eR),.lst (uZ.map D.int),.int (w:Int)]=.ok (.f,eR ((List.range w).map (co rows uZ rows.length))):=by
 have zl:(rows.zip uZ).length=rows.length:=by
  rw[Wv];lia
 have e0:kq (.lst [.int 0]) (.int (w:Int))=.ok (.l .f,.lst (((List.range w).map fun _=>(0:Int)).map D.int)):=by
  show BH (.lst [.int 0]) (.int (w:Int))=_;rw[vS,U2 ⟨by lia,by lia,line_le (by rw[Vb,V3];lia)⟩,VV];have:(List.replicate w [D.int 0]).flatten=((List.range w).map fun _=>(0:Int)).map D.int:=by
   rw[Vm];clear hw hr;induction w with
   |zero=>rfl
   |succ n ih=>rw[ZD,ZP,ih,Yn,Vt];rfl
  rw[this]
 obtain⟨env',hf,t1,t2,t3,rfl⟩:=for_list (a:=iZ 2 (aJ (ax 4) (aJ (ax 5) c9))) (g:=iO) (e:=fun z:List Int×Int=>D.tup [eR z.1,.int z.2]) (rows.zip uZ) (fun j env=>∃t1 t2 t3,env=[fq (.lst (rows.map eR)),fq (.lst (uZ.map D.int)),fI (w:Int),fL ((((List.range w).map (co rows uZ j)).map D.int)),t1,t2,t3]) (by
  rintro j ⟨r,y⟩ env hj ⟨t1,t2,t3,rfl⟩;have hz:(r,y)∈rows.zip uZ:=VU hj;have RH:=Xd hz;obtain⟨q1,q2⟩:=Xb.mp hj;obtain⟨l1,q1⟩:=y0 q1;obtain⟨l2,q2⟩:=y0 q2;obtain⟨t',hs⟩:=A8 hn hm w hw (.lst (rows.map eR)) (.lst (uZ.map D.int)) (co rows uZ j) r y (hr r RH.1) (Md y RH.2) t3;have e:(fun k=>co rows uZ j k+r.getD k 0*y)=co rows uZ (j+1):=funext fun k=>by
   unfold co;rw[vZ rows uZ j k l1 l2];dsimp only at q1 q2;rw[q1,q2]
  rw[e]at hs;exact⟨_,A7 _ _ _ _ _ _ _ _ _,_,hs,_,_,_,rfl⟩) [fq (.lst (rows.map eR)),fq (.lst (uZ.map D.int)),fI (w:Int),fL ((((List.range w).map fun _=>(0:Int)).map D.int)),none,none,none] ⟨_,_,_,by
   have:co rows uZ 0=fun _=>(0:Int):=funext fun k=>by unfold co;rw[YF];rfl
   rw[this]⟩
 unfold bq lG;rw[bC (h:=by rfl)];rw[av (env':=[fq (.lst (rows.map eR)),fq (.lst (uZ.map D.int)),fI (w:Int),fL ((((List.range w).map fun _=>(0:Int)).map D.int)),none,none,none]) (by simp only[pv,seval,e0])];rw[av (env':=[fq (.lst (rows.map eR)),fq (.lst (uZ.map D.int)),fI (w:Int),fL ((((List.range w).map (co rows uZ rows.length)).map D.int)),t1,t2,t3]) (by
  unfold jx;rw[LS];simp only[pv,seval,rp];rw[zl]at hf;exact hf)]
 unfold iP;simp only[pv,seval,op];rfl
end LW
namespace LW
theorem Uo:∀(k n:Nat) (f:Nat->Nat),k<n->(∀i,i<n->f i<k)->∃i j,i<j/\j<n/\f i=f j
 | 0,n,f,h,hf=>absurd (hf 0 h) (Vj _)
 |k+1,0,f,h,hf=>absurd h (Vj _)
 |k+1,n+1,f,h,hf=>by
  by_cases hc:∃i,i<n/\f i=f n
  ·obtain⟨i,h1,h2⟩:=hc;exact⟨i,n,h1,VB n,h2⟩
  ·have hn:∀i,i<n->f i≠f n:=fun i hi e=>hc ⟨i,hi,e⟩
   obtain⟨i,j,h1,h2,h3⟩:=Uo k n (fun i=>if f i=k then f n else f i) (by lia) (fun i hi=>by
    have a1:=hf i (by lia);have a2:=hf n (by lia);have a3:=hn i hi;split <;> lia)
   refine⟨i,j,h1,by lia,?_⟩;have b1:=hn i (by lia);have b2:=hn j (by lia);split at h3 <;> split at h3 <;> lia
def sg(n:Nat)(f:Nat->Int):Int:=match n with
 | 0=>0
 |n+1=>sg n f+f n
variable{n:Nat}{f:Nat->Int}
theorem ay{g:Nat->Int}(h:∀k,k<n->f k=g k):sg n f=sg n g:=by
 induction n with
 |zero=>rfl
 |succ n ih=>unfold sg;rw[ih fun k hk=>h k (by lia),h n (by lia)]
theorem dW(h:∀k,k<n->f k=0):sg n f=0:=by
 induction n with
 |zero=>rfl
 |succ n ih=>unfold sg;rw[ih fun k hk=>h k (by lia),h n (by lia)];rfl
theorem gH(n:Nat)(f g:Nat->Int):sg n (fun k=>f k+g k)=sg n f+sg n g:=by
 induction n with
 |zero=>rfl
 |succ n ih=>unfold sg;rw[ih];lia
theorem cz(n:Nat)(x:Int)(f:Nat->Int):sg n (fun k=>x*f k)=x*sg n f:=by
 induction n with
 |zero=>exact(Vx x).symm
 |succ n ih=>unfold sg;rw[ih,Y0]
theorem gJ(n:Nat)(x:Int)(f:Nat->Int):sg n (fun k=>f k*x)=sg n f*x:=by
 rw[VM,<-cz];exact ay fun k _=>VM _ _
theorem il(m n:Nat)(f:Nat->Nat->Int):sg m (fun i=>sg n (f i))=sg n fun j=>sg m fun i=>f i j:=by
 induction m with
 |zero=>exact(dW fun _ _=>rfl).symm
 |succ m ih=>
  show sg m (fun i=>sg n (f i))+sg n (f m)=sg n fun j=>(sg m fun i=>f i j)+f m j
  rw[ih,<-gH]
variable{c:Nat}
theorem gc(h:c<n)(hf:∀k,k<n->k≠c->f k=0):sg n f=f c:=by
 induction n with
 |zero=>lia
 |succ n ih=>
  unfold sg;by_cases hc:c=n
  ·subst hc;rw[dW fun k hk=>hf k (by lia) (by lia),Yx]
  ·rw[ih (by lia) fun k hk=>hf k (by lia),hf n (by lia) (fun e=>hc e.symm),Wf]
theorem F2{M:Nat}(h:∀k,k<n->(f k).natAbs<=M):(sg n f).natAbs<=n*M:=by
 induction n with
 |zero=>show(0:Int).natAbs<=_;rw[Nat.zero_mul];decide
 |succ n ih=>
  unfold sg;have h1:=ih fun k hk=>h k (by lia)
  have h2:=h n (by lia);have h3:=Int.natAbs_add_le (sg n f) (f n);rw[Zl];lia
def MV(K:Nat):Nat->(Nat->Nat)->Nat
 | 0,_=>0
 |s+1,y=>MV K s y*K+y s
theorem y4{K:Nat}:∀(s:Nat) (y:Nat->Nat),(∀j,j<s->y j<K)->MV K s y<K ^ s
 | 0,_,_=>VB 0
 |s+1,y,h=>by
  have h1:=y4 s y fun j hj=>h j (by lia)
  have h2:=h s (by lia);show MV K s y*K+y s<K ^ (s+1);rw[Xy];have h3:(MV K s y+1)*K<=K ^ s*K:=Wy K h1;rw[Zl]at h3;lia
theorem v3{K:Nat}:∀(s:Nat) (y z:Nat->Nat),(∀j,j<s->y j<K/\z j<K)->MV K s y=MV K s z->∀j,j<s->y j=z j
 | 0,_,_,_,_,j,hj=>absurd hj (Vj j)
 |s+1,y,z,h,e,j,hj=>by
  have e:MV K s y*K+y s=MV K s z*K+z s:=e;obtain⟨h1,h2⟩:=h s (by lia);have hd:MV K s y=MV K s z:=by
   have e1:(MV K s y*K+y s) / K=(MV K s z*K+z s) / K:=by rw[e]
   rw[XQ,XQ (MV K s z),Nat.mul_add_div (by lia),Nat.mul_add_div (by lia),Nat.div_eq_of_lt h1,Nat.div_eq_of_lt h2]at e1;lia
  rw[hd]at e;by_cases hj2:j=s
  ·subst hj2;lia
  ·exact v3 s y z (fun j hj=>h j (by lia)) hd j (by lia)
def KN(B n i:Nat):Nat:=n / B ^ i%B
theorem v7{B:Nat}:∀(r n m:Nat),n<B ^ r->m<B ^ r->(∀i,i<r->KN B n i=KN B m i)->n=m
 | 0,n,m,hn,hm,_=>by
  rw[Nat.pow_zero]at hn hm;lia
 |r+1,n,m,hn,hm,h=>by
  have h0:=h 0 (by lia);unfold KN at h0;rw[Nat.pow_zero,Nat.div_one,Nat.div_one]at h0;rw[Xy,XQ]at hn hm;have hd:n / B=m / B:=v7 r (n / B) (m / B) (ZE hn) (ZE hm) fun i hi=>by
   have:=h (i+1) (by lia);unfold KN at this ⊢;rw[Xy,XQ,<-Ze,<-Ze]at this;exact this
  have e1:=Nat.div_add_mod n B;have e2:=Nat.div_add_mod m B;rw[hd,h0]at e1;lia
theorem wa{r s A:Nat}(h:s<r)(m:Nat->Nat->Int)(hA:∀j,j<s->∀i,i<r->(m j i).natAbs<=A):∃x:Nat->Int,(∃i,i<r/\x i≠0)/\(∀i,i<r->(x i).natAbs<=(2*(r*A)+1) ^ s)/\∀j,j<s->sg r (fun i=>m j i*x i)=0:=by
 generalize hX:(2*(r*A)+1) ^ s=X;have Tw:∀n i,KN (X+1) n i<=X:=fun n i=>by
  exact Nat.le_of_lt_succ (Nat.mod_lt (n / (X+1) ^ i) (Xx X))
 have hy:∀n j,j<s->(sg r fun i=>m j i*(KN (X+1) n i:Int)).natAbs<=r*A*X:=fun n j hj=>by
  rw[Nat.mul_assoc];refine F2 fun i hi=>?_
  rw[WV,V5];exact YH (hA j hj i hi) (Tw n i)
 generalize hC:r*A=C at hX hy;have Iu:∀n j,j<s->((sg r fun i=>m j i*(KN (X+1) n i:Int))+(C*X:Nat)).toNat<2*(C*X)+1:=fun n j hj=>by
  have:=hy n j hj;generalize (sg r fun i=>m j i*(KN (X+1) n i:Int))=q at this;generalize C*X=t at this;lia
 have hcmp:(2*(C*X)+1) ^ s<(X+1) ^ r:=by
  have h1:(X+1) ^ (s+1)<=(X+1) ^ r:=WQ (Xx X) h;have h2:2*(C*X)+1<=(X+1)*(2*C+1):=by
   have:(X+1)*(2*C+1)=2*(C*X)+2*C+X+1:=by
    rw[Nat.mul_add,Nat.add_mul,Nat.mul_one,Nat.one_mul,XQ X,Nat.mul_assoc];lia
   lia
  have h3:(2*(C*X)+1) ^ s<=(X+1) ^ s*X:=by
   rw[<-hX,<-Nat.mul_pow,hX];exact ZQ h2 s
  have h4:(X+1) ^ s*X<(X+1) ^ (s+1):=by
   rw[Xy];have:0<(X+1) ^ s:=Nat.pow_pos (Xx X);exact Nat.mul_lt_mul_of_pos_left (VB X) this
  lia
 obtain⟨a,b,h1,h2,h3⟩:=Uo _ _ (fun n=>MV (2*(C*X)+1) s fun j=>((sg r fun i=>m j i*(KN (X+1) n i:Int))+(C*X:Nat)).toNat) hcmp fun n _=>y4 s _ fun j hj=>Iu n j hj
 have h4:=v3 s _ _ (fun j hj=>⟨Iu a j hj,Iu b j hj⟩) h3;refine⟨fun i=>(KN (X+1) a i:Int)-(KN (X+1) b i:Int),?_,fun i _=>?_,fun j hj=>?_⟩
 ·apply Vk;intro Pr;have:a=b:=v7 r a b (by lia) h2 fun i hi=>by
   apply Vk;intro JH;exact Pr ⟨i,hi,fun z=>JH (by have z:(KN (X+1) a i:Int)-(KN (X+1) b i:Int)=0:=z;lia)⟩
  lia
 ·have:=Tw a i;have:=Tw b i;show((KN (X+1) a i:Int)-(KN (X+1) b i:Int)).natAbs<=X;lia
 ·have e:=h4 j hj;have ya:=hy a j hj;have yb:=hy b j hj;have:sg r (fun i=>m j i*((KN (X+1) a i:Int)-(KN (X+1) b i:Int)))=(sg r fun i=>m j i*(KN (X+1) a i:Int))-sg r fun i=>m j i*(KN (X+1) b i:Int):=by
   have e2:sg r (fun i=>m j i*((KN (X+1) a i:Int)-(KN (X+1) b i:Int)))+(sg r fun i=>m j i*(KN (X+1) b i:Int))=sg r fun i=>m j i*(KN (X+1) a i:Int):=by
    rw[<-gH];refine ay fun k _=>?_
    rw[<-Y0];congr 1
    lia
   lia
  rw[this];generalize (sg r fun i=>m j i*(KN (X+1) a i:Int))=qa at e ya;generalize (sg r fun i=>m j i*(KN (X+1) b i:Int))=qb at e yb;generalize C*X=t at e ya yb;lia
def Qv(r w:Nat)(F:Nat->Nat->Int):Prop:=∀x:Nat->Int,(∀k,k<w->sg r (fun i=>x i*F i k)=0)->∀i,i<r->x i=0
def In(r w:Nat)(F:Nat->Nat->Int)(v:Nat->Int):Prop:=∃(d:Int) (x:Nat->Int),d≠0/\∀k,k<w->d*v k=sg r fun i=>x i*F i k
variable{i w:Nat}{F:Nat->Nat->Int}
theorem eP{r:Nat}(h:i<r):In r w F (F i):=by
 refine⟨1,fun j=>if j=i then 1 else 0,by decide,fun k _=>?_⟩;show 1*F i k=sg r fun j=>(if j=i then 1 else 0)*F j k
 rw[gc h (f:=fun j=>(if j=i then 1 else 0)*F j k) fun j _ hj=>by
  show(if j=i then 1 else 0)*F j k=0;rw[U9 hj,Wg]]
 show 1*F i k=(if i=i then 1 else 0)*F i k;rw[U2 rfl]
variable{v:Nat->Int}
theorem p3{r:Nat}(h:∀k,k<w->v k=0):In r w F v:=by
 refine⟨1,fun _=>0,by decide,fun k hk=>?_⟩;rw[h k hk,dW fun j _=>Wg _,Vx]
variable{u:Nat->Int}
theorem in_add{r:Nat}(a b:Int)(hu:In r w F u)(hv:In r w F v):In r w F fun k=>a*u k+b*v k:=by
 obtain⟨d,x,h1,h2⟩:=hu;obtain⟨e,y,h3,h4⟩:=hv;refine⟨d*e,fun i=>e*a*x i+d*b*y i,fun z=>(VS.mp z).elim h1 h3,fun k hk=>?_⟩;have e1:d*e*(a*u k+b*v k)=e*a*(d*u k)+d*b*(e*v k):=by
  rw[Y0];congr 1
  ·simp only[VM,V9]
  ·simp only[VM,V9]
 rw[e1,h2 k hk,h4 k hk,<-cz,<-cz,<-gH];refine ay fun i _=>?_
 rw[ZR,VF,VF,VF,VF,VF,VF]
theorem iW{r:Nat}(d:Int)(hd:d≠0)(h:∀k,k<w->d*v k=u k)(hu:In r w F u):In r w F v:=by
 obtain⟨e,x,h1,h2⟩:=hu;refine⟨e*d,x,fun z=>(VS.mp z).elim h1 hd,fun k hk=>?_⟩;rw[VF,h k hk,h2 k hk]
theorem cm{r:Nat}(h:∀k,k<w->v k=u k)(hu:In r w F u):In r w F v:=iW 1 (by decide) (fun k hk=>by rw[Wj,h k hk]) hu
theorem hV{r w:Nat}{F:Nat->Nat->Int}:∀(n:Nat) (x:Nat->Int) (G:Nat->Nat->Int),(∀i,i<n->In r w F (G i))->In r w F fun k=>sg n fun i=>x i*G i k
 | 0,_,_,_=>p3 fun _ _=>rfl
 |n+1,x,G,h=>by
  have h1:=hV n x G fun i hi=>h i (by lia)
  refine cm (fun k _=>?_) (in_add 1 (x n) h1 (h n (by lia)));show sg n (fun i=>x i*G i k)+x n*G n k=_;rw[Wj]
theorem eh{r s:Nat}{G:Nat->Nat->Int}(hv:In r w F v)(h:∀i,i<r->In s w G (F i)):In s w G v:=by
 obtain⟨d,x,h1,h2⟩:=hv;exact iW d h1 h2 (hV r x F h)
theorem rA{a b:Nat}{A B:Nat->Nat->Int}(hi:Qv a w A)(h:∀i,i<a->In b w B (A i)):a<=b:=by
 apply Vk;intro Iu;have Nb:∃(d:Nat->Int) (m:Nat->Nat->Int),∀i,i<a->d i≠0/\∀k,k<w->d i*A i k=sg b fun j=>m i j*B j k:=by
  have:∀i,∃(p:Int×(Nat->Int)),i<a->p.1≠0/\∀k,k<w->p.1*A i k=sg b fun j=>p.2 j*B j k:=fun i=>by
   by_cases Pd:i<a
   ·obtain⟨d,x,h1,h2⟩:=h i Pd;exact⟨(d,x),fun _=>⟨h1,h2⟩⟩
   ·exact⟨(0,fun _=>0),fun z=>absurd z Pd⟩
  exact⟨fun i=>(this i).choose.1,fun i=>(this i).choose.2,fun i Pd=>(this i).choose_spec Pd⟩
 obtain⟨d,m,hm⟩:=Nb;have hbd:∃M,∀j,j<b->∀i,i<a->(m i j).natAbs<=M:=by
  have h1:∀(n:Nat) (f:Nat->Nat),∃M,∀i,i<n->f i<=M:=fun n f=>by
   induction n with
   |zero=>exact⟨0,fun i hi=>absurd hi (Vj _)⟩
   |succ n ih=>
    obtain⟨M,hM⟩:=ih;refine⟨M+f n,fun i hi=>?_⟩;by_cases MI:i=n
    ·rw[MI];lia
    ·have:=hM i (by lia);lia
  have h2:∀j,∃M,∀i,i<a->(m i j).natAbs<=M:=fun j=>h1 a fun i=>(m i j).natAbs
  obtain⟨M,hM⟩:=h1 b fun j=>(h2 j).choose
  exact⟨M,fun j hj i Pd=>Vq ((h2 j).choose_spec i Pd) (hM j hj)⟩
 obtain⟨M,hM⟩:=hbd;obtain⟨x,⟨i0,SH,Qw⟩,_,hx⟩:=wa (r:=a) (s:=b) (A:=M) (by lia) (fun j i=>m i j) hM;have:=hi (fun i=>x i*d i) (fun k hk=>by
  have e1:sg a (fun i=>x i*d i*A i k)=sg a fun i=>sg b fun j=>x i*(m i j*B j k):=ay fun i Pd=>by
   rw[VF,(hm i Pd).2 k hk,cz]
  rw[e1,il];refine dW fun j hj=>?_
  have e2:sg a (fun i=>x i*(m i j*B j k))=sg a fun i=>m i j*x i*B j k:=ay fun i _=>by rw[<-VF,VM (x i)]
  rw[e2,gJ,hx j hj,Wg]) i0 SH
 exact(VS.mp this).elim Qw (hm i0 SH).1
abbrev Vc(l:List Int):Nat->Int:=fun k=>l.getD k 0
abbrev Iq:=List (Nat×List Int)
def Ii(L:Iq)(i:Nat):Nat:=(L.getD i (0,[])).1
def Ij(L:Iq)(i:Nat):List Int:=(L.getD i (0,[])).2
structure Rdd(w:Nat)(L:Iq):Prop where
 col:∀i,i<L.length->Ii L i<w
 len:∀i,i<L.length->(Ij L i).length=w
 own:∀i,i<L.length->(Ij L i).getD (Ii L i) 0≠0
 oth:∀i j,i<L.length->j<L.length->i≠j->(Ij L i).getD (Ii L j) 0=0
abbrev Fm(L:Iq):Nat->Nat->Int:=fun i=>Vc (Ij L i)
variable{L:Iq}{j:Nat}
theorem Rdd.at(H:Rdd w L)(x:Nat->Int)(hj:j<L.length):sg L.length (fun i=>x i*Fm L i (Ii L j))=x j*(Ij L j).getD (Ii L j) 0:=
 gc hj fun i hi Ms=>by
  show x i*(Ij L i).getD (Ii L j) 0=0;rw[H.oth i j hi hj Ms,Vx]
theorem Rdd.inj(H:Rdd w L)(hi:i<L.length)(hj:j<L.length)(e:Ii L i=Ii L j):i=j:=by
 apply Vk;intro h;have h1:=H.oth j i hj hi (fun z=>h z.symm);rw[e]at h1;exact H.own j hj h1
theorem Rdd.zero(H:Rdd w L)(hv:In L.length w (Fm L) v)(h0:∀i,i<L.length->v (Ii L i)=0):∀k,k<w->v k=0:=fun k hk=>by
 obtain⟨d,x,h1,h2⟩:=hv;have hx:∀i,i<L.length->x i=0:=fun i hi=>by
  have h:=h2 (Ii L i) (H.col i hi);rw[h0 i hi,Vx,H.at x hi]at h;exact(VS.mp h.symm).resolve_right (H.own i hi)
 have h:=h2 k hk;rw[dW fun i hi=>by rw[hx i hi,Wg]]at h;exact(VS.mp h).resolve_left h1
theorem Rdd.line(H:Rdd w L)(hv:In L.length w (Fm L) v)(hj:j<L.length)(h0:∀i,i<L.length->i≠j->v (Ii L i)=0):∃d y:Int,d≠0/\∀k,k<w->d*v k=y*Fm L j k:=by
 obtain⟨d,x,h1,h2⟩:=hv;have hx:∀i,i<L.length->i≠j->x i=0:=fun i hi Ms=>by
  have h:=h2 (Ii L i) (H.col i hi);rw[h0 i hi Ms,Vx,H.at x hi]at h;exact(VS.mp h.symm).resolve_right (H.own i hi)
 refine⟨d,x j,h1,fun k hk=>?_⟩;rw[h2 k hk];exact gc hj fun i hi Ms=>by rw[hx i hi Ms,Wg]
def gl:List Int->Nat->Nat
 |[],g=>g
 |x::r,g=>gl r (Nat.gcd g x.natAbs)
def low(r:List Int):List Int:=if gl r 0=0 then r else r.map fun x=>x.fdiv (gl r 0:Int)
theorem wb:∀(r:List Int) (g:Nat),gl r g ∣ g/\∀x∈r,gl r g ∣ x.natAbs
 |[],g=>⟨Nat.dvd_refl g,fun _ h=>nomatch h⟩
 |x::r,g=>by
  obtain⟨h1,h2⟩:=wb r (Nat.gcd g x.natAbs);refine⟨aae h1 (Nat.gcd_dvd_left _ _),fun y hy=>?_⟩;rcases U6.mp hy with rfl|hy
  ·exact aae h1 (Nat.gcd_dvd_right _ _)
  ·exact h2 y hy
theorem rB:∀(r:List Int) (g d:Nat),d ∣ g->(∀x∈r,d ∣ x.natAbs)->d ∣ gl r g
 |[],_,_,h,_=>h
 |x::r,g,d,h,hr=>rB r _ d (Nat.dvd_gcd h (hr x UY)) fun y hy=>hr y (U3 _ hy)
theorem wc:∀(r:List Int) (g:Nat) (y:Int),gl (r.map fun x=>y*x) (y.natAbs*g)=y.natAbs*gl r g
 |[],_,_=>rfl
 |x::r,g,y=>by
  show gl (r.map fun x=>y*x) (Nat.gcd (y.natAbs*g) (y*x).natAbs)=_;rw[WV,Nat.gcd_mul_left];exact wc r _ y
variable{r:List Int}
theorem A9(h:gl r 0=0):∀x∈r,x=0:=fun x hx=>by
 have:=(wb r 0).2 x hx;rw[h]at this;exact Int.natAbs_eq_zero.mp (Nat.eq_zero_of_zero_dvd this)
theorem m8(r:List Int):(low r).length=r.length:=by
 unfold low;split
 ·rfl
 ·rw[bf]
theorem kK(r:List Int):∃g:Nat,g≠0/\(∀k,(g:Int)*(low r).getD k 0=r.getD k 0)/\((∃x∈r,x≠0)->gl (low r) 0=1):=by
 by_cases h:gl r 0=0
 ·refine⟨1,by decide,fun k=>?_,fun⟨x,hx,Qw⟩=>absurd (A9 h x hx) Qw⟩;unfold low;rw[U2 h];exact Wj _
 ·have hm:∀x∈r,(gl r 0:Int)*x.fdiv (gl r 0:Int)=x:=fun x hx=>Yc (Int.ofNat_dvd_left.mpr ((wb r 0).2 x hx))
  refine⟨gl r 0,h,fun k=>?_,fun _=>?_⟩
  ·unfold low;rw[U9 h,UQ,UQ,Vg];cases hk:r[k]? with
   |none=>exact Vx _
   |some x=>exact hm x (VU hk)
  ·have e:=wc (low r) 0 (gl r 0:Int);have e2:(low r).map (fun x=>(gl r 0:Int)*x)=r:=by
    unfold low;rw[U9 h,Vm];refine(VY fun x hx=>?_).trans (List.map_id _);exact hm x hx
   rw[e2,Nat.mul_zero,V5]at e;exact Nat.eq_of_mul_eq_mul_left (by lia) (e.symm.trans (Nat.mul_one _).symm)
variable{l:List Int}
theorem Hy(h1:gl l 0=1){d y:Int}(hd:d≠0)(h:∀k,k<l.length->d*v k=y*l.getD k 0):∃t:Int,∀k,k<l.length->v k=t*l.getD k 0:=by
 have hdy:d.natAbs ∣ y.natAbs:=by
  have h2:=rB (l.map fun x=>y*x) (y.natAbs*0) d.natAbs (by rw[Nat.mul_zero];exact Nat.dvd_zero _) fun x hx=>by
   obtain⟨z,hz,e⟩:=nH hx;obtain⟨k,hk,ez⟩:=VT hz;have h3:=h k hk;rw[UQ,iV hk,ez]at h3;have h3:d*v k=y*z:=h3;rw[<-e,<-h3,WV];exact Nat.dvd_mul_right _ _
  rw[wc,h1,Nat.mul_one]at h2;exact h2
 obtain⟨t,ht⟩:=X6.mp hdy;refine⟨t,fun k hk=>?_⟩;have h3:=h k hk;rw[ht,VF]at h3;exact Int.eq_of_mul_eq_mul_left hd h3
abbrev Fs(S:List (List Int)):Nat->Nat->Int:=fun i=>Vc (S.getD i [])
structure Inv(w:Nat)(rows:List (List Int))(L:Iq):Prop where
 red:Rdd w L
 pri:∀i,i<L.length->gl (Ij L i) 0=1
 base:∃S:List (List Int),S.length=L.length/\(∀s∈S,s∈rows)/\Qv L.length w (Fs S)/\(∀i,i<L.length->In L.length w (Fs S) (Fm L i))/\∀i,i<L.length->In L.length w (Fm L) (Fs S i)
 spn:∀r∈rows,In L.length w (Fm L) (Vc r)
variable{α:Type}
theorem aY{l:List α}{k:Nat}{d:α}(h:k<l.length):l.getD k d∈l:=by
 rw[UQ,iV h];exact XI h
variable{rows:List (List Int)}
theorem Inv.size{A:Nat}(H:Inv w rows L)(hA:∀r∈rows,∀k,k<w->(r.getD k 0).natAbs<=A)(hi:i<L.length){k:Nat}(hk:k<w):((Ij L i).getD k 0).natAbs<=L.length*((2*(L.length*A)+1) ^ (L.length-1)*A):=by
 obtain⟨S,s1,s2,s3,s4,s5⟩:=H.base;have hS:∀t,t<L.length->∀k,k<w->(Fs S t k).natAbs<=A:=fun t ht k hk=>hA _ (s2 _ (aY (by lia))) k hk
 obtain⟨x,⟨i0,SH,Qw⟩,hxb,hx⟩:=wa (r:=L.length) (s:=L.length-1) (A:=A) (by lia) (fun j t=>Fs S t (Ii L (if j<i then j else j+1))) fun j hj t ht=>hS t ht _ (H.red.col _ (by split <;> lia))
 have hv:In L.length w (Fm L) fun k=>sg L.length fun t=>x t*Fs S t k:=hV _ x (Fs S) s5
 obtain⟨d,y,hd,hy⟩:=H.red.line hv hi fun j hj Qx=>by
  have h:=hx (if j<i then j else j-1) (by split <;> lia);have e:(if(if j<i then j else j-1)<i then(if j<i then j else j-1) else(if j<i then j else j-1)+1)=j:=by
   by_cases h1:j<i
   ·rw[U2 h1,U2 h1]
   ·rw[U9 h1,U9 (by lia)];lia
  rw[e]at h;rw[<-h];exact ay fun t _=>VM _ _
 have hlen:=H.red.len i hi;obtain⟨t,ht⟩:=Hy (H.pri i hi) hd fun k hk=>hy k (hlen▸hk)
 have ht0:t≠0:=fun z=>Qw (s3 x (fun k hk=>by
  have:=ht k (hlen.symm▸hk);rw[z,Wg]at this;exact this) i0 SH)
 have hvk:=ht k (hlen.symm▸hk);have hb:(sg L.length fun t=>x t*Fs S t k).natAbs<=L.length*((2*(L.length*A)+1) ^ (L.length-1)*A):=F2 fun t ht=>by
  rw[WV];exact YH (hxb t ht) (hS t ht k hk)
 rw[hvk,WV]at hb;have:1<=t.natAbs:=by lia
 refine Vq ?_ hb;exact Zf _ this
def JM(row:List Int)(c:Nat)(KP:List Int):List Int:=if row.getD c 0=0 then row else(List.range row.length).map fun k=>row.getD k 0*KP.getD c 0+KP.getD k 0 * -(row.getD c 0)
theorem p4(r:List Int)(q:Nat)(l:List Int):(JM r q l).length=r.length:=by
 unfold JM;split
 ·rfl
 ·rw[bf,Vi]
variable{row:List Int}
theorem wd{b:List Int}(hb:b.getD c 0≠0):∃x y:Int,x≠0/\(∀k,k<row.length->(JM row c b).getD k 0=x*row.getD k 0+y*b.getD k 0)/\(c<row.length->(JM row c b).getD c 0=0):=by
 unfold JM;by_cases h:row.getD c 0=0
 ·refine⟨1,0,by decide,fun k _=>?_,fun _=>?_⟩
  ·rw[U2 h,Wj,Wg,Wf]
  ·rw[U2 h,h]
 ·refine⟨b.getD c 0,-(row.getD c 0),hb,fun k hk=>?_,fun hc=>?_⟩
  ·rw[U9 h,di _ _ _ hk,VM,VM (b.getD k 0)]
  ·rw[U9 h,di _ _ _ hc,VM,<-Y0,Int.add_right_neg,Vx]
def JA(L:Iq)(row:List Int):Nat->List Int
 | 0=>row
 |n+1=>JM (JA L row n) (Ii L n) (Ij L n)
theorem iq(L:Iq)(row:List Int):∀n,(JA L row n).length=row.length
 | 0=>rfl
 |n+1=>by
  show(JM _ _ _).length=_;rw[p4,iq L row n]
theorem o6{w:Nat}{L:Iq}(H:Rdd w L){row:List Int}(hr:row.length=w):∀n,n<=L.length->∃(d:Int) (x:Nat->Int),d≠0/\(∀k,k<w->(JA L row n).getD k 0=d*row.getD k 0+sg L.length fun i=>x i*Fm L i k)/\∀i,i<n->(JA L row n).getD (Ii L i) 0=0
 | 0,_=>⟨1,fun _=>0,by decide,fun k _=>by rw[Wj,dW fun i _=>Wg _,Wf];rfl,fun i hi=>absurd hi (Vj i)⟩
 |n+1,hn=>by
  obtain⟨d,x,h1,h2,h3⟩:=o6 H hr n (by lia);obtain⟨a,b,g1,g2,g3⟩:=wd (row:=JA L row n) (c:=Ii L n) (b:=Ij L n) (H.own n (by lia));rw[iq,hr]at g2 g3;refine⟨a*d,fun i=>a*x i+if i=n then b else 0,fun z=>(VS.mp z).elim g1 h1,fun k hk=>?_,fun i hi=>?_⟩
  ·show(JM _ _ _).getD k 0=_;rw[g2 k hk,h2 k hk];have e:sg L.length (fun i=>(a*x i+if i=n then b else 0)*Fm L i k)=a*sg L.length (fun i=>x i*Fm L i k)+b*Fm L n k:=by
    have e1:sg L.length (fun i=>(if i=n then b else 0)*Fm L i k)=b*Fm L n k:=by
     have:=gc (n:=L.length) (c:=n) (by lia) (f:=fun i=>(if i=n then b else 0)*Fm L i k) fun i _ MI=>by
      show(if i=n then b else 0)*Fm L i k=0;rw[U9 MI,Wg]
     rw[this];show(if n=n then b else 0)*Fm L n k=_;rw[U2 rfl]
    rw[<-cz,<-e1,<-gH];refine ay fun i _=>?_
    rw[ZR,VF]
   rw[e,Y0,VF,Int.add_assoc]
  ·show(JM _ _ _).getD _ 0=0;by_cases MI:i=n
   ·subst MI;exact g3 (H.col i (by lia))
   ·rw[g2 _ (H.col i (by lia)),h3 i (by lia),H.oth n i (by lia) (by lia) (fun z=>MI z.symm),Vx,Vx];rfl
def JB(L:Iq)(q:Nat)(nl:List Int):Iq:=(L.map fun z=>(z.1,low (JM z.2 q nl)))++[(q,nl)]
theorem p5(L:Iq)(q:Nat)(nl:List Int):(JB L q nl).length=L.length+1:=by
 unfold JB;rw[rh,bf,Vz]
theorem dF(L:Iq)(q:Nat)(nl:List Int)(h:i<L.length):Ii (JB L q nl) i=Ii L i/\Ij (JB L q nl) i=low (JM (Ij L i) q nl):=by
 unfold Ii Ij JB;rw[UQ,WK (by rw[bf];exact h),Vg,UQ,iV h];exact⟨rfl,rfl⟩
theorem dj(L:Iq)(q:Nat)(nl:List Int):Ii (JB L q nl) L.length=q/\Ij (JB L q nl) L.length=nl:=by
 unfold Ii Ij JB;rw[UQ,W0 (by rw[bf];exact UZ _),bf,aaz];exact⟨rfl,rfl⟩
theorem DQ{k:Nat}(h:r.getD k 0≠0):∃x∈r,x≠0:=by
 by_cases hk:k<r.length
 ·exact⟨_,aY hk,h⟩
 ·rw[UQ,X5 (by lia)]at h;exact absurd rfl h
theorem o7{k:Nat}(h:r.getD k 0≠0):(low r).getD k 0≠0/\gl (low r) 0=1:=by
 obtain⟨g,g1,g2,g3⟩:=kK r;refine⟨fun z=>h ?_,g3 (DQ h)⟩;rw[<-g2 k,z,Vx]
theorem we{k:Nat}(h:r.getD k 0=0):(low r).getD k 0=0:=by
 obtain⟨g,g1,g2,g3⟩:=kK r;have:=g2 k;rw[h]at this;exact(VS.mp this).resolve_left (by lia)
theorem y6{r:Nat}(h:In r w F (Vc l)):In r w F (Vc (low l)):=by
 obtain⟨g,g1,g2,_⟩:=kK l;exact iW (g:Int) (by lia) (fun k _=>g2 k) h
theorem rD{r:Nat}(h:In r w F (Vc (low l))):In r w F (Vc l):=by
 obtain⟨g,g1,g2,_⟩:=kK l;refine cm (fun k _=>?_) (in_add (g:Int) 0 h (p3 (v:=fun _=>0) fun _ _=>rfl));rw[Vx,Wf];exact(g2 k).symm
theorem yh(S:List α)(x d:α)(h:i<S.length):(S++[x]).getD i d=S.getD i d:=by
 rw[UQ,WK h,<-UQ]
theorem wg(S:List α)(x d:α):(S++[x]).getD S.length d=x:=by
 rw[UQ,W0 (UZ _),aaz];rfl
theorem wj{r:Nat}{S:List (List Int)}{x:List Int}(hr:S.length=r)(h:In r w (Fs S) v):In (r+1) w (Fs (S++[x])) v:=by
 refine eh h fun i hi=>cm (fun k _=>?_) (eP (F:=Fs (S++[x])) (i:=i) (by lia))
 show(S.getD i []).getD k 0=((S++[x]).getD i []).getD k 0;rw[yh S x [] (by lia)]
theorem wm{r:Nat}{S:List (List Int)}{x:List Int}(hr:S.length=r):In (r+1) w (Fs (S++[x])) (Vc x):=by
 refine cm (fun k _=>?_) (eP (F:=Fs (S++[x])) (i:=r) (by lia));show x.getD k 0=((S++[x]).getD r []).getD k 0;rw[<-hr,wg]
theorem Inv.start(w:Nat):Inv w [] []:=
 ⟨⟨fun _ h=>absurd h (Vj _),fun _ h=>absurd h (Vj _),fun _ h=>absurd h (Vj _),fun _ _ h=>absurd h (Vj _)⟩,fun _ h=>absurd h (Vj _),⟨[],rfl,fun _ h=>(nomatch h),fun _ _ _ h=>absurd h (Vj _),fun _ h=>absurd h (Vj _),fun _ h=>absurd h (Vj _)⟩,fun _ h=>nomatch h⟩
theorem Inv.none(H:Inv w rows L)(hr:row.length=w)(hz:∀k,k<w->(JA L row L.length).getD k 0=0):Inv w (rows++[row]) L:=by
 obtain⟨S,s1,s2,s3,s4,s5⟩:=H.base;refine⟨H.red,H.pri,⟨S,s1,fun s hs=>U4 _ (s2 s hs),s3,s4,s5⟩,fun r h=>?_⟩;rcases w4 h with h|h
 ·exact H.spn r h
 ·rw[rg h];obtain⟨d,x,h1,h2,_⟩:=o6 H.red hr L.length (UZ _);refine iW d h1 (u:=fun k=>sg L.length fun i=>-x i*Fm L i k) (fun k hk=>?_) (hV L.length (fun i=>-x i) (Fm L) fun i hi=>eP hi);have h:=h2 k hk;rw[hz k hk]at h;have e:sg L.length (fun i=>-x i*Fm L i k) = -sg L.length fun i=>x i*Fm L i k:=by
   have:=cz L.length (-1) fun i=>x i*Fm L i k
   rw[Wh,Wj]at this;rw[<-this];refine ay fun i _=>?_
   rw[Wh,Wh,Wj]
  show d*row.getD k 0=_;rw[e];lia
variable{q:Nat}
theorem Inv.more(H:Inv w rows L)(hr:row.length=w)(hq:q<w)(Ig:(JA L row L.length).getD q 0≠0):Inv w (rows++[row]) (JB L q (low (JA L row L.length))):=by
 obtain⟨d,x,h1,h2,h3⟩:=o6 H.red hr L.length (UZ _);have Ml:=iq L row L.length;generalize JA L row L.length=aU at Ig h2 h3 Ml;obtain⟨n1,n2⟩:=o7 Ig;have n3:∀i,i<L.length->(low aU).getD (Ii L i) 0=0:=fun i hi=>we (h3 i hi)
 have R4:=m8 aU;have Tx:∀{r:Nat}{F:Nat->Nat->Int},In r w F (Vc aU)->In r w F (Vc (low aU)):=fun h=>y6 h
 have Tv:∀{r:Nat}{F:Nat->Nat->Int},In r w F (Vc (low aU))->In r w F (Vc aU):=fun h=>rD h
 generalize low aU=nl at n1 n2 n3 R4 Tx Tv;have JI:∀i,i<L.length->∃a b:Int,a≠0/\(∀k,k<w->(JM (Ij L i) q nl).getD k 0=a*(Ij L i).getD k 0+b*nl.getD k 0)/\(JM (Ij L i) q nl).getD q 0=0:=fun i hi=>by
  obtain⟨a,b,g1,g2,g3⟩:=wd (row:=Ij L i) (c:=q) (b:=nl) n1;rw[H.red.len i hi]at g2 g3;exact⟨a,b,g1,g2,g3 hq⟩
 have R5:∀i,i<L.length->(JM (Ij L i) q nl).getD (Ii L i) 0≠0:=fun i hi=>by
  obtain⟨a,b,g1,g2,_⟩:=JI i hi;rw[g2 _ (H.red.col i hi),n3 i hi,Vx,Wf];exact fun z=>(VS.mp z).elim g1 (H.red.own i hi)
 have Pu:=p5 L q nl;have hpri:∀i,i<(JB L q nl).length->gl (Ij (JB L q nl) i) 0=1:=fun i hi=>by
  by_cases h:i<L.length
  ·rw[(dF L q nl h).2];exact(o7 (R5 i h)).2
  ·obtain rfl:i=L.length:=by lia
   rw[(dj L q nl).2];exact n2
 have hred:Rdd w (JB L q nl):=by
  refine⟨fun i hi=>?_,fun i hi=>?_,fun i hi=>?_,fun i j hi hj Ms=>?_⟩
  ·by_cases h:i<L.length
   ·rw[(dF L q nl h).1];exact H.red.col i h
   ·obtain rfl:i=L.length:=by lia
    rw[(dj L q nl).1];exact hq
  ·by_cases h:i<L.length
   ·rw[(dF L q nl h).2,m8,p4];exact H.red.len i h
   ·obtain rfl:i=L.length:=by lia
    rw[(dj L q nl).2,R4,Ml,hr]
  ·by_cases h:i<L.length
   ·rw[(dF L q nl h).2,(dF L q nl h).1];exact(o7 (R5 i h)).1
   ·obtain rfl:i=L.length:=by lia
    rw[(dj L q nl).2,(dj L q nl).1];exact n1
  ·by_cases h:i<L.length
   ·rw[(dF L q nl h).2];obtain⟨a,b,_,g2,g3⟩:=JI i h;refine we ?_;by_cases h':j<L.length
    ·rw[(dF L q nl h').1,g2 _ (H.red.col j h'),n3 j h',H.red.oth i j h h' Ms,Vx,Vx];rfl
    ·obtain rfl:j=L.length:=by lia
     rw[(dj L q nl).1];exact g3
   ·obtain rfl:i=L.length:=by lia
    rw[(dj L q nl).2,(dF L q nl (i:=j) (by lia)).1];exact n3 j (by lia)
 have hold:∀i,i<L.length->In (JB L q nl).length w (Fm (JB L q nl)) (Fm L i):=fun i hi=>by
  obtain⟨a,b,g1,g2,_⟩:=JI i hi;have i1:In (JB L q nl).length w (Fm (JB L q nl)) (Vc (JM (Ij L i) q nl)):=by
   refine rD (cm (fun k _=>?_) (eP (i:=i) (by lia)));show _=(Ij (JB L q nl) i).getD k 0;rw[(dF L q nl hi).2]
  have i2:In (JB L q nl).length w (Fm (JB L q nl)) (Vc nl):=by
   refine cm (fun k _=>?_) (eP (i:=L.length) (by lia));show _=(Ij (JB L q nl) L.length).getD k 0;rw[(dj L q nl).2]
  refine iW a g1 (fun k hk=>?_) (in_add 1 (-b) i1 i2);show a*(Ij L i).getD k 0=1*(JM (Ij L i) q nl).getD k 0 + -b*nl.getD k 0;rw[g2 k hk,Wj,Wh];lia
 have MB:In (JB L q nl).length w (Fm (JB L q nl)) (Vc nl):=by
  refine cm (fun k _=>?_) (eP (i:=L.length) (by lia));show _=(Ij (JB L q nl) L.length).getD k 0;rw[(dj L q nl).2]
 have JC:In (JB L q nl).length w (Fm (JB L q nl)) (Vc row):=by
  refine iW d h1 (fun k hk=>?_) (in_add 1 (-1) (Tv MB) (hV L.length x (Fm L) hold));show d*row.getD k 0=1*aU.getD k 0 + -1*_;rw[h2 k hk];lia
 obtain⟨S,s1,s2,s3,s4,s5⟩:=H.base;refine⟨hred,hpri,⟨S++[row],by rw[Pu,rh,s1];rfl,fun s hs=>?_,?_,fun i hi=>?_,fun i hi=>?_⟩,fun r h=>?_⟩
 ·rcases w4 hs with h|h
  ·exact U4 _ (s2 s h)
  ·exact UX _ h
 ·rw[Pu];intro y hy i hi;have e1:∀k,k<w->sg L.length (fun i=>y i*Fs S i k)+y L.length*row.getD k 0=0:=fun k hk=>by
   refine aaN ?_ (hy k hk);show _=sg L.length (fun i=>y i*Fs (S++[row]) i k)+y L.length*Fs (S++[row]) L.length k;congr 1
   ·refine ay fun i hi=>?_
    show y i*(S.getD i []).getD k 0=y i*((S++[row]).getD i []).getD k 0;rw[yh S row [] (by lia)]
   ·show _=y L.length*((S++[row]).getD L.length []).getD k 0;rw[<-s1,wg]
  have Up:y L.length=0:=by
   apply Vk;intro JH;have i1:In L.length w (Fm L) (Vc row):=iW (y L.length) JH (u:=fun k=>sg L.length fun i=>-y i*Fs S i k) (fun k hk=>by
    have e2:sg L.length (fun i=>-y i*Fs S i k) = -sg L.length fun i=>y i*Fs S i k:=by
     have:=cz L.length (-1) fun i=>y i*Fs S i k
     rw[Wh,Wj]at this;rw[<-this];refine ay fun i _=>?_
     rw[Wh,Wh,Wj]
    have:=e1 k hk;show y L.length*row.getD k 0=_;rw[e2];lia) (hV L.length (fun i=>-y i) (Fs S) s5)
   have i2:In L.length w (Fm L) (Vc aU):=cm (fun k hk=>by
    show aU.getD k 0=d*row.getD k 0+1*_;rw[h2 k hk,Wj]) (in_add d 1 i1 (hV L.length x (Fm L) fun i hi=>eP hi))
   exact Ig (H.red.zero i2 h3 q hq)
  by_cases Tz:i<L.length
  ·refine s3 y (fun k hk=>?_) i Tz;have:=e1 k hk;rw[Up,Wg,Wf]at this;exact this
  ·obtain rfl:i=L.length:=by lia
   exact Up
 ·rw[Pu];have i0:∀i,i<L.length->In (L.length+1) w (Fs (S++[row])) (Fm L i):=fun i hi=>wj s1 (s4 i hi)
  have i1:In (L.length+1) w (Fs (S++[row])) (Vc aU):=cm (fun k hk=>by
   show aU.getD k 0=d*row.getD k 0+1*_;rw[h2 k hk,Wj]) (in_add d 1 (wm s1) (hV L.length x (Fm L) i0))
  by_cases h:i<L.length
  ·show In _ w _ (Vc (Ij (JB L q nl) i));rw[(dF L q nl h).2];obtain⟨a,b,_,g2,_⟩:=JI i h;exact y6 (cm (fun k hk=>g2 k hk) (in_add a b (i0 i h) (Tx i1)))
  ·obtain rfl:i=L.length:=by lia
   show In _ w _ (Vc (Ij (JB L q nl) L.length));rw[(dj L q nl).2];exact Tx i1
 ·by_cases h:i<L.length
  ·refine eh (cm (fun k _=>?_) (s5 i h)) hold;show((S++[row]).getD i []).getD k 0=(S.getD i []).getD k 0;rw[yh S row [] (by lia)]
  ·obtain rfl:i=L.length:=by lia
   refine cm (fun k _=>?_) JC;show((S++[row]).getD L.length []).getD k 0=row.getD k 0;rw[<-s1,wg]
 ·rcases w4 h with h|h
  ·exact eh (H.spn r h) hold
  ·rw[rg h];exact JC
theorem rF{S:List (List Int)}(h:r∈S):In S.length w (Fs S) (Vc r):=by
 obtain⟨i,hi,e⟩:=VT h;refine cm (fun k _=>?_) (eP (F:=Fs S) hi);show r.getD k 0=(S.getD i []).getD k 0;rw[UQ (l:=S),iV hi,e];rfl
def nz(r:List Int):Bool:=r.any fun x=>!(x==0)
theorem Gz(h:nz r=false)(k:Nat):r.getD k 0=0:=by
 apply Vk;intro hk;obtain⟨x,hx,Qw⟩:=DQ hk;have:=X3.mp h x hx;rw[Vn.mpr Qw]at this;exact this rfl
def w5:List Int->Nat
 |[]=>0
 |x::r=>if x=0 then w5 r+1 else 0
theorem y7:∀{r:List Int},nz r=true->w5 r<r.length/\r.getD (w5 r) 0≠0/\∀j,j<w5 r->r.getD j 0=0
 |[],h=>nomatch h
 |x::r,h=>by
  by_cases hx:x=0
  ·have hr:nz r=true:=by
    unfold nz at h ⊢;rw[YX,hx]at h;exact h
   obtain⟨h1,h2,h3⟩:=y7 hr;have e:w5 (x::r)=w5 r+1:=U2 hx;rw[e];refine⟨Nat.succ_lt_succ h1,h2,fun j hj=>?_⟩;cases j with
   |zero=>exact hx
   |succ j=>exact h3 j (by lia)
  ·have e:w5 (x::r)=0:=U9 hx;rw[e];exact⟨Xx _,hx,fun j hj=>absurd hj (Vj _)⟩
def Mm(w c:Nat)(x:Int):List Int:=(List.range w).map fun k=>if k=c then x else 0
theorem wo(w c:Nat)(x:Int):(Mm w c x).length=w:=by unfold Mm;rw[bf,Vi]
theorem jM(w c:Nat)(x:Int){k:Nat}(h:k<w):(Mm w c x).getD k 0=if k=c then x else 0:=by
 unfold Mm;rw[di _ _ _ h]
def IY(L:Iq):Nat->Nat
 | 0=>1
 |n+1=>Nat.lcm (IY L n) ((Ij L n).getD (Ii L n) 0).natAbs
theorem p6(L:Iq):∀n i,i<n->((Ij L i).getD (Ii L i) 0).natAbs ∣ IY L n
 | 0,i,h=>absurd h (Vj i)
 |n+1,i,h=>by
  by_cases hi:i=n
  ·rw[hi];exact Nat.dvd_lcm_right _ _
  ·exact aae (p6 L n i (by lia)) (Nat.dvd_lcm_left _ _)
theorem p7{w:Nat}{L:Iq}(H:Rdd w L):∀n,n<=L.length->0<IY L n
 | 0,_=>Nat.one_pos
 |n+1,h=>Nat.lcm_pos (p7 H n (by lia)) (ZG.mpr (H.own n (by lia)))
theorem y8{L:Iq}{M:Nat}(hM:∀i,i<L.length->((Ij L i).getD (Ii L i) 0).natAbs<=M):∀n,n<=L.length->IY L n<=M ^ n
 | 0,_=>UZ 1
 |n+1,h=>by
  rw[Xy];refine Vq ?_ (YH (y8 hM n (by lia)) (hM n (by lia)));exact Nat.div_le_self _ _
def KS(L:Iq)(c w:Nat):Nat->List Int
 | 0=>Mm w c (IY L L.length:Int)
 |n+1=>(KS L c w n).set (Ii L n) (-((Ij L n).getD c 0)*(IY L L.length:Int).fdiv ((Ij L n).getD (Ii L n) 0))
theorem jl(L:Iq)(c w:Nat):∀n,(KS L c w n).length=w
 | 0=>wo _ _ _
 |n+1=>by
  show((KS L c w n).set _ _).length=w;rw[VI,jl L c w n]
theorem iX(l:List Int)(j k:Nat)(x:Int)(hj:j<l.length):(l.set j x).getD k 0=if k=j then x else l.getD k 0:=by
 rw[UQ,List.getElem?_set];by_cases h:j=k
 ·rw[U2 h,U2 hj,U2 h.symm];rfl
 ·rw[U9 h,U9 (fun z=>h z.symm),<-UQ]
theorem gU{w:Nat}{L:Iq}(H:Rdd w L){c k:Nat}(hk:k<w):∀n,n<=L.length->(∀i,i<n->k≠Ii L i)->(KS L c w n).getD k 0=if k=c then(IY L L.length:Int) else 0
 | 0,_,_=>jM _ _ _ hk
 |n+1,hn,h=>by
  show((KS L c w n).set _ _).getD k 0=_;rw[iX _ _ _ _ (by rw[jl];exact H.col n (by lia)),U9 (h n (by lia)),gU H hk n (by lia) fun i hi=>h i (by lia)]
theorem wq{w:Nat}{L:Iq}(H:Rdd w L)(c:Nat):∀n,n<=L.length->∀i,i<n->(KS L c w n).getD (Ii L i) 0 = -((Ij L i).getD c 0)*(IY L L.length:Int).fdiv ((Ij L i).getD (Ii L i) 0)
 | 0,_,i,h=>absurd h (Vj i)
 |n+1,hn,i,h=>by
  show((KS L c w n).set _ _).getD _ 0=_;rw[iX _ _ _ _ (by rw[jl];exact H.col n (by lia))];by_cases hi:i=n
  ·rw[hi,U2 rfl]
  ·rw[U9 fun e=>hi (H.inj (by lia) (by lia) e),wq H c n (by lia) i (by lia)]
abbrev BM(L:Iq)(c w:Nat):List Int:=KS L c w L.length
def kr(L:Iq)(c w:Nat):List Int:=low (BM L c w)
def Kc(L:Iq)(c:Nat):Bool:=L.any fun z=>z.1==c
theorem wt(h:Kc L c=false):∀i,i<L.length->c≠Ii L i:=fun i hi e=>by
 have:=X3.mp h _ (aY (d:=(0,[])) hi);exact this (VD.mpr e.symm)
theorem wu(h:Kc L c=true):∃i,i<L.length/\c=Ii L i:=by
 obtain⟨z,hz,e⟩:=W6.mp h;obtain⟨i,hi,ez⟩:=VT hz;refine⟨i,hi,?_⟩;unfold Ii;rw[UQ,iV hi,ez];exact(VD.mp e).symm
theorem DR{a b:Nat}(ha:a<n)(hb:b<n)(KI:a≠b)(h:∀k,k<n->k≠a->k≠b->f k=0):sg n f=f a+f b:=by
 have e1:sg n (fun k=>(if k=a then f a else 0)+if k=b then f b else 0)=sg n f:=ay fun k hk=>by
  by_cases h1:k=a
  ·rw[U2 h1,U9 (by lia),h1,Wf]
  ·rw[U9 h1,Yx];by_cases h2:k=b
   ·rw[U2 h2,h2]
   ·rw[U9 h2,h k hk h1 h2]
 rw[<-e1,gH,gc ha fun k _ hk=>U9 hk,gc hb fun k _ hk=>U9 hk,U2 rfl,U2 rfl]
theorem o8(H:Rdd w L)(hc:c<w)(hk:Kc L c=false)(hj:j<L.length):sg w (fun k=>(Ij L j).getD k 0*(BM L c w).getD k 0)=0:=by
 have hf:=wt hk;rw[DR hc (H.col j hj) (hf j hj) fun k KQ h1 h2=>by
  by_cases TB:Kc L k=true
  ·obtain⟨i,hi,e⟩:=wu TB;rw[e,H.oth j i hj hi (fun z=>h2 (by rw[z];exact e)),Wg]
  ·rw[gU H KQ _ (UZ _) (wt (XC.mpr TB)),U9 h1,Vx]]
 rw[gU H hc _ (UZ _) hf,U2 rfl,wq H c _ (UZ _) j hj];have hd:(Ij L j).getD (Ii L j) 0*(IY L L.length:Int).fdiv ((Ij L j).getD (Ii L j) 0)=(IY L L.length:Int):=Yc (X6.mp (by rw[V5];exact p6 L _ j hj));have e:(Ij L j).getD (Ii L j) 0*(-((Ij L j).getD c 0)*(IY L L.length:Int).fdiv ((Ij L j).getD (Ii L j) 0)) = -((Ij L j).getD c 0)*(IY L L.length:Int):=by
  rw[V9,hd]
 rw[e,Wh];lia
theorem yi(L:Iq)(c w:Nat):∃g:Nat,g≠0/\∀k,(g:Int)*(kr L c w).getD k 0=(BM L c w).getD k 0:=by
 obtain⟨g,h1,h2,_⟩:=kK (BM L c w);exact⟨g,h1,h2⟩
theorem wx(H:Inv w rows L)(hc:c<w)(hk:Kc L c=false)(hr:r∈rows):sg w (fun k=>r.getD k 0*(kr L c w).getD k 0)=0:=by
 obtain⟨g,g1,g2⟩:=yi L c w;obtain⟨d,x,d1,d2⟩:=H.spn r hr;have e:(d*(g:Int))*sg w (fun k=>r.getD k 0*(kr L c w).getD k 0)=0:=by
  rw[<-cz];have e1:sg w (fun k=>d*(g:Int)*(r.getD k 0*(kr L c w).getD k 0))=sg w fun k=>sg L.length fun i=>x i*((Ij L i).getD k 0*(BM L c w).getD k 0):=ay fun k hk=>by
   have e2:d*(g:Int)*(r.getD k 0*(kr L c w).getD k 0)=(d*r.getD k 0)*((g:Int)*(kr L c w).getD k 0):=by
    rw[VF,V9 (g:Int),<-VF]
   have d2:d*r.getD k 0=sg L.length fun i=>x i*(Ij L i).getD k 0:=d2 k hk
   rw[e2,g2 k,d2,<-gJ];exact ay fun i _=>VF _ _ _
  rw[e1,<-il];refine dW fun i hi=>?_
  rw[cz,o8 H.red hc hk hi,Vx]
 exact(VS.mp e).resolve_left fun z=>(VS.mp z).elim d1 (by lia)
def fre(L:Iq)(w:Nat):List Nat:=(List.range w).filter fun c=>!Kc L c
theorem kM(L:Iq)(c w:Nat):(kr L c w).length=w:=by unfold kr;rw[m8,jl]
theorem DS(H:Rdd w L)(hc:c<w)(hk:Kc L c=false):(kr L c w).getD c 0≠0:=by
 refine(o7 ?_).1;rw[gU H hc _ (UZ _) (wt hk),U2 rfl];have:=p7 H L.length (UZ _);lia
theorem DV(H:Rdd w L){k:Nat}(hk:k<w)(KQ:Kc L k=false)(h:k≠c):(kr L c w).getD k 0=0:=by
 refine we ?_;rw[gU H hk _ (UZ _) (wt KQ),U9 h]
def m9(L:Iq)(w:Nat):List (List Int):=(fre L w).map fun c=>kr L c w
def Ech(L:Iq):Prop:=∀i,i<L.length->∀j,j<Ii L i->(Ij L i).getD j 0=0
theorem Ech.start:Ech []:=fun _ h=>absurd h (Vj _)
theorem Ech.more(H:Rdd w L)(E:Ech L){nl:List Int}(hq:q<w)(Ig:nl.getD q 0≠0)(hj:∀j,j<q->nl.getD j 0=0):Ech (JB L q nl):=fun i hi j Qx=>by
 rw[p5]at hi;by_cases h:i<L.length
 ·rw[(dF L q nl h).1]at Qx;rw[(dF L q nl h).2];refine we ?_;have hz:=E i h j Qx;by_cases h0:(Ij L i).getD q 0=0
  ·unfold JM;rw[U2 h0];exact hz
  ·have Uq:Ii L i<=q:=by
    apply Vk;intro Iu;exact h0 (E i h q (by lia))
   obtain⟨x,y,_,h2,_⟩:=wd (row:=Ij L i) (c:=q) (b:=nl) Ig;rw[h2 j (by rw[H.len i h];lia),hz,hj j (by lia),Vx,Vx];rfl
 ·obtain rfl:i=L.length:=by lia
  rw[(dj L q nl).1]at Qx;rw[(dj L q nl).2];exact hj j Qx
theorem Ba(H:Rdd w L)(hc:c<w)(hk:Kc L c=false)(hj:j<L.length):sg w (fun k=>(Ij L j).getD k 0*(kr L c w).getD k 0)=0:=by
 obtain⟨g,g1,g2⟩:=yi L c w;have e:(g:Int)*sg w (fun k=>(Ij L j).getD k 0*(kr L c w).getD k 0)=0:=by
  rw[<-cz];refine aaN (ay fun k _=>?_) (o8 H hc hk hj);rw[V9,g2 k]
 exact(VS.mp e).resolve_left (by lia)
theorem wy(H:Rdd w L)(hr:row.length=w)(h:∀c,c<w->Kc L c=false->sg w (fun k=>row.getD k 0*(kr L c w).getD k 0)=0):∀k,k<w->(JA L row L.length).getD k 0=0:=fun c hc=>by
 obtain⟨d,x,_,h2,h3⟩:=o6 H hr L.length (UZ _);by_cases hk:Kc L c=true
 ·obtain⟨i,hi,e⟩:=wu hk;rw[e];exact h3 i hi
 ·have hk:=XC.mpr hk;have e1:sg w (fun k=>(JA L row L.length).getD k 0*(kr L c w).getD k 0)=0:=by
   have e2:sg w (fun k=>(JA L row L.length).getD k 0*(kr L c w).getD k 0)=sg w fun k=>d*(row.getD k 0*(kr L c w).getD k 0)+sg L.length fun i=>x i*((Ij L i).getD k 0*(kr L c w).getD k 0):=ay fun k KQ=>by
    rw[h2 k KQ,ZR,VF,<-gJ];congr 1
    exact ay fun i _=>VF _ _ _
   rw[e2,gH,cz,h c hc hk,Vx,Yx,il];refine dW fun i hi=>?_
   rw[cz,Ba H hc hk hi,Vx]
  rw[gc hc fun k KQ PJ=>by
   by_cases Om:Kc L k=true
   ·obtain⟨i,hi,e⟩:=wu Om;rw[e,h3 i hi,Wg]
   ·rw[DV H KQ (XC.mpr Om) PJ,Vx]]at e1
  exact(VS.mp e1).resolve_right (DS H hc hk)
def sZ(rs:List (List Int))(row:List Int)(k:Nat):List Int:=rs.map (fun r=>r.getD k 0)++[row.getD k 0]
def ng(rs:List (List Int))(row:List Int)(w:Nat):List (List Int):=(List.range w).map (sZ rs row)
theorem yj(rs:List (List Int))(row:List Int)(k:Nat):(sZ rs row k).length=rs.length+1:=by
 unfold sZ;rw[rh,bf];rfl
theorem wz(rs:List (List Int))(row:List Int)(k:Nat)(h:j<rs.length):(sZ rs row k).getD j 0=(rs.getD j []).getD k 0:=by
 unfold sZ;rw[UQ,WK (by rw[bf];exact h),Vg,iV h,UQ (l:=rs),iV h];rfl
theorem o9(rs:List (List Int))(row:List Int)(k:Nat):(sZ rs row k).getD rs.length 0=row.getD k 0:=by
 have:=wg (rs.map fun r=>r.getD k 0) (row.getD k 0) 0;rw[bf]at this;exact this
variable{rs:List (List Int)}
theorem Bb(H:Inv (rs.length+1) (ng rs row w) L)(hk:Kc L rs.length=false):∀k,k<w->sg rs.length (fun j=>(rs.getD j []).getD k 0*(kr L rs.length (rs.length+1)).getD j 0)+row.getD k 0*(kr L rs.length (rs.length+1)).getD rs.length 0=0:=fun k Qy=>by
 have h:=wx H (VB _) hk (r:=sZ rs row k) (Xu.mpr ⟨k,V8.mpr Qy,rfl⟩);have h:sg rs.length (fun j=>(sZ rs row k).getD j 0*(kr L rs.length (rs.length+1)).getD j 0)+(sZ rs row k).getD rs.length 0*(kr L rs.length (rs.length+1)).getD rs.length 0=0:=h;rw[o9,ay fun j hj=>by rw[wz rs row k hj]]at h;exact h
theorem y9(H:Rdd w L)(hc:c<w)(hk:Kc L c=false):1<=(kr L c w).getD c 0:=by
 obtain⟨g,g1,g2⟩:=yi L c w;have h:=g2 c;rw[gU H hc _ (UZ _) (wt hk),U2 rfl]at h;have hp:=p7 H L.length (UZ _);apply Vk;intro hn;have:(g:Int)*(kr L c w).getD c 0<=0:=XT (by lia) (by lia);lia
theorem za(H:Inv (rs.length+1) (ng rs row w) L)(E:Ech L)(hk:Kc L rs.length=true):¬ In rs.length w (Fs rs) (Vc row):=fun Ig=>by
 obtain⟨d,x,h1,h2⟩:=Ig;obtain⟨i,hi,e⟩:=wu hk;have hz:∀r∈ng rs row w,sg (rs.length+1) (fun j=>(if j=rs.length then -d else x j)*r.getD j 0)=0:=fun r hr=>by
  obtain⟨k,Qy,er⟩:=nH hr;rw[<-er];show sg rs.length (fun j=>(if j=rs.length then -d else x j)*(sZ rs row k).getD j 0)+(if rs.length=rs.length then -d else x rs.length)*(sZ rs row k).getD rs.length 0=0;rw[U2 rfl,o9,ay (g:=fun j=>x j*Fs rs j k) fun j hj=>by
   rw[U9 (by lia),wz rs row k hj]]
  have:=h2 k (V8.mp Qy);rw[<-this,Wh];show d*row.getD k 0+_=0;lia
 obtain⟨S,s1,s2,_,s4,_⟩:=H.base;obtain⟨dd,y,g1,g2⟩:=s4 i hi;have hl:sg (rs.length+1) (fun j=>(if j=rs.length then -d else x j)*(Ij L i).getD j 0)=0:=by
  have e1:dd*sg (rs.length+1) (fun j=>(if j=rs.length then -d else x j)*(Ij L i).getD j 0)=0:=by
   rw[<-cz];have e2:sg (rs.length+1) (fun j=>dd*((if j=rs.length then -d else x j)*(Ij L i).getD j 0))=sg (rs.length+1) fun j=>sg L.length fun t=>y t*((if j=rs.length then -d else x j)*Fs S t j):=ay fun j hj=>by
    rw[V9];have g2:dd*(Ij L i).getD j 0=sg L.length fun t=>y t*Fs S t j:=g2 j hj
    rw[g2,<-cz];exact ay fun t _=>V9 _ _ _
   rw[e2,<-il];refine dW fun t ht=>?_
   rw[cz,hz _ (s2 _ (aY (d:=[]) (by lia))),Vx]
  exact(VS.mp e1).resolve_left g1
 rw[gc (c:=rs.length) (VB _) fun j hj hjm=>by rw[E i hi j (by lia),Vx],U2 rfl]at hl;have ho:=H.red.own i hi;rw[<-e]at ho;exact(VS.mp hl).elim (fun z=>h1 (by lia)) ho
theorem wA{M:Iq}(H:Inv (rs.length+1) (ng rs row w) L)(E:Ech L)(hk:Kc L rs.length=true)(HM:Inv w rs M)(hr:row.length=w):∃c,c<w/\Kc M c=false/\sg w (fun k=>row.getD k 0*(kr M c w).getD k 0)≠0:=by
 apply Vk;intro Pr;have hz:=wy HM.red hr fun c hc PJ=>Vk fun JH=>Pr ⟨c,hc,PJ,JH⟩
 have H2:=HM.none hr hz;refine za H E hk (eh (H2.spn row (UX _ (VC.mpr rfl))) fun i hi=>?_);obtain⟨S,s1,s2,_,s4,_⟩:=HM.base;exact eh (s4 i hi) fun j hj=>rF (s2 _ (aY (by lia)))
def dt(rows:List (List Int))(w:Nat)(i:Nat)(x:Nat->Int):Int:=sg w fun k=>(rows.getD i []).getD k 0*x k
structure Mv(rows:List (List Int))(w:Nat)(B:List Nat)(l t:Nat)(x:Nat->Int)(s c:Int)(a:Nat->Int):Prop where
 pos:1<=s
 lev:∀p,p<B.length->dt rows w (B.getD p 0) x=s
 low:dt rows w l x<s
 fst:∀i,i<l->s<=dt rows w i x
 cps:1<=c
 sum:∀k,k<w->c*(rows.getD l []).getD k 0=sg B.length fun p=>a p*(rows.getD (B.getD p 0) []).getD k 0
 les:∀p,p<B.length->B.getD p 0<t->a p<=0
 lea:∀p,p<B.length->B.getD p 0=t->0<a p
 mem:t∈B
variable{B:List Nat}
theorem mem_at(h:j∈B):∃p,p<B.length/\B.getD p 0=j:=by
 obtain⟨p,hp,e⟩:=VT h;exact⟨p,hp,by rw[UQ,iV hp];exact e⟩
variable{p:Nat}
theorem iY(h:p<B.length):B.getD p 0∈B:=by
 rw[UQ,iV h];exact XI h
variable{a x:Nat->Int}{N:Nat}{σ:Nat->List Nat}
section
theorem Mv.at_l{l t:Nat}{s c:Int}(M:Mv rows w B l t x s c a):l∉B:=fun h=>by
 obtain⟨p,hp,e⟩:=mem_at h;have:=M.lev p hp;rw[e]at this;have:=M.low;lia
theorem zb{F:Nat->Nat}{c:Int}{l:Nat}(h:∀k,k<w->c*(rows.getD l []).getD k 0=sg n fun p=>a p*(rows.getD (F p) []).getD k 0):c*dt rows w l x=sg n fun p=>a p*dt rows w (F p) x:=by
 unfold dt;rw[<-cz];have e:∀k,k<w->c*((rows.getD l []).getD k 0*x k)=sg n fun p=>a p*((rows.getD (F p) []).getD k 0*x k):=fun k hk=>by
  rw[<-VF,h k hk,<-gJ];exact ay fun p _=>VF _ _ _
 rw[ay e,il];exact ay fun p _=>cz _ _ _
theorem zc(h:∀k,k<n->f k<=0):sg n f<=0:=by
 induction n with
 |zero=>exact ZT _
 |succ n ih=>
  have h1:=ih fun k hk=>h k (by lia)
  have h2:=h n (by lia);show sg n f+f n<=0;lia
theorem DW(h:∀k,k<n->f k<=0)(hq:q<n)(Iu:f q<0):sg n f<0:=by
 induction n with
 |zero=>lia
 |succ n ih=>
  have h2:=h n (by lia);show sg n f+f n<0;by_cases e:q=n
  ·subst e;have:=zc (n:=q) (f:=f) fun k hk=>h k (by lia)
   lia
  ·have:=ih (fun k hk=>h k (by lia)) (by lia);lia
theorem F3{B2:List Nat}{t t2 l2:Nat}{x2:Nat->Int}{s s2 c c2:Int}{a2:Nat->Int}(M:Mv rows w B t t2 x s c a)(M2:Mv rows w B2 l2 t x2 s2 c2 a2)(hl:l2<=t)(hg:∀j∈B2,t<j->j∈B):False:=by
 have JH:l2≠t:=fun e=>M2.at_l (by rw[e];exact M2.mem)
 have e1:=zb (x:=x) M2.sum;have e2:=zb (x:=x2) M2.sum;have e3:sg B2.length (fun p=>a2 p*dt rows w (B2.getD p 0) x2)=sg B2.length (fun p=>a2 p*s2):=ay fun p hp=>by rw[M2.lev p hp]
 obtain⟨q,hq,eq⟩:=mem_at M2.mem;have neg:sg B2.length (fun p=>a2 p*(dt rows w (B2.getD p 0) x-s))<0:=by
  have each:∀p,p<B2.length->a2 p*(dt rows w (B2.getD p 0) x-s)<=0:=fun p hp=>by
   rcases Nat.lt_trichotomy (B2.getD p 0) t with h|h|h
   ·exact XU (M2.les p hp h) (by have:=M.fst _ h;lia)
   ·have h1:=M2.lea p hp h;have h2:=M.low;rw[h];exact XT (by lia) (by lia)
   ·obtain⟨p2,S8,Td⟩:=mem_at (hg _ (iY hp) h)
    have:=M.lev p2 S8;rw[Td]at this;rw[this,Int.sub_self,Vx];exact ZT _
  refine DW each hq ?_;have h1:=M2.lea q hq eq;have h2:=M.low;rw[eq];exact Int.mul_neg_of_pos_of_neg h1 (by lia)
 have e4:sg B2.length (fun p=>a2 p*(dt rows w (B2.getD p 0) x-s))=sg B2.length (fun p=>a2 p*dt rows w (B2.getD p 0) x) + -(sg B2.length a2*s):=by
  rw[<-gJ,<-Wj (sg B2.length fun p=>a2 p*s),<-Wh,<-cz,<-gH];refine ay fun p _=>?_
  rw[Int.mul_sub];lia
 rw[e4,<-e1]at neg;rw[e3,gJ]at e2;have h1:=M.fst l2 (by lia);have h2:=M2.low;have p1:=M.pos;have p2:=M2.pos;have pc:=M2.cps;generalize sg B2.length a2=A at neg e2;generalize dt rows w l2 x=u at neg h1;generalize dt rows w l2 x2=v at e2 h2;have n1:s2*(c2*u)<s2*(A*s):=XD (by lia) (by lia);have n2:s2*(A*s)=s*(c2*v):=by rw[e2,V9,V9 s A s2,VM s2 s]
 have n3:s*(c2*v)<s2*(c2*u):=by
  have m1:s*v<s*s2:=XD h2 (by lia);have m2:s2*s<=s2*u:=Ya h1 (by lia);have m3:s*v<s2*u:=by rw[VM s2 s]at m2;lia
  have m4:=XD m3 (show 0<c2 by lia);rw[V9 s c2 v,V9 s2 c2 u];exact m4
 rw[n2]at n1;lia
structure Wk(rows:List (List Int))(w:Nat)(N:Nat)(σ:Nat->List Nat)(lo le:Nat->Nat):Prop where
 mv:∀i,i<N->∃x s c a,Mv rows w (σ i) (lo i) (le i) x s c a
 nx:∀i,i<N->∀j,j∈σ (i+1)<->j=lo i\/(j∈σ i/\j≠le i)
theorem Wk.same{N:Nat}{σ:Nat->List Nat}{lo le:Nat->Nat}(W:Wk rows w N σ lo le){j a:Nat}:∀d,a+d<=N->(∀i,a<=i->i<a+d->lo i≠j/\le i≠j)->(j∈σ (a+d)<->j∈σ a)
 | 0,_,_=>Iff.rfl
 |d+1,h,hi=>by
  have ih:=W.same (j:=j) (a:=a) d (by lia) fun i h1 h2=>hi i h1 (by lia)
  have hn:=W.nx (a+d) (by lia) j;have hh:=hi (a+d) (by lia) (by lia);rw[show a+(d+1)=a+d+1 from rfl,hn,<-ih];constructor
  ·rintro(h|h)
   ·exact absurd h.symm hh.1
   ·exact h.1
  ·exact fun h=>.inr ⟨h,fun e=>hh.2 e.symm⟩
theorem Wk.not{lo le:Nat->Nat}(W:Wk rows w N σ lo le){t a b:Nat}(hb:b<=N)(h:∀i,a<=i->i<b->lo i<=t/\le i<=t)(hp:a<=p/\p<b)(hq:a<=q/\q<b)(e1:lo p=t)(e2:le q=t):False:=by
 obtain⟨x,s,c,y,M⟩:=W.mv p (by lia);obtain⟨x2,s2,c2,y2,M2⟩:=W.mv q (by lia);rw[e1]at M;rw[e2]at M2;refine F3 M M2 (h q hq.1 hq.2).1 fun j hj hjt=>?_
 have g:∀i,a<=i->i<b->(j∈σ i<->j∈σ a):=fun i h1 h2=>by
  have:=W.same (j:=j) (a:=a) (i-a) (by lia) fun z z1 z2=>by
   have:=h z z1 (by lia);lia
  rw[show a+(i-a)=i by lia]at this;exact this
 exact(g p hp.1 hp.2).mpr ((g q hq.1 hq.2).mp hj)
theorem Wk.isin{N:Nat}{σ:Nat->List Nat}{lo le:Nat->Nat}(W:Wk rows w N σ lo le){j a:Nat}(h0:j∈σ a):∀d,a+d<=N->(∀i,a<=i->i<a+d->le i≠j)->j∈σ (a+d)
 | 0,_,_=>h0
 |d+1,h,hi=>(W.nx (a+d) (by lia) j).mpr (.inr ⟨W.isin h0 d (by lia) fun i h1 h2=>hi i h1 (by lia),fun e=>hi (a+d) (by lia) (by lia) e.symm⟩)
theorem Wk.out{N:Nat}{σ:Nat->List Nat}{lo le:Nat->Nat}(W:Wk rows w N σ lo le){j a:Nat}(h0:j∉σ a):∀d,a+d<=N->(∀i,a<=i->i<a+d->lo i≠j)->j∉σ (a+d)
 | 0,_,_=>h0
 |d+1,h,hi=>fun hm=>by
  rcases(W.nx (a+d) (by lia) j).mp hm with e|e
  ·exact hi (a+d) (by lia) (by lia) e.symm
  ·exact W.out h0 d (by lia) (fun i h1 h2=>hi i h1 (by lia)) e.1
theorem Wk.once{lo le:Nat->Nat}(W:Wk rows w N σ lo le){t a b:Nat}(hb:b<=N)(h:∀i,a<=i->i<b->lo i<=t/\le i<=t)(hp:a<=p)(hpq:p<q)(hq:q<b)(e1:lo p=t\/le p=t)(e2:lo q=t\/le q=t):False:=by
 obtain⟨x,s,c,y,M⟩:=W.mv p (by lia);obtain⟨x2,s2,c2,y2,M2⟩:=W.mv q (by lia);have np:=W.nx p (by lia) t;have ee:p+1+(q-(p+1))=q:=by lia
 rcases e1 with e1|e1 <;> rcases e2 with e2|e2
 ·have hm:=W.isin (j:=t) (a:=p+1) (np.mpr (.inl e1.symm)) (q-(p+1)) (by lia) fun i i1 i2 e=>W.not hb h ⟨hp,by lia⟩ ⟨by lia,by lia⟩ e1 e
  rw[ee,<-e2]at hm;exact M2.at_l hm
 ·exact W.not hb h ⟨hp,by lia⟩ ⟨by lia,hq⟩ e1 e2
 ·exact W.not hb h ⟨by lia,hq⟩ ⟨hp,by lia⟩ e2 e1
 ·have hn:t∉σ (p+1):=fun hm=>by
   rcases np.mp hm with e|e
   ·exact M.at_l (by rw[<-e,<-e1];exact M.mem)
   ·exact e.2 e1.symm
  have hm:=W.out hn (q-(p+1)) (by lia) fun i i1 i2 e=>W.not hb h ⟨by lia,by lia⟩ ⟨hp,by lia⟩ e e1
  rw[ee]at hm;exact hm (by rw[<-e2];exact M2.mem)
theorem Wk.short{N:Nat}{σ:Nat->List Nat}{lo le:Nat->Nat}(W:Wk rows w N σ lo le):∀(t a b:Nat),a<=b->b<=N->(∀i,a<=i->i<b->lo i<t/\le i<t)->b-a+1<=2 ^ t
 | 0,a,b,KI,_,h=>by
  have:¬ a<b:=fun hl=>absurd (h a (UZ _) hl).1 (Vj _)
  show b-a+1<=1;lia
 |t+1,a,b,KI,hb,h=>by
  have e2:2 ^ (t+1)=2 ^ t+2 ^ t:=by rw[Xy];lia
  have h':∀i,a<=i->i<b->lo i<=t/\le i<=t:=fun i h1 h2=>by have:=h i h1 h2;lia
  by_cases hx:∃i,a<=i/\i<b/\(lo i=t\/le i=t)
  ·obtain⟨i,i1,i2,i3⟩:=hx;have g1:=W.short t a i i1 (by lia) fun z z1 z2=>by
    have hz:=h' z z1 (by lia);have n1:lo z≠t:=fun e=>W.once hb h' z1 z2 i2 (.inl e) i3
    have n2:le z≠t:=fun e=>W.once hb h' z1 z2 i2 (.inr e) i3
    lia
   have g2:=W.short t (i+1) b (by lia) hb fun z z1 z2=>by
    have hz:=h' z (by lia) z2;have n1:lo z≠t:=fun e=>W.once hb h' i1 z1 z2 i3 (.inl e)
    have n2:le z≠t:=fun e=>W.once hb h' i1 z1 z2 i3 (.inr e)
    lia
   lia
  ·have g:=W.short t a b KI hb fun z z1 z2=>by
    have hz:=h' z z1 z2;have n1:lo z≠t:=fun e=>hx ⟨z,z1,z2,.inl e⟩
    have n2:le z≠t:=fun e=>hx ⟨z,z1,z2,.inr e⟩
    lia
   lia
end
def sel(rows:List (List Int))(B:List Nat):List (List Int):=B.map fun j=>rows.getD j []
theorem gK(rows:List (List Int))(B:List Nat):(sel rows B).length=B.length:=bf _
theorem wB(rows:List (List Int))(h:p<B.length):(sel rows B).getD p []=rows.getD (B.getD p 0) []:=by
 unfold sel;rw[UQ,Vg,iV h,UQ (l:=B),iV h];rfl
theorem yk{A G:Nat->Nat->Int}(hi:Qv n w A)(h:∀i,i<n->In n w G (A i)):Qv n w G:=fun x hx j hj=>Vk fun JH=>by
 cases n with
 |zero=>lia
 |succ m=>
  have MI:∀p,p<m+1->p≠j->In m w (fun p=>if p=j then G m else G p) (G p):=fun p hp hpj=>by
   by_cases e:p=m
   ·have h0:=eP (w:=w) (F:=fun p=>if p=j then G m else G p) (i:=j) (r:=m) (by lia);rw[U2 rfl]at h0;rw[e];exact h0
   ·have h0:=eP (w:=w) (F:=fun p=>if p=j then G m else G p) (i:=p) (r:=m) (by lia);rw[U9 hpj]at h0;exact h0
  have Q1:In m w (fun p=>if p=j then G m else G p) (G j):=by
   have hs:=hV (r:=m) (w:=w) (F:=fun p=>if p=j then G m else G p) (m+1) x (fun p k=>if p=j then 0 else G p k) (fun p hp=>by
    by_cases e:p=j
    ·exact p3 fun k _=>U2 e
    ·exact cm (fun k _=>U9 e) (MI p hp e))
   refine iW (-x j) (by lia) (fun k hk=>?_) hs;have h0:=hx k hk;have e:sg (m+1) (fun i=>x i*G i k)=sg (m+1) (fun p=>x p*if p=j then 0 else G p k)+sg (m+1) (fun p=>if p=j then x j*G j k else 0):=by
    rw[<-gH];refine ay fun p _=>?_
    by_cases e:p=j
    ·rw[U2 e,U2 e,e,Vx,Yx]
    ·rw[U9 e,U9 e,Wf]
   have e1:sg (m+1) (fun p=>if p=j then x j*G j k else 0)=x j*G j k:=by
    rw[gc hj fun p _ hp=>U9 hp,U2 rfl]
   rw[e1]at e;rw[Wh];lia
  have:=rA (a:=m+1) (b:=m) hi fun i Tz=>eh (h i Tz) fun p hp=>by
   by_cases e:p=j
   ·rw[e];exact Q1
   ·exact MI p hp e
  lia
theorem DX{r A:Nat}(hi:Qv r w F)(hA:∀i,i<r->∀k,k<w->(F i k).natAbs<=A):r<=w:=Vk fun h=>by
 obtain⟨x,⟨i,hi1,JH⟩,_,hx⟩:=wa (r:=r) (s:=w) (A:=A) (by lia) (fun k i=>F i k) (fun j hj i hi=>hA i hi j hj);exact JH (hi x (fun k hk=>by rw[<-hx k hk];exact ay fun i _=>VM _ _) i hi1)
structure Ch(rows:List (List Int))(w n:Nat)(B:List Nat):Prop where
 srt:B.Pairwise (·< ·)
 lt:∀j∈B,j<n
 ind:Qv B.length w (Fs (sel rows B))
 spn:∀i,i<n->In B.length w (Fs (sel rows B)) (Vc (rows.getD i []))
theorem Ch.start(rows:List (List Int))(w:Nat):Ch rows w 0 []:=⟨.nil,fun _ h=>(nomatch h),fun _ _ i h=>absurd h (Vj i),fun i h=>absurd h (Vj i)⟩
section
theorem Ch.skip(H:Ch rows w n B)(h:In B.length w (Fs (sel rows B)) (Vc (rows.getD n []))):Ch rows w (n+1) B:=⟨H.srt,fun j hj=>Xf (H.lt j hj),H.ind,fun i hi=>by
 rcases XS.mp hi with e|e
 ·exact H.spn i e
 ·rw[e];exact h⟩
theorem Ch.take(H:Ch rows w n B)(h:¬ In B.length w (Fs (sel rows B)) (Vc (rows.getD n []))):Ch rows w (n+1) (B++[n]):=by
 have es:sel rows (B++[n])=sel rows B++[rows.getD n []]:=by unfold sel;rw[Vt];rfl
 have el:=gK rows B;have eb:(B++[n]).length=B.length+1:=by rw[rh,Vz]
 refine⟨List.pairwise_append.mpr ⟨H.srt,Y1 _ _,fun a ha b hb=>by rw[rg hb];exact H.lt a ha⟩,fun j hj=>?_,?_,?_⟩
 ·rcases w4 hj with h|h
  ·exact Xf (H.lt j h)
  ·rw[rg h];exact VB _
 ·rw[eb,es];intro x hx;have key:∀k,k<w->sg B.length (fun p=>x p*Fs (sel rows B) p k)+x B.length*(rows.getD n []).getD k 0=0:=fun k hk=>by
   have:=hx k hk;have e1:sg B.length (fun p=>x p*Fs (sel rows B++[rows.getD n []]) p k)=sg B.length (fun p=>x p*Fs (sel rows B) p k):=ay fun p hp=>by
    show x p*((sel rows B++[rows.getD n []]).getD p []).getD k 0=x p*((sel rows B).getD p []).getD k 0;rw[yh _ _ _ (by rw[el];exact hp)]
   have e2:Fs (sel rows B++[rows.getD n []]) B.length k=(rows.getD n []).getD k 0:=by
    show((sel rows B++[rows.getD n []]).getD B.length []).getD k 0=_;rw[<-el,wg]
   have h3:sg B.length (fun p=>x p*Fs (sel rows B++[rows.getD n []]) p k)+x B.length*Fs (sel rows B++[rows.getD n []]) B.length k=0:=this;rw[e1,e2]at h3;exact h3
  have z:x B.length=0:=Vk fun JH=>h ⟨x B.length,fun p=>-x p,JH,fun k hk=>by
   have:=key k hk;have e:sg B.length (fun p=>-x p*Fs (sel rows B) p k) = -sg B.length (fun p=>x p*Fs (sel rows B) p k):=by
    have:=cz B.length (-1) fun p=>x p*Fs (sel rows B) p k
    rw[Wh,Wj]at this;rw[<-this];exact ay fun p _=>by rw[Wh,Wh,Wj]
   rw[e];show x B.length*(rows.getD n []).getD k 0=_;lia⟩
  intro i hi;rcases XS.mp hi with e|e
  ·exact H.ind x (fun k hk=>by
    have:=key k hk;rw[z,Wg,Wf]at this;exact this) i e
  ·rw[e];exact z
 ·rw[eb,es];intro i hi;rcases XS.mp hi with e|e
  ·exact wj el (H.spn i e)
  ·rw[e];exact wm el
theorem nh(h:B.Pairwise (·< ·))(hp:p<B.length)(hq:q<B.length)(e:B.getD p 0=B.getD q 0):p=q:=by
 rw[UQ,iV hp,UQ,iV hq]at e;have e:B[p]=B[q]:=e;have h2:=YE.mp h;rcases Nat.lt_trichotomy p q with z|z|z
 ·have:=h2 p q hp hq z;lia
 ·exact z
 ·have:=h2 q p hq hp z;lia
theorem Ch.swap(H:Ch rows w n B){l:Nat}{c:Int}(hl:l<n)(hq:q<B.length)(hs:∀k,k<w->c*(rows.getD l []).getD k 0=sg B.length fun p=>a p*(rows.getD (B.getD p 0) []).getD k 0)(ha:a q≠0){C:List Nat}(hC:C.Pairwise (·< ·))(hm:∀j,j∈C<->j=l\/(j∈B/\j≠B.getD q 0))(hlen:C.length=B.length):Ch rows w n C:=by
 have Qz:∀j,j∈C->In C.length w (Fs (sel rows C)) (Vc (rows.getD j [])):=fun j hj=>by
  have:=rF (w:=w) (S:=sel rows C) (r:=rows.getD j []) (Xu.mpr ⟨j,hj,rfl⟩);rw[gK]at this;exact this
 have inq:In C.length w (Fs (sel rows C)) (Vc (rows.getD (B.getD q 0) [])):=by
  have h1:=hV (r:=C.length) (w:=w) (F:=Fs (sel rows C)) B.length (fun p=>if p=q then c else -a p) (fun p=>if p=q then Vc (rows.getD l []) else Vc (rows.getD (B.getD p 0) [])) (fun p hp=>by
   by_cases e:p=q
   ·rw[U2 e];exact Qz l ((hm l).mpr (.inl rfl))
   ·rw[U9 e];exact Qz _ ((hm _).mpr (.inr ⟨iY hp,fun z=>e (nh H.srt hp hq z)⟩)))
  refine iW (a q) ha (fun k hk=>?_) h1;have h2:=hs k hk;have e:sg B.length (fun i=>(if i=q then c else -a i)*(if i=q then Vc (rows.getD l []) else Vc (rows.getD (B.getD i 0) [])) k)+sg B.length (fun p=>a p*(rows.getD (B.getD p 0) []).getD k 0)=sg B.length (fun p=>if p=q then c*(rows.getD l []).getD k 0+a q*(rows.getD (B.getD q 0) []).getD k 0 else 0):=by
   rw[<-gH];refine ay fun p _=>?_
   by_cases e:p=q
   ·rw[U2 e,U2 e,U2 e,e]
   ·rw[U9 e,U9 e,U9 e,Wh];exact Int.add_left_neg _
  have e1:sg B.length (fun p=>if p=q then c*(rows.getD l []).getD k 0+a q*(rows.getD (B.getD q 0) []).getD k 0 else 0)=c*(rows.getD l []).getD k 0+a q*(rows.getD (B.getD q 0) []).getD k 0:=by
   rw[gc hq fun p _ hp=>U9 hp,U2 rfl]
  rw[e1]at e;show a q*(rows.getD (B.getD q 0) []).getD k 0=_;lia
 have TC:∀p,p<B.length->In C.length w (Fs (sel rows C)) (Fs (sel rows B) p):=fun p hp=>by
  show In C.length w (Fs (sel rows C)) (Vc ((sel rows B).getD p []));rw[wB rows hp];by_cases e:p=q
  ·rw[e];exact inq
  ·exact Qz _ ((hm _).mpr (.inr ⟨iY hp,fun z=>e (nh H.srt hp hq z)⟩))
 refine⟨hC,fun j hj=>?_,?_,fun i hi=>eh (H.spn i hi) TC⟩
 ·rcases(hm j).mp hj with e|e
  ·rw[e];exact hl
  ·exact H.lt j e.1
 ·rw[hlen]at TC ⊢;exact yk H.ind TC
end
end LW
namespace LW
open PV
variable{b:Int}
theorem DY(a:Int)(h:b≠0):Dm (.int a) (.int b)=.ok (.f,.int (a.fmod b)):=by
 unfold Dm;dsimp only;rw[U2 h]
variable{n:Nat}
theorem p8(a:Int)(h:b≠0)(h2:b.natAbs<2 ^ n)(hn:n<=9000):mM (.int a) (.int b)=.ok (.f,.int (a.fdiv b)):=by
 have:b.natAbs.log2<9000:=by
  have:=(Nat.log2_lt (fun z=>h (Int.natAbs_eq_zero.mp z))).mpr h2;lia
 unfold mM;dsimp only;rw[U2 ⟨h,this⟩]
theorem lK(a:Int)(h:0<b):a.fmod b=a%b:=by
 rw[Int.fmod_eq_emod,U2 (.inl (Zx h)),Wf]
theorem Hz(a:Int)(h:b≠0):(a.fmod b).natAbs<b.natAbs:=by
 rcases Yy h with hb|hb
 ·have e:a.fmod b = -((-a)%(-b)):=by
   rw[<-lK (-a) (b:=-b) (by lia),Y6,Int.neg_neg]
  have h1:=WZ (-a) (b:=-b) (by lia);have h2:=Xr (-a) (b:=-b) (by lia);lia
 ·rw[lK a hb];have h1:=WZ a (b:=b) (by lia);have h2:=Xr a hb;lia
theorem rH{a:Int}(hb:0<b)(hr:0<a%b):2*(b%(a%b))<b:=by
 have h1:=Xr a hb;have h2:=Xr b hr;have h3:=WZ b (b:=a%b) (by lia);have h4:=Int.mul_ediv_add_emod b (a%b);have h5:1<=b / (a%b):=by
  have:=Int.ediv_nonneg (Zx hb) (Zx hr);rcases Int.lt_or_eq_of_le this with h|h
  ·lia
  ·rw[<-h,Vx]at h4;lia
 have h6:a%b*1<=a%b*(b / (a%b)):=Ya h5 (Zx hr);lia
theorem HA{a:Int}(hb:b≠0)(hr:a.fmod b≠0):2*(b.fmod (a.fmod b)).natAbs<b.natAbs:=by
 rcases Yy hb with h|h
 ·have e:a.fmod b = -((-a)%(-b)):=by
   rw[<-lK (-a) (b:=-b) (by lia),Y6,Int.neg_neg]
  have h0:=WZ (-a) (b:=-b) (by lia);have hp:0<(-a)%(-b):=by lia
  have e2:b.fmod (a.fmod b) = -((-b)%((-a)%(-b))):=by
   rw[e,<-lK (-b) hp,<-Y6,Int.neg_neg]
  have:=rH (a:=-a) (b:=-b) (by lia) hp;have:=WZ (-b) (b:=(-a)%(-b)) (by lia);lia
 ·rw[lK a h]at hr ⊢;have h0:=WZ a (b:=b) (by lia);have hp:0<a%b:=by lia
  rw[lK b hp];have:=rH (a:=a) h hp;have:=WZ b (b:=a%b) (by lia);lia
theorem zd(a b:Int):Int.gcd b (a.fmod b)=Int.gcd a b:=by rw[Int.fmod_def,Int.gcd_sub_mul_left_right,Int.gcd_comm]
abbrev tf:FT:=Iz (aV K1 (aj 1) (ao (aE (.int 0))))
theorem p9(F:Nat)(a:Int)(t:Option R):cP tf aT (F+1) [fI a,fI 0,t]=.ok (.nx [fI a,fI 0,t]):=by
 have hc:tf [fI a,fI 0,t]=.ok (false,[fI a,fI 0,t]):=by
  have e:((0:Int)==0)=true:=rfl;simp only[pv,seval,op,e,Yh]
 rw[gT,hc,Jl];dsimp only;rw[U9 U7]
theorem DZ(F:Nat)(a b:Int)(hb:b≠0)(t:Option R):cP tf aT (F+1) [fI a,fI b,t]=cP tf aT F [fI b,fI (a.fmod b),fI (a.fmod b)]:=by
 have hc:tf [fI a,fI b,t]=.ok (true,[fI a,fI b,t]):=by
  have e:(b==0)=false:=Vn.mpr hb;simp only[pv,seval,op,e,Bool.not_false]
 have TF:aT [fI a,fI b,t]=.ok (.nx [fI b,fI (a.fmod b),fI (a.fmod b)]):=by
  unfold aT;have hm:=DY a hb;rw[av (env':=[fI a,fI b,fI (a.fmod b)]) (by simp only[pv,seval,op,hm])];rw[av (env':=[fI b,fI b,fI (a.fmod b)]) (by simp only[pv,seval,op])];simp only[pv,seval,op]
 rw[gT,hc,Jl];dsimp only;rw[U2 rfl,TF,Jl]
theorem wC:∀(n F:Nat) (a b:Int) (t:Option R),b.natAbs<2 ^ n->2*n+1<=F->∃(c:Int) (u:Option R),c.natAbs=Int.gcd a b/\cP tf aT F [fI a,fI b,t]=.ok (.nx [fI c,fI 0,u])
 | 0,F,a,b,t,h,hF=>by
  have:b=0:=by
   have:b.natAbs<1:=h;lia
  subst this;obtain⟨F,rfl⟩:∃G,F=G+1:=⟨F-1,by lia⟩
  exact⟨a,t,(Yz a).symm,p9 F a t⟩
 |n+1,F,a,b,t,h,hF=>by
  obtain⟨F,rfl⟩:∃G,F=G+1:=⟨F-1,by lia⟩
  by_cases hb:b=0
  ·subst hb;exact⟨a,t,(Yz a).symm,p9 F a t⟩
  rw[DZ F a b hb t,<-zd a b];obtain⟨F,rfl⟩:∃G,F=G+1:=⟨F-1,by lia⟩
  by_cases hr:a.fmod b=0
  ·rw[hr];exact⟨b,_,(Yz b).symm,p9 F b _⟩
  rw[DZ F b _ hr,<-zd b (a.fmod b)];refine wC n F _ _ _ ?_ (by lia);have:=HA hb hr;rw[Xy]at h;lia
theorem D2(c:Int):BG [.int c]=.ok (.f,.int (c.natAbs:Int)):=by
 show Res.ok (O.f,D.int (if c<0 then -c else c))=_;split <;> (congr 3;lia)
theorem ze(hn:n<=9000)(a b:Int)(h:b.natAbs<2 ^ n):aZ [.int a,.int b]=.ok (.f,.int (Int.gcd a b:Int)):=by
 obtain⟨c,u,hc,e⟩:=wC n 100000 a b none h (by lia);have ha:=D2 c;unfold aZ fX;rw[bC (h:=by rfl)];rw[av (env':=[fI c,fI 0,u]) (by
  unfold d7;exact e)]
 unfold dO;rw[<-hc];simp only[pv,seval,op,ha]
theorem D3{n:Nat}:∀(r:List Int) (g:Nat),Bg n r->g<2 ^ n->gl r g<2 ^ n
 |[],g,_,h=>h
 |x::r,g,hb,h=>D3 r _ (fun y hy=>hb y (U3 _ hy)) (by
  rcases Nat.eq_zero_or_pos g with e|e
  ·rw[e,Nat.gcd_zero_left];exact hb x UY
  ·exact VX (Nat.gcd_le_left _ e) h)
theorem rJ{n:Nat}(hn:n<=9000)(E0:Option R):∀(r:List Int) (g:Nat) (t:Option R),Bg n r->∃u,eC (ax 2) fE (r.map D.int) [E0,fI (g:Int),t]=.ok (.nx [E0,fI (gl r g:Int),u])
 |[],g,t,_=>⟨t,rfl⟩
 |x::r,g,t,hb=>by
  have hd:=ze hn (g:Int) x (hb x UY);have eg:Int.gcd (g:Int) x=Nat.gcd g x.natAbs:=rfl;rw[eg]at hd;obtain⟨u,e⟩:=rJ hn E0 r (Nat.gcd g x.natAbs) (fI x) fun y hy=>hb y (U3 _ hy)
  have ha:ax 2 (.int x) [E0,fI (g:Int),t]=.ok [E0,fI (g:Int),fI x]:=rfl;have TF:fE [E0,fI (g:Int),fI x]=.ok (.nx [E0,fI ((Nat.gcd g x.natAbs:Nat):Int),fI x]):=by
   unfold fE;simp only[pv,seval,op,hd]
  refine⟨u,?_⟩;rw[gX,jk,ha,Jl,TF,Jl];exact e
theorem ni(hn:n<=9000)(r:List Int)(hb:Bg n r)(hl:r.length<=1000):cJ [eR r]=.ok (.f,eR (low r)):=by
 obtain⟨u,e⟩:=rJ hn (fq (eR r)) r 0 none hb;have hg:=D3 r 0 hb (Yu n);unfold cJ qX;rw[bC (h:=by rfl)];rw[av (env':=[fq (eR r),fI ((0:Nat):Int),none]) (by
  generalize eR r=ER;simp only[pv,seval,op] <;> rfl)]
 rw[av (env':=[fq (eR r),fI (gl r 0:Int),u]) (by
  unfold lE eR;simp only[pv,seval,op];exact e)]
 unfold ku low;by_cases h0:gl r 0=0
 ·rw[U2 h0];have e0:(((gl r 0:Nat):Int)==0)=true:=by rw[h0];rfl
  rw[Jg];generalize eR r=ER;simp only[pv,seval,op,e0]
 ·rw[U9 h0];have e0:(((gl r 0:Nat):Int)==0)=false:=Vn.mpr (by lia);have hz:((gl r 0:Nat):Int)≠0:=by lia
  have hc:cH (ax 0) dX (aG mM (aj 0) (aj 1)) (r.map D.int) [none,fI (gl r 0:Int)]=.ok ((r.map fun x=>x.fdiv (gl r 0:Int)).map D.int):=by
   rw[Vm];refine c7 (fun env=>∃t,env=[t,fI (gl r 0:Int)]) _ ?_ _ ⟨_,rfl⟩;rintro x _ env ⟨t,rfl⟩;have hf:=p8 x hz (by rw[V5];exact hg) hn;refine⟨[fI x,fI (gl r 0:Int)],rfl,.f,[fI x,fI (gl r 0:Int)],?_,_,rfl⟩;simp only[pv,seval,op,hf];rfl
  have hlen:((r.map fun x=>x.fdiv (gl r 0:Int)).map D.int).length<=sizeLine:=vW (by rw[bf,bf];lia);have MJ:=HY (r.map fun x=>x.fdiv (gl r 0:Int));rw[av (env':=[fq (eR r),fI (gl r 0:Int),u]) (by
   generalize eR r=ER;simp only[pv,seval,op,e0,ik])]
  unfold eR;generalize (aG mM (aj 0) (aj 1))=FZ1 at hc ⊢;simp only[pv,seval,op,hc,hlen,MJ]
end LW
namespace PV
theorem jN{fs:FOs}{env:PV.Env}:ju fs env=Res.bnd (fs env) (f:=⟨fun p=>match p.1 with
 |[.val d]=>(match d with | .lst a=>.ok (sS a,p.2) | .tup a=>.ok (sS a,p.2)|_=>.bad)
 |_=>.bad⟩):=by
 unfold ju Kq qU;cases fs env with
 |ok p=>
  obtain⟨os,e⟩:=p;match os with
  |[]=>rfl
  |[.val d]=>cases d <;> rfl
  |[.var _]=>rfl
  | .val _::_::_=>rfl
  | .var _::_::_=>rfl
 |_=>rfl
theorem Bc{i:Nat}{a:FG}{g:FS}{env env':PV.Env}{ks vs:List D}(hi:env[i]?=some (some (.d,.dct false ks vs)))(h:∀p,∃e,eC a g ks (env.set i (some (.pin p .f,.dct false ks vs)))=.ok (.nx e)/\mK i p e=true/\oO i e=true/\e.set i (some (.d,.dct false ks vs))=env'):vH i a g env=.ok (.nx env'):=by
 unfold vH;rw[hi];refine AS fun p=>?_
 obtain⟨e,h1,h2,h3,h4⟩:=h p;rw[h1];show(if mK i p e&&oO i e then Res.ok (Out.nx (e.set i (some (.d,.dct false ks vs)))) else .bad)=_;rw[h2,h3,h4];rfl
theorem forD_eq{i:Nat}{a:FG}{g:FS}{env env':PV.Env}{p:Addr}{ks vs:List D}(hi:env[i]?=some (some (.pin p .d,.dct false ks vs))){e:PV.Env}(h1:eC a g ks (env.set i (some (.pin p .f,.dct false ks vs)))=.ok (.nx e))(h2:mK i p e=true)(h3:cleanE i e=true)(h4:e.set i (some (.pin p .d,.dct false ks vs))=env'):oK i a g env=.ok (.nx env'):=by
 unfold oK;rw[hi];show(eC a g ks (env.set i (some (.pin p .f,.dct false ks vs)))).bind (vz i p (.dct false ks vs))=_;rw[h1];show(if mK i p e&&cleanE i e then Res.ok (Out.nx (e.set i (some (.pin p .d,.dct false ks vs)))) else .bad)=_;rw[h2,h3,h4];rfl
end PV
namespace LW
open PV
def OR(r:List Int):List Int:=(r.zipIdx.filter fun z=>!(z.1==0)).map fun z=>(z.2:Int)
theorem ym(r:List Int):sS (r.map D.int)=r.zipIdx.map fun z=>D.tup [.int (z.2:Int),.int z.1]:=by
 unfold sS;rw[List.zipIdx_map,Vm];rfl
theorem pb(r:List Int):cH (iZ 2 (aJ (ax 0) (aJ (ax 1) c9))) (Iz (aV K1 (aj 1) (ao (aE (.int 0))))) (aK 0) (sS (r.map D.int)) [none,none]=.ok ((OR r).map D.int):=by
 rw[ym];rw[fS (p:=fun z:Int×Nat=>!(z.1==0)) (r:=fun z:Int×Nat=>D.int (z.2:Int)) (fun env=>∃t1 t2,env=[t1,t2]) r.zipIdx ?_ _ ⟨_,_,rfl⟩]
 ·unfold OR;rw[Vm];rfl
 ·rintro z _ env ⟨t1,t2,rfl⟩;refine⟨[fI (z.2:Int),fI z.1],by simp only[pv,seval],[fI (z.2:Int),fI z.1],by simp only[pv,seval,op],?_⟩;cases h:(z.1==0) with
  |true=>exact⟨_,_,rfl⟩
  |false=>exact⟨.f,_,rfl,_,_,rfl⟩
theorem D4(r:List Int):(OR r).length<=r.length:=by
 unfold OR;rw[bf];exact Vq (Xa _ _) (Zm (List.length_zipIdx))
variable{r:List Int}{c:Nat}
theorem Ra(h:c<r.length):IK (eR r) (.int (c:Int))=.ok (.f,.int (r.getD c 0)):=by
 unfold eR;rw[Dy,hW (j:=c) (v:=D.int (r.getD c 0)) (by rw[Vg,iV h,bT r c 0 h];rfl)]
variable{n:Nat}
theorem pd(Ur:n<=900000)(row KP:List Int)(c:Nat)(hc:c<row.length)(hl:KP.length=row.length)(h1:Bg n row)(h2:Bg n KP)(hw:row.length<=1000):cV [eR row,.int (c:Int),eR KP]=.ok (.f,eR (JM row c KP)):=by
 have i1:=Ra hc;have i2:=Ra (r:=KP) (c:=c) (by lia);unfold cV oQ;rw[bC (h:=by rfl)];unfold JM;by_cases h0:row.getD c 0=0
 ·rw[U2 h0];have e0:(row.getD c 0==0)=true:=by rw[h0];rfl
  rw[Jg];generalize eR row=ER at i1 ⊢;simp only[pv,seval,op,i1,e0]
 ·rw[U9 h0];have e0:(row.getD c 0==0)=false:=Vn.mpr h0;have hn:Bg n [KP.getD c 0,-(row.getD c 0)]:=fun x hx=>by
   rcases U6.mp hx with rfl|hx
   ·exact h2 _ (fT (by lia))
   ·rw[rg hx,Xl];exact h1 _ (fT hc)
  have hr:Rows n row.length [row,KP]:=fun x hx=>by
   rcases U6.mp hx with rfl|hx
   ·exact⟨rfl,h1⟩
   ·rw[rg hx];exact⟨hl,h2⟩
  have hs:=yg Ur Ur row.length hw [row,KP] [KP.getD c 0,-(row.getD c 0)] hr hn (by show 2<=1000;decide);have ec:((List.range row.length).map (co [row,KP] [KP.getD c 0,-(row.getD c 0)] 2))=(List.range row.length).map fun k=>row.getD k 0*KP.getD c 0+KP.getD k 0 * -(row.getD c 0):=by
   refine VY fun k _=>?_
   unfold co;simp
  have hs:fD [.lst [eR row,eR KP],.lst [.int (KP.getD c 0),.int (-(row.getD c 0))],.int (row.length:Int)]=.ok (.f,eR ((List.range row.length).map (co [row,KP] [KP.getD c 0,-(row.getD c 0)] 2))):=hs;rw[ec]at hs;have MD:gj [eR row]=.ok (.f,.int (row.length:Int)):=by
   show Res.ok (O.f,D.int (((row.map D.int).length:Nat):Int))=_;rw[bf]
  generalize eR ((List.range row.length).map fun k=>row.getD k 0*KP.getD c 0+KP.getD k 0 * -(row.getD c 0))=RES at hs ⊢;rw[av (env':=[fq (eR row),fI (c:Int),fq (eR KP)]) (by
   generalize eR row=ER at i1 ⊢;generalize eR KP=EB;simp only[pv,seval,op,i1,e0,ik])]
  generalize eR row=ER at i1 hs MD ⊢;generalize eR KP=EB at i2 hs ⊢;simp only[pv,seval,op,i1,i2,hs,MD]
def kL(L:Iq):List D:=L.map fun z=>D.int (z.1:Int)
def vL(L:Iq):List D:=L.map fun z=>eR z.2
def dL(L:Iq):D:=.dct false (kL L) (vL L)
theorem R6(a b:Nat):Ia (.int (a:Int)) (.int (b:Int))=(a==b):=by
 rw[Ia,VQ,VD,VD];lia
theorem GA:∀(L:Iq) (i:Nat),i<L.length->(∀j,j<i->Ii L j≠Ii L i)->PV.getD (kL L) (vL L) (.int (Ii L i:Int))=some (eR (Ij L i))
 |[],i,h,_=>absurd h (Vj i)
 |(c,r)::L,0,_,_=>by
  show(((D.int (c:Int),eR r)::(kL L).zip (vL L)).find? (fun p=>Ia (.int (c:Int)) p.1)).map (·.2)=some (eR r);rw[Xm (by show Ia (.int (c:Int)) (.int (c:Int))=true;rw[R6,V0])];rfl
 |(c,r)::L,i+1,h,hj=>by
  have hc:c≠Ii L i:=hj 0 (Xx i);have:=GA L i (Zg h) fun j Qx=>hj (j+1) (Nat.succ_lt_succ Qx)
  show(((D.int (c:Int),eR r)::(kL L).zip (vL L)).find? (fun p=>Ia (.int (Ii L i:Int)) p.1)).map (·.2)=some (eR (Ij L i));rw[Xn (by show ¬ Ia (.int (Ii L i:Int)) (.int (c:Int))=true;rw[R6,VD];exact fun e=>hc e.symm)];exact this
variable{i w:Nat}{L:Iq}
theorem SI(H:Rdd w L)(hi:i<L.length):N4 (dL L) (.int (Ii L i:Int))=.ok (.f,eR (Ij L i)):=by
 unfold N4 dL;dsimp only;rw[U2 (show eX false (.int (Ii L i:Int))=true from rfl),GA L i hi fun j hj e=>by have:=H.inj (by lia) hi e;lia]
theorem GC(L:Iq)(q:Nat)(l:List Int)(h:∀i,i<L.length->Ii L i≠q):oy (kL L) (vL L) (.int (q:Int)) (eR l)=(kL (L++[(q,l)]),vL (L++[(q,l)])):=by
 have ha:(kL L).any (Ia (.int (q:Int)))=false:=by
  unfold kL;rw[XO,X3];intro z hz;obtain⟨i,hi,e⟩:=VT hz;have hq:=h i hi;unfold Ii at hq;rw[UQ,iV hi,e]at hq;show ¬ Ia (.int (q:Int)) (.int (z.1:Int))=true;rw[R6,VD];exact fun e=>hq e.symm
 unfold oy;rw[ha,U9 U7];unfold kL vL;rw[Vt,Vt];rfl
theorem cD(r:List Int):cR (eR r)=true:=by
 unfold eR;rw[d9,HY]
theorem wD(L:Iq):H0 (vL L)=true:=by
 unfold vL;rw[cO,Xw,VA];exact fun z _=>cD z.2
theorem gW(L:Iq):aP .d (dL L)=true:=wD L
variable{a:List Int}
theorem Bg.mono{m:Nat}(h:Bg n a)(hn:n<=m):Bg m a:=fun x hx=>U0 (h x hx) (WQ (by decide) hn)
theorem Bg.at(h:Bg n a)(k:Nat):(a.getD k 0).natAbs<2 ^ n:=by
 by_cases hk:k<a.length
 ·exact h _ (fT hk)
 ·rw[UQ,X5 (by lia)];exact Yu n
theorem rK{x y:Int}{m:Nat}(hx:x.natAbs<2 ^ n)(hy:y.natAbs<2 ^ m):(x*y).natAbs<2 ^ (n+m):=by
 rw[WV,Nat.pow_add];exact Nat.mul_lt_mul_of_lt_of_lt hx hy
variable{row:List Int}
theorem wF{m:Nat}{b:List Int}(h1:Bg n row)(h2:Bg m b)(c:Nat):Bg (n+m+1) (JM row c b):=by
 unfold JM;split
 ·exact h1.mono (by lia)
 ·intro x hx;obtain⟨k,_,e⟩:=nH hx;rw[<-e];have a1:=rK (h1.at k) (h2.at c);have a2:=rK (h2.at k) (show(-(row.getD c 0)).natAbs<2 ^ n by rw[Xl];exact h1.at c);rw[Nat.add_comm m n]at a2;have a3:=Int.natAbs_add_le (row.getD k 0*b.getD c 0) (b.getD k 0 * -(row.getD c 0));rw[Xy];lia
def Ld(t:Option R):Bool:=match t with
 |some r=>aP r.1 r.2
 |none=>true
abbrev JY(L:Iq)(q:Nat)(nl:List Int)(k:Nat):Iq:=(L.take k).map fun z=>(z.1,low (JM z.2 q nl))
theorem zf(L:Iq)(q:Nat)(nl:List Int){k:Nat}(hk:k<=L.length)(h:i<(JY L q nl k).length):Ii (JY L q nl k) i=Ii L i:=by
 have hl:i<k:=by
  rw[bf,VE]at h;lia
 unfold Ii JY;rw[UQ,Vg,XZ,U2 hl,iV (by lia),UQ,iV (by lia)];rfl
variable{q:Nat}{nl:List Int}
theorem Bd(hw:w<=1000)(hn:n+n+1<=9000)(H:Rdd w L)(hb:∀i,i<L.length->Bg n (Ij L i))(hL:L.length<=1000)(hq:q<w)(Mn:nl.length=w)(Md:Bg n nl)(p:Addr):∃t4,Ld t4=true/\eC (ax 4) cK (kL L) [some (.pin p .f,dL L),fI (q:Int),fq (eR nl),some (.d,dL []),none]=.ok (.nx [some (.pin p .f,dL L),fI (q:Int),fq (eR nl),some (.d,dL (JY L q nl L.length)),t4]):=by
 obtain⟨env',hf,t4,h4,rfl⟩:=for_list (a:=ax 4) (g:=cK) (e:=fun z:Nat×List Int=>D.int (z.1:Int)) L (fun k env=>∃t4,Ld t4=true/\env=[some (.pin p .f,dL L),fI (q:Int),fq (eR nl),some (.d,dL (JY L q nl k)),t4]) (by
  rintro k x env hx ⟨t4,h4,rfl⟩;obtain⟨hk,ex⟩:=y0 hx;have ec:Ii L k=x.1:=by unfold Ii;rw[UQ,hx];rfl
  have er:Ij L k=x.2:=by unfold Ij;rw[UQ,hx];rfl
  have hd:=SI H hk;have hc:=pd (n:=n) (by lia) (Ij L k) nl q (by rw[H.len k hk];exact hq) (by rw[H.len k hk,Mn]) (hb k hk) Md (by rw[H.len k hk];exact hw);have L1:=ni hn (JM (Ij L k) q nl) (wF (hb k hk) Md q) (by rw[p4,H.len k hk];exact hw);have hp:=GC (JY L q nl k) (Ii L k) (low (JM (Ij L k) q nl)) fun i hi e=>by
   have TB:i<k:=by
    rw[bf,VE]at hi;lia
   rw[zf L q nl (by lia) hi]at e;have:=H.inj (by lia) hk e;lia
  have ej:JY L q nl k++[(Ii L k,low (JM (Ij L k) q nl))]=JY L q nl (k+1):=by
   unfold JY;rw[WB hk,Vt,ex,ec,er];rfl
  rw[ej]at hp;have R7:(kL (JY L q nl k)).length<sizeLine:=short (by unfold kL;rw[bf,bf,VE];lia);rw[<-ec];refine⟨[some (.pin p .f,dL L),fI (q:Int),fq (eR nl),some (.d,dL (JY L q nl k)),fI (Ii L k:Int)],rfl,[some (.pin p .f,dL L),fI (q:Int),fq (eR nl),some (.d,dL (JY L q nl (k+1))),fI (Ii L k:Int)],?_,_,rfl,rfl⟩;have Pe:=cD (low (JM (Ij L k) q nl));have Us:=cD (JM (Ij L k) q nl);unfold cK;generalize dL L=DL at hd ⊢;have e1:dv cJ (af (ao (dv cV (af (ao (aG N4 (aj 0) (aj 4))) (af (aj 1) (af (aj 2) aw))))) aw) [some (.pin p .f,DL),fI (q:Int),fq (eR nl),some (.d,dL (JY L q nl k)),fI (Ii L k:Int)]=.ok ((.f,eR (low (JM (Ij L k) q nl))),[some (.pin p .f,DL),fI (q:Int),fq (eR nl),some (.d,dL (JY L q nl k)),fI (Ii L k:Int)]):=by
   generalize dL (JY L q nl k)=DJ;generalize eR (low (JM (Ij L k) q nl))=E1 at L1 Pe ⊢;generalize eR (JM (Ij L k) q nl)=E2 at L1 hc Us;generalize eR (Ij L k)=E3 at hd hc;generalize eR nl=E4 at hc ⊢;simp only[pv,seval,op,hd,hc,L1,Pe,Us]
  unfold C5;rw[e1];show(if eX false (.int (Ii L k:Int))&&decide ((kL (JY L q nl k)).length<sizeLine) then _ else _)=_;rw[VL R7];show Res.ok (Out.nx [some (.pin p .f,DL),fI (q:Int),fq (eR nl),some (.d,.dct false (oy (kL (JY L q nl k)) (vL (JY L q nl k)) (.int (Ii L k:Int)) (eR (low (JM (Ij L k) q nl)))).1 (oy (kL (JY L q nl k)) (vL (JY L q nl k)) (.int (Ii L k:Int)) (eR (low (JM (Ij L k) q nl)))).2),fI (Ii L k:Int)])=_;rw[hp];rfl) [some (.pin p .f,dL L),fI (q:Int),fq (eR nl),some (.d,dL []),none] ⟨none,rfl,rfl⟩
 exact⟨t4,h4,hf⟩
theorem forD_eq{i:Nat}{a:FG}{g:FS}{env env':PV.Env}{p:Addr}{ks vs:List D}(hi:env[i]?=some (some (.pin p .d,.dct false ks vs))){e:PV.Env}(h1:eC a g ks (env.set i (some (.pin p .f,.dct false ks vs)))=.ok (.nx e))(h2:mK i p e=true)(h3:cleanE i e=true)(h4:e.set i (some (.pin p .d,.dct false ks vs))=env'):oK i a g env=.ok (.nx env'):=PV.forD_eq hi h1 h2 h3 h4
theorem D5(hw:w<=1000)(hn:n+n+1<=9000)(H:Rdd w L)(hb:∀i,i<L.length->Bg n (Ij L i))(hL:L.length<=1000)(hq:q<w)(Uq:∀i,i<L.length->Ii L i≠q)(Mn:nl.length=w)(Md:Bg n nl)(p:Addr):bN p [dL L,.int (q:Int),eR nl]=.ok (.t [.d,.pin p .d],.tup [dL (JB L q nl),dL L]):=by
 obtain⟨t4,h4,e⟩:=Bd hw hn H hb hL hq Mn Md p;have e1:dP [some (.pin p .d,dL L),fI (q:Int),fq (eR nl),some (.d,dL []),none]=.ok (.nx [some (.pin p .d,dL L),fI (q:Int),fq (eR nl),some (.d,dL (JY L q nl L.length)),t4]):=by
  unfold dP;refine forD_eq (ks:=kL L) (vs:=vL L) rfl e (by show decide (p=p)=true;exact VL rfl) ?_ rfl;show(List.all [none,some (O.f,D.int (q:Int)),fq (eR nl),some (.d,dL (JY L q nl L.length)),t4] Ld)=true;have c1:Ld (fq (eR nl))=true:=cD nl;have c2:Ld (fI (q:Int))=true:=rfl;have c3:Ld (some (.d,dL (JY L q nl L.length)))=true:=gW _;have c0:Ld none=true:=rfl;simp only[Xg,Zw,c0,c1,c2,c3,h4,Vr]
 have hj:JY L q nl L.length++[(q,nl)]=JB L q nl:=by
  unfold JY JB;rw[Y3]
 have hp:=GC (JY L q nl L.length) q nl fun i hi e=>by
  rw[zf L q nl (UZ _) hi]at e;rw[bf,VE]at hi;exact Uq i (by lia) e
 rw[hj]at hp;have R7:(kL (JY L q nl L.length)).length<sizeLine:=short (by unfold kL;rw[bf,bf,VE];lia);unfold bN iJ;rw[iU (h:=by rfl)];simp only[List.map,List.replicate,W4,Wx];rw[av (env':=[some (.pin p .d,dL L),fI (q:Int),fq (eR nl),some (.d,dL []),none]) (by
  show _=Res.ok (Out.nx [some (.pin p .d,dL L),fI (q:Int),fq (eR nl),some (.d,.dct false [] []),none]);generalize dL L=D0;generalize eR nl=EN;simp only[pv,seval,op])]
 rw[av e1];unfold fY;rw[av (env':=[some (.pin p .d,dL L),fI (q:Int),fq (eR nl),some (.d,dL (JB L q nl)),t4]) (by
  show(if eX false (.int (q:Int))&&decide ((kL (JY L q nl L.length)).length<sizeLine) then _ else _)=_;rw[VL R7];show Res.ok (Out.nx [some (.pin p .d,dL L),fI (q:Int),fq (eR nl),some (.d,.dct false (oy (kL (JY L q nl L.length)) (vL (JY L q nl L.length)) (.int (q:Int)) (eR nl)).1 (oy (kL (JY L q nl L.length)) (vL (JY L q nl L.length)) (.int (q:Int)) (eR nl)).2),t4])=_;rw[hp];rfl)]
 rfl
def MK(t:Option R):Bool:=match t with
 |some r=>okO r.1 r.2
 |none=>true
theorem nj:∀r:List Int,vF (r.map D.int)=true
 |[]=>rfl
 |x::r=>by
  rw[gX,vF,nj r];rfl
theorem D6(r:List Int):noD (eR r)=true:=by
 unfold eR;rw[noD,nj]
theorem zg:∀rows:List (List Int),vF (rows.map eR)=true
 |[]=>rfl
 |x::r=>by rw[gX,vF,zg r,D6];rfl
theorem D7(a c d e f g:Option R)(h:MK a=true/\MK c=true/\MK d=true/\MK e=true/\MK f=true):oO 1 [a,g,c,d,e,f]=true:=by
 obtain⟨h1,h2,h3,h4,h5⟩:=h;show(List.all [a,none,c,d,e,f] _)=true;show(List.all [a,none,c,d,e,f] MK)=true;simp only[Xg,Zw,h1,h2,h3,h4,h5,YY];rfl
theorem yn(rows:List (List Int)):MK (fq (.lst (rows.map eR)))=true:=by
 show noD (.lst (rows.map eR))=true;rw[noD,zg]
theorem D8(r:List Int):MK (fq (eR r))=true:=D6 r
theorem F4(l:List Int):MK (fL (l.map D.int))=true:=nj l
theorem qc{n a:Nat}{L:Iq}(hb:∀i,i<L.length->Bg n (Ij L i)){row:List Int}(hr:Bg a row):∀k,k<=L.length->Bg (a+k*(n+1)) (JA L row k)
 | 0,_=>hr.mono (by lia)
 |k+1,h=>by
  have:=wF (qc hb hr k (by lia)) (hb k (by lia)) (Ii L k);refine this.mono ?_;rw[Zl];lia
def M8(L:Iq)(t4:Option R)(k:Nat):Option R:=if k=0 then t4 else fI (Ii L (k-1):Int)
theorem zh(L:Iq){t4:Option R}(h:MK t4=true)(k:Nat):MK (M8 L t4 k)=true:=by
 unfold M8;split
 ·exact h
 ·rfl
theorem D9(rows:List (List Int)){a:Nat}(hw:w<=1000)(H:Rdd w L)(hb:∀i,i<L.length->Bg n (Ij L i))(hr:r.length=w)(Rb:Bg a r)(hz:a+L.length*(n+1)+n<=900000)(t4 t5:Option R)(h4:MK t4=true)(h5:MK t5=true):eF [fq (.lst (rows.map eR)),some (.d,dL L),fq (eR r),fq (eR r),t4,t5]=.ok (.nx [fq (.lst (rows.map eR)),some (.d,dL L),fq (eR r),fq (eR (JA L r L.length)),M8 L t4 L.length,t5]):=by
 have key:∀p,eC (ax 4) cW (kL L) [fq (.lst (rows.map eR)),some (.pin p .f,dL L),fq (eR r),fq (eR r),t4,t5]=.ok (.nx [fq (.lst (rows.map eR)),some (.pin p .f,dL L),fq (eR r),fq (eR (JA L r L.length)),M8 L t4 L.length,t5]):=fun p=>by
  obtain⟨env',hf,rfl⟩:=for_list (a:=ax 4) (g:=cW) (e:=fun z:Nat×List Int=>D.int (z.1:Int)) L (fun k env=>env=[fq (.lst (rows.map eR)),some (.pin p .f,dL L),fq (eR r),fq (eR (JA L r k)),M8 L t4 k,t5]) (by
   rintro k x env hx rfl;obtain⟨hk,ex⟩:=y0 hx;have ec:Ii L k=x.1:=by unfold Ii;rw[UQ,hx];rfl
   have hd:=SI H hk;have hkm:k*(n+1)<=L.length*(n+1):=Wy _ (W7 hk);have hc:=pd (n:=a+k*(n+1)+n) (by lia) (JA L r k) (Ij L k) (Ii L k) (by rw[iq,hr];exact H.col k hk) (by rw[iq,hr];exact H.len k hk) ((qc hb Rb k (by lia)).mono (by lia)) ((hb k hk).mono (by lia)) (by rw[iq,hr];exact hw);have fl:=cD (JM (JA L r k) (Ii L k) (Ij L k));rw[<-ec];refine⟨[fq (.lst (rows.map eR)),some (.pin p .f,dL L),fq (eR r),fq (eR (JA L r k)),fI (Ii L k:Int),t5],rfl,[fq (.lst (rows.map eR)),some (.pin p .f,dL L),fq (eR r),fq (eR (JA L r (k+1))),M8 L t4 (k+1),t5],?_,rfl⟩;show _=Res.ok (Out.nx [fq (.lst (rows.map eR)),some (.pin p .f,dL L),fq (eR r),fq (eR (JM (JA L r k) (Ii L k) (Ij L k))),fI (Ii L k:Int),t5]);unfold cW;generalize dL L=DL at hd ⊢;generalize eR (Ij L k)=EL at hc hd ⊢;generalize eR (JM (JA L r k) (Ii L k) (Ij L k))=EC at hc fl ⊢;generalize eR (JA L r k)=ES at hc ⊢;generalize eR r=ER;simp only[pv,seval,op,hd,hc,fl]) [fq (.lst (rows.map eR)),some (.pin p .f,dL L),fq (eR r),fq (eR r),t4,t5] rfl
  exact hf
 unfold eF;exact Bc (ks:=kL L) (vs:=vL L) rfl fun p=>⟨_,key p,(by show decide (p=p)=true;exact VL rfl),D7 _ _ _ _ _ _ ⟨yn rows,D8 r,D8 _,zh L h4 _,h5⟩,rfl⟩
theorem Be(R0:Option R)(DL:D)(ER:Option R)(aU:List Int)(hl:aU.length<=1000)(h:OR aU=[])(t4 t5:Option R):bQ [R0,some (.d,DL),ER,fq (eR aU),t4,t5]=.ok (.nx [R0,some (.d,DL),ER,fq (eR aU),t4,fL []]):=by
 have hc:=pb aU;rw[h]at hc;have hc:cH (iZ 2 (aJ (ax 0) (aJ (ax 1) c9))) (Iz (aV K1 (aj 1) (ao (aE (.int 0))))) (aK 0) (sS (aU.map D.int)) [none,none]=.ok []:=hc;unfold bQ eR;generalize (iZ 2 (aJ (ax 0) (aJ (ax 1) c9)))=AA at hc ⊢;generalize (Iz (aV K1 (aj 1) (ao (aE (.int 0)))))=BB at hc ⊢;rw[av (env':=[R0,some (.d,DL),ER,fq (.tup (aU.map D.int)),t4,fL []]) (by
  have f0:H0 []=true:=rfl;have z0:0<=sizeLine:=VH _;simp only[pv,seval,op,jN,hc,f0,z0,V3])]
 have c0:decide ((0:Int)<((([]:List D).length:Nat):Int))=false:=rfl;simp only[pv,seval,op,c0,V3,Int.cast_ofNat_Int,decide_false,ik] <;> rfl
theorem Bf(R0:Option R)(ER:Option R)(aU:List Int)(hn:n<=9000)(hb:Bg n aU)(hl:aU.length<=1000)(q:Nat)(more:List Int)(h:OR aU=(q:Int)::more)(hpw:∀p,bN p [dL L,.int (q:Int),eR (low aU)]=.ok (.t [.d,.pin p .d],.tup [dL (JB L q (low aU)),dL L]))(t4 t5:Option R):bQ [R0,some (.d,dL L),ER,fq (eR aU),t4,t5]=.ok (.nx [R0,some (.d,dL (JB L q (low aU))),ER,fq (eR aU),t4,fL ((((q:Int)::more).map D.int))]):=by
 have hc:=pb aU;have hle:=D4 aU;rw[h]at hc hle;have L1:=ni hn aU hb hl;have Pe:=cD (low aU);have hw:=iI (F:=bN) (c:=.d) (r:=(.d,dL (JB L q (low aU)))) (d':=dL L) hpw;have hz:(((q:Int)::more).map D.int).length<=sizeLine:=line_le (by rw[bf];lia);have hf:=HY ((q:Int)::more);have JS:Kz (((q:Int)::more).map D.int) (0:Int)=some (.int (q:Int)):=hW (j:=0) rfl;have c0:decide ((0:Int)<(((((q:Int)::more).map D.int).length:Nat):Int))=true:=VL (by rw[bf,Vb];lia);have cd:=gW (JB L q (low aU));have cn:=gW L;generalize dL (JB L q (low aU))=D1 at hw cd ⊢;generalize dL L=D0 at hw cn ⊢;generalize ((q:Int)::more).map D.int=LL at hc hz hf JS c0 ⊢;generalize eR (low aU)=ELO at L1 hw Pe;unfold bQ;have TH:ju (af (ao (aK 3)) aw) [R0,some (.d,D0),ER,fq (eR aU),t4,t5]=.ok (sS (aU.map D.int),[R0,some (.d,D0),ER,fq (eR aU),t4,t5]):=by
  unfold eR;simp only[pv,seval,jN]
 generalize hAA:(iZ 2 (aJ (ax 0) (aJ (ax 1) c9)))=AA at hc ⊢;generalize hBB:(Iz (aV K1 (aj 1) (ao (aE (.int 0)))))=BB at hc ⊢;clear hAA hBB;generalize ju (af (ao (aK 3)) aw)=IE at TH ⊢;generalize eR aU=ERR at TH L1 ⊢;rw[av (env':=[R0,some (.d,D0),ER,fq ERR,t4,fL LL]) (by
  simp only[pv,seval,op,TH,hc,hz,hf])]
 have own:mI .d .d=true:=rfl;simp only[pv,seval,op,c0,JS,L1,Pe,cG,own,hw,cd,cn,Iv,Iw,Vr,Wt]
theorem Bh(h:∀x∈r,x=0):OR r=[]:=by
 unfold OR;rw[Xo.mpr ?_]
 ·rfl
 ·intro z hz;have:=h z.1 (List.fst_mem_of_mem_zipIdx hz);rw[this];decide
theorem rL:∀(r:List Int) (n q:Nat),q<r.length->r.getD q 0≠0->(∀j,j<q->r.getD j 0=0)->∃more,((r.zipIdx n).filter fun z=>!(z.1==0)).map (fun z=>(z.2:Int))=((n+q:Nat):Int)::more
 |[],n,q,h,_,_=>by simp at h
 |x::r,n,0,h,h0,_=>by
  have h0:x≠0:=h0;rw[Xj,WR (by simpa using h0),gX];exact⟨_,rfl⟩
 |x::r,n,q+1,h,h0,hj=>by
  have hx:x=0:=hj 0 (by lia);rw[Xj,WS (by rw[hx];exact U7)];obtain⟨more,e⟩:=rL r (n+1) q (by rw[Vb]at h;lia) h0 fun j hjq=>hj (j+1) (by lia)
  exact⟨more,by rw[e,show n+1+q=n+(q+1) by lia]⟩
theorem wG(h:q<r.length)(h0:r.getD q 0≠0)(hj:∀j,j<q->r.getD j 0=0):∃more,OR r=(q:Int)::more:=by
 obtain⟨more,e⟩:=rL r 0 q h h0 hj;rw[XR]at e;exact⟨more,e⟩
variable{rows:List (List Int)}
theorem Bi(H:Inv w rows L):L.length<=rows.length:=by
 obtain⟨S,s1,s2,s3,_,_⟩:=H.base;exact rA (B:=Fs rows) s3 fun i hi=>rF (s2 _ (aY (by lia)))
theorem kN(h6:rows.length<=6)(hr:∀r∈rows,r.length=w/\Bg 175 r)(H:Inv w rows L):L.length<=rows.length/\∀i,i<L.length->Bg 1260 (Ij L i):=by
 have hl:=Bi H;refine⟨hl,fun i hi x hx=>?_⟩;obtain⟨k,hk,e⟩:=VT hx;have Qy:k<w:=by rw[<-H.red.len i hi];exact hk
 have h:=H.size (A:=2 ^ 175) (fun r h k _=>W7 ((hr r h).2.at k)) hi Qy;rw[bT _ _ _ hk,e]at h;refine VX h ?_;have Ut:L.length<=6:=by lia
 have h1:2*(L.length*2 ^ 175)+1<=2*(6*2 ^ 175)+1:=Nat.succ_le_succ (Nat.mul_le_mul_left 2 (Wy _ Ut));have h2:(2*(L.length*2 ^ 175)+1) ^ (L.length-1)<=(2*(6*2 ^ 175)+1) ^ 5:=Vq (ZQ h1 _) (WQ (Xx _) (by lia));exact VX (YH Ut (Wy _ h2)) (by decide +kernel)
theorem kO{rows:List (List Int)}{w:Nat}(hw:w<=7)(h6:rows.length<=6)(hr:∀r∈rows,r.length=w/\Bg 175 r):∀(rs ps:List (List Int)) (L:Iq),ps++rs=rows->Inv w ps L->Ech L->∀t2 t3 t4 t5:Option R,MK t4=true->MK t5=true->
  ∃(L':Iq) (u2 u3 u4 u5:Option R),Inv w rows L'/\Ech L'/\eC (ax 2) cx (rs.map eR) [fq (.lst (rows.map eR)),some (.d,dL L),t2,t3,t4,t5]=.ok (.nx [fq (.lst (rows.map eR)),some (.d,dL L'),u2,u3,u4,u5])
 |[],ps,L,e,H,EL,t2,t3,t4,t5,_,_=>⟨L,t2,t3,t4,t5,by rw[<-e,Vu];exact H,EL,rfl⟩
 |r::rs,ps,L,e,H,EL,t2,t3,t4,t5,h4,h5=>by
  have JR:ps.length+1<=6:=by
   have:=V7 List.length e;rw[rh,Vb]at this;lia
  have QA:∀s∈ps,s.length=w/\Bg 175 s:=fun s hs=>hr s (by rw[<-e];exact U4 _ hs)
  obtain⟨rl,rb⟩:=hr r (by rw[<-e];exact UX _ UY);obtain⟨l1,l2⟩:=kN (by lia) QA H;have hl721:L.length*(1260+1)<=6*1261:=Wy _ (by lia);have ha:ax 2 (eR r) [fq (.lst (rows.map eR)),some (.d,dL L),t2,t3,t4,t5]=.ok [fq (.lst (rows.map eR)),some (.d,dL L),fq (eR r),t3,t4,t5]:=rfl;have e1:=D9 rows (by lia) H.red l2 rl rb (by lia) t4 t5 h4 h5;have Ml:(JA L r L.length).length=w:=by rw[iq,rl]
  have TJ:Bg 7800 (JA L r L.length):=(qc l2 rb L.length (UZ _)).mono (by lia);have Uu:=zh L h4 L.length;have e':(ps++[r])++rs=rows:=by rw[V2];exact e
  have Uv:∀(D':D) (u5:Option R),bQ [fq (.lst (rows.map eR)),some (.d,dL L),fq (eR r),fq (eR (JA L r L.length)),M8 L t4 L.length,t5]=.ok (.nx [fq (.lst (rows.map eR)),some (.d,D'),fq (eR r),fq (eR (JA L r L.length)),M8 L t4 L.length,u5])->cx [fq (.lst (rows.map eR)),some (.d,dL L),fq (eR r),t3,t4,t5]=.ok (.nx [fq (.lst (rows.map eR)),some (.d,D'),fq (eR r),fq (eR (JA L r L.length)),M8 L t4 L.length,u5]):=fun D' u5 e2=>by
   unfold cx;rw[av (env':=[fq (.lst (rows.map eR)),some (.d,dL L),fq (eR r),fq (eR r),t4,t5]) (by
    generalize dL L=D0;generalize eR r=ER;simp only[pv,seval,op]),av e1,e2]
  by_cases hz:nz (JA L r L.length)=true
  ·obtain⟨f1,f2,f3⟩:=y7 hz;obtain⟨more,hf⟩:=wG f1 f2 f3;have hq:w5 (JA L r L.length)<w:=by rw[Ml]at f1;exact f1
   have H':=H.more rl hq f2;obtain⟨m1,m2⟩:=kN (by rw[rh];exact JR) (fun s hs=>by
    rcases w4 hs with h|h
    ·exact QA s h
    ·rw[rg h];exact⟨rl,rb⟩) H'
   have Md:Bg 1260 (low (JA L r L.length)):=by
    have:=m2 L.length (by rw[p5];lia);rw[(dj L _ _).2]at this;exact this
   obtain⟨d,x,_,_,Nn⟩:=o6 H.red rl L.length (UZ _);have e2:=Bf (fq (.lst (rows.map eR))) (fq (eR r)) (JA L r L.length) (n:=7800) (by decide) TJ (by lia) (w5 (JA L r L.length)) more hf (fun p=>D5 (n:=1260) (by lia) (by decide) H.red l2 (by lia) hq (fun i hi e=>f2 (by rw[<-e];exact Nn i hi)) (by rw[m8];exact Ml) Md p) (M8 L t4 L.length) t5;obtain⟨L',u2,u3,u4,u5,H2,E2,e3⟩:=kO hw h6 hr rs (ps++[r]) _ e' H' (EL.more H.red hq (o7 f2).1 fun j hj=>we (f3 j hj)) (fq (eR r)) (fq (eR (JA L r L.length))) (M8 L t4 L.length) (fL ((((w5 (JA L r L.length):Int)::more).map D.int))) Uu (F4 _);refine⟨L',u2,u3,u4,u5,H2,E2,?_⟩;rw[gX,jk,ha,Jl,Uv _ _ e2,Jl];exact e3
  ·have hz0:∀x∈JA L r L.length,x=0:=fun x hx=>by
    obtain⟨k,hk,ek⟩:=VT hx;have:=Gz (XC.mpr hz) k;rw[bT _ _ _ hk,ek]at this;exact this
   have e2:=Be (fq (.lst (rows.map eR))) (dL L) (fq (eR r)) (JA L r L.length) (by lia) (Bh hz0) (M8 L t4 L.length) t5;obtain⟨L',u2,u3,u4,u5,H2,E2,e3⟩:=kO hw h6 hr rs (ps++[r]) L e' (H.none rl fun k _=>Gz (XC.mpr hz) k) EL (fq (eR r)) (fq (eR (JA L r L.length))) (M8 L t4 L.length) (fL []) Uu rfl;refine⟨L',u2,u3,u4,u5,H2,E2,?_⟩;rw[gX,jk,ha,Jl,Uv _ _ e2,Jl];exact e3
theorem kP(hw:w<=7)(h6:rows.length<=6)(hr:∀r∈rows,r.length=w/\Bg 175 r):∃L,Inv w rows L/\Ech L/\aR [.lst (rows.map eR)]=.ok (.d,dL L):=by
 obtain⟨L,u2,u3,u4,u5,H,E,e⟩:=kO hw h6 hr rows [] [] rfl (Inv.start w) Ech.start none none none none rfl rfl;refine⟨L,H,E,?_⟩;unfold aR jv;rw[bC (h:=by rfl)];rw[av (env':=[fq (.lst (rows.map eR)),some (.d,dL []),none,none,none,none]) (by
  show _=Res.ok (Out.nx [fq (.lst (rows.map eR)),some (.d,.dct false [] []),none,none,none,none]);simp only[pv,seval,op])]
 rw[av (env':=[fq (.lst (rows.map eR)),some (.d,dL L),u2,u3,u4,u5]) (by
  unfold g7;generalize hD:dL []=D0 at e ⊢;generalize rows.map eR=RR at e ⊢;generalize cx=BB at e ⊢;simp only[pv,seval,op];exact e)]
 unfold gx;generalize dL L=D1;simp only[pv,seval,op]
structure KOk(w:Nat)(L:Iq):Prop where
 red:Rdd w L
 big:∀i,i<L.length->Bg 1260 (Ij L i)
 few:L.length<=6
 wid:w<=7
theorem F5(c:Int):BG [.int c]=.ok (.f,.int (c.natAbs:Int)):=D2 c
theorem Bj(H:KOk w L){k:Nat}(hk:k<=L.length):IY L k<2 ^ 7561:=by
 have h:=y8 (L:=L) (M:=2 ^ 1260) (fun i hi=>W7 ((H.big i hi).at _)) k hk;rw[<-Nat.pow_mul]at h;have hk6:1260*k<=7560:=by have:=H.few;lia
 exact VX h (Nat.pow_lt_pow_right (by decide) (by lia))
theorem rM(a b c d e f g:Option R):cleanE 0 [a,b,c,d,e,f,g]=(Ld b&&(Ld c&&(Ld d&&(Ld e&&(Ld f&&Ld g))))):=by
 show(List.all [none,b,c,d,e,f,g] Ld)=_;simp only[Xg,Zw,YY];rfl
theorem Ea(a:Nat){l:Int}(hl:l≠0):(((a:Int)*l).natAbs:Int).fdiv ((Int.gcd (a:Int) l:Nat):Int)=(Nat.lcm a l.natAbs:Int):=by
 rw[WV,V5,<-Int.ofNat_fdiv];rfl
theorem HB(p:Addr)(H:KOk w L)(c:Nat):∃u4 u5,Ld u4=true/\Ld u5=true/\eI [some (.pin p .d,dL L),fI (c:Int),fI (w:Int),fI 1,none,none,none]=.ok (.nx [some (.pin p .d,dL L),fI (c:Int),fI (w:Int),fI (IY L L.length:Int),u4,u5,none]):=by
 obtain⟨env',hf,u4,u5,h4,h5,rfl⟩:=for_list (a:=ax 4) (g:=dR) (e:=fun z:Nat×List Int=>D.int (z.1:Int)) L (fun k env=>∃u4 u5,Ld u4=true/\Ld u5=true/\env=[some (.pin p .f,dL L),fI (c:Int),fI (w:Int),fI (IY L k:Int),u4,u5,none]) (by
  rintro k x env hx ⟨u4,u5,_,_,rfl⟩;obtain⟨hk,ex⟩:=y0 hx;have ec:Ii L k=x.1:=by unfold Ii;rw[UQ,hx];rfl
  have hd:=SI H.red hk;have Ji:=Ra (r:=Ij L k) (c:=Ii L k) (by rw[H.red.len k hk];exact H.red.col k hk);have SJ:=H.red.own k hk;have QB:=(H.big k hk).at (Ii L k)
  have TJ:=Bj H (k:=k) (by lia);have esc:(IY L (k+1):Int)=(Nat.lcm (IY L k) ((Ij L k).getD (Ii L k) 0).natAbs:Int):=rfl;rw[<-ec,esc];generalize (Ij L k).getD (Ii L k) 0=l at Ji SJ QB;have hm:=y3 (x:=(IY L k:Int)) (y:=l) (n:=7561) (m:=1260) (by rw[V5];exact TJ) QB (by decide) (by decide);have KI:=F5 ((IY L k:Int)*l);have LZ:=ze (n:=1260) (by decide) (IY L k:Int) l QB;have hg0:Int.gcd (IY L k:Int) l≠0:=fun z=>SJ (Int.gcd_eq_zero_iff.mp z).2
  have hgb:((Int.gcd (IY L k:Int) l:Nat):Int).natAbs<2 ^ 1260:=by
   rw[V5];exact VX (Nat.gcd_le_right _ (ZG.mpr SJ)) QB
  have OS:=p8 ((((IY L k:Int)*l).natAbs:Nat):Int) (b:=((Int.gcd (IY L k:Int) l:Nat):Int)) (by lia) hgb (by decide);rw[Ea _ SJ]at OS;refine⟨[some (.pin p .f,dL L),fI (c:Int),fI (w:Int),fI (IY L k:Int),fI (Ii L k:Int),u5,none],rfl,[some (.pin p .f,dL L),fI (c:Int),fI (w:Int),fI (Nat.lcm (IY L k) l.natAbs:Int),fI (Ii L k:Int),fI l,none],?_,_,_,rfl,rfl,rfl⟩;unfold dR;generalize dL L=DL at hd ⊢;generalize eR (Ij L k)=EL at hd Ji ⊢;generalize ((Int.gcd (IY L k:Int) l:Nat):Int)=GG at LZ OS;generalize ((((IY L k:Int)*l).natAbs:Nat):Int)=AA at KI OS;generalize ((Nat.lcm (IY L k) l.natAbs:Nat):Int)=LC at OS ⊢;generalize (IY L k:Int)=SC at hm KI LZ ⊢;rw[av (env':=[some (.pin p .f,DL),fI (c:Int),fI (w:Int),fI SC,fI (Ii L k:Int),fI l,none]) (by simp only[pv,seval,op,hd,Ji])];simp only[pv,seval,op,hm,KI,LZ,OS]) [some (.pin p .f,dL L),fI (c:Int),fI (w:Int),fI 1,none,none,none] ⟨none,none,rfl,rfl,rfl⟩
 refine⟨u4,u5,h4,h5,?_⟩;unfold eI;refine PV.forD_eq (ks:=kL L) (vs:=vL L) rfl hf (by show decide (p=p)=true;exact VL rfl) ?_ rfl;rw[rM,h4,h5];rfl
theorem Bk(l:List Int):aP (.l .f) (.lst (l.map D.int))=true:=by
 rw[aP,dG,HY]
theorem Eb(l:List Int)(k:Nat)(h:k<l.length):ixN (l.map D.int).length (k:Int)=some k:=mY _ _ (by rw[bf];exact h)
theorem Ec(H:KOk w L){k:Nat}(hk:k<L.length):((IY L L.length:Int).fdiv ((Ij L k).getD (Ii L k) 0)).natAbs<2 ^ 7561:=by
 have hd:(Ij L k).getD (Ii L k) 0*(IY L L.length:Int).fdiv ((Ij L k).getD (Ii L k) 0)=(IY L L.length:Int):=Yc (X6.mp (by rw[V5];exact p6 L _ k hk));have h0:=H.red.own k hk;have hb:=Bj H (UZ L.length);generalize (IY L L.length:Int).fdiv ((Ij L k).getD (Ii L k) 0)=q at hd;have e:=V7 Int.natAbs hd;rw[WV,V5]at e;have h1:1*q.natAbs<=((Ij L k).getD (Ii L k) 0).natAbs*q.natAbs:=Wy _ (ZG.mpr h0);rw[Nat.one_mul]at h1;lia
theorem qe{w:Nat}{L:Iq}(H:KOk w L)(c:Nat):∀k,k<=L.length->Bg 8821 (KS L c w k)
 | 0,_=>fun x hx=>by
  unfold KS Mm at hx;obtain⟨j,_,e⟩:=nH hx;have hb:=Bj H (UZ L.length);by_cases hj:j=c
  ·rw[U2 hj]at e;rw[<-e,V5];exact U0 hb (WQ (by decide) (by decide))
  ·rw[U9 hj]at e;rw[<-e];exact Yu 8821
 |k+1,hk=>fun x hx=>by
  have hx:x∈(KS L c w k).set (Ii L k) (-((Ij L k).getD c 0)*(IY L L.length:Int).fdiv ((Ij L k).getD (Ii L k) 0)):=hx;rcases YI hx with h|h
  ·exact qe H c k (by lia) x h
  ·rw[h];exact rK (n:=1260) (m:=7561) (by rw[Xl];exact(H.big k (by lia)).at c) (Ec H (by lia))
theorem HC(p:Addr)(H:KOk w L)(hc:c<w)(u4 u5:Option R)(h4:Ld u4=true)(h5:Ld u5=true):∃v4,eG [some (.pin p .d,dL L),fI (c:Int),fI (w:Int),fI (IY L L.length:Int),u4,u5,fL ((KS L c w 0).map D.int)]=.ok (.nx [some (.pin p .d,dL L),fI (c:Int),fI (w:Int),fI (IY L L.length:Int),v4,u5,fL ((KS L c w L.length).map D.int)]):=by
 obtain⟨env',hf,v4,g4,rfl⟩:=for_list (a:=ax 4) (g:=dQ) (e:=fun z:Nat×List Int=>D.int (z.1:Int)) L (fun k env=>∃v4,Ld v4=true/\env=[some (.pin p .f,dL L),fI (c:Int),fI (w:Int),fI (IY L L.length:Int),v4,u5,fL ((KS L c w k).map D.int)]) (by
  rintro k x env hx ⟨v4,_,rfl⟩;obtain⟨hk,ex⟩:=y0 hx;have ec:Ii L k=x.1:=by unfold Ii;rw[UQ,hx];rfl
  have hd:=SI H.red hk;have i1:=Ra (r:=Ij L k) (c:=c) (by rw[H.red.len k hk];exact hc);have i2:=Ra (r:=Ij L k) (c:=Ii L k) (by rw[H.red.len k hk];exact H.red.col k hk);have OS:=p8 (IY L L.length:Int) (H.red.own k hk) ((H.big k hk).at (Ii L k)) (by decide);have hm:=y3 (x:=-((Ij L k).getD c 0)) (y:=(IY L L.length:Int).fdiv ((Ij L k).getD (Ii L k) 0)) (n:=1260) (m:=7561) (by rw[Xl];exact(H.big k hk).at c) (Ec H hk) (by decide) (by decide);have e3:=Eb (KS L c w k) (Ii L k) (by rw[jl];exact H.red.col k hk);have e4:((KS L c w k).map D.int).set (Ii L k) (.int (-((Ij L k).getD c 0)*(IY L L.length:Int).fdiv ((Ij L k).getD (Ii L k) 0)))=(KS L c w (k+1)).map D.int:=by
   rw[<-List.map_set];rfl
  rw[<-ec];refine⟨[some (.pin p .f,dL L),fI (c:Int),fI (w:Int),fI (IY L L.length:Int),fI (Ii L k:Int),u5,fL ((KS L c w k).map D.int)],rfl,[some (.pin p .f,dL L),fI (c:Int),fI (w:Int),fI (IY L L.length:Int),fI (Ii L k:Int),u5,fL (((KS L c w (k+1)).map D.int))],?_,_,rfl,rfl⟩;rw[<-e4];unfold dQ;generalize (IY L L.length:Int).fdiv ((Ij L k).getD (Ii L k) 0)=QQ at OS hm ⊢;generalize (IY L L.length:Int)=SC at OS ⊢;generalize dL L=DL at hd ⊢;generalize eR (Ij L k)=EL at hd i1 i2 ⊢;generalize (KS L c w k).map D.int=UU at e3 ⊢;simp only[pv,seval,op,hd,i1,i2,OS,hm,e3]) [some (.pin p .f,dL L),fI (c:Int),fI (w:Int),fI (IY L L.length:Int),u4,u5,fL ((KS L c w 0).map D.int)] ⟨u4,h4,rfl⟩
 refine⟨v4,?_⟩;unfold eG;refine PV.forD_eq (ks:=kL L) (vs:=vL L) rfl hf (by show decide (p=p)=true;exact VL rfl) ?_ rfl;have c6:Ld (fL ((KS L c w L.length).map D.int))=true:=Bk _;rw[rM,g4,h5,c6];rfl
theorem rN(w c:Nat)(x:Int):((((List.range w).map fun _=>(0:Int)).map D.int).set c (.int x))=(Mm w c x).map D.int:=by
 unfold Mm;rw[Vm,jA,Vm];refine VY fun i _=>?_
 show(if i=c then D.int x else D.int 0)=D.int (if i=c then x else 0);split <;> rfl
theorem GD(w:Nat)(hw:w<=1000):kq (.lst [.int 0]) (.int (w:Int))=.ok (.l .f,.lst (((List.range w).map fun _=>(0:Int)).map D.int)):=by
 show BH (.lst [.int 0]) (.int (w:Int))=_;rw[vS,U2 ⟨by lia,by lia,line_le (by rw[Vb,V3];lia)⟩,VV];have:(List.replicate w [D.int 0]).flatten=((List.range w).map fun _=>(0:Int)).map D.int:=by
  rw[Vm];clear hw;induction w with
  |zero=>rfl
  |succ n ih=>rw[ZD,ZP,ih,Yn,Vt];rfl
 rw[this]
theorem pe(H:KOk w L)(hc:c<w)(p:Addr):aO p [dL L,.int (c:Int),.int (w:Int)]=.ok (.t [.f,.pin p .d],.tup [eR (kr L c w),dL L]):=by
 have hw:=H.wid;obtain⟨u4,u5,h4,h5,e2⟩:=HB p H c;obtain⟨v4,e1⟩:=HC p H hc u4 u5 h4 h5;have L1:=ni (n:=8821) (by decide) (BM L c w) (qe H c _ (UZ _)) (by rw[jl];lia);have Pe:=cD (kr L c w);have hz:=GD w (by lia);have e3:ixN (((List.range w).map fun _=>(0:Int)).map D.int).length (c:Int)=some c:=mY _ _ (by rw[bf,bf,Vi];exact hc);have ez:=rN w c (IY L L.length:Int);unfold aO jw;rw[iU (h:=by rfl)];simp only[List.map,List.replicate,W4,Wx];rw[av (env':=[some (.pin p .d,dL L),fI (c:Int),fI (w:Int),fI 1,none,none,none]) (by
  generalize dL L=DL;simp only[pv,seval,op])]
 rw[av e2];unfold gA;rw[av (env':=[some (.pin p .d,dL L),fI (c:Int),fI (w:Int),fI (IY L L.length:Int),u4,u5,fL ((((List.range w).map fun _=>(0:Int)).map D.int))]) (by
  generalize dL L=DL;simp only[pv,seval,op,hz])]
 rw[av (env':=[some (.pin p .d,dL L),fI (c:Int),fI (w:Int),fI (IY L L.length:Int),u4,u5,fL ((KS L c w 0).map D.int)]) (by
  show _=Res.ok (Out.nx [some (.pin p .d,dL L),fI (c:Int),fI (w:Int),fI (IY L L.length:Int),u4,u5,fL (((Mm w c (IY L L.length:Int)).map D.int))]);rw[<-ez];generalize dL L=DL;generalize ((List.range w).map fun _=>(0:Int)).map D.int=ZZ at e3 ⊢;simp only[pv,seval,op,e3])]
 rw[av e1];unfold gy;have L1:cJ [.tup ((KS L c w L.length).map D.int)]=.ok (.f,eR (kr L c w)):=L1;generalize eR (kr L c w)=EK at L1 Pe ⊢;generalize dL L=DL;simp only[pv,seval,op,L1,Pe,bY]
theorem dB(H:KOk w L)(hc:c<w):jG aO .d (dL L) [.int (c:Int),.int (w:Int)]=.ok ((.f,eR (kr L c w)),dL L):=iI (r:=(.f,eR (kr L c w))) (pe H hc)
theorem wH(L:Iq)(c:Nat):(PV.getD (kL L) (vL L) (.int (c:Int))).isSome=Kc L c:=by
 induction L with
 |nil=>rfl
 |cons z L ih=>
  show((((D.int (z.1:Int),eR z.2)::(kL L).zip (vL L)).find? (fun p=>Ia (.int (c:Int)) p.1)).map (·.2)).isSome=(z.1==c||Kc L c)
  by_cases h:z.1=c
  ·rw[Xm (by show Ia (.int (c:Int)) (.int (z.1:Int))=true;rw[R6,VD];exact h.symm),VD.mpr h];rfl
  ·rw[Xn (by show ¬ Ia (.int (c:Int)) (.int (z.1:Int))=true;rw[R6,VD];exact fun e=>h e.symm),Vn.mpr h,Z5];exact ih
theorem Ed(L:Iq)(c:Nat):oF (.int (c:Int)) (dL L)=.ok (.f,.bl (!Kc L c)):=by
 unfold oF dL;dsimp only;rw[U2 (show eX false (.int (c:Int))=true from rfl),wH]
variable{α:Type}
theorem ph{β:Type}(x:α)(f:α->Res β):(Res.ok x).bind f=f x:=rfl
theorem pj{w:Nat}{L:Iq}(H:KOk w L)(p:Addr):∀(cs:List Nat),(∀c∈cs,c<w)->∀t:Option R,∃t',compLE (ax 0) (Iz (aV oF (aj 0) (aj 1))) (eFunW (.d) aO 1 (af (aj 1) (af (aj 0) (af (aj 2) aw)))) (cs.map fun(c:Nat)=>D.int (c:Int)) [t,some (.pin p .d,dL L),fI (w:Int)]=.ok (((cs.filter fun c=>!Kc L c).map fun c=>kr L c w).map eR,[t',some (.pin p .d,dL L),fI (w:Int)])
 |[],_,t=>⟨t,rfl⟩
 |c::cs,h,t=>by
  have hn:=Ed L c;have hk:=dB H (h c UY);have cd:=gW L;have fk:=cD (kr L c w);obtain⟨t',e⟩:=pj H p cs (fun x hx=>h x (U3 _ hx)) (fI (c:Int));refine⟨t',?_⟩;rw[gX];unfold compLE;have ha:ax 0 (.int (c:Int)) [t,some (.pin p .d,dL L),fI (w:Int)]=.ok [fI (c:Int),some (.pin p .d,dL L),fI (w:Int)]:=rfl;rw[ha,ph];have ec:(Iz (aV oF (aj 0) (aj 1))) [fI (c:Int),some (.pin p .d,dL L),fI (w:Int)]=.ok (!Kc L c,[fI (c:Int),some (.pin p .d,dL L),fI (w:Int)]):=by
   generalize dL L=DL at hn ⊢;simp only[pv,seval,op,hn]
  rw[ec,ph];cases hb:Kc L c with
  |true=>
   rw[WS (by rw[hb];exact U7)];exact e
  |false=>
   rw[WR (by rw[hb];rfl),gX,gX];have ef:eFunW (.d) aO 1 (af (aj 1) (af (aj 0) (af (aj 2) aw))) [fI (c:Int),some (.pin p .d,dL L),fI (w:Int)]=.ok ((.f,eR (kr L c w)),[fI (c:Int),some (.pin p .d,dL L),fI (w:Int)]):=by
    have own:mI .d (.pin p .d)=true:=rfl;generalize dL L=DL at hk cd ⊢;generalize eR (kr L c w)=EK at hk fk ⊢;simp only[pv,seval,op,cG,own,hk,fk,cd,Iv,Iw,cF,Vr,Wt]
   rw[U2 (by rfl),ef,ph,e,ph]
theorem eQ(rows:List (List Int)):H0 (rows.map eR)=true:=m5 rows
theorem rO(L:Iq)(w:Nat):(m9 L w).length<=w:=by
 unfold m9;rw[bf];exact Vq (Xa _ _) (Zm Vi)
theorem yo(H:KOk w L)(hl:aR [.lst (rows.map eR)]=.ok (.d,dL L)):gR [.lst (rows.map eR),.int (w:Int)]=.ok (.l .f,.lst ((m9 L w).map eR)):=by
 have hw:=H.wid;have cd:=gW L;obtain⟨ks,vs,ed,fv⟩:∃ks vs,dL L=.dct false ks vs/\H0 vs=true:=⟨_,_,rfl,wD L⟩
 have hlen:((m9 L w).map eR).length<=sizeLine:=line_le (by rw[bf];have:=rO L w;lia);have MJ:=eQ (m9 L w);have LZ:pU (ax 0) (Iz (aV oF (aj 0) (aj 1))) (eFunW (.d) aO 1 (af (aj 1) (af (aj 0) (af (aj 2) aw)))) ((List.range w).map fun(c:Nat)=>D.int (c:Int)) (fun q=>[none,some (.pin q .d,.dct false ks vs),fI (w:Int)]) 1 (.dct false ks vs)=.ok ((m9 L w).map eR):=by
  refine xS fun q=>?_
  obtain⟨t',e⟩:=pj H q (List.range w) (fun c hc=>V8.mp hc) none;rw[ed]at e;exact⟨_,e,rfl⟩
 unfold gR qY;rw[bC (h:=by rfl)];rw[av (env':=[fq (.lst (rows.map eR)),fI (w:Int),some (.d,dL L)]) (by
  generalize dL L=DL at hl cd ⊢;simp only[pv,seval,op,hl,cd])]
 rw[ed];have hr:=Ez (w:Int) (by lia) (by lia) (aj 1) [fq (.lst (rows.map eR)),fI (w:Int),some (.d,.dct false ks vs)] [fq (.lst (rows.map eR)),fI (w:Int),some (.d,.dct false ks vs)] (.var 1) rfl rfl;rw[VV]at hr;have ec:lD (cM (aj 1)) [none,some 2,some 1] 2 1 (ax 0) (Iz (aV oF (aj 0) (aj 1))) (eFunW (.d) aO 1 (af (aj 1) (af (aj 0) (af (aj 2) aw)))) [fq (.lst (rows.map eR)),fI (w:Int),some (.d,.dct false ks vs)]=.ok ((.l .f,.lst ((m9 L w).map eR)),[fq (.lst (rows.map eR)),fI (w:Int),some (.d,.dct false ks vs)]):=by
  unfold lD;rw[hr];show(pU (ax 0) (Iz (aV oF (aj 0) (aj 1))) (eFunW (.d) aO 1 (af (aj 1) (af (aj 0) (af (aj 2) aw)))) ((List.range w).map fun(c:Nat)=>D.int (c:Int)) (fun q=>[none,some (.pin q .d,.dct false ks vs),fI (w:Int)]) 1 (.dct false ks vs)).bind _=_;rw[LZ];show(if((m9 L w).map eR).length<=sizeLine/\H0 ((m9 L w).map eR)=true/\H0 vs=true then _ else _)=_;rw[U2 ⟨hlen,MJ,fv⟩]
 generalize lD (cM (aj 1)) [none,some 2,some 1] 2 1 (ax 0) (Iz (aV oF (aj 0) (aj 1))) (eFunW (.d) aO 1 (af (aj 1) (af (aj 0) (af (aj 2) aw))))=EE at ec ⊢;simp only[pv,seval,op,ec]
theorem F6(L:Iq)(c:Nat):RK (.int (c:Int)) (dL L)=.ok (.f,.bl (Kc L c)):=by
 unfold RK dL;dsimp only;rw[U2 (show eX false (.int (c:Int))=true from rfl),wH]
def Nd(L:Iq)(n:Nat):D:=if Kc L (n-1) then .non else eR (kr L (n-1) n)
theorem pk(h1:1<=n)(H:KOk n L)(hl:aR [.lst (rows.map eR)]=.ok (.d,dL L)):bz [.lst (rows.map eR),.int (n:Int)]=.ok (.f,Nd L n):=by
 have hi:=F6 L (n-1);have hk:=dB H (c:=n-1) (by lia);rw[show(((n-1:Nat)):Int)=(n:Int)-1 by lia]at hi hk;have cd:=gW L;have fk:=cD (kr L (n-1) n);have own:mI .d .d=true:=rfl;unfold bz iK Nd;rw[bC (h:=by rfl)];generalize dL L=DL at hl hi hk cd ⊢;rw[av (env':=[fq (.lst (rows.map eR)),fI (n:Int),some (.d,DL)]) (by
  simp only[pv,seval,op,hl,cd])]
 cases hb:Kc L (n-1) with
 |true=>
  rw[hb]at hi;rw[U2 rfl,Jg];simp only[pv,seval,op,hi]
 |false=>
  rw[hb]at hi;rw[U9 U7];rw[av (env':=[fq (.lst (rows.map eR)),fI (n:Int),some (.d,DL)]) (by
   simp only[pv,seval,op,hi,ik])]
  generalize eR (kr L (n-1) n)=EK at hk fk ⊢;simp only[pv,seval,op,cG,own,hk,fk,cd,Iv,Iw,cF,Vr,Wt]
theorem rQ(H:KOk w L)(c:Nat):Bg 8821 (kr L c w):=fun x hx=>by
 obtain⟨g,g1,g2⟩:=yi L c w;obtain⟨k,hk,e⟩:=VT hx;have h:=g2 k;rw[bT _ _ _ hk,e]at h;have hb:=(qe H c L.length (UZ _)).at k;rw[<-h,WV,V5]at hb;refine VX ?_ hb;exact Zf _ (Nat.pos_of_ne_zero g1)
theorem nq(l:List α):kQ l none (some (-1))=l.take (l.length-1):=by
 have e:HT.sIx l.length l.length (some (-1))=l.length-1:=by
  show(if(-1:Int)<0 then((-1:Int)+(l.length:Int)).toNat else min (-1:Int).toNat l.length)=_;rw[U2 (by decide)];lia
 unfold kQ;rw[HT.qp,XG,aaw,e]
theorem wI(h:0<r.length):Kz (r.map D.int) (-1:Int)=some (.int (r.getD (r.length-1) 0)):=by
 have e:(r.map D.int)[r.length-1]?=some (.int (r.getD (r.length-1) 0)):=by
  rw[Vg,iV (by lia),bT r _ 0 (by lia)];rfl
 have hi:ixN (r.map D.int).length (-1:Int)=some (r.length-1):=by
  unfold ixN;rw[bf,U9 (by decide),U2 (by lia)];congr 1
  lia
 unfold Kz;rw[hi];exact e
def pq(rs:List (List Int))(w:Nat):List (List Int):=(List.range w).map fun k=>rs.map fun r=>r.getD k 0
theorem yp(rs:List (List Int))(k:Nat)(h:∀r∈rs,k<r.length):cH (ax 0) dX (aG IK (aj 0) (aj 1)) (rs.map eR) [none,fI (k:Int)]=.ok ((rs.map fun r=>r.getD k 0).map D.int):=by
 rw[c7 (r:=fun r:List Int=>D.int (r.getD k 0)) (fun env=>∃t,env=[t,fI (k:Int)]) rs ?_ _ ⟨none,rfl⟩]
 ·rw[Vm];rfl
 ·rintro r hr env ⟨t,rfl⟩;have i1:=Ra (h r hr);refine⟨[fq (eR r),fI (k:Int)],rfl,.f,[fq (eR r),fI (k:Int)],?_,_,rfl⟩;generalize eR r=ER at i1 ⊢;simp only[pv,seval,op,i1]
abbrev SK:FX:=bH g0 (af (ao (cS (Kq (eE 1) (gd (aK 1))) [none,some 0] (ax 0) dX (aG IK (aj 0) (aj 1)))) aw)
theorem wJ(rs:List (List Int))(w:Nat)(hl:rs.length<=1000)(h:∀r∈rs,r.length=w):cH (ax 0) dX SK ((List.range w).map fun(k:Nat)=>D.int (k:Int)) [none,fq (.lst (rs.map eR))]=.ok ((pq rs w).map eR):=by
 rw[c7 (r:=fun k:Nat=>eR (rs.map fun r=>r.getD k 0)) (fun env=>∃t,env=[t,fq (.lst (rs.map eR))]) (List.range w) ?_ _ ⟨none,rfl⟩]
 ·unfold pq;rw[Vm];rfl
 ·rintro k hk env ⟨t,rfl⟩;have hc:=yp rs k fun r hr=>by rw[h r hr];exact V8.mp hk
  have hz:((rs.map fun r=>r.getD k 0).map D.int).length<=sizeLine:=line_le (by rw[bf,bf];lia);have hf:=HY (rs.map fun r=>r.getD k 0);refine⟨[fI (k:Int),fq (.lst (rs.map eR))],rfl,.f,[fI (k:Int),fq (.lst (rs.map eR))],?_,_,rfl⟩;unfold SK eR;rw[show(rs.map fun r=>D.tup (r.map D.int))=rs.map eR from rfl];generalize (aG IK (aj 0) (aj 1))=FF at hc ⊢;generalize (rs.map fun r=>r.getD k 0).map D.int=LL at hc hz hf ⊢;generalize rs.map eR=RR at hc ⊢;simp only[pv,seval,op,hc,hz,hf]
theorem yq(r:List Int):cH (ax 0) dX (oA (aj 0)) (r.map D.int) [none]=.ok ((r.map fun x=>-x).map D.int):=by
 rw[c7 (r:=fun x:Int=>D.int (-x)) (fun env=>∃t,env=[t]) r ?_ _ ⟨none,rfl⟩]
 ·rw[Vm];rfl
 ·rintro x hx env ⟨t,rfl⟩;exact⟨[fI x],rfl,.f,[fI x],by simp only[pv,seval,op],_,rfl⟩
theorem rR(hw:w<=900)(hr:∀r∈rows,r.length=w)(JC:row.length=w)(hl:rows.length<=900)(H:KOk (rows.length+1) L)(NP:aR [.lst ((pq (rows++[row]) w).map eR)]=.ok (.d,dL L))(T:FS):
  sSeq (bZ 2 (aG i4 (ao (bH pN (af (aj 0) aw))) (ao (gO (aD (aK 1) bt)))))
  (sSeq (bZ 3 (cS (cM (ao (bH gj (af (aj 1) aw)))) [none,some 2] (ax 0) dX SK))
  (sSeq (bZ 4 (dv bz (af (aj 3) (af (ao (bH gj (af (aj 2) aw))) aw)))) T)) [fq (.lst (rows.map eR)),fq (eR row),none,none,none]=T [fq (.lst (rows.map eR)),fq (eR row),fL ((rows++[row]).map eR),fL (((pq (rows++[row]) w).map eR)),fq (Nd L (rows.length+1))]:=by
 have JI:=pk (n:=rows.length+1) (by lia) H NP;have Tg:∀r∈rows++[row],r.length=w:=fun r hx=>by
  rcases w4 hx with h|h
  ·exact hr r h
  ·rw[rg h];exact JC
 have Pl:=wJ (rows++[row]) w (by rw[rh,Vz];lia) Tg;have M9:i4 (.lst (rows.map eR)) (.lst [eR row])=.ok (.l .f,.lst ((rows++[row]).map eR)):=by
  rw[vT,U2 (line_le (by rw[bf,Vz];lia)),Vt];rfl
 have MD:gj [eR row]=.ok (.f,.int (w:Int)):=by
  show Res.ok (O.f,D.int (((row.map D.int).length:Nat):Int))=_;rw[bf,JC]
 have Uw:gj [.lst ((rows++[row]).map eR)]=.ok (.f,.int ((rows.length+1:Nat):Int)):=by
  show Res.ok (O.f,D.int ((((rows++[row]).map eR).length:Nat):Int))=_;rw[bf,rh,Vz]
 have Ux:((pq (rows++[row]) w).map eR).length<=sizeLine:=line_le (by unfold pq;rw[bf,bf,Vi];lia);have Uy:=eQ (pq (rows++[row]) w);have Uz:cR (Nd L (rows.length+1))=true:=by
  unfold Nd;split
  ·rfl
  ·exact cD _
 rw[av (env':=[fq (.lst (rows.map eR)),fq (eR row),fL ((rows++[row]).map eR),none,none]) (by
  generalize eR row=ER at M9 ⊢;simp only[pv,seval,op,M9])]
 have OQ:=Ez (w:Int) (by lia) (by lia) (ao (bH gj (af (aj 1) aw))) [fq (.lst (rows.map eR)),fq (eR row),fL ((rows++[row]).map eR),none,none] [fq (.lst (rows.map eR)),fq (eR row),fL ((rows++[row]).map eR),none,none] (.val (.int (w:Int))) (by
  generalize eR row=ER at MD ⊢;simp only[pv,seval,op,MD]) rfl
 rw[VV]at OQ;generalize Nd L (rows.length+1)=CL at JI Uz ⊢;generalize SK=IC at Pl ⊢;rw[av (env':=[fq (.lst (rows.map eR)),fq (eR row),fL ((rows++[row]).map eR),fL (((pq (rows++[row]) w).map eR)),none]) (by
  generalize cM (ao (bH gj (af (aj 1) aw)))=IR at OQ ⊢;generalize (pq (rows++[row]) w).map eR=CC at Pl Ux Uy ⊢;generalize (rows++[row]).map eR=JJ at OQ Pl ⊢;generalize eR row=ER at OQ ⊢;simp only[pv,seval,op,OQ,Pl,Ux,Uy])]
 rw[av (env':=[fq (.lst (rows.map eR)),fq (eR row),fL ((rows++[row]).map eR),fL (((pq (rows++[row]) w).map eR)),fq CL]) (by
  generalize (pq (rows++[row]) w).map eR=CC at JI ⊢;generalize (rows++[row]).map eR=JJ at Uw ⊢;generalize eR row=ER;simp only[pv,seval,op,Uw,JI,Uz])]
def Ik:List Nat:=[115,117,109]
def Il:List Nat:=[114,111,119]
variable{o:List Int}
section
theorem nr(hw:w<=900)(hr:∀r∈rows,r.length=w)(JC:row.length=w)(hl:rows.length<=900)(H:KOk (rows.length+1) L)(NP:aR [.lst ((pq (rows++[row]) w).map eR)]=.ok (.d,dL L))(hk:Kc L rows.length=false):
  bR [.lst (rows.map eR),eR row]=.ok (.f,.tup [.str Ik,.int ((kr L rows.length (rows.length+1)).getD rows.length 0),.lst ((((kr L rows.length (rows.length+1)).take rows.length).map fun x=>-x).map D.int)]):=by
 have st:=fun T=>rR hw hr JC hl H NP T
 have ec:Nd L (rows.length+1)=eR (kr L rows.length (rows.length+1)):=by
  unfold Nd;rw[show rows.length+1-1=rows.length from rfl,hk,U9 U7]
 rw[ec]at st;have kl:=kM L rows.length (rows.length+1);generalize kr L rows.length (rows.length+1)=K at st kl;have JS:=wI (r:=K) (by lia);rw[kl,show rows.length+1-1=rows.length from rfl]at JS;have Me:kQ (K.map D.int) none (some (-1))=(K.take rows.length).map D.int:=by
  rw[mZ,nq,kl];rfl
 have QD:=yq (K.take rows.length);have hz:(((K.take rows.length).map fun x=>-x).map D.int).length<=sizeLine:=line_le (by rw[bf,bf,VE];lia);have Mj:=HY ((K.take rows.length).map fun x=>-x);have Pf:N3 (eR K) .non=.ok (.f,.bl false):=id rfl;unfold bR kx;rw[bC (h:=by rfl)];simp only[List.map,List.replicate,W4,Wx];rw[st];clear st;rw[av (env':=[fq (.lst (rows.map eR)),fq (eR row),fL ((rows++[row]).map eR),fL (((pq (rows++[row]) w).map eR)),fq (eR K)]) (by
  generalize eR K=EK at Pf ⊢;generalize eR row=ER;simp only[pv,seval,op,Pf,ik])]
 unfold eR Ik;generalize ((K.take rows.length).map fun x=>-x).map D.int=NN at QD hz Mj ⊢;generalize (oA (aj 0))=NG at QD ⊢;simp only[pv,seval,op,JS,Me,QD,hz,Mj]
theorem yr(ks:List (List Int))(row:List Int)(hb:Bg 175 row)(hk:∀k∈ks,Bg 8821 k/\k.length<=1000):cH (ax 0) (Iz (aV K1 (ao (dv cw (af (aj 0) (af (aj 1) aw)))) (ao (aE (.int 0))))) (aK 0) (ks.map eR) [none,fq (eR row)]=.ok ((ks.filter fun o=>!(dot o row==0)).map eR):=by
 refine fS (p:=fun o:List Int=>!(dot o row==0)) (fun env=>∃t,env=[t,fq (eR row)]) ks ?_ _ ⟨none,rfl⟩;rintro k Om env ⟨t,rfl⟩;have hp:=oZ (n:=8821) (m:=175) (by decide) (by decide) k row (hk k Om).1 hb (hk k Om).2;refine⟨[fq (eR k),fq (eR row)],rfl,[fq (eR k),fq (eR row)],?_,?_⟩
 ·generalize eR k=EK at hp ⊢;generalize eR row=ER at hp ⊢;simp only[pv,seval,op,hp]
 ·cases hd:(dot k row==0) with
  |true=>exact⟨_,rfl⟩
  |false=>exact⟨.f,[fq (eR k),fq (eR row)],rfl,_,rfl⟩
theorem nv(hw:w<=900)(hr:∀r∈rows,r.length=w)(JC:row.length=w)(hbr:Bg 175 row)(hl:rows.length<=900)(H:KOk (rows.length+1) L)(NP:aR [.lst ((pq (rows++[row]) w).map eR)]=.ok (.d,dL L))(hk:Kc L rows.length=true){L2:Iq}(H2:KOk w L2)(hld2:aR [.lst (rows.map eR)]=.ok (.d,dL L2)){more:List (List Int)}(hf:(m9 L2 w).filter (fun o=>!(dot o row==0))=o::more):
  bR [.lst (rows.map eR),eR row]=.ok (.f,.tup [.str Il,eR o]):=by
 have st:=fun T=>rR hw hr JC hl H NP T
 have ec:Nd L (rows.length+1)=.non:=by
  unfold Nd;rw[show rows.length+1-1=rows.length from rfl,hk,U2 rfl]
 rw[ec]at st;have R8:=yo (rows:=rows) H2 hld2;have MD:gj [eR row]=.ok (.f,.int (w:Int)):=by
  show Res.ok (O.f,D.int (((row.map D.int).length:Nat):Int))=_;rw[bf,JC]
 have Rc:=yr (m9 L2 w) row hbr fun k hk=>by
  unfold m9 at hk;obtain⟨c,hc,e⟩:=nH hk;rw[<-e];exact⟨rQ H2 c,by rw[kM];lia⟩
 have hfz:=Vq (Xa (fun o=>!(dot o row==0)) (m9 L2 w)) (rO L2 w);rw[hf]at Rc hfz;have hz:((o::more).map eR).length<=sizeLine:=line_le (by rw[bf];lia);have MJ:=eQ (o::more);have SE:=eQ (m9 L2 w);have JS:Kz ((o::more).map eR) (0:Int)=some (eR o):=hW (j:=0) rfl;have Pf:N3 .non .non=.ok (.f,.bl true):=id rfl;unfold bR kx;rw[bC (h:=by rfl)];simp only[List.map,List.replicate,W4,Wx];rw[st];clear st;rw[Jg];generalize (Iz (aV K1 (ao (dv cw (af (aj 0) (af (aj 1) aw)))) (ao (aE (.int 0)))))=BB at Rc ⊢;generalize (o::more).map eR=OM at Rc hz MJ JS ⊢;generalize (m9 L2 w).map eR=KK at R8 Rc SE ⊢;generalize (rows++[row]).map eR=JJ;generalize (pq (rows++[row]) w).map eR=CC;unfold Il;generalize eR row=ER at MD Rc ⊢;generalize eR o=EO at JS ⊢;simp only[pv,seval,op,Pf,MD,R8,SE,Rc,hz,MJ,JS]
end
theorem dot_sg{b:List Int}(h:a.length=b.length):dot a b=sg a.length fun k=>a.getD k 0*b.getD k 0:=by
 have key:∀n,n<=a.length->(((a.zip b).map fun z=>z.1*z.2).take n).sum=sg n fun k=>a.getD k 0*b.getD k 0:=fun n=>by
  induction n with
  |zero=>intro _;rfl
  |succ n ih=>
   intro hn;rw[rm a b n (by lia) (by lia),ih (by lia)];rfl
 have:=key a.length (UZ _);rw[Wb (by rw[bf,Wv];lia)]at this;exact this
theorem Ee(rows:List (List Int))(row:List Int)(w:Nat):pq (rows++[row]) w=ng rows row w:=by
 unfold pq ng sZ;refine VY fun k _=>?_
 rw[Vt];rfl
theorem yt(hr:∀r∈rows,r.length=w/\Bg n r)(Rb:Bg n row):∀c∈ng rows row w,c.length=rows.length+1/\Bg n c:=fun c hc=>by
 obtain⟨k,_,e⟩:=nH hc;rw[<-e];refine⟨yj _ _ _,fun x hx=>?_⟩;unfold sZ at hx;rcases w4 hx with h|h
 ·obtain⟨r,h1,h2⟩:=nH h;rw[<-h2];exact(hr r h1).2.at k
 ·rw[rg h];exact Rb.at k
theorem zi(hw:w<=6)(hl:rows.length<=6)(hr:∀r∈rows,r.length=w/\Bg 175 r)(JC:row.length=w)(Rb:Bg 175 row):
  (∃(km:Int) (ns:List Int),1<=km/\km.natAbs<2 ^ 8821/\ns.length=rows.length/\Bg 8821 ns/\(∀k,k<w->sg rows.length (fun j=>(rows.getD j []).getD k 0*ns.getD j 0)=row.getD k 0*km)/\bR [.lst (rows.map eR),eR row]=.ok (.f,.tup [.str Ik,.int km,.lst (ns.map D.int)]))\/
  (∃o:List Int,o.length=w/\Bg 8821 o/\(∀r∈rows,dot r o=0)/\dot row o≠0/\¬ In rows.length w (Fs rows) (Vc row)/\bR [.lst (rows.map eR),eR row]=.ok (.f,.tup [.str Il,eR o])):=by
 have JI:(ng rows row w).length=w:=by unfold ng;rw[bf,Vi]
 have SG:=yt (w:=w) hr Rb;obtain⟨L,H,E,NP⟩:=kP (w:=rows.length+1) (by lia) (by lia) SG;obtain⟨l1,l2⟩:=kN (by lia) SG H;have KO:KOk (rows.length+1) L:=⟨H.red,l2,by lia,by lia⟩
 rw[<-Ee]at NP;have Rf:∀r∈rows,r.length=w:=fun r h=>(hr r h).1
 cases hk:Kc L rows.length with
 |false=>
  left;have hs:=nr (by lia) Rf JC (by lia) KO NP hk;have Na:=Bb H hk;have R9:=y9 H.red (VB _) hk;have TK:=rQ KO rows.length;have R7:=kM L rows.length (rows.length+1);generalize kr L rows.length (rows.length+1)=K at hs Na R9 TK R7;refine⟨K.getD rows.length 0,(K.take rows.length).map fun x=>-x,R9,TK.at _,by rw[bf,VE];lia,fun x hx=>?_,fun k Qy=>?_,hs⟩
  ·obtain⟨y,hy,e⟩:=nH hx;rw[<-e,Xl];exact TK y (XF hy)
  ·have h:=Na k Qy;have e:sg rows.length (fun j=>(rows.getD j []).getD k 0*((K.take rows.length).map fun x=>-x).getD j 0) = -sg rows.length fun j=>(rows.getD j []).getD k 0*K.getD j 0:=by
    have hm:=cz rows.length (-1) fun j=>(rows.getD j []).getD k 0*K.getD j 0
    rw[Wh,Wj]at hm;rw[<-hm];refine ay fun j hj=>?_
    have:((K.take rows.length).map fun x=>-x).getD j 0 = -(K.getD j 0):=by
     rw[UQ,Vg,XZ,U2 hj,iV (by lia),UQ,iV (by lia)];rfl
    rw[this,Int.mul_neg,Wh,Wj]
   rw[e];lia
 |true=>
  right;obtain⟨M,HM,_,hldM⟩:=kP (w:=w) (by lia) hl hr;obtain⟨m1,m2⟩:=kN hl hr HM;have KM:KOk w M:=⟨HM.red,m2,by lia,by lia⟩
  obtain⟨c,hc,PJ,JH⟩:=wA H E hk HM JC;have Lf:kr M c w∈(m9 M w).filter fun o=>!(dot o row==0):=by
   refine WL.mpr ⟨Xu.mpr ⟨c,WL.mpr ⟨V8.mpr hc,by rw[PJ];rfl⟩,rfl⟩,?_⟩;have hd:dot (kr M c w) row≠0:=by
    rw[dot_sg (by rw[kM,JC]),kM];intro z;exact JH (aaN (ay fun k _=>VM _ _) z)
   rw[Vn.mpr hd];rfl
  obtain⟨o,more,hf⟩:∃o more,(m9 M w).filter (fun o=>!(dot o row==0))=o::more:=by
   cases hq:(m9 M w).filter fun o=>!(dot o row==0) with
   |nil=>rw[hq]at Lf;cases Lf
   |cons o more=>exact⟨o,more,rfl⟩
  have ho:o∈(m9 M w).filter fun o=>!(dot o row==0):=by rw[hf];exact UY
  obtain⟨ho1,Kg⟩:=WL.mp ho;obtain⟨c',Sk,eo⟩:=nH ho1;obtain⟨hc1,Ni⟩:=WL.mp Sk;rw[YS]at Ni;have Sa:o.length=w:=by rw[<-eo];exact kM M c' w
  have hs:=nv (by lia) Rf JC Rb (by lia) KO NP hk KM hldM hf;refine⟨o,Sa,by rw[<-eo];exact rQ KM c',fun r h=>?_,?_,za H E hk,hs⟩
  ·rw[dot_sg (by rw[Rf r h,Sa]),Rf r h,<-eo];exact wx HM (V8.mp hc1) Ni h
  ·rw[YS,Vn,dot_sg (by rw[Sa,JC]),Sa]at Kg;rw[dot_sg (by rw[Sa,JC]),JC];intro z;exact Kg (aaN (ay fun k _=>VM _ _) z)
theorem wK(env:PV.Env)(f:FT):AN f env=Res.bnd (f (env.map frz)) (f:=⟨fun p=>.ok (p.1,env)⟩):=id rfl
theorem ti:Ja (.str Il) (.str [114,111,119])=.ok (.f,.bl true):=rfl
theorem tj:Ja (.str Ik) (.str [114,111,119])=.ok (.f,.bl false):=rfl
abbrev qD(B:List Nat):List D:=B.map fun(q:Nat)=>D.int (q:Int)
structure Rs(rows:List (List Int))(w:Nat):Prop where
 hw:w<=6
 hl:rows.length<=12
 ok:∀r∈rows,r.length=w/\Bg 175 r
theorem ny(rows:List (List Int))(B:List Nat)(h:∀q∈B,q<rows.length):cH (ax 0) dX (aG IK (aj 1) (aj 0)) (qD B) [none,fq (.lst (rows.map eR))]=.ok ((sel rows B).map eR):=by
 rw[c7 (r:=fun q:Nat=>eR (rows.getD q [])) (fun env=>∃t,env=[t,fq (.lst (rows.map eR))]) B ?_ _ ⟨none,rfl⟩]
 ·unfold sel;rw[Vm];rfl
 ·rintro q hq env ⟨t,rfl⟩;have UA:=h q hq;have JS:Kz (rows.map eR) (q:Int)=some (eR (rows.getD q [])):=hW (by rw[Vg,iV UA,bT rows q [] UA];rfl);refine⟨[fI (q:Int),fq (.lst (rows.map eR))],rfl,.f,[fI (q:Int),fq (.lst (rows.map eR))],?_,_,rfl⟩;generalize rows.map eR=RR at JS ⊢;generalize eR (rows.getD q [])=EQ at JS ⊢;simp only[pv,seval,op,JS]
variable{B:List Nat}
section
theorem rS(H:Rs rows w)(h:∀q∈B,q<rows.length):∀r∈sel rows B,r.length=w/\Bg 175 r:=fun r hr=>by
 unfold sel at hr;obtain⟨q,h1,e⟩:=nH hr;rw[<-e];exact H.ok _ (aY (h q h1))
theorem Ch.few(C:Ch rows w n B)(H:Rs rows w)(hn:n<=rows.length):B.length<=w:=DX (A:=2 ^ 175) C.ind fun i hi k hk=>by
 show(((sel rows B).getD i []).getD k 0).natAbs<=2 ^ 175;exact W7 ((rS H (fun q hq=>U0 (C.lt q hq) hn) _ (aY (by rw[gK];exact hi))).2.at k)
theorem F7(H:Rs rows w)(C:Ch rows w n B)(hn:n<rows.length):∃B2,Ch rows w (n+1) B2/\b6 [fq (.lst (rows.map eR)),fL (qD B),fI (n:Int),fq (eR (rows.getD n []))]=.ok (.nx [fq (.lst (rows.map eR)),fL (qD B2),fI (n:Int),fq (eR (rows.getD n []))]):=by
 have Iu:∀q∈B,q<rows.length:=fun q hq=>Nat.lt_trans (C.lt q hq) hn
 have KH:=C.few H (W7 hn);have hw:=H.hw;have K7:=ny rows B Iu;have Pg:=rS H Iu;have Ml:=gK rows B;have hz:((sel rows B).map eR).length<=sizeLine:=line_le (by rw[bf];lia);have hf:=eQ (sel rows B);have Nf:=H.ok _ (aY (d:=[]) hn);have QF:(qD B).length<sizeLine:=short (by rw[bf];lia);have PU:=zi (rows:=sel rows B) hw (by lia) Pg Nf.1 Nf.2;unfold b6;rcases PU with⟨km,ns,k1,k2,k3,k4,k5,hs⟩|⟨o,o1,o2,o3,o4,o5,hs⟩
 ·refine⟨B,C.skip ⟨km,fun j=>ns.getD j 0,by lia,fun k hk=>?_⟩,?_⟩
  ·have:=k5 k hk;rw[Ml]at this;show km*(rows.getD n []).getD k 0=_;rw[VM,<-this];exact ay fun j _=>VM _ _
  generalize hT:D.tup [.str Ik,.int km,.lst (ns.map D.int)]=TT at hs;have fo:cR TT=false:=by
   rw[<-hT,d9];simp only[H0,cR,YC,XH]
  have i0:IK TT (.int 0)=.ok (.f,.str Ik):=by rw[<-hT];rfl
  clear hT;have he:=tj;generalize qD B=CD at K7 QF ⊢;generalize (sel rows B).map eR=SB at K7 hz hf hs;generalize eR (rows.getD n [])=EC at hs ⊢;generalize rows.map eR=RR at K7 ⊢;generalize (aG IK (aj 1) (aj 0))=IX at K7 ⊢;simp only[pv,seval,op,wK,gX,V6,DG,DH,K7,hz,hf,hs,fo,i0,he,ik]
 ·rw[Ml]at o5;refine⟨B++[n],C.take o5,?_⟩;have fo:cR (.tup [.str Il,eR o])=true:=by
   rw[d9];simp only[H0,cD,cR,Vr]
  have i0:IK (.tup [.str Il,eR o]) (.int 0)=.ok (.f,.str Il):=rfl;have he:=ti;have eq:qD (B++[n])=qD B++[.int (n:Int)]:=by unfold qD;rw[Vt];rfl
  rw[eq];generalize D.tup [.str Il,eR o]=TT at hs fo i0;generalize qD B=CD at K7 QF ⊢;generalize (sel rows B).map eR=SB at K7 hz hf hs;generalize eR (rows.getD n [])=EC at hs ⊢;generalize rows.map eR=RR at K7 ⊢;generalize (aG IK (aj 1) (aj 0))=IX at K7 ⊢;simp only[pv,seval,op,wK,gX,V6,DG,DH,K7,hz,hf,hs,fo,i0,he,QF]
theorem rT(l:List (List Int))(k:Nat):((l.map eR).zipIdx k).map (fun z=>D.tup [.int (z.2:Int),z.1])=(l.zipIdx k).map fun z=>D.tup [.int (z.2:Int),eR z.1]:=by
 rw[List.zipIdx_map,Vm];rfl
theorem wL{l:List (List Int)}{k:Nat}(hd:rows.drop k=r::l):k<rows.length/\rows.getD k []=r/\rows.drop (k+1)=l:=by
 have hk:k<rows.length:=by
  have:=V7 List.length hd;rw[Wz,Vb]at this;lia
 rw[VZ hk]at hd;injection hd with h1 h2;exact⟨hk,by rw[bT rows k [] hk,h1],h2⟩
theorem rV(H:Rs rows w):∀(l:List (List Int)) (k:Nat) (B:List Nat) (t2 t3:Option R),rows.drop k=l->k<=rows.length->Ch rows w k B->∃B2 u2 u3,Ch rows w rows.length B2/\eC (iZ 2 (aJ (ax 2) (aJ (ax 3) c9))) b6 ((l.zipIdx k).map fun z=>D.tup [.int (z.2:Int),eR z.1]) [fq (.lst (rows.map eR)),fL (qD B),t2,t3]=.ok (.nx [fq (.lst (rows.map eR)),fL (qD B2),u2,u3])
 |[],k,B,t2,t3,hd,hk,C=>⟨B,t2,t3,by
   have e:k=rows.length:=by
    have:=V7 List.length hd;rw[Wz,V3]at this;lia
   rw[<-e];exact C,rfl⟩
 |r::l,k,B,t2,t3,hd,_,C=>by
  obtain⟨hk,er,hd2⟩:=wL hd;obtain⟨B1,C1,e1⟩:=F7 H C hk;rw[er]at e1;obtain⟨B2,u2,u3,C2,e2⟩:=rV H l (k+1) B1 (fI (k:Int)) (fq (eR r)) hd2 hk C1;refine⟨B2,u2,u3,C2,?_⟩;have ha:iZ 2 (aJ (ax 2) (aJ (ax 3) c9)) (.tup [.int (k:Int),eR r]) [fq (.lst (rows.map eR)),fL (qD B),t2,t3]=.ok [fq (.lst (rows.map eR)),fL (qD B),fI (k:Int),fq (eR r)]:=by
   generalize eR r=EC;generalize qD B=CD;simp only[pv,seval]
  rw[Xj,gX,jk,ha,Jl,e1,Jl];exact e2
theorem nE(H:Rs rows w):∃B,Ch rows w rows.length B/\cA [.lst (rows.map eR)]=.ok (.l .f,.lst (qD B)):=by
 obtain⟨B,u2,u3,C,e⟩:=rV H rows 0 [] none none XG (VH _) (Ch.start rows w);refine⟨B,C,?_⟩;have en:sS (rows.map eR)=(rows.zipIdx 0).map fun z=>D.tup [.int (z.2:Int),eR z.1]:=rT rows 0
 unfold cA iL;rw[bC (h:=by rfl)];rw[av (env':=[fq (.lst (rows.map eR)),fL [],none,none]) (by
  generalize rows.map eR=RR;simp only[pv,seval,op])]
 rw[av (env':=[fq (.lst (rows.map eR)),fL (qD B),u2,u3]) (by
  unfold gB;rw[<-en]at e;generalize rows.map eR=RR at e ⊢;generalize b6=BB at e ⊢;simp only[pv,seval,op,jN];exact e)]
 unfold fZ;simp only[pv,seval,op]
end
theorem snoc_getD(r:List Int)(x:Int){k:Nat}(h:k<r.length):(r++[x]).getD k 0=r.getD k 0:=by
 rw[UQ,WK h,UQ]
theorem pw(r:List Int)(x:Int):(r++[x]).getD r.length 0=x:=by
 rw[UQ,W0 (UZ _),aaz];rfl
abbrev ext(S:List (List Int)):List (List Int):=S.map fun r=>r++[-1]
theorem Ef{S:List (List Int)}{p:Nat}(h:p<S.length):(ext S).getD p []=S.getD p []++[-1]:=by
 rw[UQ,Vg,iV h,UQ,iV h];rfl
theorem zj{S:List (List Int)}(h:∀r∈S,r.length=w/\Bg 175 r):∀r∈ext S,r.length=w+1/\Bg 175 r:=fun r hr=>by
 obtain⟨s,h1,e⟩:=nH hr;rw[<-e];refine⟨by rw[rh,Vz,(h s h1).1],fun x hx=>?_⟩;rcases w4 hx with z|z
 ·exact(h s h1).2 x z
 ·rw[rg z];decide +kernel
theorem yu{S:List (List Int)}(hr:∀r∈S,r.length=w)(hi:Qv S.length w (Fs S))(H:Inv (w+1) (ext S) L)(E:Ech L):Kc L w=false:=by
 cases hk:Kc L w with
 |false=>rfl
 |true=>
  exfalso;obtain⟨i,TL,e⟩:=wu hk;obtain⟨T,t1,t2,_,t4,_⟩:=H.base;have MI:=eh (t4 i TL) (G:=Fs (ext S)) (s:=(ext S).length) fun j hj=>rF (t2 _ (aY (by lia)))
  obtain⟨d,x,d0,hx⟩:=MI;rw[bf]at hx;have z:∀p,p<S.length->x p=0:=hi x fun k hk=>by
   have h1:=hx k (by lia);have e0:Fm L i k=0:=E i TL k (by lia);rw[e0,Vx]at h1;rw[h1];refine ay fun p hp=>?_
   show x p*(S.getD p []).getD k 0=x p*((ext S).getD p []).getD k 0;rw[Ef hp,snoc_getD _ _ (by rw[hr _ (aY hp)];exact hk)]
  have h1:=hx w (by lia);rw[dW fun p hp=>by rw[z p hp,Wg]]at h1;have ho:=H.red.own i TL;rw[<-e]at ho;exact(VS.mp h1).elim d0 ho
theorem Bl(rows:List (List Int))(hl:∀r∈rows,r.length<=100):cH (ax 0) dX (aG i4 (aj 0) (ao (mr (aD (oA (ao (aE (.int 1)))) bt)))) (rows.map eR) [none]=.ok ((ext rows).map eR):=by
 rw[c7 (r:=fun r:List Int=>eR (r++[-1])) (fun env=>∃t,env=[t]) rows ?_ _ ⟨none,rfl⟩]
 ·rw[Vm];rfl
 ·rintro r hr env ⟨t,rfl⟩;have ha:i4 (eR r) (.tup [.int (-1)])=.ok (.f,eR (r++[-1])):=by
   unfold eR;rw[vU,U2 (.inl (line_le (by rw[bf,Vz];have:=hl r hr;lia))),Vt];rfl
  refine⟨[fq (eR r)],rfl,.f,[fq (eR r)],?_,_,rfl⟩;generalize eR r=ER at ha ⊢;generalize eR (r++[-1])=E1 at ha ⊢;have e:-(1:Int) = -1:=rfl;simp only[pv,seval,op,e,ha]
variable{lv:List Int}
section
theorem Bm(H:Rs rows w)(C:Ch rows w rows.length B):∃K:List Int,K.length=w+1/\Bg 8821 K/\1<=K.getD w 0/\(∀p,p<B.length->dt rows w (B.getD p 0) (Vc K)=K.getD w 0)/\cy [.lst ((sel rows B).map eR),.int (w:Int)]=.ok (.f,eR K):=by
 have hw:=H.hw;have KH:=C.few H (UZ _);have Pg:=rS H C.lt;have Ml:=gK rows B;have QH:=C.ind;have JS:∀p,p<B.length->(sel rows B).getD p []=rows.getD (B.getD p 0) []:=fun p hp=>wB rows hp
 generalize sel rows B=S at Pg Ml QH JS;rw[<-Ml]at QH;obtain⟨L,I,E,NP⟩:=kP (rows:=ext S) (w:=w+1) (by lia) (by rw[bf];lia) (zj Pg);obtain⟨l1,l2⟩:=kN (by rw[bf];lia) (zj Pg) I;rw[bf]at l1;have KO:KOk (w+1) L:=⟨I.red,l2,by lia,by lia⟩
 have hk:=yu (fun r h=>(Pg r h).1) QH I E;refine⟨kr L w (w+1),kM _ _ _,rQ KO w,y9 I.red (VB _) hk,fun p hp=>?_,?_⟩
 ·have UB:p<S.length:=by lia
  have h1:=wx I (VB _) hk (r:=S.getD p []++[-1]) (Xu.mpr ⟨_,aY UB,rfl⟩);have Tn:=(Pg _ (aY (d:=[]) UB)).1;have h2:sg w (fun k=>(S.getD p []++[-1]).getD k 0*(kr L w (w+1)).getD k 0)+(S.getD p []++[-1]).getD w 0*(kr L w (w+1)).getD w 0=0:=h1;have h3:(S.getD p []++[-1]).getD w 0 = -1:=by
   have:=pw (S.getD p []) (-1);rw[Tn]at this;exact this
  rw[h3,ay (g:=fun k=>(rows.getD (B.getD p 0) []).getD k 0*Vc (kr L w (w+1)) k) fun k hk=>by rw[snoc_getD _ _ (by lia),JS p hp]]at h2;unfold dt;lia
 ·have hc:=Bl S fun r hr=>by rw[(Pg r hr).1];lia
  have JI:=pk (n:=w+1) (by lia) KO NP;have ec:Nd L (w+1)=eR (kr L w (w+1)):=by
   unfold Nd;rw[show w+1-1=w from rfl,hk,U9 U7]
  rw[ec,show((w+1:Nat):Int)=(w:Int)+1 by lia]at JI;have hz:((ext S).map eR).length<=sizeLine:=line_le (by rw[bf,bf];lia);have hf:=eQ (ext S);have fk:=cD (kr L w (w+1));unfold cy ky;rw[bC (h:=by rfl)];generalize (aG i4 (aj 0) (ao (mr (aD (oA (ao (aE (.int 1)))) bt))))=FF at hc ⊢;generalize (ext S).map eR=RM at hc JI hz hf;generalize S.map eR=RR at hc ⊢;generalize eR (kr L w (w+1))=EK at JI fk ⊢;simp only[pv,seval,op,hc,hz,hf,JI,fk]
theorem Eg(OT:lv.length=w+1)(hi:(rows.getD i []).length=w):dot (rows.getD i []) (lv.take w)=dt rows w i (Vc lv):=by
 rw[dot_sg (by rw[hi,VE];lia),hi];unfold dt;refine ay fun k hk=>?_
 have:(lv.take w).getD k 0=lv.getD k 0:=by
  rw[UQ,XZ,U2 hk,UQ]
 rw[this]
theorem wM(H:Rs rows w){lv:List Int}(OT:lv.length=w+1)(hb:Bg 8821 lv):∀(l:List (List Int)) (k:Nat) (t2 t3:Option R),rows.drop k=l->k<=rows.length->(∀j,j<k->lv.getD w 0<=dt rows w j (Vc lv))->
  (∃i,i<rows.length/\dt rows w i (Vc lv)<lv.getD w 0/\(∀j,j<i->lv.getD w 0<=dt rows w j (Vc lv))/\eC (iZ 2 (aJ (ax 2) (aJ (ax 3) c9))) bu ((l.zipIdx k).map fun z=>D.tup [.int (z.2:Int),eR z.1]) [fq (.lst (rows.map eR)),fq (eR lv),t2,t3]=.ok (.rt (.f,.int (i:Int))))\/
  ((∀j,j<rows.length->lv.getD w 0<=dt rows w j (Vc lv))/\∃u2 u3,eC (iZ 2 (aJ (ax 2) (aJ (ax 3) c9))) bu ((l.zipIdx k).map fun z=>D.tup [.int (z.2:Int),eR z.1]) [fq (.lst (rows.map eR)),fq (eR lv),t2,t3]=.ok (.nx [fq (.lst (rows.map eR)),fq (eR lv),u2,u3]))
 |[],k,t2,t3,hd,hk,h=>.inr ⟨by
   have e:k=rows.length:=by
    have:=V7 List.length hd;rw[Wz,V3]at this;lia
   rw[<-e];exact h,t2,t3,rfl⟩
 |r::l,k,t2,t3,hd,_,h=>by
  obtain⟨hk,er,hd2⟩:=wL hd;have Nf:=H.ok _ (aY (d:=[]) hk);have hw:=H.hw;have UC:=Eg (rows:=rows) OT Nf.1;rw[er]at Nf UC;have hp:=oZ (n:=175) (m:=8821) (by decide) (by decide) r (lv.take w) Nf.2 (fun x hx=>hb x (XF hx)) (by lia);rw[UC]at hp;have Me:kQ (lv.map D.int) none (some (-1))=(lv.take w).map D.int:=by
   rw[mZ,nq,OT];rfl
  have JS:=wI (r:=lv) (by lia);rw[OT,show w+1-1=w from rfl]at JS;have ha:iZ 2 (aJ (ax 2) (aJ (ax 3) c9)) (.tup [.int (k:Int),eR r]) [fq (.lst (rows.map eR)),fq (eR lv),t2,t3]=.ok [fq (.lst (rows.map eR)),fq (eR lv),fI (k:Int),fq (eR r)]:=by
   generalize eR r=EC;generalize eR lv=EL;simp only[pv,seval]
  have eb:∀b,decide (dt rows w k (Vc lv)<lv.getD w 0)=b->bu [fq (.lst (rows.map eR)),fq (eR lv),fI (k:Int),fq (eR r)]=if b then .ok (.rt (.f,.int (k:Int))) else .ok (.nx [fq (.lst (rows.map eR)),fq (eR lv),fI (k:Int),fq (eR r)]):=fun b QY=>by
   have hp:cw [eR r,.tup ((lv.take w).map D.int)]=.ok (.f,.int (dt rows w k (Vc lv))):=hp;unfold bu;rw[show eR lv=.tup (lv.map D.int) from rfl];generalize eR r=EC at hp ⊢;generalize dt rows w k (Vc lv)=DD at hp QY;generalize lv.getD w 0=LA at JS QY;generalize (lv.take w).map D.int=LT at Me hp;generalize lv.map D.int=LD at Me JS ⊢;generalize rows.map eR=RR;cases b with
   |true=>simp only[pv,seval,op,Me,JS,hp,QY]
   |false=>simp only[pv,seval,op,Me,JS,hp,QY,ik]
  rw[Xj,gX,jk,ha,Jl];by_cases Iu:dt rows w k (Vc lv)<lv.getD w 0
  ·left;refine⟨k,hk,Iu,h,?_⟩;rw[eb true (VL Iu),U2 rfl,Jl]
  ·rw[eb false (VG Iu),U9 U7,Jl];dsimp only;exact wM H OT hb l (k+1) (fI (k:Int)) (fq (eR r)) hd2 hk fun j hj=>by
    by_cases e:j=k
    ·rw[e];lia
    ·exact h j (by lia)
theorem nF(H:Rs rows w)(OT:lv.length=w+1)(hb:Bg 8821 lv):
  (∃i,i<rows.length/\dt rows w i (Vc lv)<lv.getD w 0/\(∀j,j<i->lv.getD w 0<=dt rows w j (Vc lv))/\bA [.lst (rows.map eR),eR lv]=.ok (.f,.int (i:Int)))\/
  ((∀j,j<rows.length->lv.getD w 0<=dt rows w j (Vc lv))/\bA [.lst (rows.map eR),eR lv]=.ok (.f,.non)):=by
 have en:sS (rows.map eR)=(rows.zipIdx 0).map fun z=>D.tup [.int (z.2:Int),eR z.1]:=rT rows 0
 have ef:∀r,eC (iZ 2 (aJ (ax 2) (aJ (ax 3) c9))) bu ((rows.zipIdx 0).map fun z=>D.tup [.int (z.2:Int),eR z.1]) [fq (.lst (rows.map eR)),fq (eR lv),none,none]=r->dS [fq (.lst (rows.map eR)),fq (eR lv),none,none]=r:=fun r hr=>by
  unfold dS;rw[<-en]at hr;generalize rows.map eR=RR at hr ⊢;generalize eR lv=EL at hr ⊢;generalize bu=BB at hr ⊢;simp only[pv,seval,op,jN];exact hr
 unfold bA iM;rw[bC (h:=by rfl)];simp only[gX,V6,List.replicate,W4,Wx];rcases wM H OT hb rows 0 none none XG (VH _) (fun j hj=>absurd hj (Vj j)) with⟨i,h1,h2,h3,e⟩|⟨h1,u2,u3,e⟩
 ·left;refine⟨i,h1,h2,h3,?_⟩;rw[Jg,ef _ e,Jl];rfl
 ·right;refine⟨h1,?_⟩;rw[av (ef _ e)];rfl
end
theorem ins_map{α β:Type}(f:α->β)(lt:β->β->Bool)(x:α):∀l:List α,ins lt (f x) (l.map f)=(ins (fun a b=>lt (f a) (f b)) x l).map f
 |[]=>rfl
 |y::ys=>by
  rw[gX,ins,ins];cases lt (f y) (f x) with
  |true=>rw[U2 rfl,U2 rfl,ins_map f lt x ys,gX]
  |false=>rw[U9 U7,U9 U7,gX,gX]
theorem px{α β:Type}(f:α->β)(lt:β->β->Bool):∀l:List α,ja lt (l.map f)=(ja (fun a b=>lt (f a) (f b)) l).map f
 |[]=>rfl
 |x::l=>by
  show ins lt (f x) (ja lt (l.map f))=_;rw[px f lt l,ins_map];rfl
theorem Bn:Ord (fun a b:Nat=>ltI (a:Int) (b:Int)):=⟨fun a=>by simp[ltI],fun a b c=>by simp only[ltI,Vl];lia,fun a b=>by simp only[ltI,VJ];lia⟩
theorem Bo(l:List Nat)(nd:l.Nodup)(h:l.length<64):∃C:List Nat,C.Pairwise (·< ·)/\(∀j,j∈C<->j∈l)/\C.length=l.length/\ki [.lst (qD l)]=.ok (.l .f,.lst (qD C)):=by
 have hp:=jb (fun a b:Nat=>ltI (a:Int) (b:Int)) l;refine⟨ja (fun a b:Nat=>ltI (a:Int) (b:Int)) l,?_,fun j=>hp.mem_iff,hp.length_eq,?_⟩
 ·have h1:=gu Bn l;have h2:(ja (fun a b:Nat=>ltI (a:Int) (b:Int)) l).Nodup:=hp.nodup_iff.mpr nd;refine(h1.and h2).imp fun{a b} h=>?_
  have h3:=h.1;have h4:=h.2;simp only[ltI,VJ]at h3;lia
 ·have e:qD l=(l.map fun q:Nat=>(q:Int)).map D.int:=by rw[Vm];rfl
  rw[e];unfold ki;dsimp only;rw[U2 (by rw[bf,bf];exact h)];unfold pP;rw[ly];dsimp only;rw[px,Vm];rfl
def Ky(n low:Nat)(km:Int)(B:List Nat)(ns:List Int):Nat->List Int
 | 0=>Mm n low km
 |p+1=>(Ky n low km B ns p).set (B.getD p 0) (-(ns.getD p 0))
variable{km:Int}{l ns:List Int}
section
variable{low:Nat}
theorem ir:∀m,(Ky n low km B ns m).length=n
 | 0=>wo _ _ _
 |m+1=>by
  show((Ky n low km B ns m).set _ _).length=n;rw[VI,ir m]
theorem qf(Iu:∀j∈B,j<n){j:Nat}(hj:j<n):∀m,m<=B.length->(∀p,p<m->B.getD p 0≠j)->(Ky n low km B ns m).getD j 0=if j=low then km else 0
 | 0,_,_=>jM _ _ _ hj
 |m+1,hm,h=>by
  show((Ky n low km B ns m).set _ _).getD j 0=_;rw[iX _ _ _ _ (by rw[ir];exact Iu _ (iY (by lia))),U9 (fun e=>h m (by lia) e.symm)];exact qf Iu hj m (by lia) fun p hp=>h p (by lia)
theorem zk(hs:B.Pairwise (·< ·))(Iu:∀j∈B,j<n){p:Nat}:∀m,m<=B.length->p<m->(Ky n low km B ns m).getD (B.getD p 0) 0 = -(ns.getD p 0)
 | 0,_,h=>absurd h (Vj _)
 |m+1,hm,h=>by
  show((Ky n low km B ns m).set _ _).getD _ 0=_;rw[iX _ _ _ _ (by rw[ir];exact Iu _ (iY (by lia)))];by_cases e:p=m
  ·rw[e,U2 rfl]
  ·rw[U9 (fun z=>e (nh hs (by lia) (by lia) z))];exact zk hs Iu m (by lia) (by lia)
theorem wN{b:Nat}(hk:km.natAbs<2 ^ b)(hn:Bg b ns):∀m,Bg b (Ky n low km B ns m)
 | 0=>fun x hx=>by
  have hx:x∈Mm n low km:=hx;unfold Mm at hx;obtain⟨k,_,e⟩:=nH hx;rw[<-e];split
  ·exact hk
  ·exact Yu _
 |m+1=>fun x hx=>by
  have hx:x∈(Ky n low km B ns m).set (B.getD m 0) (-(ns.getD m 0)):=hx;rcases YI hx with h|h
  ·exact wN hk hn m x h
  ·rw[h,Xl];exact hn.at m
theorem Eh(v:Int)(hi:i<l.length)(f:Nat->Int):sg l.length (fun j=>(l.set i v).getD j 0*f j)=sg l.length (fun j=>l.getD j 0*f j)+(v-l.getD i 0)*f i:=by
 have e:sg l.length (fun j=>(l.set i v).getD j 0*f j)=sg l.length fun j=>l.getD j 0*f j+if j=i then(v-l.getD i 0)*f i else 0:=ay fun j hj=>by
  rw[iX _ _ _ _ hi];by_cases e:j=i
  ·rw[U2 e,U2 e,e,Int.sub_mul];lia
  ·rw[U9 e,U9 e,Wf]
 rw[e,gH,gc hi (f:=fun j=>if j=i then(v-l.getD i 0)*f i else 0) fun k _ hk=>U9 hk,U2 rfl]
theorem wO(hs:B.Pairwise (·< ·))(Iu:∀j∈B,j<n)(hl:low<n)(UD:low∉B)(f:Nat->Int):∀m,m<=B.length->sg n (fun j=>(Ky n low km B ns m).getD j 0*f j)=km*f low + -(sg m fun p=>ns.getD p 0*f (B.getD p 0))
 | 0,_=>by
  show sg n (fun j=>(Mm n low km).getD j 0*f j)=km*f low + -0;rw[gc hl fun k hk JH=>by rw[jM _ _ _ hk,U9 JH,Wg],jM _ _ _ hl,U2 rfl,Int.neg_zero,Wf]
 |m+1,hm=>by
  have ih:=wO hs Iu hl UD f m (by lia);have hB:=iY (B:=B) (p:=m) (by lia);have h1:=Eh (l:=Ky n low km B ns m) (i:=B.getD m 0) (-(ns.getD m 0)) (by rw[ir];exact Iu _ hB) f;rw[ir,ih,qf Iu (Iu _ hB) m (by lia) (fun p hp e=>by have:=nh hs (p:=p) (q:=m) (by lia) (by lia) e;lia),U9 (fun e=>UD (by rw[<-e];exact hB)),Int.sub_zero,Wh]at h1;show sg n (fun j=>((Ky n low km B ns m).set (B.getD m 0) (-(ns.getD m 0))).getD j 0*f j)=km*f low + -(sg m (fun p=>ns.getD p 0*f (B.getD p 0))+ns.getD m 0*f (B.getD m 0));rw[h1];lia
theorem wQ(Iu:∀j∈B,j<n)(Mn:ns.length=B.length)(a b c d e f g:Option R)(t7 t8:Option R):∃u7 u8,eC (iZ 2 (aJ (ax 7) (aJ (ax 8) c9))) eY (((qD B).zip (ns.map D.int)).map fun z=>D.tup [z.1,z.2]) [a,b,c,d,e,f,fL ((Ky n low km B ns 0).map D.int),t7,t8,g]=.ok (.nx [a,b,c,d,e,f,fL ((Ky n low km B ns B.length).map D.int),u7,u8,g]):=by
 have hz:((qD B).zip (ns.map D.int)).map (fun z=>D.tup [z.1,z.2])=(B.zip ns).map fun z=>D.tup [.int (z.1:Int),.int z.2]:=by
  unfold qD;rw[aay,Vm];rfl
 rw[hz];have hzl:(B.zip ns).length=B.length:=by rw[Wv];lia
 obtain⟨env',ef,u7,u8,rfl⟩:=for_list (a:=iZ 2 (aJ (ax 7) (aJ (ax 8) c9))) (g:=eY) (e:=fun z:Nat×Int=>D.tup [.int (z.1:Int),.int z.2]) (B.zip ns) (fun k env=>∃u7 u8,env=[a,b,c,d,e,f,fL ((Ky n low km B ns k).map D.int),u7,u8,g]) (by
  rintro k x env hx ⟨u7,u8,rfl⟩;obtain⟨hk,ex⟩:=y0 hx;have UE:k<B.length:=by lia
  have hkn:k<ns.length:=by lia
  have e1:B.getD k 0=x.1:=by rw[<-ex,X9,UQ,iV UE];rfl
  have e2:ns.getD k 0=x.2:=by rw[<-ex,X9,bT ns k 0 hkn]
  have e3:=Eb (Ky n low km B ns k) x.1 (by rw[ir,<-e1];exact Iu _ (iY UE));have e4:((Ky n low km B ns k).map D.int).set x.1 (.int (-x.2))=(Ky n low km B ns (k+1)).map D.int:=by
   rw[<-List.map_set,<-e1,<-e2];rfl
  refine⟨[a,b,c,d,e,f,fL ((Ky n low km B ns k).map D.int),fI (x.1:Int),fI x.2,g],rfl,[a,b,c,d,e,f,fL (((Ky n low km B ns (k+1)).map D.int)),fI (x.1:Int),fI x.2,g],?_,_,_,rfl⟩;rw[<-e4];unfold eY;generalize (Ky n low km B ns k).map D.int=UU at e3 ⊢;simp only[pv,seval,op,e3]) _ ⟨t7,t8,rfl⟩
 rw[hzl]at ef;exact⟨u7,u8,ef⟩
theorem rW(N:List Int)(h:∀q∈B,q<N.length):cH (ax 0) (Iz (aG LO (ao (aG IK (aj 1) (aj 0))) (ao (aE (.int 0))))) (aK 0) (qD B) [none,fq (.lst (N.map D.int))]=.ok (qD (B.filter fun q=>decide (N.getD q 0<0))):=by
 refine fS (p:=fun q:Nat=>decide (N.getD q 0<0)) (fun env=>∃t,env=[t,fq (.lst (N.map D.int))]) B ?_ _ ⟨none,rfl⟩;rintro q hq env ⟨t,rfl⟩;have JS:=lI (l:=N) (h q hq);refine⟨[fI (q:Int),fq (.lst (N.map D.int))],rfl,[fI (q:Int),fq (.lst (N.map D.int))],?_,?_⟩
 ·generalize N.map D.int=NL at JS ⊢;simp only[pv,seval,op,JS]
 ·cases decide (N.getD q 0<0) with
  |true=>exact⟨.f,[fI (q:Int),fq (.lst (N.map D.int))],rfl,_,rfl⟩
  |false=>exact⟨_,rfl⟩
theorem yv(t:Nat)(more:List Nat):cH (ax 0) (Iz (aV K1 (aj 0) (ao (aG IK (aj 1) (ao (aE (.int 0))))))) (aK 0) (qD B) [none,fq (.lst (qD (t::more)))]=.ok (qD (B.filter fun q=>!decide (q=t))):=by
 refine fS (p:=fun q:Nat=>!decide (q=t)) (fun env=>∃u,env=[u,fq (.lst (qD (t::more)))]) B ?_ _ ⟨none,rfl⟩;rintro q hq env ⟨u,rfl⟩;have JS:Kz (qD (t::more)) (0:Int)=some (.int (t:Int)):=hW (j:=0) rfl;have hb:(!((q:Int)==(t:Int))) = !decide (q=t):=by
  congr 1
  rw[VQ,VD,YA];lia
 refine⟨[fI (q:Int),fq (.lst (qD (t::more)))],rfl,[fI (q:Int),fq (.lst (qD (t::more)))],?_,?_⟩
 ·generalize qD (t::more)=NL at JS ⊢;simp only[pv,seval,op,JS,hb]
 ·cases decide (q=t) with
  |true=>exact⟨_,rfl⟩
  |false=>exact⟨.f,[fI (q:Int),fq (.lst (qD (t::more)))],rfl,_,rfl⟩
end
section
theorem Bp:dt rows w i (Vc (lv.take w))=dt rows w i (Vc lv):=by
 unfold dt;refine ay fun k hk=>?_
 have:(lv.take w).getD k 0=lv.getD k 0:=by
  rw[UQ,XZ,U2 hk,UQ]
 show _*(lv.take w).getD k 0=_;rw[this]
theorem rX:∀{l:List Nat}{t:Nat},l.Pairwise (·< ·)->t∈l->(l.filter fun q=>!decide (q=t)).length+1=l.length
 |[],_,_,h=>nomatch h
 |a::l,t,hs,h=>by
  rw[WO]at hs;by_cases e:a=t
  ·rw[WS (by rw[e];simp),List.filter_eq_self.mpr fun x hx=>by
    have:=hs.1 x hx;rw[VG (by lia)];rfl]
   rfl
  ·rw[WR (by rw[VG e];rfl),Vb,Vb,rX hs.2 ((U6.mp h).resolve_left fun z=>e z.symm)]
theorem nG{p:Nat->Bool}:∀{l:List Nat}{t:Nat}{more:List Nat},l.Pairwise (·< ·)->l.filter p=t::more->t∈l/\p t=true/\∀j∈l,j<t->p j=false
 |[],_,_,_,h=>nomatch h
 |a::l,t,more,hs,h=>by
  rw[WO]at hs;cases hp:p a with
  |true=>
   rw[WR hp]at h;injection h with h1 h2;refine⟨by rw[h1];exact UY,by rw[<-h1];exact hp,fun j hj Iu=>?_⟩;rcases U6.mp hj with e|e
   ·lia
   ·have:=hs.1 j e;lia
  |false=>
   rw[WS (by rw[hp];exact U7)]at h;obtain⟨h1,h2,h3⟩:=nG hs.2 h;refine⟨U3 _ h1,h2,fun j hj Iu=>?_⟩;rcases U6.mp hj with e|e
   ·rw[e];exact hp
   ·exact h3 j e Iu
theorem F8(T:FS)(H:Rs rows w)(C:Ch rows w rows.length B)(Lp:cy [.lst ((sel rows B).map eR),.int (w:Int)]=.ok (.f,eR lv))(hi:i<rows.length)(NQ:bA [.lst (rows.map eR),eR lv]=.ok (.f,.int (i:Int)))(Mn:ns.length=B.length)(MZ:bR [.lst ((sel rows B).map eR),eR (rows.getD i [])]=.ok (.f,.tup [.str Ik,.int km,.lst (ns.map D.int)]))(t3 t4 t5 t6 t7 t8 t9:Option R):∃u7 u8 u9:Option R,∀T,df=T->
  cQ [fq (.lst (rows.map eR)),fI (w:Int),fL (qD B),t3,t4,t5,t6,t7,t8,t9]=T [fq (.lst (rows.map eR)),fI (w:Int),fq (.lst (qD B)),fq (eR lv),fI (i:Int),fq (.tup [.str Ik,.int km,.lst (ns.map D.int)]),fL ((Ky rows.length i km B ns B.length).map D.int),u7,u8,u9]:=by
 have hw:=H.hw;have KH:=C.few H (UZ _);have K7:=ny rows B C.lt;have Ml:=gK rows B;have hsz:((sel rows B).map eR).length<=sizeLine:=line_le (by rw[bf];lia);have Rg:=eQ (sel rows B);have Sb:=cD lv;have JS:Kz (rows.map eR) (i:Int)=some (eR (rows.getD i [])):=hW (by rw[Vg,iV hi,bT rows i [] hi];rfl);have OU:gj [.lst (rows.map eR)]=.ok (.f,.int (rows.length:Int)):=by
  show Res.ok (O.f,D.int (((rows.map eR).length:Nat):Int))=_;rw[bf]
 have hl:=H.hl;have hm:=GD rows.length (by lia);have e3:ixN (((List.range rows.length).map fun _=>(0:Int)).map D.int).length (i:Int)=some i:=mY _ _ (by rw[bf,bf,Vi];exact hi);have ez:=rN rows.length i km;have QJ:=fun c d e f=>wQ (n:=rows.length) (low:=i) (km:=km) C.lt Mn (fq (.lst (rows.map eR))) (fI (w:Int)) c d e f (frz t9) (frz t7) (frz t8)
 have QJ:=QJ (fq (.lst (qD B))) (fq (eR lv)) (fI (i:Int)) (fq (.tup [.str Ik,.int km,.lst (ns.map D.int)]));obtain⟨u7,u8,N6⟩:=QJ;refine⟨u7,u8,frz t9,fun T hTT=>?_⟩;generalize hT:D.tup [.str Ik,.int km,.lst (ns.map D.int)]=TT at MZ N6;have fo:cR TT=false:=by
  rw[<-hT,d9];simp only[H0,cR,YC,XH]
 have i1:IK TT (.int 1)=.ok (.f,.int km):=by rw[<-hT];rfl
 have i2:IK TT (.int 2)=.ok (.f,.lst (ns.map D.int)):=by rw[<-hT];rfl
 clear hT;have Pf:N3 (.int (i:Int)) .non=.ok (.f,.bl false):=id rfl;have en0:Ky rows.length i km B ns 0=Mm rows.length i km:=rfl;rw[en0]at N6;generalize (Ky rows.length i km B ns B.length).map D.int=NN at N6 ⊢;generalize (sel rows B).map eR=SB at K7 hsz Rg Lp MZ;generalize rows.map eR=RR at K7 JS OU NQ N6 ⊢;generalize eR (rows.getD i [])=EC at JS MZ;generalize eR lv=EL at Lp Sb NQ N6 ⊢;generalize hCD:qD B=CD at K7 N6 ⊢;generalize hIX:(aG IK (aj 1) (aj 0))=IX at K7;unfold cQ;rw[hIX,hTT];rw[av (env':=[fq (.lst RR),fI (w:Int),fL CD,fq EL,t4,t5,t6,t7,t8,t9]) (by
  simp only[pv,seval,op,K7,hsz,Rg,Lp,Sb])]
 rw[av (env':=[fq (.lst RR),fI (w:Int),fL CD,fq EL,fI (i:Int),t5,t6,t7,t8,t9]) (by
  simp only[pv,seval,op,NQ])]
 rw[av (env':=[fq (.lst RR),fI (w:Int),fL CD,fq EL,fI (i:Int),t5,t6,t7,t8,t9]) (by
  simp only[pv,seval,op,Pf,ik])]
 rw[av (env':=[fq (.lst RR),fI (w:Int),fq (.lst CD),fq EL,fI (i:Int),fq TT,frz t6,frz t7,frz t8,frz t9]) (by
  simp only[pv,seval,op,K7,hsz,Rg,JS,MZ,fo,gX,V6,DG,DH,ik])]
 rw[av (env':=[fq (.lst RR),fI (w:Int),fq (.lst CD),fq EL,fI (i:Int),fq TT,fL ((((List.range rows.length).map fun _=>(0:Int)).map D.int)),frz t7,frz t8,frz t9]) (by
  simp only[pv,seval,op,OU,hm])]
 rw[av (env':=[fq (.lst RR),fI (w:Int),fq (.lst CD),fq EL,fI (i:Int),fq TT,fL ((Mm rows.length i km).map D.int),frz t7,frz t8,frz t9]) (by
  rw[<-ez];generalize ((List.range rows.length).map fun _=>(0:Int)).map D.int=ZZ at e3 ⊢;simp only[pv,seval,op,i1,e3])]
 rw[av (env':=[fq (.lst RR),fI (w:Int),fq (.lst CD),fq EL,fI (i:Int),fq TT,fL NN,u7,u8,frz t9]) (by
  unfold oR;generalize eY=BB at N6 ⊢;generalize (Mm rows.length i km).map D.int=UU at N6 ⊢;generalize ns.map D.int=NG at N6 i2 ⊢;simp only[pv,seval,op,i2];exact N6)]
theorem Ei(a0 a1 a3 a5 u7 u8 u9:Option R)(i:Nat)(N:List Int)(h:∀q∈B,q<N.length)(hf:B.filter (fun q=>decide (N.getD q 0<0))=[]):df [a0,a1,fq (.lst (qD B)),a3,fI (i:Int),a5,fL (N.map D.int),u7,u8,u9]=.ok (.rt (.f,.tup [.str Ik,.lst (N.map D.int)])):=by
 have MW:=rW N h;rw[hf]at MW;have MW:cH (ax 0) (Iz (aG LO (ao (aG IK (aj 1) (aj 0))) (ao (aE (.int 0))))) (aK 0) (qD B) [none,fq (.lst (N.map D.int))]=.ok []:=MW;unfold df;generalize (Iz (aG LO (ao (aG IK (aj 1) (aj 0))) (ao (aE (.int 0)))))=CC at MW ⊢;have z0:0<=sizeLine:=VH _;have f0:H0 []=true:=rfl;have MD:((0:Nat):Int)=0:=rfl;have Sd:((0:Int)==0)=true:=rfl;have fnl:H0 (N.map D.int)=true:=HY N;generalize N.map D.int=NS at MW ⊢;generalize qD B=CD at MW ⊢;rw[av (env':=[a0,a1,fq (.lst CD),a3,fI (i:Int),a5,fL NS,u7,u8,fL []]) (by
  simp only[pv,seval,op,MW,z0,f0,V3])]
 rw[Jg];unfold Ik;simp only[pv,seval,op,V3,MD,Sd]
theorem F9(a0 a1 a3 a5 u7 u8 u9:Option R)(i:Nat)(hB:B.length<=20)(hs:B.Pairwise (·< ·))(Se:i∉B)(N:List Int)(h:∀q∈B,q<N.length){t:Nat}{more:List Nat}(hf:B.filter (fun q=>decide (N.getD q 0<0))=t::more):∃(C:List Nat) (v9:Option R),C.Pairwise (·< ·)/\(∀j,j∈C<->j=i\/(j∈B/\j≠t))/\C.length=B.length/\
  df [a0,a1,fq (.lst (qD B)),a3,fI (i:Int),a5,fL (N.map D.int),u7,u8,u9]=.ok (.nx [a0,a1,fL (qD C),a3,fI (i:Int),a5,fL (N.map D.int),u7,u8,v9]):=by
 have htB:t∈B:=(nG hs hf).1;have MW:=rW N h;have hml:=Xa (fun q=>decide (N.getD q 0<0)) B;rw[hf]at MW hml;have O0:=yv (B:=B) t more;have MJ:=rX hs htB;obtain⟨C,c1,c2,c3,c4⟩:=Bo (B.filter (fun q=>!decide (q=t))++[i]) (Vs.mpr ⟨(hs.filter _).imp fun h=>Vf h,Y1 _ _,fun a ha b hb e=>by
  rw[VC]at hb;exact Se (by rw[<-hb,<-e];exact(WL.mp ha).1)⟩) (by rw[rh,Vz];lia)
 have M9:i4 (.lst (qD (B.filter fun q=>!decide (q=t)))) (.lst [.int (i:Int)])=.ok (.l .f,.lst (qD (B.filter (fun q=>!decide (q=t))++[i]))):=by
  rw[vT,U2 (line_le (by rw[bf,Vz];lia))];unfold qD;rw[Vt];rfl
 refine⟨C,fL (qD (t::more)),c1,fun j=>?_,by rw[c3,rh,Vz];exact MJ,?_⟩
 ·rw[c2 j,Vp,VC,WL,YS,VJ];constructor
  ·rintro(h|h)
   ·exact .inr h
   ·exact .inl h
  ·rintro(h|h)
   ·exact .inr h
   ·exact .inl h
 ·unfold df;generalize (Iz (aG LO (ao (aG IK (aj 1) (aj 0))) (ao (aE (.int 0)))))=CC at MW ⊢;generalize (Iz (aV K1 (aj 0) (ao (aG IK (aj 1) (ao (aE (.int 0)))))))=CO at O0 ⊢;have TN:∀l:List Nat,H0 (qD l)=true:=fun l=>by
   rw[cO,Xw,VA];exact fun _ _=>rfl
  have z1:(qD (t::more)).length<=sizeLine:=line_le (by rw[bf];lia);have z2:(qD (B.filter fun q=>!decide (q=t))).length<=sizeLine:=line_le (by rw[bf];lia);have f1:=TN (t::more);have f2:=TN (B.filter fun q=>!decide (q=t));have f3:=TN C;have MD:gj [.lst (qD (t::more))]=.ok (.f,.int ((more.length+1:Nat):Int)):=by
   show Res.ok (O.f,D.int (((qD (t::more)).length:Nat):Int))=_;rw[bf,Vb]
  have JH:(((more.length+1:Nat):Int)==0)=false:=Vn.mpr (by lia);generalize ((more.length+1:Nat):Int)=ML at MD JH;generalize N.map D.int=NS at MW ⊢;generalize qD B=CD at MW O0 ⊢;generalize qD (t::more)=TM at MW O0 z1 f1 MD ⊢;generalize qD (B.filter fun q=>!decide (q=t))=BF at O0 z2 f2 M9;generalize qD (B.filter (fun q=>!decide (q=t))++[i])=BI at M9 c4;generalize qD C=QC at c4 f3 ⊢;rw[av (env':=[a0,a1,fq (.lst CD),a3,fI (i:Int),a5,fL NS,u7,u8,fL TM]) (by
   simp only[pv,seval,op,MW,z1,f1])]
  rw[av (env':=[a0,a1,fq (.lst CD),a3,fI (i:Int),a5,fL NS,u7,u8,fL TM]) (by
   simp only[pv,seval,op,MD,JH,ik])]
  simp only[pv,seval,op,O0,z2,f2,M9,c4,f3]
end
inductive Vd(rows:List (List Int))(w:Nat):D->Prop
 |row:∀r:List Int,r.length=w->Bg 8821 r->(∀j,j<rows.length->1<=dt rows w j (Vc r))->Vd rows w (.tup [.str Il,eR r])
 |sum:∀N:List Int,N.length=rows.length->Bg 8821 N->(∀j,j<rows.length->0<=N.getD j 0)->(∃j,j<rows.length/\0<N.getD j 0)->(∀k,k<w->sg rows.length (fun j=>N.getD j 0*(rows.getD j []).getD k 0)=0)->Vd rows w (.tup [.str Ik,.lst (N.map D.int)])
section
theorem Ej(H:Rs rows w)(C:Ch rows w rows.length B)(OT:lv.length=w+1)(Lp:cy [.lst ((sel rows B).map eR),.int (w:Int)]=.ok (.f,eR lv))(NQ:bA [.lst (rows.map eR),eR lv]=.ok (.f,.non))(t3 t4 t5 t6 t7 t8 t9:Option R):
  cQ [fq (.lst (rows.map eR)),fI (w:Int),fL (qD B),t3,t4,t5,t6,t7,t8,t9]=.ok (.rt (.f,.tup [.str Il,eR (lv.take w)])):=by
 have hw:=H.hw;have KH:=C.few H (UZ _);have K7:=ny rows B C.lt;have Ml:=gK rows B;have hsz:((sel rows B).map eR).length<=sizeLine:=line_le (by rw[bf];lia);have Rg:=eQ (sel rows B);have Sb:=cD lv;have Pf:N3 .non .non=.ok (.f,.bl true):=id rfl;have Me:kQ (lv.map D.int) none (some (-1))=(lv.take w).map D.int:=by
  rw[mZ,nq,OT];rfl
 generalize (sel rows B).map eR=SB at K7 hsz Rg Lp;generalize rows.map eR=RR at K7 NQ ⊢;generalize hCD:qD B=CD at K7 ⊢;generalize hIX:(aG IK (aj 1) (aj 0))=IX at K7;unfold cQ;rw[hIX];rw[av (env':=[fq (.lst RR),fI (w:Int),fL CD,fq (eR lv),t4,t5,t6,t7,t8,t9]) (by
  generalize eR lv=EL at Lp Sb ⊢;simp only[pv,seval,op,K7,hsz,Rg,Lp,Sb])]
 rw[av (env':=[fq (.lst RR),fI (w:Int),fL CD,fq (eR lv),fq .non,t5,t6,t7,t8,t9]) (by
  generalize eR lv=EL at NQ ⊢;have fn:cR .non=true:=rfl;simp only[pv,seval,op,NQ,fn])]
 rw[Jg];unfold Il;rw[show eR (lv.take w)=.tup ((lv.take w).map D.int) from rfl,show eR lv=.tup (lv.map D.int) from rfl];simp only[pv,seval,op,Pf,Me]
theorem Bq(H:Rs rows w)(C:Ch rows w rows.length B)(t3 t4 t5 t6 t7 t8 t9:Option R):
  (∃d,Vd rows w d/\cQ [fq (.lst (rows.map eR)),fI (w:Int),fL (qD B),t3,t4,t5,t6,t7,t8,t9]=.ok (.rt (.f,d)))\/
  (∃(B2:List Nat) (l t:Nat),Ch rows w rows.length B2/\(∃x s c a,Mv rows w B l t x s c a)/\(∀j,j∈B2<->j=l\/(j∈B/\j≠t))/\l<rows.length/\t<rows.length/\∃u3 u4 u5 u6 u7 u8 u9:Option R,cQ [fq (.lst (rows.map eR)),fI (w:Int),fL (qD B),t3,t4,t5,t6,t7,t8,t9]=.ok (.nx [fq (.lst (rows.map eR)),fI (w:Int),fL (qD B2),u3,u4,u5,u6,u7,u8,u9])):=by
 obtain⟨K,k1,k2,k3,k4,Lp⟩:=Bm H C;have hw:=H.hw;have KH:=C.few H (UZ _);rcases nF H k1 k2 with⟨i,hi,Iu,hfst,NQ⟩|⟨M0,NQ⟩
 ·have Ml:=gK rows B;have Nf:=H.ok _ (aY (d:=[]) hi);have Se:i∉B:=fun hm=>by
   obtain⟨p,hp,e⟩:=mem_at hm;have:=k4 p hp;rw[e]at this;lia
  rcases zi (rows:=sel rows B) hw (by lia) (rS H C.lt) Nf.1 Nf.2 with⟨km,ns,s1,s2,s3,s4,s5,hs⟩|⟨_,_,_,_,_,o5,_⟩
  ·rw[Ml]at s3 s5;have Na:∀k,k<w->km*(rows.getD i []).getD k 0=sg B.length fun p=>ns.getD p 0*(rows.getD (B.getD p 0) []).getD k 0:=fun k hk=>by
    rw[VM,<-s5 k hk];exact ay fun p hp=>by rw[wB rows hp,VM]
   obtain⟨u7,u8,u9,QK⟩:=F8 df H C Lp hi NQ s3 hs t3 t4 t5 t6 t7 t8 t9;have QK:=QK _ rfl;have TQ:=ir (n:=rows.length) (low:=i) (km:=km) (B:=B) (ns:=ns) B.length;have OV:∀p,p<B.length->(Ky rows.length i km B ns B.length).getD (B.getD p 0) 0 = -(ns.getD p 0):=fun p hp=>zk C.srt C.lt B.length (UZ _) hp
   have NR:∀j,j<rows.length->j∉B->(Ky rows.length i km B ns B.length).getD j 0=if j=i then km else 0:=fun j hj hn=>qf C.lt hj B.length (UZ _) fun p hp e=>hn (by rw[<-e];exact iY hp)
   have UG:=wN (n:=rows.length) (low:=i) (B:=B) s2 s4 B.length;have UH:=fun k=>wO (km:=km) (ns:=ns) C.srt C.lt hi Se (fun j=>(rows.getD j []).getD k 0) B.length (UZ _)
   generalize Ky rows.length i km B ns B.length=N at QK TQ OV NR UG UH;have UI:∀q∈B,q<N.length:=fun q hq=>by rw[TQ];exact C.lt q hq
   cases hf:B.filter fun q=>decide (N.getD q 0<0) with
   |nil=>
    left;refine⟨_,.sum N TQ UG (fun j hj=>?_) ⟨i,hi,by rw[NR i hi Se,U2 rfl];lia⟩ (fun k hk=>?_),QK.trans (Ei _ _ _ _ _ _ _ i N UI hf)⟩
    ·by_cases hm:j∈B
     ·have:=Xo.mp hf j hm;rw[YA]at this;lia
     ·rw[NR j hj hm];split <;> lia
    ·rw[UH k,Na k hk];lia
   |cons t more=>
    right;obtain⟨f1,f2,f3⟩:=nG C.srt hf;rw[YA]at f2;obtain⟨B2,v9,c1,c2,c3,hgo⟩:=F9 (fq (.lst (rows.map eR))) (fI (w:Int)) (fq (eR K)) (fq (.tup [.str Ik,.int km,.lst (ns.map D.int)])) u7 u8 u9 i (by lia) C.srt Se N UI hf;obtain⟨q,hq,eq⟩:=mem_at f1;have hnq:=OV q hq;rw[eq]at hnq;refine⟨B2,i,t,C.swap hi hq Na (by lia) c1 (fun j=>by rw[eq];exact c2 j) c3,⟨Vc K,K.getD w 0,km,fun p=>ns.getD p 0,k3,k4,Iu,hfst,s1,Na,fun p hp TR=>?_,fun p hp TR=>?_,f1⟩,c2,hi,C.lt t f1,_,_,_,_,_,_,_,QK.trans hgo⟩
    ·have h1:=f3 _ (iY hp) TR;rw[VJ,OV p hp]at h1;show ns.getD p 0<=0;lia
    ·have h1:=OV p hp;rw[TR]at h1;show 0<ns.getD p 0;lia
  ·rw[Ml]at o5;exact absurd (C.spn i hi) o5
 ·left;refine⟨_,.row (K.take w) (by rw[VE];lia) (fun x hx=>k2 x (XF hx)) (fun j hj=>?_),Ej H C k1 Lp NQ _ _ _ _ _ _ _⟩;rw[Bp];have:=M0 j hj;lia
theorem zm(H:Rs rows w):∀(n:Nat) (B:List Nat) (t3 t4 t5 t6 t7 t8 t9:Option R),Ch rows w rows.length B->
  (∃d,Vd rows w d/\cP (Iz (aE (.bl true))) cQ n [fq (.lst (rows.map eR)),fI (w:Int),fL (qD B),t3,t4,t5,t6,t7,t8,t9]=.ok (.rt (.f,d)))\/
  (∃σ lo le,σ 0=B/\Wk rows w n σ lo le/\∀i,i<n->lo i<rows.length/\le i<rows.length)
 | 0,B,_,_,_,_,_,_,_,_=>.inr ⟨fun _=>B,fun _=>0,fun _=>0,rfl,⟨fun i h=>absurd h (Vj i),fun i h=>absurd h (Vj i)⟩,fun i h=>absurd h (Vj i)⟩
 |n+1,B,t3,t4,t5,t6,t7,t8,t9,C=>by
  have hc:(Iz (aE (.bl true))) [fq (.lst (rows.map eR)),fI (w:Int),fL (qD B),t3,t4,t5,t6,t7,t8,t9]=.ok (true,[fq (.lst (rows.map eR)),fI (w:Int),fL (qD B),t3,t4,t5,t6,t7,t8,t9]):=rfl;rcases Bq H C t3 t4 t5 t6 t7 t8 t9 with⟨d,v,e⟩|⟨B2,l,t,C2,M,hm,hl,ht,u3,u4,u5,u6,u7,u8,u9,e⟩
  ·left;refine⟨d,v,?_⟩;rw[gT,hc,Jl];dsimp only;rw[U2 rfl,e,Jl]
  ·rcases zm H n B2 u3 u4 u5 u6 u7 u8 u9 C2 with⟨d,v,e2⟩|⟨σ,lo,le,h0,W,hb⟩
   ·left;refine⟨d,v,?_⟩;rw[gT,hc,Jl];dsimp only;rw[U2 rfl,e,Jl];exact e2
   ·right;refine⟨fun i=>match i with | 0=>B|i+1=>σ i,fun i=>match i with | 0=>l|i+1=>lo i,fun i=>match i with | 0=>t|i+1=>le i,rfl,⟨fun i hi=>?_,fun i hi j=>?_⟩,fun i hi=>?_⟩
    ·cases i with
     |zero=>exact M
     |succ i=>exact W.mv i (by lia)
    ·cases i with
     |zero=>
      show j∈σ 0<->_;rw[h0];exact hm j
     |succ i=>exact W.nx i (by lia) j
    ·cases i with
     |zero=>exact⟨hl,ht⟩
     |succ i=>exact hb i (by lia)
theorem Br(H:Rs rows w):∃d,Vd rows w d/\fF [.lst (rows.map eR),.int (w:Int)]=.ok (.f,d):=by
 obtain⟨B,C,MI⟩:=nE H;have MJ:H0 (qD B)=true:=by
  rw[cO,Xw,VA];exact fun _ _=>rfl
 rcases zm H 100000 B none none none none none none none C with⟨d,v,e⟩|⟨σ,lo,le,_,W,hb⟩
 ·refine⟨d,v,?_⟩;unfold fF vJ;rw[bC (h:=by rfl)];rw[av (env':=[fq (.lst (rows.map eR)),fI (w:Int),fL (qD B),none,none,none,none,none,none,none]) (by
   generalize rows.map eR=RR at MI ⊢;generalize qD B=CD at MI MJ ⊢;simp only[pv,seval,op,MI,MJ])]
  unfold oS;rw[e];rfl
 ·exfalso;have h:=W.short rows.length 0 100000 (VH _) (UZ _) fun i _ hi=>hb i hi
  have h2:2 ^ rows.length<=2 ^ 12:=WQ (by decide) H.hl;have h3:(2:Nat) ^ 12=4096:=rfl;lia
end
theorem p_whole(x:Int):m__law_whole [.int x]=.ok (.f,.bl true):=by
 have h1:sQ "int" (.int x)=true:=rfl;have h2:sQ "bool" (.int x)=false:=rfl;unfold m__law_whole jy;rw[bC (h:=by rfl)];simp only[pv,seval,op,h1,h2,Bool.not_false]
theorem lM(l:List Int):cH (ax 0) dX (dv m__law_whole (af (aj 0) aw)) (l.map D.int) [none]=.ok ((l.map fun _=>true).map D.bl):=by
 rw[c7 (r:=fun _:Int=>D.bl true) (fun env=>∃t,env=[t]) l ?_ _ ⟨none,rfl⟩]
 ·rw[Vm];rfl
 ·rintro x _ env ⟨t,rfl⟩;have h:=p_whole x;exact⟨[fI x],rfl,.f,[fI x],by simp only[pv,seval,op,h],_,rfl⟩
theorem zo(l:List Int):oF (.bl false) (.lst ((l.map fun _=>true).map D.bl))=.ok (.f,.bl true):=by
 have hp:plainDs 40 ((l.map fun _=>true).map D.bl)=true:=by
  induction l with
  |nil=>rfl
  |cons a l ih=>rw[gX,gX,plainDs,ih];rfl
 have e1:tF (.bl false) ((l.map fun _=>true).map D.bl)=false:=by
  unfold tF;rw[XO,XO,X3];intro x _;exact U7
 show Av (.bl false) (.lst ((l.map fun _=>true).map D.bl))=_;unfold Av Og;dsimp only;rw[hp,show plainD 40 (.bl false)=true from rfl,Vr,U2 rfl,e1];rfl
theorem zp(l:List Int)(h:l.length<=1000):((l.map fun _=>true).map D.bl).length<=sizeLine:=line_le (by rw[bf,bf];lia)
theorem KR(l:List Int):H0 ((l.map fun _=>true).map D.bl)=true:=by
 rw[cO,Xw,VA];exact fun _ _=>rfl
theorem yw(h:r.length=w)(hw:w<=1000):cB [eR r,.int (w:Int)]=.ok (.f,.bl true):=by
 have h1:sQ "tuple" (.tup (r.map D.int))=true:=rfl;have hc:=lM r;have hn:=zo r;have hz:=zp r (by lia);have hf:=KR r;have hq:((w:Int)==(w:Int))=true:=V0 _;unfold cB iQ;rw[bC (h:=by rfl)];unfold eR;rw[av (env':=[fq (.tup (r.map D.int)),fI (w:Int)]) (by
  simp only[pv,seval,op,h1,bf,h,hq,Yh,ik])]
 generalize (dv m__law_whole (af (aj 0) aw))=FW at hc ⊢;generalize ((r.map fun _=>true).map D.bl)=BL at hc hn hz hf;simp only[pv,seval,op,hc,hn,hz,hf]
theorem Ga(h:l.length=n)(hn0:n<=1000):aX [.lst (l.map D.int),.int (n:Int)]=.ok (.f,.bl true):=by
 have h1:sQ "list" (.lst (l.map D.int))=true:=rfl;have hc:=lM l;have hn:=zo l;have hz:=zp l (by lia);have hf:=KR l;have hq:((n:Int)==(n:Int))=true:=V0 _;unfold aX d8;rw[bC (h:=by rfl)];rw[av (env':=[fq (.lst (l.map D.int)),fI (n:Int)]) (by
  simp only[pv,seval,op,h1,bf,h,hq,Yh,ik])]
 generalize (dv m__law_whole (af (aj 0) aw))=FW at hc ⊢;generalize ((l.map fun _=>true).map D.bl)=BL at hc hn hz hf;simp only[pv,seval,op,hc,hn,hz,hf]
theorem rep_int(n:Nat):(List.replicate n [D.int 0]).flatten=(List.replicate n (0:Int)).map D.int:=by
 induction n with
 |zero=>rfl
 |succ n ih=>rw[We,WW,ih,We];rfl
theorem Bs(n:Nat)(h:n<1000):vo (.tup [.int 0]) (.int (n:Int))=.ok (.f,.tup ((List.replicate n (0:Int)).map D.int)):=by
 rw[DF,U2 ⟨by simp,by show 1<=10;decide,by lia,by lia⟩,VV,rep_int]
theorem HD(a b:List Int)(h:a=b):Ja (eR a) (eR b)=.ok (.f,.bl true):=by
 subst h;unfold Ja eR;rw[plainD,cb,Ia,iT];simp
theorem Bt(h:ns.length=rows.length)(k:Nat):co rows ns rows.length k=sg rows.length fun j=>(rows.getD j []).getD k 0*ns.getD j 0:=by
 have key:∀n,n<=rows.length->co rows ns n k=sg n fun j=>(rows.getD j []).getD k 0*ns.getD j 0:=fun n=>by
  induction n with
  |zero=>intro _;rfl
  |succ n ih=>
   intro hn;have:=vZ rows ns n k (by lia) (by lia);show co rows ns (n+1) k=sg n _+(rows.getD n []).getD k 0*ns.getD n 0;rw[<-ih (by lia),bT rows n [] (by lia),bT ns n 0 (by lia)];exact this
 exact key rows.length (UZ _)
theorem Ek:Ja (.lst []) (.lst [])=.ok (.f,.bl true):=rfl
variable{N:List Int}
theorem yx(h:∀x∈N,0<=x):cH (ax 0) (Iz (aG LO (aj 0) (ao (aE (.int 0))))) (aK 0) (N.map D.int) [none]=.ok []:=by
 have hh:=fS (a:=ax 0) (c:=Iz (aG LO (aj 0) (ao (aE (.int 0))))) (f:=aK 0) (p:=fun _:Int=>false) (r:=D.int) (e:=D.int) (fun env=>∃t,env=[t]) N (by
  rintro x hx env ⟨t,rfl⟩;have Iu:decide (x<0)=false:=VG (by have:=h x hx;lia);exact⟨[fI x],rfl,[fI x],by simp only[pv,seval,op,Iu],_,rfl⟩) [none] ⟨none,rfl⟩
 rw[hh,Xo.mpr fun _ _=>U7];rfl
theorem yy(N:List Int):cH (ax 0) (Iz (aG Of (aj 0) (ao (aE (.int 0))))) (aK 0) (N.map D.int) [none]=.ok ((N.filter fun x=>decide (0<x)).map D.int):=by
 refine fS (p:=fun x:Int=>decide (0<x)) (fun env=>∃t,env=[t]) N ?_ _ ⟨none,rfl⟩;rintro x hx env ⟨t,rfl⟩;refine⟨[fI x],rfl,[fI x],by simp only[pv,seval,op],?_⟩;cases decide (0<x) with
 |true=>exact⟨.f,[fI x],rfl,_,rfl⟩
 |false=>exact⟨_,rfl⟩
section
theorem Gb(H:Rs rows w)(Mn:N.length=rows.length)(Md:Bg 8821 N)(h0:∀j,j<rows.length->0<=N.getD j 0)(h1:∃j,j<rows.length/\0<N.getD j 0)(hs:∀k,k<w->sg rows.length (fun j=>N.getD j 0*(rows.getD j []).getD k 0)=0):
  bB [.tup [.str Ik,.lst (N.map D.int)],.lst (rows.map eR),.int (w:Int)]=.ok (.f,.str Ik):=by
 have hw:=H.hw;have hl:=H.hl;have UJ:sQ "tuple" (.tup [.str Ik,.lst (N.map D.int)])=true:=rfl;obtain⟨n3,h3,q3⟩:∃n:Int,gj [.tup [.str Ik,.lst (N.map D.int)]]=.ok (.f,.int n)/\(n==2)=true:=⟨2,rfl,rfl⟩
 have i0:IK (.tup [.str Ik,.lst (N.map D.int)]) (.int 0)=.ok (.f,.str Ik):=rfl;have i1:IK (.tup [.str Ik,.lst (N.map D.int)]) (.int 1)=.ok (.f,.lst (N.map D.int)):=rfl;have q0:(Ik==[115,117,109])=true:=rfl;have q1:(Ik==[114,111,119])=false:=rfl;have Q0:=Ga (l:=N) (n:=rows.length) Mn (by lia);have OU:gj [.lst (rows.map eR)]=.ok (.f,.int (rows.length:Int)):=by
  show Res.ok (O.f,D.int (((rows.map eR).length:Nat):Int))=_;rw[bf]
 have s1:=rq (n:=175) (m:=8821) (by decide) (by decide) w (by lia) rows N H.ok Md (by lia) Mn.symm;have s2:=Bs w (by lia);have he:=HD ((List.range w).map (co rows N rows.length)) (List.replicate w 0) (by
  apply Y5
  ·rw[bf,Vi,Wq]
  ·intro k k1 k2;rw[Wq]at k2;rw[Xk,Xq,Zh,Bt Mn];exact aaN (ay fun j _=>VM _ _) (hs k k2))
 have he:Ja (eR ((List.range w).map (co rows N rows.length))) (.tup ((List.replicate w (0:Int)).map D.int))=.ok (.f,.bl true):=he;have f1:=cD ((List.range w).map (co rows N rows.length));have QD:=yx (N:=N) fun x hx=>by
  obtain⟨j,hj,e⟩:=VT hx;have:=h0 j (by lia);rw[bT N j 0 hj,e]at this;exact this
 have QA:=yy N;have JH:K1 (.lst ((N.filter fun x=>decide (0<x)).map D.int)) (.lst [])=.ok (.f,.bl true):=by
  obtain⟨j,j1,j2⟩:=h1;have hm:N.getD j 0∈N.filter fun x=>decide (0<x):=WL.mpr ⟨aY (by lia),VL j2⟩
  cases hF:N.filter fun x=>decide (0<x) with
  |nil=>rw[hF]at hm;cases hm
  |cons a l=>
   have e:plainD 40 (.lst ((a::l).map D.int))=true:=by rw[plainD,cb]
   unfold K1;rw[e];rfl
 have UK:((N.filter fun x=>decide (0<x)).map D.int).length<=sizeLine:=line_le (by
  rw[bf];have:=Xa (fun x=>decide (0<x)) N;lia)
 have UL:=HY (N.filter fun x=>decide (0<x));have Sd:=Ek;have z0:0<=sizeLine:=VH _;have f0:H0 []=true:=rfl;unfold bB fH;rw[bC (h:=by rfl)];generalize hT:D.tup [.str Ik,.lst (N.map D.int)]=TT at UJ h3 i0 i1 ⊢;clear hT;generalize eR ((List.range w).map (co rows N rows.length))=E1 at s1 he f1;generalize D.tup ((List.replicate w (0:Int)).map D.int)=E2 at s2 he;generalize rows.map eR=RR at OU s1 ⊢;generalize (N.filter fun x=>decide (0<x)).map D.int=PN at QA JH UK UL;generalize N.map D.int=NN at i1 Q0 s1 QD QA;rw[av (env':=[fq TT,fq (.lst RR),fI (w:Int)]) (by
  simp only[pv,seval,op,UJ,h3,q3,Yh,ik])]
 rw[av (env':=[fq TT,fq (.lst RR),fI (w:Int)]) (by
  simp only[pv,seval,op,i0,q1,ik])]
 rw[Jg];generalize (Iz (aG LO (aj 0) (ao (aE (.int 0)))))=C1 at QD ⊢;generalize (Iz (aG Of (aj 0) (ao (aE (.int 0)))))=C2 at QA ⊢;have har2:aX [.lst NN,.int (rows.length:Int)]=.ok (.f,.bl true):=Q0;simp only[pv,seval,op,i0,i1,q0,OU,har2,QD,QA,z0,f0,UK,UL,Sd,JH,s1,s2,he,f1,V3];rfl
theorem Gd(H:Rs rows w)(ho:o.length=w)(PM:Bg 8821 o)(h0:∀j,j<rows.length->1<=dt rows w j (Vc o)):
  bB [.tup [.str Il,eR o],.lst (rows.map eR),.int (w:Int)]=.ok (.f,.str Il):=by
 have hw:=H.hw;have h1:sQ "tuple" (.tup [.str Il,eR o])=true:=rfl;obtain⟨n3,h3,q3⟩:∃n:Int,gj [.tup [.str Il,eR o]]=.ok (.f,.int n)/\(n==2)=true:=⟨2,rfl,rfl⟩
 have i0:IK (.tup [.str Il,eR o]) (.int 0)=.ok (.f,.str Il):=rfl;have i1:IK (.tup [.str Il,eR o]) (.int 1)=.ok (.f,eR o):=rfl;have q1:(Il==[114,111,119])=true:=rfl;have UM:=yw ho (by lia);have Sd:=Ek;have NT:cH (ax 0) (Iz (aG LO (ao (dv aS (af (aj 0) (af (ao (aG IK (aj 1) (ao (aE (.int 1))))) aw)))) (ao (aE (.int 1))))) (aK 0) (rows.map eR) [none,fq (.tup [.str Il,eR o])]=.ok []:=by
  generalize hT:D.tup [.str Il,eR o]=TT at i1 ⊢;clear hT;have h:=fS (a:=ax 0) (c:=(Iz (aG LO (ao (dv aS (af (aj 0) (af (ao (aG IK (aj 1) (ao (aE (.int 1))))) aw)))) (ao (aE (.int 1)))))) (f:=aK 0) (p:=fun _:List Int=>false) (r:=eR) (e:=eR) (fun env=>∃t,env=[t,fq TT]) rows (by
   rintro x hx env ⟨t,rfl⟩;obtain⟨j,hj,e⟩:=VT hx;have Sf:=H.ok x hx;have hp:=lJ (n:=175) (m:=8821) (by decide) (by decide) x o Sf.2 PM (by rw[Sf.1];lia) (by rw[Sf.1,ho]);have hd:dot x o=dt rows w j (Vc o):=by
    rw[dot_sg (by rw[Sf.1,ho]),Sf.1];unfold dt;rw[bT rows j [] hj,e]
   have e0:decide (dot x o<1)=false:=VG (by have:=h0 j hj;lia);refine⟨[fq (eR x),fq TT],rfl,[fq (eR x),fq TT],?_,_,rfl⟩;generalize eR x=EX at hp ⊢;generalize eR o=EO at hp i1;generalize dot x o=DT at hp e0;simp only[pv,seval,op,i1,hp,e0]) [none,fq TT] ⟨none,rfl⟩
  rw[h,Xo.mpr fun _ _=>U7];rfl
 unfold bB fH;rw[bC (h:=by rfl)];generalize hT:D.tup [.str Il,eR o]=TT at h1 h3 i0 i1 NT ⊢;clear hT;generalize eR o=EO at i1 UM;generalize rows.map eR=RR at NT ⊢;rw[av (env':=[fq TT,fq (.lst RR),fI (w:Int)]) (by
  simp only[pv,seval,op,h1,h3,q3,Yh,ik])]
 rw[Jg];generalize (Iz (aG LO (ao (dv aS (af (aj 0) (af (ao (aG IK (aj 1) (ao (aE (.int 1))))) aw)))) (ao (aE (.int 1)))))=CC at NT ⊢;have z0:0<=sizeLine:=VH _;have f0:H0 []=true:=rfl;simp only[pv,seval,op,i0,i1,q1,UM,NT,z0,f0,Sd,V3];rfl
end
theorem plain_rows(n:Nat)(rows:List (List Int)):plainDs (n+1) (rows.map eR)=true:=by
 induction rows with
 |nil=>rfl
 |cons r rows ih=>rw[gX,plainDs,ih];show(plainD (n+1) (.tup _)&&true)=true;rw[plainD,cb];rfl
theorem Bu(rows:List (List Int)):Ja (.lst (rows.map eR)) (.lst (rows.map eR))=.ok (.f,.bl true):=kI _ (by rw[plainD];exact plain_rows _ _)
theorem Bv(o:List Int):Ja (.tup [.str Il,eR o]) (.tup [.str Il,eR o])=.ok (.f,.bl true):=kI _ (by
 unfold eR;simp only[plainD,plainDs,cb,Vr])
theorem Bw(o:List Int):Ja (.tup [.str Ik,.lst (o.map D.int)]) (.tup [.str Ik,.lst (o.map D.int)])=.ok (.f,.bl true):=kI _ (by
 simp only[plainD,plainDs,cb,Vr])
theorem wR{s:List Nat}{KU:Tt}(h:s∈KU):oF (.str s) (.lst (KU.map D.str))=.ok (.f,.bl false):=by
 have hp:plainDs 40 (KU.map D.str)=true:=by
  clear h;induction KU with
  |nil=>rfl
  |cons a l ih=>rw[gX,plainDs,ih];rfl
 have e1:tF (.str s) (KU.map D.str)=true:=by
  unfold tF;rw[XO,W6];refine⟨s,h,?_⟩;show Ia (.str s) (.str s)=true;simp[Ia]
 show Av (.str s) (.lst (KU.map D.str))=_;unfold Av Og;dsimp only;rw[hp,show plainD 40 (.str s)=true from rfl,Vr,U2 rfl,e1];rfl
def tagOk(rows:List (List Int))(w:Nat)(KU:Tt):Prop:=((∃r:List Int,r.length=w/\∀j,j<rows.length->1<=dt rows w j (Vc r))->Il∈KU)/\((∃N:List Int,(∀j,j<rows.length->0<=N.getD j 0)/\(∃j,j<rows.length/\0<N.getD j 0)/\∀k,k<w->sg rows.length (fun j=>N.getD j 0*(rows.getD j []).getD k 0)=0)->Ik∈KU)
section
theorem wU(S0:D)(DD:List D)(c y:Int)(KU:Tt)(H:Rs rows w)(hd:tagOk rows w KU)(t7 t8 t9 UN:Option R):
  ∃o,sSeq (bZ 9 (bH pN (af (aj 4) aw))) (sSeq (bZ 10 (dv fF (af (aj 9) (af (aj 2) aw)))) (sSeq (JD (Iz (aV oF (ao (dv bB (af (aj 10) (af (aj 4) (af (aj 2) aw))))) (aj 6))) (fC (aE (.bl false))) cE) (fC (CN (aV Ja (ao (dv fF (af (aj 9) (af (aj 2) aw)))) (aj 10)) (aV Ja (aj 9) (aj 4)))))) [fq S0,fL DD,fI (w:Int),fI c,fL (rows.map eR),fI y,fL (KU.map D.str),t7,t8,t9,UN]=.ok (.rt (o,.bl true)):=by
 have fr:=m5 rows;have q1:=Bu rows;refine⟨.f,?_⟩;rw[av (env':=[fq S0,fL DD,fI (w:Int),fI c,fL (rows.map eR),fI y,fL (KU.map D.str),t7,t8,fL (rows.map eR),UN]) (by
  generalize rows.map eR=RR at fr ⊢;simp only[pv,seval,op,fr])]
 obtain⟨d,v,ha⟩:=Br H;cases v with
 |row r r1 r2 r3=>
  have OW:=Gd H r1 r2 r3;have hn:=wR (hd.1 ⟨r,r1,r3⟩);have q2:=Bv r;have JI:cR (.tup [.str Il,eR r])=true:=by
   rw[d9];simp only[H0,cD,cR,Vr]
  generalize rows.map eR=RR at ha OW q1 ⊢;generalize D.tup [.str Il,eR r]=TT at ha OW q2 JI;generalize KU.map D.str=DU at hn ⊢;generalize Il=SS at OW hn;rw[av (env':=[fq S0,fL DD,fI (w:Int),fI c,fL RR,fI y,fL DU,t7,t8,fL RR,fq TT]) (by
   simp only[pv,seval,op,ha,JI])]
  rw[av (env':=[fq S0,fL DD,fI (w:Int),fI c,fL RR,fI y,fL DU,t7,t8,fL RR,fq TT]) (by
   simp only[pv,seval,op,OW,hn,ik])]
  simp only[pv,seval,op,ha,JI,q1,q2]
 |sum N n1 n2 n3 n4 n5=>
  have OW:=Gb H n1 n2 n3 n4 n5;have hn:=wR (hd.2 ⟨N,n3,n4,n5⟩);have q2:=Bw N;have JI:cR (.tup [.str Ik,.lst (N.map D.int)])=false:=by
   rw[d9];simp only[H0,cR,YC,XH]
  generalize rows.map eR=RR at ha OW q1 ⊢;generalize D.tup [.str Ik,.lst (N.map D.int)]=TT at ha OW q2 JI;generalize KU.map D.str=DU at hn ⊢;generalize Ik=SS at OW hn;rw[av (env':=[fq S0,fq (.lst DD),fI (w:Int),fI c,fq (.lst RR),fI y,fq (.lst DU),frz t7,frz t8,fq (.lst RR),fq TT]) (by
   simp only[pv,seval,op,ha,JI,gX,V6,DG,DH,ik])]
  rw[av (env':=[fq S0,fq (.lst DD),fI (w:Int),fI c,fq (.lst RR),fI y,fq (.lst DU),frz t7,frz t8,fq (.lst RR),fq TT]) (by
   simp only[pv,seval,op,OW,hn,ik])]
  simp only[pv,seval,op,ha,JI,q1,q2,gX,V6,DG,DH,ik]
end
variable{f:Nat->Int}
theorem sg_ge0(h:∀k,k<n->0<=f k):0<=sg n f:=by
 induction n with
 |zero=>exact ZT _
 |succ n ih=>
  have h1:=ih fun k hk=>h k (by lia)
  have h2:=h n (by lia);show 0<=sg n f+f n;lia
theorem zq(h:∀k,k<n->0<=f k)(hq:q<n)(Iu:0<f q):0<sg n f:=by
 induction n with
 |zero=>lia
 |succ n ih=>
  have h2:=h n (by lia);show 0<sg n f+f n;by_cases e:q=n
  ·subst e;have:=sg_ge0 (n:=q) (f:=f) fun k hk=>h k (by lia)
   lia
  ·have:=ih (fun k hk=>h k (by lia)) (by lia);lia
theorem HE{x:Nat->Int}(hx:∀j,j<rows.length->1<=dt rows w j x)(h0:∀j,j<rows.length->0<=N.getD j 0)(h1:∃j,j<rows.length/\0<N.getD j 0)(hs:∀k,k<w->sg rows.length (fun j=>N.getD j 0*(rows.getD j []).getD k 0)=0):False:=by
 obtain⟨q,hq,Ig⟩:=h1;have e:sg rows.length (fun j=>N.getD j 0*dt rows w j x)=0:=by
  have e1:sg rows.length (fun j=>N.getD j 0*dt rows w j x)=sg rows.length fun j=>sg w fun k=>(N.getD j 0*(rows.getD j []).getD k 0)*x k:=ay fun j _=>by
   unfold dt;rw[<-cz];exact ay fun k _=>(VF _ _ _).symm
  rw[e1,il];refine dW fun k hk=>?_
  rw[gJ,hs k hk,Wg]
 have:=zq (n:=rows.length) (f:=fun j=>N.getD j 0*dt rows w j x) (fun j hj=>Int.mul_nonneg (h0 j hj) (by have:=hx j hj;lia)) hq (Int.mul_pos Ig (by have:=hx q hq;lia));lia
def K8(w:Nat)(o r:List Int):List Int:=if dot r o<0 then(List.range w).map (co [r] [-1] 1) else if dot r o=0 then(List.range w).map (co [r,o] [1,1] 2) else r
section
theorem Bx(hr:r.length=w):(K8 w o r).length=w:=by
 unfold K8;split
 ·rw[bf,Vi]
 ·split
  ·rw[bf,Vi]
  ·exact hr
theorem GF(r:List Int)(x:Int)(k:Nat):co [r] [x] 1 k=r.getD k 0*x:=by
 show r.getD k 0*x+0=_;rw[Wf]
theorem GH(r s:List Int)(x y:Int)(k:Nat):co [r,s] [x,y] 2 k=r.getD k 0*x+s.getD k 0*y:=by
 show r.getD k 0*x+(s.getD k 0*y+0)=_;rw[Wf]
theorem By(hr:Bg 100 r)(ho:Bg 100 o):Bg 102 (K8 w o r):=by
 unfold K8;split
 ·intro x hx;obtain⟨k,_,e⟩:=nH hx;rw[<-e,GF,Int.mul_neg,Yl,Xl];exact U0 (hr.at k) (WQ (by decide) (by decide))
 ·split
  ·intro x hx;obtain⟨k,_,e⟩:=nH hx;rw[<-e,GH,Yl,Yl];have h1:=hr.at k;have h2:=ho.at k;have h3:(2:Nat) ^ 102=2 ^ 100+2 ^ 100+(2 ^ 100+2 ^ 100):=by decide +kernel
   lia
  ·exact hr.mono (by decide)
theorem Bz(h:∃k,k<w/\o.getD k 0≠0):1<=sg w fun k=>o.getD k 0*o.getD k 0:=by
 obtain⟨k,hk,JH⟩:=h;refine zq (fun j _=>?_) hk ?_
 ·rcases Int.le_total 0 (o.getD j 0) with h|h
  ·exact Int.mul_nonneg h h
  ·exact Int.mul_nonneg_of_nonpos_of_nonpos h h
 ·rcases Yy JH with h|h
  ·exact Int.mul_pos_of_neg_of_neg h h
  ·exact Int.mul_pos h h
theorem El(hr:r.length=w)(ho:o.length=w)(h:∃k,k<w/\o.getD k 0≠0):1<=sg w fun k=>(K8 w o r).getD k 0*o.getD k 0:=by
 have hd:dot r o=sg w fun k=>r.getD k 0*o.getD k 0:=by rw[dot_sg (by rw[hr,ho]),hr]
 unfold K8;by_cases h1:dot r o<0
 ·rw[U2 h1];have e:sg w (fun k=>((List.range w).map (co [r] [-1] 1)).getD k 0*o.getD k 0) = -1*sg w fun k=>r.getD k 0*o.getD k 0:=by
   rw[<-cz];refine ay fun k hk=>?_
   rw[di _ _ _ hk,GF,VM _ (-1:Int),VF]
  rw[e,<-hd];lia
 ·rw[U9 h1];by_cases h2:dot r o=0
  ·rw[U2 h2];have e:sg w (fun k=>((List.range w).map (co [r,o] [1,1] 2)).getD k 0*o.getD k 0)=sg w (fun k=>r.getD k 0*o.getD k 0)+sg w fun k=>o.getD k 0*o.getD k 0:=by
    rw[<-gH];refine ay fun k hk=>?_
    rw[di _ _ _ hk,GH,Yl,Yl,ZR]
   rw[e,<-hd,h2,Yx];exact Bz h
  ·rw[U9 h2,<-hd];lia
theorem Em(hw:w<=6)(rows:List (List Int))(hr:r.length=w/\Bg 100 r)(ho:o.length=w/\Bg 100 o)(L:List D)(hL:L.length<1000)(t5:Option R):∃u4 u5:Option R,b7 [fq (.lst (rows.map eR)),fq (eR o),fI (w:Int),fL L,fq (eR r),t5]=.ok (.nx [fq (.lst (rows.map eR)),fq (eR o),fI (w:Int),fL (L++[eR (K8 w o r)]),u4,u5]):=by
 have hp:=lJ (n:=100) (m:=100) (by decide) (by decide) r o hr.2 ho.2 (by lia) (by rw[hr.1,ho.1]);have s1:=rq (n:=100) (m:=100) (by decide) (by decide) w (by lia) [r] [-1] (fun s hs=>by rw[rg hs];exact hr) (fun x hx=>by rw[rg hx];decide +kernel) (by show 1<=1000;decide) rfl;have s2:=rq (n:=100) (m:=100) (by decide) (by decide) w (by lia) [r,o] [1,1] (fun s hs=>by
  rcases U6.mp hs with e|e
  ·rw[e];exact hr
  ·rw[rg e];exact ho) (fun x hx=>by
  have:x=1:=by simpa using hx
  rw[this];decide +kernel) (by show 2<=1000;decide) rfl
 have s1:bq [.lst [eR r],.lst [.int (-1)],.int (w:Int)]=.ok (.f,eR ((List.range w).map (co [r] [-1] 1))):=s1;have s2:bq [.lst [eR r,eR o],.lst [.int 1,.int 1],.int (w:Int)]=.ok (.f,eR ((List.range w).map (co [r,o] [1,1] 2))):=s2;have TU:L.length<sizeLine:=short (by lia);have en:-(1:Int) = -1:=rfl;have fr:=cD r;have fo:=cD o;refine⟨fq (eR (K8 w o r)),fI (dot r o),?_⟩;unfold b7 K8;by_cases h1:dot r o<0
 ·rw[U2 h1];have d1:decide (dot r o<0)=true:=VL h1;have d2:(dot r o==0)=false:=Vn.mpr (by lia);have f1:=cD ((List.range w).map (co [r] [-1] 1));generalize eR ((List.range w).map (co [r] [-1] 1))=E1 at s1 f1 ⊢;generalize dot r o=DT at hp d1 d2 ⊢;generalize eR r=ER at hp s1 fr ⊢;generalize eR o=EO at hp fo ⊢;generalize rows.map eR=RR;rw[av (env':=[fq (.lst RR),fq EO,fI (w:Int),fL L,fq ER,fI DT]) (by
   simp only[pv,seval,op,hp])]
  rw[av (env':=[fq (.lst RR),fq EO,fI (w:Int),fL L,fq E1,fI DT]) (by
   simp only[pv,seval,op,d1,en,s1,f1,fr])]
  rw[av (env':=[fq (.lst RR),fq EO,fI (w:Int),fL L,fq E1,fI DT]) (by
   simp only[pv,seval,op,d2,ik])]
  simp only[pv,seval,op,TU,f1]
 ·rw[U9 h1];have d1:decide (dot r o<0)=false:=VG h1;by_cases h2:dot r o=0
  ·rw[U2 h2];have d2:(dot r o==0)=true:=VD.mpr h2;have f1:=cD ((List.range w).map (co [r,o] [1,1] 2));generalize eR ((List.range w).map (co [r,o] [1,1] 2))=E1 at s2 f1 ⊢;generalize dot r o=DT at hp d1 d2 ⊢;generalize eR r=ER at hp s2 fr ⊢;generalize eR o=EO at hp s2 fo ⊢;generalize rows.map eR=RR;rw[av (env':=[fq (.lst RR),fq EO,fI (w:Int),fL L,fq ER,fI DT]) (by
    simp only[pv,seval,op,hp])]
   rw[av (env':=[fq (.lst RR),fq EO,fI (w:Int),fL L,fq ER,fI DT]) (by
    simp only[pv,seval,op,d1,ik])]
   rw[av (env':=[fq (.lst RR),fq EO,fI (w:Int),fL L,fq E1,fI DT]) (by
    simp only[pv,seval,op,d2,s2,f1,fr,fo])]
   simp only[pv,seval,op,TU,f1]
  ·rw[U9 h2];have d2:(dot r o==0)=false:=Vn.mpr h2;generalize dot r o=DT at hp d1 d2 ⊢;generalize eR r=ER at hp fr ⊢;generalize eR o=EO at hp fo ⊢;generalize rows.map eR=RR;rw[av (env':=[fq (.lst RR),fq EO,fI (w:Int),fL L,fq ER,fI DT]) (by
    simp only[pv,seval,op,hp])]
   rw[av (env':=[fq (.lst RR),fq EO,fI (w:Int),fL L,fq ER,fI DT]) (by
    simp only[pv,seval,op,d1,ik])]
   rw[av (env':=[fq (.lst RR),fq EO,fI (w:Int),fL L,fq ER,fI DT]) (by
    simp only[pv,seval,op,d2,ik])]
   simp only[pv,seval,op,TU,fr]
theorem yz(hw:w<=6)(hl:rows.length<=100)(hr:∀r∈rows,r.length=w/\Bg 100 r)(ho:o.length=w/\Bg 100 o):bW [.lst (rows.map eR),eR o,.int (w:Int)]=.ok (.l .f,.lst ((rows.map (K8 w o)).map eR)):=by
 obtain⟨env',hf,u4,u5,rfl⟩:=for_list (a:=ax 4) (g:=b7) (e:=eR) rows (fun k env=>∃u4 u5,env=[fq (.lst (rows.map eR)),fq (eR o),fI (w:Int),fL ((((rows.take k).map (K8 w o)).map eR)),u4,u5]) (by
  rintro k r env hx ⟨u4,u5,rfl⟩;obtain⟨hk,ex⟩:=y0 hx;obtain⟨v4,v5,e⟩:=Em (o:=o) hw rows (hr r (VU hx)) ho (((rows.take k).map (K8 w o)).map eR) (by rw[bf,bf,VE];lia) u5;refine⟨[fq (.lst (rows.map eR)),fq (eR o),fI (w:Int),fL ((((rows.take k).map (K8 w o)).map eR)),fq (eR r),u5],rfl,_,e,v4,v5,?_⟩;rw[WB hk,ex,Vt,Vt];rfl) _ ⟨none,none,rfl⟩
 rw[Y3]at hf;have MJ:=eQ (rows.map (K8 w o));unfold bW iR;rw[bC (h:=by rfl)];rw[av (env':=[fq (.lst (rows.map eR)),fq (eR o),fI (w:Int),fL [],none,none]) (by
  generalize rows.map eR=RR;generalize eR o=EO;simp only[pv,seval,op])]
 rw[av (env':=[fq (.lst (rows.map eR)),fq (eR o),fI (w:Int),fL (((rows.map (K8 w o)).map eR)),u4,u5]) (by
  unfold gD;rw[show((rows.take 0).map (K8 w o)).map eR=[] from rfl]at hf;generalize (rows.map (K8 w o)).map eR=R2 at hf MJ ⊢;generalize rows.map eR=RR at hf ⊢;generalize eR o=EO at hf ⊢;generalize b7=BB at hf ⊢;simp only[pv,seval,op];exact hf)]
 unfold f9;generalize (rows.map (K8 w o)).map eR=R2 at MJ ⊢;simp only[pv,seval,op,MJ]
end
theorem dr_b(d:List Int)(m:Int)(h:0<m):0<=dr d m/\dr d m<m:=by
 unfold dr;split
 ·exact sY _ _ h
 ·exact⟨ZT _,h⟩
def lN{α β:Type}(v:α->List Int->β):List α->List Int->List β
 |[],_=>[]
 |x::l,d=>v x d::lN v l d.dropLast
def tm{α:Type}:List α->List Int->List Int
 |[],d=>d
 |_::l,d=>tm l d.dropLast
theorem rY{α β:Type}(v:α->List Int->β):∀(l:List α) (d:List Int),(lN v l d).length=l.length
 |[],_=>rfl
 |_::l,d=>V7 (·+ 1) (rY v l d.dropLast)
theorem rZ{α β γ:Type}(v:α->List Int->β)(f:β->γ):∀(l:List α) (d:List Int),(lN v l d).map f=lN (fun x d=>f (v x d)) l d
 |[],_=>rfl
 |_::l,d=>by
  show f _::(lN v l d.dropLast).map f=_;rw[rZ v f l];rfl
theorem vals_at{α β:Type}(v:α->List Int->β)(a0:α)(b0:β):∀(l:List α) (d:List Int) (j:Nat),j<l.length->∃d',(lN v l d).getD j b0=v (l.getD j a0) d'
 |[],_,j,h=>absurd h (Vj j)
 |_::_,d,0,_=>⟨d,rfl⟩
 |_::l,d,j+1,h=>vals_at v a0 b0 l d.dropLast j (Zg h)
theorem wV{α:Type}{f:FX}{e:α->D}{v:α->List Int->D}(aU:PV.Env)(q:Addr)(hf:∀(x:α) (d:List Int),∃o,f (fq (e x)::some (.pin q (.l .f),.lst (d.map D.int))::aU)=.ok ((o,v x d),fq (e x)::some (.pin q (.l .f),.lst (d.dropLast.map D.int))::aU)):∀(l:List α) (d:List Int) (t:Option R),
  ∃t',compLE (ax 0) dX f (l.map e) (t::some (.pin q (.l .f),.lst (d.map D.int))::aU)=.ok (lN v l d,t'::some (.pin q (.l .f),.lst ((tm l d).map D.int))::aU)
 |[],d,t=>⟨t,rfl⟩
 |x::l,d,t=>by
  obtain⟨o,h1⟩:=hf x d;obtain⟨t',h2⟩:=wV aU q hf l d.dropLast (fq (e x));refine⟨t',?_⟩;have ha:ax 0 (e x) (t::some (.pin q (.l .f),.lst (d.map D.int))::aU)=.ok (fq (e x)::some (.pin q (.l .f),.lst (d.map D.int))::aU):=by
   rw[Jy,U2 (by rw[Vb];exact Xx _)];rfl
  rw[gX];unfold compLE;rw[ha,ph,yY,ph,U2 rfl,h1,ph,h2,ph];rfl
theorem BA{f:FX}{e:α->D}{v:α->List Int->D}(aU:PV.Env)(hf:∀(q:Addr) (x:α) (d:List Int),∃o,f (fq (e x)::some (.pin q (.l .f),.lst (d.map D.int))::aU)=.ok ((o,v x d),fq (e x)::some (.pin q (.l .f),.lst (d.dropLast.map D.int))::aU))(l:List α)(d:List Int)(t:Option R):
  mJ (ax 0) dX f (l.map e) (fun q=>t::some (.pin q (.l .f),.lst (d.map D.int))::aU) 1=.ok (lN v l d,(tm l d).map D.int):=by
 refine qS fun q=>?_
 obtain⟨t',h⟩:=wV aU q (hf q) l d t;exact⟨_,h,rfl⟩
def qg(w:Nat)(c:Nat)(d:List Int):List (List Int):=(List.range c).map fun i=>Mc w (it (it List.dropLast w) i d)
theorem yA(w c:Nat)(d:List Int):∀r∈qg w c d,r.length=w/\Bg 100 r:=by
 intro r hr;unfold qg at hr;obtain⟨i,_,rfl⟩:=nH hr;exact⟨p0 _ _,fun x hx=>VX (DO _ _ x hx) (by decide +kernel)⟩
theorem wW(w c:Nat)(d:List Int):(qg w c d).length=c:=by unfold qg;rw[bf,Vi]
theorem Ge(a b:List Int):Ja (eR a) (eR b)=.ok (.f,.bl (a==b)):=by
 unfold Ja eR;rw[plainD,cb,plainD,cb,Ia,iT];rfl
theorem BC(i:Nat)(env:PV.Env):eE i env=match env[i]? with
 |some (some (_,.lst ds))=>.ok (ds,env)
 |_=>.bad:=id rfl
theorem En(i:Nat)(f g:FX)(env:PV.Env):Dl i f g env=if pM env i then Res.bnd (f env) (f:=⟨fun p=>Res.bnd (g p.2) (f:=⟨fun q=>match q.2[i]?,p.1.2 with
 |some (some (.l O.f,.lst ds)),.int k=>if ds.length<sizeLine/\0<=k/\k.toNat<=ds.length then .ok ((.f,.non),q.2.set i (fL (ds.take k.toNat++q.1.2::ds.drop k.toNat))) else .bad
 |_,_=>.bad⟩)⟩) else .bad:=id rfl
theorem s_B(S0:D)(d:List Int)(a b:Nat)(ha:a<=4)(hb:b<=9):∃(w n:Nat) (d':List Int),w<=6/\n<=11/\
  JD (Iz (aV Ja (ao (eFunW (.l .f) aI 1 (af (aj 1) (af (ao (aE (.int 6))) aw)))) (ao (aE (.int 1)))))
  (sSeq (bZ 2 (aG IK (ao (gO (aD (aE (.int 5)) (aD (aE (.int 6)) (aD (aE (.int 2)) bt))))) (ao (aG jF (aj 2) (ao (aE (.int 3)))))))
  (bZ 3 (aG IK (ao (gO (aD (aG jF (aj 3) (ao (aE (.int 6)))) (aD (aG jF (aj 3) (ao (aE (.int 6)))) (aD (aE (.int 11)) bt))))) (ao (Dj sR (ao (gO (aD (aE (.int 5)) (aD (aE (.int 6)) (aD (aE (.int 2)) bt))))) (af (aj 2) aw))))))
  cE [fq S0,fL (d.map D.int),fI (a:Int),fI (b:Int),none,none,none,none,none,none,none]=.ok (.nx [fq S0,fL (d'.map D.int),fI (w:Int),fI (n:Int),none,none,none,none,none,none,none]):=by
 have c6:=kJ d 6 (by decide);generalize dr d 6=z at c6;by_cases hz:z=1
 ·have hd:(z==1)=true:=VD.mpr hz;have m3:=x5 (a:Int) 3 (by decide);have m6:=x5 (b:Int) 6 (by decide);have hb6:∃n:Nat,(b:Int)%6=(n:Int)/\n<=11:=⟨b%6,by lia,by lia⟩
  obtain⟨n,hn,Sg⟩:=hb6;rw[hn]at m6;have h3:(a:Int)%3=0\/(a:Int)%3=1\/(a:Int)%3=2:=by lia
  have fin:∀(k u v:Int) (w' n':Nat),(a:Int)%3=k->Kz [D.int 5,.int 6,.int 2] k=some (.int u)->sR [.int 5,.int 6,.int 2] [.int u]=.ok (.f,.int k)->Kz [D.int (n:Int),.int (n:Int),.int 11] k=some (.int v)->u=(w':Int)->v=(n':Int)->w'<=6->n'<=11->∃(w n:Nat) (d':List Int),w<=6/\n<=11/\
    JD (Iz (aV Ja (ao (eFunW (.l .f) aI 1 (af (aj 1) (af (ao (aE (.int 6))) aw)))) (ao (aE (.int 1)))))
    (sSeq (bZ 2 (aG IK (ao (gO (aD (aE (.int 5)) (aD (aE (.int 6)) (aD (aE (.int 2)) bt))))) (ao (aG jF (aj 2) (ao (aE (.int 3)))))))
    (bZ 3 (aG IK (ao (gO (aD (aG jF (aj 3) (ao (aE (.int 6)))) (aD (aG jF (aj 3) (ao (aE (.int 6)))) (aD (aE (.int 11)) bt))))) (ao (Dj sR (ao (gO (aD (aE (.int 5)) (aD (aE (.int 6)) (aD (aE (.int 2)) bt))))) (af (aj 2) aw))))))
    cE [fq S0,fL (d.map D.int),fI (a:Int),fI (b:Int),none,none,none,none,none,none,none]=.ok (.nx [fq S0,fL (d'.map D.int),fI (w:Int),fI (n:Int),none,none,none,none,none,none,none]):=fun k u v w' n' e1 e2 e3 e4 e5 e6 hw hn=>by
   rw[e1]at m3;refine⟨w',n',d.dropLast,hw,hn,?_⟩;rw[<-e5,<-e6];generalize (n:Int)=NI at m6 e4;generalize (a:Int)=AI at m3 ⊢;generalize (b:Int)=BI at m6 ⊢;have c6:jG aI (.l .f) (.lst (d.map D.int)) [.int 6]=.ok ((.f,.int z),.lst (d.dropLast.map D.int)):=c6;simp only[pv,seval,op,c6,cG,fm,fg,bY,Iv,Iw,cF,cj,ck,HY,Vr,Wn,Wt,hd,m3,m6,e2,e3,e4,DI]
  rcases h3 with h|h|h
  ·exact fin 0 5 (n:Int) 5 n h rfl rfl rfl rfl rfl (by decide) Sg
  ·exact fin 1 6 (n:Int) 6 n h rfl rfl rfl rfl rfl (by decide) Sg
  ·exact fin 2 2 11 2 11 h rfl rfl rfl rfl rfl (by decide) (by decide)
 ·have hd:(z==1)=false:=Vn.mpr hz;refine⟨a,b,d.dropLast,by lia,by lia,?_⟩;simp only[pv,seval,op,c6,cG,fm,fg,bY,Iv,Iw,cF,cj,ck,HY,Vr,Wn,Wt,hd,ik]
section
theorem Gf(a0 a1 a3 a4 a5 a6 a8 a9 aA:Option R)(h0:0<w)(hw:w<=6)(hr:r.length=w/\Bg 100 r):∃o:List Int,(o.length=w/\Bg 100 o)/\(∃k,k<w/\o.getD k 0≠0)/\JD (Iz (aV Ja (aj 7) (ao (aG vo (ao (mr (aD (aE (.int 0)) bt))) (aj 2))))) (bZ 7 (aG i4 (ao (aG vo (ao (mr (aD (aE (.int 0)) bt))) (ao (aG tw (aj 2) (ao (aE (.int 1))))))) (ao (mr (aD (aE (.int 1)) bt))))) cE [a0,a1,fI (w:Int),a3,a4,a5,a6,fq (eR r),a8,a9,aA]=.ok (.nx [a0,a1,fI (w:Int),a3,a4,a5,a6,fq (eR o),a8,a9,aA]):=by
 have hm:=Bs w (by lia);have he:=Ge r (List.replicate w 0);have he:Ja (eR r) (.tup ((List.replicate w (0:Int)).map D.int))=.ok (.f,.bl (r==List.replicate w 0)):=he;by_cases hz:r=List.replicate w 0
 ·have hb:(r==List.replicate w 0)=true:=VD.mpr hz;rw[hb]at he;have SM:=Bs (w-1) (by lia);rw[show(((w-1:Nat)):Int)=(w:Int)-1 by lia]at SM;have ha:i4 (.tup ((List.replicate (w-1) (0:Int)).map D.int)) (.tup [.int 1])=.ok (.f,eR (List.replicate (w-1) 0++[1])):=by
   unfold eR;rw[vU,U2 (.inl (line_le (by rw[bf,Wq,Vz];lia))),Vt];rfl
  have hl:(List.replicate (w-1) (0:Int)).length=w-1:=Wq;refine⟨List.replicate (w-1) 0++[1],⟨by rw[rh,Wq,Vz];lia,fun x hx=>?_⟩,⟨w-1,by lia,?_⟩,?_⟩
  ·rcases w4 hx with h|h
   ·rw[(List.mem_replicate.mp h).2];decide +kernel
   ·rw[rg h];decide +kernel
  ·have:=pw (List.replicate (w-1) 0) 1;rw[hl]at this;rw[this];decide
  ·generalize eR (List.replicate (w-1) 0++[1])=EO at ha ⊢;generalize D.tup ((List.replicate (w-1) (0:Int)).map D.int)=Z1 at SM ha;generalize D.tup ((List.replicate w (0:Int)).map D.int)=Z0 at hm he;generalize eR r=ER at he ⊢;generalize L6:(w:Int)-1=W1 at SM;simp only[pv,seval,op,hm,he,L6,SM,ha]
 ·have hb:(r==List.replicate w 0)=false:=Vn.mpr hz;rw[hb]at he;refine⟨r,hr,Vk fun hn=>hz ?_,?_⟩
  ·apply Y5
   ·rw[hr.1,Wq]
   ·intro k k1 k2;rw[Zh];apply Vk;intro JH;exact hn ⟨k,by lia,by rw[bT r k 0 k1];exact JH⟩
  ·generalize D.tup ((List.replicate w (0:Int)).map D.int)=Z0 at hm he;generalize eR r=ER at he ⊢;simp only[pv,seval,op,hm,he,ik]
theorem Eo{f:List Int->List Int}{j:Nat}(h:j<rows.length):(rows.map f).getD j []=f (rows.getD j []):=by
 rw[UQ,Vg,iV h,UQ,iV h];rfl
theorem HF(S0:D)(d:List Int)(c:Int)(KU:List D)(h0:0<w)(hw:w<=6)(hl:rows.length<=11)(hr:∀r∈rows,r.length=w/\Bg 100 r):∃(d':List Int) (R2:List (List Int)) (t7:Option R),Rs R2 w/\tagOk R2 w [Il]/\
  (sSeq (bZ 7 (eFunW (.l .f) bS 1 (af (aj 1) (af (aj 2) aw)))) (sSeq (JD (Iz (aV Ja (aj 7) (ao (aG vo (ao (mr (aD (aE (.int 0)) bt))) (aj 2))))) (bZ 7 (aG i4 (ao (aG vo (ao (mr (aD (aE (.int 0)) bt))) (ao (aG tw (aj 2) (ao (aE (.int 1))))))) (ao (mr (aD (aE (.int 1)) bt))))) cE) (sSeq (bZ 4 (dv bW (af (aj 4) (af (aj 7) (af (aj 2) aw))))) (bZ 6 (gO (aD (aE (.str [114,111,119])) bt)))))) [fq S0,fL (d.map D.int),fI (w:Int),fI c,fL (rows.map eR),fI 1,fL KU,none,none,none,none]=.ok (.nx [fq S0,fL (d'.map D.int),fI (w:Int),fI c,fL (R2.map eR),fI 1,fL ([Il].map D.str),t7,none,none,none]):=by
 have c3:=DP d w (by lia);have c3:jG bS (.l .f) (.lst (d.map D.int)) [.int (w:Int)]=.ok ((.f,eR (Mc w d)),.lst ((it List.dropLast w d).map D.int)):=c3;have Nf:(Mc w d).length=w/\Bg 100 (Mc w d):=⟨p0 w d,fun x hx=>VX (DO w d x hx) (by decide +kernel)⟩
 generalize Mc w d=r at c3 Nf;have fx:=cD r;generalize it List.dropLast w d=d' at c3;obtain⟨o,ho,JH,e1⟩:=Gf (fq S0) (fL (d'.map D.int)) (fI c) (fL (rows.map eR)) (fI 1) (fL KU) none none none h0 hw Nf;have ht:=yz hw (by lia) hr ho;have QK:∀j,j<(rows.map (K8 w o)).length->1<=dt (rows.map (K8 w o)) w j (Vc o):=fun j hj=>by
  rw[bf]at hj;unfold dt;rw[Eo hj];exact El (hr _ (aY hj)).1 ho.1 JH
 refine⟨d',rows.map (K8 w o),fq (eR o),⟨hw,by rw[bf];lia,fun s hs=>?_⟩,⟨fun _=>UY,fun⟨N,n1,n2,n3⟩=>(HE QK n1 n2 n3).elim⟩,?_⟩
 ·obtain⟨q,q1,e⟩:=nH hs;rw[<-e];exact⟨Bx (hr q q1).1,(By (hr q q1).2 ho.2).mono (by decide)⟩
 ·have ft:=eQ (rows.map (K8 w o));rw[av (env':=[fq S0,fL (d'.map D.int),fI (w:Int),fI c,fL (rows.map eR),fI 1,fL KU,fq (eR r),none,none,none]) (by
   generalize rows.map eR=RR;generalize eR r=ER at c3 fx ⊢;simp only[pv,seval,op,c3,fx,cG,fm,fg,bY,Iv,Iw,cF,cj,ck,HY,Vr,Wn,Wt])]
  rw[av e1];unfold Il;generalize (rows.map (K8 w o)).map eR=R2 at ht ft ⊢;generalize rows.map eR=RR at ht ⊢;generalize eR o=EO at ht ⊢;rw[av (env':=[fq S0,fL (d'.map D.int),fI (w:Int),fI c,fL R2,fI 1,fL KU,fq EO,none,none,none]) (by
   simp only[pv,seval,op,ht,ft])]
  simp only[pv,seval,op,gX,V6]
noncomputable abbrev Ep:FX:=aG tw (ao (aE (.int 0))) (ao (eFunW (.l .f) aI 1 (af (aj 1) (af (ao (aE (.int 5))) aw))))
def qh(_:List Int)(d:List Int):Int:=0-dr d 5
theorem Er(x d:List Int):qh x d<=0/\(qh x d).natAbs<2 ^ 3:=by
 have h:=dr_b d 5 (by decide);unfold qh;have e:(2:Nat) ^ 3=8:=rfl;lia
theorem Es(rows:List (List Int))(d:List Int):mJ (ax 0) dX Ep (rows.map eR) (fun q=>none::some (.pin q (.l .f),.lst (d.map D.int))::[]) 1=.ok ((lN qh rows d).map D.int,(tm rows d).map D.int):=by
 have h:=BA (f:=Ep) (e:=eR) (v:=fun x d=>D.int (qh x d)) [] (fun q x d=>by
  have hc:=kJ d 5 (by decide);refine⟨.f,?_⟩;unfold Ep qh;generalize dr d 5=z at hc ⊢;generalize eR x=EX;simp only[pv,seval,op,hc,cG,fm,fg,bY,Iv,Iw,cF,cj,ck,HY,Vr,Wn,Wt]) rows d none
 rw[rZ];exact h
theorem HG(S0:D)(d:List Int)(c:Int)(KU:List D)(hw:w<=6)(hl:rows.length<=11)(hr:∀r∈rows,r.length=w/\Bg 100 r)(t7:Option R):∃(d':List Int) (R2:List (List Int)) (t8:Option R),Rs R2 w/\tagOk R2 w [Ik]/\
  (sSeq (bZ 8 (dv bq (af (aj 4) (af (ao (g6 (eE 4) [none,some 1] 1 1 (ax 0) dX Ep)) (af (aj 2) aw))))) (sSeq (oj (Dl 4 (eFunW (.l .f) aI 1 (af (aj 1) (af (ao (aG i4 (ao (bH gj (af (aj 4) aw))) (ao (aE (.int 1))))) aw))) (aK 8))) (bZ 6 (gO (aD (aE (.str [115,117,109])) bt))))) [fq S0,fL (d.map D.int),fI (w:Int),fI c,fL (rows.map eR),fI 2,fL KU,t7,none,none,none]=.ok (.nx [fq S0,fL (d'.map D.int),fI (w:Int),fI c,fL (R2.map eR),fI 2,fL ([Ik].map D.str),t7,t8,none,none]):=by
 have NT:=Es rows d;have Mn:=rY qh rows d;have SN:∀j,j<rows.length->(lN qh rows d).getD j 0<=0/\((lN qh rows d).getD j 0).natAbs<2 ^ 3:=fun j hj=>by
  obtain⟨d',e2⟩:=vals_at qh [] 0 rows d j hj;rw[e2];exact Er _ _
 have Md:Bg 3 (lN qh rows d):=fun x hx=>by
  obtain⟨j,hj,e⟩:=VT hx;have:=(SN j (by rw[<-Mn];exact hj)).2;rw[bT _ _ _ hj,e]at this;exact this
 have hs:=rq (n:=100) (m:=3) (by decide) (by decide) w (by lia) rows (lN qh rows d) hr Md (by lia) Mn.symm;have hz:((lN qh rows d).map D.int).length<=sizeLine:=line_le (by rw[bf];lia);have f1:=HY (lN qh rows d);have f2:=HY (tm rows d);generalize lN qh rows d=uZ at NT Mn SN Md hs hz f1;have Ph:∀k,k<w->((List.range w).map (co rows uZ rows.length)).getD k 0=sg rows.length fun j=>(rows.getD j []).getD k 0*uZ.getD j 0:=fun k hk=>by rw[di _ _ _ hk,Bt Mn]
 have QB:Bg 175 ((List.range w).map (co rows uZ rows.length)):=fun x hx=>by
  obtain⟨k,_,e⟩:=nH hx;rw[<-e,Bt Mn];refine VX (F2 (M:=2 ^ (100+3)) fun j hj=>W7 (rK ((hr _ (aY hj)).2.at k) (SN j hj).2)) ?_;exact VX (Wy _ hl) (by decide +kernel)
 have UO:((List.range w).map (co rows uZ rows.length)).length=w:=by rw[bf,Vi]
 have fx:=cD ((List.range w).map (co rows uZ rows.length));generalize (List.range w).map (co rows uZ rows.length)=last at hs Ph QB UO fx;generalize tm rows d=d2 at NT f2;have b3:=dr_b d2 ((rows.length:Int)+1) (by lia);have c3:=kJ d2 ((rows.length:Int)+1) (by lia);obtain⟨p,hp⟩:=X0 b3.1;rw[hp]at b3 c3;have JR:p<=rows.length:=by lia
 have Lf:∀s,s∈rows.take p++last::rows.drop p<->s=last\/s∈rows:=fun s=>by
  rw[Vp,U6];constructor
  ·rintro(h|h|h)
   ·exact .inr (XF h)
   ·exact .inl h
   ·exact .inr (List.mem_of_mem_drop h)
  ·rintro(h|h)
   ·exact .inr (.inl h)
   ·rw[<-List.take_append_drop p rows]at h;rcases w4 h with h|h
    ·exact .inl h
    ·exact .inr (.inr h)
 have hlen:(rows.take p++last::rows.drop p).length=rows.length+1:=by
  rw[rh,Vb,VE,Wz];lia
 refine⟨d2.dropLast,rows.take p++last::rows.drop p,fq (eR last),⟨hw,by lia,fun s hs=>?_⟩,⟨fun⟨r,r1,r2⟩=>?_,fun _=>UY⟩,?_⟩
 ·rcases(Lf s).mp hs with e|e
  ·rw[e];exact⟨UO,QB⟩
  ·exact⟨(hr s e).1,(hr s e).2.mono (by decide)⟩
 ·exfalso;have M0:∀s∈rows.take p++last::rows.drop p,1<=sg w fun k=>s.getD k 0*Vc r k:=fun s hs=>by
   obtain⟨j,hj,e⟩:=VT hs;have:=r2 j hj;unfold dt at this;rw[bT _ _ _ hj,e]at this;exact this
  have h1:=M0 last ((Lf last).mpr (.inl rfl));have e:sg w (fun k=>last.getD k 0*Vc r k)=sg rows.length fun j=>uZ.getD j 0*sg w fun k=>(rows.getD j []).getD k 0*Vc r k:=by
   have e1:sg w (fun k=>last.getD k 0*Vc r k)=sg w fun k=>sg rows.length fun j=>uZ.getD j 0*((rows.getD j []).getD k 0*Vc r k):=ay fun k hk=>by
    rw[Ph k hk,<-gJ];exact ay fun j _=>by rw[VM _ (uZ.getD j 0),VF]
   rw[e1,il];exact ay fun j _=>cz _ _ _
  have h2:sg rows.length (fun j=>uZ.getD j 0*sg w fun k=>(rows.getD j []).getD k 0*Vc r k)<=0:=zc fun j hj=>by
   have:=M0 _ ((Lf _).mpr (.inr (aY (d:=[]) hj)));exact XU (SN j hj).1 (by lia)
  lia
 ·have OU:gj [.lst (rows.map eR)]=.ok (.f,.int (rows.length:Int)):=by
   show Res.ok (O.f,D.int (((rows.map eR).length:Nat):Int))=_;rw[bf]
  have UP:(rows.map eR).length<sizeLine/\0<=(p:Int)/\(p:Int).toNat<=(rows.map eR).length:=⟨short (by rw[bf];lia),by lia,by rw[bf];lia⟩
  have hR:(rows.take p++last::rows.drop p).map eR=(rows.map eR).take (p:Int).toNat++eR last::(rows.map eR).drop (p:Int).toNat:=by
   rw[Vt,gX,List.map_take,List.map_drop,VV]
  rw[hR];unfold Ik;generalize uZ.map D.int=NV at NT hs hz f1;generalize (rows.length:Int)=NL at OU c3;have fr:=m5 rows;generalize rows.map eR=RR at NT hs OU UP fr ⊢;generalize eR last=EL at hs fx ⊢;generalize Ep=NF at NT ⊢;rw[av (env':=[fq S0,fL (d2.map D.int),fI (w:Int),fI c,fL RR,fI 2,fL KU,t7,fq EL,none,none]) (by
   simp only[pv,seval,op,mX,BC,yZ,NT,hz,f1,f2,hs,fx,fr,and_self,Wt])]
  rw[av (env':=[fq S0,fL (d2.dropLast.map D.int),fI (w:Int),fI c,fL (RR.take (p:Int).toNat++EL::RR.drop (p:Int).toNat),fI 2,fL KU,t7,fq EL,none,none]) (by
   simp only[pv,seval,op,En,OU,c3,cG,fm,fg,bY,Iv,Iw,cF,cj,ck,HY,Vr,Wn,Wt,fx];rw[U2 UP];rfl)]
  simp only[pv,seval,op,gX,V6]
end
theorem tag_any(rows:List (List Int))(w:Nat):tagOk rows w [Il,Ik]:=⟨fun _=>UY,fun _=>U3 _ UY⟩
theorem wX(ns:List Int)(h:ns.length<=63):∃o,AY [.lst (ns.map D.int)]=.ok (o,.bl true):=by
 obtain⟨d0,_,e0⟩:=vY ns h;generalize hS:(.lst (ns.map D.int):D)=S0 at e0;unfold AY Dp;rw[bC (h:=by rfl)];rw[av (env':=[fq S0,fL (d0.map D.int),none,none,none,none,none,none,none,none,none]) (by simp only[pv,seval,op,e0,cG,fm,fg,bY,Iv,Iw,cF,cj,ck,HY,Vr,Wn,Wt])];have b1:=dr_b d0 5 (by decide);have c1:=kJ d0 5 (by decide);obtain⟨a,ha⟩:=X0 b1.1;rw[ha]at b1 c1;generalize d0.dropLast=d1 at c1;rw[av (env':=[fq S0,fL (d1.map D.int),fI (a:Int),none,none,none,none,none,none,none,none]) (by simp only[pv,seval,op,c1,cG,fm,fg,bY,Iv,Iw,cF,cj,ck,HY,Vr,Wn,Wt])];have b2:=dr_b d1 10 (by decide);have c2:=kJ d1 10 (by decide);obtain⟨b,hb⟩:=X0 b2.1;rw[hb]at b2 c2;generalize d1.dropLast=d2 at c2;rw[av (env':=[fq S0,fL (d2.map D.int),fI (a:Int),fI (b:Int),none,none,none,none,none,none,none]) (by simp only[pv,seval,op,c2,cG,fm,fg,bY,Iv,Iw,cF,cj,ck,HY,Vr,Wn,Wt])];obtain⟨w,n,d3,hw,hn,e3⟩:=s_B S0 d2 a b (by lia) (by lia);rw[av e3];have hm:=rk (f:=eFunW (.l .f) bS 1 (af (aj 1) (af (aj 2) aw))) (v:=fun d=>.tup ((Mc w d).map D.int)) (nx:=it List.dropLast w) [fI (w:Int)] (fun q d k=>⟨.f,by simp only[pv,seval,DP d w (by lia:w<=1000),cG,fm,fg,bY,Iv,Iw,cF,cj,ck,HY,Vr,Wn,Wt,d9]⟩) n d3 none;have e1:(List.range n).map (fun i=>D.tup ((Mc w (it (it List.dropLast w) i d3)).map D.int))=(qg w n d3).map eR:=by
  unfold qg;rw[Vm];rfl
 rw[e1]at hm;have Rf:=wW w n d3;have Sh:=yA w n d3;generalize it (it List.dropLast w) n d3=d4 at hm;generalize qg w n d3=rows at hm Rf Sh;have hz:(rows.map eR).length<=sizeLine:=line_le (by rw[bf];lia);have fr:=m5 rows;have OQ:-4611686018427387904<=(n:Int)/\(n:Int)<4611686018427387904:=by lia
 rw[av (env':=[fq S0,fL (d4.map D.int),fI (w:Int),fI (n:Int),fL (rows.map eR),none,none,none,none,none,none]) (by
  generalize rows.map eR=RR at hm hz fr ⊢;simp only[pv,seval,mX,cG,fm,fg,bY,Iv,Iw,cF,cj,ck,HY,Vr,Wn,Wt,OQ,VV,yZ,hm,hz,fr,and_self])]
 have b5:=dr_b d4 3 (by decide);have c5:=kJ d4 3 (by decide);generalize dr d4 3=way at b5 c5;generalize d4.dropLast=d5 at c5;rw[av (env':=[fq S0,fL (d5.map D.int),fI (w:Int),fI (n:Int),fL (rows.map eR),fI way,none,none,none,none,none]) (by
  generalize rows.map eR=RR;simp only[pv,seval,op,c5,cG,fm,fg,bY,Iv,Iw,cF,cj,ck,HY,Vr,Wn,Wt])]
 rw[av (env':=[fq S0,fL (d5.map D.int),fI (w:Int),fI (n:Int),fL (rows.map eR),fI way,fL ([Il,Ik].map D.str),none,none,none,none]) (by
  unfold Il Ik;generalize rows.map eR=RR;simp only[pv,seval,op,gX,V6])]
 have hd0:decide (0<(w:Int))=decide (0<w):=decide_eq_decide.mpr (by lia);by_cases h1:way=1/\0<w
 ·obtain⟨rfl,h0⟩:=h1;obtain⟨d6,R2,t7,HR,HT,e6⟩:=HF S0 d5 (n:Int) ([Il,Ik].map D.str) h0 hw (by lia) Sh;have q1:((1:Int)==1)=true:=rfl;have q2:((1:Int)==2)=false:=rfl;have q0:decide (0<(w:Int))=true:=VL (by lia);have e7:∀(T1 T2:FS),JD (Am (Iz (aV Ja (aj 5) (ao (aE (.int 1))))) (Iz (aG Of (aj 2) (ao (aE (.int 0)))))) T1 T2 [fq S0,fL (d5.map D.int),fI (w:Int),fI (n:Int),fL (rows.map eR),fI 1,fL ([Il,Ik].map D.str),none,none,none,none]=T1 [fq S0,fL (d5.map D.int),fI (w:Int),fI (n:Int),fL (rows.map eR),fI 1,fL ([Il,Ik].map D.str),none,none,none,none]:=fun T1 T2=>by
   generalize rows.map eR=RR;generalize [Il,Ik].map D.str=DU;simp only[pv,seval,op,q1,q0]
  rw[av ((e7 _ _).trans e6)];rw[av (env':=[fq S0,fL (d6.map D.int),fI (w:Int),fI (n:Int),fL (R2.map eR),fI 1,fL ([Il].map D.str),t7,none,none,none]) (by
   generalize R2.map eR=RR;generalize [Il].map D.str=DU;simp only[pv,seval,op,q2,ik])]
  obtain⟨o,e8⟩:=wU S0 (d6.map D.int) (n:Int) 1 [Il] HR HT t7 none none none;rw[e8,Jl];exact⟨o,rfl⟩
 ·rw[av (env':=[fq S0,fL (d5.map D.int),fI (w:Int),fI (n:Int),fL (rows.map eR),fI way,fL ([Il,Ik].map D.str),none,none,none,none]) (by
   generalize rows.map eR=RR;generalize [Il,Ik].map D.str=DU;by_cases hy:way=1
   ·have q1:(way==1)=true:=VD.mpr hy;have q0:decide (0<(w:Int))=false:=VG fun z=>h1 ⟨hy,by lia⟩
    simp only[pv,seval,op,q1,q0,ik]
   ·have q1:(way==1)=false:=Vn.mpr hy;simp only[pv,seval,op,q1,ik])]
  by_cases h2:way=2
  ·subst h2;obtain⟨d6,R2,t8,HR,HT,e6⟩:=HG S0 d5 (n:Int) ([Il,Ik].map D.str) hw (by lia) Sh none;have q1:((2:Int)==2)=true:=rfl;have e7:∀(T1 T2:FS),JD (Iz (aV Ja (aj 5) (ao (aE (.int 2))))) T1 T2 [fq S0,fL (d5.map D.int),fI (w:Int),fI (n:Int),fL (rows.map eR),fI 2,fL ([Il,Ik].map D.str),none,none,none,none]=T1 [fq S0,fL (d5.map D.int),fI (w:Int),fI (n:Int),fL (rows.map eR),fI 2,fL ([Il,Ik].map D.str),none,none,none,none]:=fun T1 T2=>by
    generalize rows.map eR=RR;generalize [Il,Ik].map D.str=DU;simp only[pv,seval,op,q1]
   rw[av ((e7 _ _).trans e6)];obtain⟨o,e8⟩:=wU S0 (d6.map D.int) (n:Int) 2 [Ik] HR HT none t8 none none;rw[e8,Jl];exact⟨o,rfl⟩
  ·have q1:(way==2)=false:=Vn.mpr h2;rw[av (env':=[fq S0,fL (d5.map D.int),fI (w:Int),fI (n:Int),fL (rows.map eR),fI way,fL ([Il,Ik].map D.str),none,none,none,none]) (by
    generalize rows.map eR=RR;generalize [Il,Ik].map D.str=DU;simp only[pv,seval,op,q1,ik])]
   obtain⟨o,e8⟩:=wU S0 (d5.map D.int) (n:Int) way [Il,Ik] ⟨hw,by lia,fun r hr=>⟨(Sh r hr).1,(Sh r hr).2.mono (by decide)⟩⟩ (tag_any rows w) none none none none;rw[e8,Jl];exact⟨o,rfl⟩
end LW
namespace FIN
open PV LW
theorem Et{l:PySem.W.OpenLaw}{w:World}{K:W.Frag}{h:Heap}{mg:Str->Option Value}{fa f:Addr}{od an:Option Addr}{sl:Array (Option Value)}{oc kV dc pm cd ct:Value}(X:K.In h)(G:h.Ns mainGlobals mg)(hfa:mg "law" = some (.ref fa))
  (aL:PySem.W.nsIn K mainGlobals "law" = some (some (.ref f))) (lL:K.lookup f=some ⟨oc,od,.func (PySem.W.fnOf "law" "law" (fu mV) (c8 mV) (defScope mV) .none kV dc pm an cd ct),sl⟩) (cL:PySem.W.codeIn K cd "law" = true) (kL:PySem.W.keepIn K (.ref f)=true)
  (LF:Def K mg "product" kA) (Mf:Def K mg "summed" mO) (Jq:Def K mg "common_divisor" dE) (Mg:Def K mg "lowest" mP) (LG:Def K mg "cleared" kB) (JZ:Def K mg "with_leader" fJ) (Kj:Def K mg "leaders_of" gE) (Kk:Def K mg "kernel_row" gF) (Mh:Def K mg "kernel" mS) (J0:Def K mg "closing_row" fK) (LH:Def K mg "spanned" kC) (J2:Def K mg "independent" fM) (KC:Def K mg "level_row" ic) (J3:Def K mg "first_below" fN) (MX:Def K mg "above" pV) (JN:Def K mg "_law_numbers" eN) (KD:Def K mg "_law_draw" ie) (J4:Def K mg "_law_number" fO) (K9:Def K mg "_law_row" ji) (JO:Def K mg "_law_product" eO) (La:Def K mg "_law_sum" jj) (Kl:Def K mg "_law_whole" gG) (J5:Def K mg "_law_is_row" fP) (Jh:Def K mg "_law_are_numbers" cZ) (J6:Def K mg "_law_walked" fQ) (J7:Def K mg "_law_turned" fR)
  (Lz:PySem.W.nsIn K mainGlobals "abs" = some none) (LR:PySem.W.nsIn K mainGlobals "bool" = some none) (IH:PySem.W.nsIn K mainGlobals "enumerate" = some none) (MS:PySem.W.nsIn K mainGlobals "int" = some none) (Ie:PySem.W.nsIn K mainGlobals "isinstance" = some none) (ID:PySem.W.nsIn K mainGlobals "len" = some none) (Jp:PySem.W.nsIn K mainGlobals "list" = some none) (IB:PySem.W.nsIn K mainGlobals "range" = some none) (Jw:PySem.W.nsIn K mainGlobals "reversed" = some none) (Ki:PySem.W.nsIn K mainGlobals "sorted" = some none) (KA:PySem.W.nsIn K mainGlobals "sum" = some none) (Ip:PySem.W.nsIn K mainGlobals "tuple" = some none) (JX:PySem.W.nsIn K mainGlobals "zip" = some none):
  ∃fd:FuncData,(∀(s:Shared) (v:Value),BindsTo s fd ⟨[v],[]⟩ [("_law_script",v)])/\∀base:Heap,K.In base->base.Ns mainGlobals mg->FnOk l.prog w K mg base Nc 9 fa fd ["_law_script"] (xH K):=by
 have e:=hfa.symm.trans (PySem.W.mg_of X G aL);cases e;have F:=yF (st:=mV) lL cL kL;have Pj:=VO X G Lz;have y_bool:=VO X G LR;have JP:=VO X G IH;have Si:=VO X G MS;have I0:=VO X G Ie;have J8:=VO X G ID;have LU:=VO X G Jp;have Jz:=VO X G IB;have MM:=VO X G Jw;have NU:=VO X G Ki;have NW:=VO X G KA;have Jm:=VO X G Ip;have MY:=VO X G JX;refine⟨PySem.W.fnOf "law" "law" (fu mV) (c8 mV) (defScope mV) .none kV dc pm an cd ct,fun s v=>.of_eq rfl,fun base KB GB=>?_⟩;have LI:Ct l.prog w K mg base "product" 1 (spF K cw):=sU LF NW MY;have NY:Ct l.prog w K mg base "summed" 1 (spF K fD):=vM Mf Jz NW Jm MY;have Jr:Ct l.prog w K mg base "common_divisor" 1 (spF K aZ):=jh Jq Pj;have Lb:Ct l.prog w K mg base "lowest" 2 (spF K cJ):=vN Mg Jr Jm;have LJ:Ct l.prog w K mg base "cleared" 2 (spF K cV):=sW LG NY J8;have Lq:Ct l.prog w K mg base "with_leader" 3 (spM K (.d) bN):=kW JZ LJ Lb;have Km:Ct l.prog w K mg base "leaders_of" 4 (spF K aR):=mQ Kj LJ Lb Lq JP J8;have dB:Ct l.prog w K mg base "kernel_row" 3 (spM K (.d) aO):=mR Kk Jr Lb Pj Jm;have NZ:Ct l.prog w K mg base "kernel" 5 (spF K gR):=vO Mh dB Km Jz;have J9:Ct l.prog w K mg base "closing_row" 5 (spF K bz):=kX J0 dB Km;have LK:Ct l.prog w K mg base "spanned" 6 (spF K bR):=sX LH J9 NZ LI J8 LU Jz Jm;have Lr:Ct l.prog w K mg base "independent" 7 (spF K cA):=kY J2 LK JP;have Mi:Ct l.prog w K mg base "level_row" 6 (spF K cy):=oV KC J9;have Ls:Ct l.prog w K mg base "first_below" 2 (spF K bA):=kZ J3 LI JP;have OX:Ct l.prog w K mg base "above" 8 (spF K fF):=xX MX Ls Lr Mi LK J8 NU MY;have Lc:Ct l.prog w K mg base "_law_numbers" 1 (spF K b8):=kF JN J8 LU MM NW;have KG:Ct l.prog w K mg base "_law_draw" 1 (spM K (.l .f) aI):=oX KD;have Lu:Ct l.prog w K mg base "_law_number" 2 (spM K (.l .f) bO):=k7 J4 KG;have MN:Ct l.prog w K mg base "_law_row" 3 (spM K (.l .f) bS):=pX K9 Lu Jz Jm;have JQ:Ct l.prog w K mg base "_law_product" 1 (spF K aS):=kG JO J8 Jz;have Kd:Ct l.prog w K mg base "_law_sum" 1 (spF K bq):=pY La Jz Jm MY;have Kn:Ct l.prog w K mg base "_law_whole" 1 (spF K m__law_whole):=mU Kl y_bool Si I0;have Lv:Ct l.prog w K mg base "_law_is_row" 2 (spF K cB):=k9 J5 Kn I0 J8 Jm;have Ke:Ct l.prog w K mg base "_law_are_numbers" 2 (spF K aX):=ij Jh Kn I0 J8 LU;have Lw:Ct l.prog w K mg base "_law_walked" 3 (spF K bB):=lg J6 Ke Lv JQ Kd I0 J8 Jm;have Lx:Ct l.prog w K mg base "_law_turned" 2 (spF K bW):=lh J7 JQ Kd;exact(Dr F KG Lc MN Kd Lx Lw OX J8 LU Jz).imp (C7 wX)
end FIN
def PySem.W.Fast.tw18099481548060168771:=0
def PySem.W.Fast.tw15896482662643678718:=0
def PySem.W.Fast.tw2116525745595651006:=0
def PySem.W.Fast.tw5045397770311659265:=0
def PySem.W.Fast.tw868747969481857331:=0
def PySem.W.Fast.tw10179457142168182138:=0
def PySem.W.Fast.tw15775367928550567397:=0
def PySem.W.Fast.tw1428379956942121818:=0
def PySem.W.Fast.tw5151697463044642754:=0
def PySem.W.Fast.tw4854278502082313868:=0
def PySem.W.Fast.tw8251258234158390179:=0
def PySem.W.Fast.tw2466650796278797683:=0
def PySem.W.Fast.tw14731515656610706401:=0
def PySem.W.Fast.tw10485080456228517765:=0
def PySem.W.Fast.tw15368654538519405050:=0
def PySem.W.Fast.tw4970896406037957646:=0
def PySem.W.Fast.tw4220506725234763275:=0
def PySem.W.Fast.tw9891434323279289555:=0
def PySem.W.Fast.tw11532212693115475227:=0
def PySem.W.Fast.tw3767385635766900207:=0
def PySem.W.Fast.tw16881899236457716695:=0
def PySem.W.Fast.tw8161662571410906208:=0
def PySem.W.Fast.tw4325305238460955407:=0
def PySem.W.Fast.tw2238485765080235772:=0
open PySem.W
set_option maxRecDepth 100000 in
set_option maxHeartbeats 0 in
theorem PySem.Challenge.cw_netfinder_k43_above_or_not_holds : PySem.Challenge.rw_netfinder_k43_above_or_not.Holds := by
  w_on; o_law; k_head; (case hw => w_witness2)
  k_fill
  refine PV.Hr (l := PySem.Challenge.rw_netfinder_k43_above_or_not) (k := 9) (x := "_law_script") rfl rfl ⟨rfl, by decide, by decide⟩ (fun w h Y => PySem.W.kIn_of Y) ?F
  case F =>
    intro w mg fa h KX G Rt
    refine' FIN.Et KX G Rt ?aL ?lL ?cL ?kL ?LF ?Mf ?Jq ?Mg ?LG ?JZ ?Kj ?Kk ?Mh ?J0 ?LH ?J2 ?KC ?J3 ?MX ?JN ?KD ?J4 ?K9 ?JO ?La ?Kl ?J5 ?Jh ?J6 ?J7 ?Lz ?LR ?IH ?MS ?Ie ?ID ?Jp ?IB ?Jw ?Ki ?KA ?Ip ?JX
    (case aL => k_is); (case lL => k_is); (case cL => k_is); (case kL => k_is)
    iterate 26 (refine' PV.C8 KX G ?a ?l ?c ?k; (case a => k_is); (case l => k_is); (case c => k_is); (case k => k_is))
    iterate 13 k_is
