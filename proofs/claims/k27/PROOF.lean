import PyProof.Rows.All
import Wide.All
import OpenK.AllK
import Wide.FinOn
import Lean
import PyProof.EqAt
import PyProof.EqKinds
import PyProof.TupleCall
import PySem.Challenge.RW_netfinder_k27_what_is_unlike
set_option Elab.async false
set_option linter.all false
set_option maxRecDepth 100000
set_option compiler.extract_closed false
set_option bootstrap.genMatcherCode false
noncomputable section
theorem Zz{a b:Prop}(x:a)(y:b):a∧b:=⟨x,y⟩
def U8:=@PySem.wpAny_bind
def U9:=@List.getElem?_eq_getElem
def Va:=@List.mem_cons_self
def Vb:=@List.mem_cons_of_mem
def Vc:=@PySem.Heap.get?_push_of_some
def Vd:=@List.mem_append_right
def Ve:=@List.length_map
def Vf:=@PySem.wpAny_pure
def Vg:=@Bool.false_ne_true
def Vh:=@List.size_toArray
def Vi:=@List.getD_eq_getElem?_getD
def Vj:=@List.mem_append_left
def Vk:=@List.getElem?_eq_some_iff
def Vl:=@Nat.le_refl
def Vm:=@List.length_cons
def Vn:=@if_pos
def Vo:=@List.mem_cons
def Vp:=@Array.length_toList
def Vq:=@decide_eq_true_eq
def Vr:=@PySem.Heap.lt_size
def Vs:=@List.getElem?_map
def Vt:=@if_neg
def Vu:=@Bool.and_eq_true
def Vv:=@Nat.lt_of_lt_of_le
def Vx:=@List.mem_singleton
def Vy:=@PySem.Heap.get?_push_size
def Vz:=@List.map_cons
def VA:=@List.map_append
def VB:=@decide_eq_true
def VC:=@List.length_singleton
def VD:=@List.mem_range
def VE:=@List.nodup_append
def VF:=@List.mem_of_getElem?
def VG:=@List.length_range
def VH:=@List.append_nil
def VI:=@Nat.ne_of_lt
def VJ:=@List.length_append
def VL:=@Bool.false_eq_true
def VM:=@decide_eq_false
def VN:=@List.nodup_cons
def VO:=@List.all_eq_true
def VP:=@Int.eq_ofNat_of_zero_le
def VQ:=@Option.some.inj
def VR:=@Nat.le_trans
def VS:=@List.mem_append
def VT:=@Bool.eq_iff_iff
def VU:=@List.map_map
def VW:=@Option.map_eq_some_iff
def VX:=@Array.getD_eq_getD_getElem?
def VY:=@PySem.PassesOwn.never
def VZ:=@List.length_take
def V0:=@Nat.zero_le
def V1:=@List.getElem?_append_left
def V2:=@Array.getElem?_eq_getElem
def V3:=@PySem.Heap.get?_update_other
def V4:=@Bool.not_true
def V5:=@beq_iff_eq
def V6:=@beq_self_eq_true
def V7:=@List.mem_filter
def V8:=@List.map_nil
def V9:=@PySem.W.mg_none_of
def Wa:=@List.any_eq_true
def Wb:=@Option.isSome_iff_exists
def Wc:=@List.length_set
def Wd:=@List.append_assoc
def We:=@Bool.not_false
def Wf:=@beq_eq_false_iff_ne
def Wg:=@List.eq_nil_of_length_eq_zero
def Wh:=@Array.getElem_toList
def Wi:=@List.filterMap_cons_some
def Wj:=@PyProof.Rows.callWith_type1
def Wl:=@List.length_nil
def Wm:=@PySem.wpAny_seqItems
def Wn:=@List.not_mem_nil
def Wo:=@PySem.wpAny_callSpecial?_slot
def Wq:=@List.getElem?_append_right
def Wr:=@PySem.sizeLine_eq
def Ws:=@PySem.wpAny_Call_Name_kw
def Wt:=@List.getElem?_set_self
def Wu:=@List.nodup_nil
def Wv:=@List.lookup_cons
def Wx:=@Bool.and_self
def Wy:=@List.cons_append
def Wz:=@List.mem_map
def WA:=@List.filterMap_cons_none
def WB:=@PySem.wpAny_field
def WC:=@decide_eq_false_iff_not
def WG:=@List.idxOf_lt_length_of_mem
def WH:=@Array.getElem?_eq_some_iff
def WI:=@List.find?_cons_of_pos
def WJ:=@List.find?_cons_of_neg
def WK:=@PyProof.Rows.slot_tuple_getitem
def WL:=@PySem.wpAny_newObj_type
def WM:=@congrArg
def WN:=@PySem.wpAny_holding
def WO:=@PySem.Heap.size_push
def WQ:=@List.mem_of_find?_eq_some
def WR:=@Classical.byContradiction
def WS:=@PySem.Heap.get?_update_self
def WT:=@List.mem_iff_getElem?
def WU:=@List.all_map
def WV:=@List.getElem?_eq_none
def WW:=@if_false
def WX:=@List.pairwise_cons
def WY:=@List.length_drop
def WZ:=@List.take_length
def W0:=@Option.bind_eq_some_iff
def W2:=@PyProof.Rows.F.plain_set_update_loop
def W3:=@decide_false
def W5:=@PySem.wpAny_pyIter_list
def W6:=@Int.toNat_natCast
def W7:=@Ne.symm
def W9:=@PySem.mem_of_lookup
def Xa:=@List.map_congr_left
def Xb:=@PyProof.Rows.KeyOrd.kle_refl
def Xc:=@PySem.W.kia_one
def Xd:=@List.take_of_length_le
def Xe:=@PySem.F.slot_tuple_iterator_next
def Xf:=@PySem.wpAny_call_entry
def Xg:=@PySem.F.plain_max_loop
def Xh:=@PySem.wpAny_pyIter_tuple
def Xi:=@PySem.wpAny_setField_rec
def Xj:=@List.find?_eq_none
def Xk:=@List.set_set
def Xl:=@List.length_filter_le
def Xm:=@List.take_succ_eq_append_getElem
def Xn:=@PySem.Around.under_plainId
def Xo:=@List.mem_iff_getElem
def Xp:=@PySem.wpAny_truthy_bool
def Xq:=@PySem.wpAny_passesOwn
def Xr:=@List.of_mem_zip
def Xs:=@Bool.eq_false_iff
def Xt:=@List.nil_append
def Xu:=@List.pairwise_map
def Xv:=@PySem.F.slot_tuple_index
def Xw:=@Nat.zero_add
def Xx:=@List.any_map
def Xy:=@Nat.lt_irrefl
def Xz:=@List.filterMap_cons
def XA:=@if_true
def XB:=@PySem.F.slot_list_index
def XC:=@decide_true
def XD:=@Option.getD_none
def XE:=@Option.getD_some
def XF:=@Nat.lt_succ_self
def XG:=@List.getElem_mem
def XH:=@PySem.Calls.callWith_builtin
def XI:=@List.length_pos_of_mem
def XJ:=@List.zip_cons_cons
def XM:=@PySem.wpAny_typeOf
def XN:=@List.foldl_cons
def XO:=@Nat.le_succ
def XQ:=@PySem.codeAny_builtin
def XR:=@List.find?_cons
def XS:=@List.length_zip
def XT:=@List.take_add_one
def XU:=@List.foldl_append
def XW:=@of_decide_eq_true
def XX:=@PySem.wpAny_setState_of
def XY:=@List.all_cons
def XZ:=@List.nodup_iff_pairwise_ne
def X0:=@PySem.Calls.evalArgs_plain
def X1:=@Array.mem_toList_iff
def X2:=@List.mem_of_mem_take
def X3:=@List.getElem?_eq_none_iff
def X4:=@List.getElem?_zip_eq_some
def X5:=@Bool.and_false
def X6:=@PyProof.Rows.F.entry_set_update_loop
def X7:=@List.drop_eq_getElem_cons
def X8:=@List.getElem_of_mem
def X9:=@PySem.wpAny_letGo
def Ya:=@PySem.Heap.SameBut.update
def Yb:=@PySem.wpAny_mono
def Yc:=@PySem.F.args_tuple_add_2
def Yd:=@List.length_erase_of_mem
def Ye:=@PySem.F.type_tuple_index
def Yf:=@List.mem_filterMap
def Yg:=@PySem.F.entry_tuple_add
def Yh:=@PySem.tupleKind_room_in1
def Yi:=@List.find?_some
def Yj:=@List.getElem_range
def Yk:=@List.getElem?_cons_succ
def Yl:=@PySem.F.type_list_index
def Ym:=@List.getElem?_cons_zero
def Yn:=@Int.cast_ofNat_Int
def Yo:=@PySem.F.slot_tuple_add
def Yp:=@bne_self_eq_false
def Yq:=@PyProof.Rows.KeyOrd.kle_of_klt
def Yr:=@List.ext_getElem?
def Ys:=@Option.some.injEq
def Yt:=@PySem.wpAny_tryCatch
def Yu:=@List.take_zero
def Yv:=@List.filterMap_append
def Yw:=@Array.getElem?_toList
def Yx:=@PyProof.Rows.KeyOrd.kle_trans
def Yy:=@List.getElem_map
def Yz:=@PySem.wpAny_forIn_list
def YA:=@List.getElem?_set_ne
def YB:=@PySem.wpAny_updateSeq_pair
def YC:=@List.mem_of_mem_drop
def YD:=@PySem.Paired.length
def YE:=@PySem.plainId_quiet
def YF:=@PySem.F.args_tuple_iterator_next_1
def YG:=@Bool.and_true
def YH:=@PySem.wpAny_execs_nil
def YI:=@List.toList_toArray
def YJ:=@List.length_pos_iff
def YK:=@PySem.F.entry_tuple_iterator_next
def YL:=@PySem.F.slot_zip_next
def YM:=@Option.map_some
def YN:=@Nat.min_eq_left
def YO:=@Int.natCast_add
def YQ:=@PySem.Calls.Name_function_global
def YR:=@List.perm_append_singleton
def YS:=@PySem.Calls.spliced_cons
def YT:=@PySem.codeAny_mono
def YU:=@Option.isNone_some
def YV:=@Bool.false_and
def YW:=@List.drop_zero
def YX:=@PySem.Calls.call_function_entry
def YY:=@List.pairwise_iff_getElem
def YZ:=@List.mem_or_eq_of_mem_set
def Y0:=@PySem.Calls.spliced_nil
def Y1:=@List.getElem?_take_of_lt
def Y2:=@List.take_sublist
def Y3:=@PySem.wpAny_getItem_list_slice
def Y4:=@PySem.wpAny_comprehension_free
def Y5:=@Nat.lt_succ_of_lt
def Y6:=@Option.isSome_map
def Y7:=@PySem.SetTable.toList_insertAt
def Y8:=@PySem.wpAny_onRaise
def Y9:=@List.not_lt
def Za:=@List.cons.inj
def Zb:=@List.filter_cons_of_neg
def Zc:=@List.filter_cons_of_pos
def Zd:=@PySem.F.plainAttrs_list
def Ze:=@List.map_take
def Zf:=@Int.le_refl
def Zg:=@PySem.noFill_tuple_add
def Zh:=@PySem.F.entry_max_loop
def Zi:=@Nat.le_add_right
def Zj:=@List.drop_length
def Zk:=@PySem.W.cellsFrom_some
def Zo:=@List.Perm.append_right
def Zp:=@List.drop_eq_nil_of_le
def Zq:=@Nat.le_of_lt
def Zs:=@PySem.concat_meets
def Zt:=@List.range_succ
def Zu:=@List.forIn_cons
def Zv:=@Bool.or_eq_true
def Zw:=@PySem.wpAny_updateSeq
def Zx:=@Array.mem_of_getElem?
def Zy:=@List.take_append_drop
def ZA:=@Nat.sub_self
def ZD:=@List.getElem?_toArray
def ZE:=@List.Perm.append_left
def ZF:=@List.perm_append_comm
def ZG:=@Classical.choose_spec
def ZH:=@Nat.not_lt_zero
def ZJ:=@PySem.typeIs_str
def ZK:=@PySem.wpAny_rule
def ZN:=@List.mem_erase_of_ne
def ZO:=@List.pairwise_append
def ZP:=@List.getElem_toArray
def ZQ:=@List.findIdx_getElem
def ZU:=@Nat.add_le_add_left
def ZW:=@List.take_succ_cons
def ZX:=@List.drop_succ_cons
def Z0:=@Array.append_assoc
def Z1:=@PySem.wpAny_standAt
def Z2:=@PySem.seq_tuple_add
def Z5:=@Nat.lt_of_le_of_lt
def Z8:=@of_decide_eq_false
def Z9:=@List.any_cons
def aac:=@List.sum_cons
def aad:=@Bool.true_and
def aar:=@Nat.ne_of_gt
def aau:=@Nat.add_zero
def aaL:=@or_false
namespace L2
open PySem PySem.Spec PyProof.Rows
def IsTupN(h:Heap)(a:Addr)(items:Array Value):Prop:=∃o,h.get? a=some o/\o.cls=.type "tuple"/\(∃n,o.data=.seq items n)/\o.dict=none
variable{h:Heap}{a:Addr}
theorem IsTupN.tup{items:Array Value}(p:IsTupN h a items):IsTup h a items:=by
 obtain⟨o,e,c,n,_⟩:=p;exact⟨o,e,c,n⟩
theorem IsTupN.new(h:Heap)(items:Array Value):IsTupN (h.push {cls:=.type "tuple",data:=.seq items}) h.objs.size items:=⟨_,Vy _ rfl,rfl,⟨_,rfl⟩,rfl⟩
abbrev Key:=Sum Int Str
def qG:Key->Value->Bool
 | .inl k,v=>Value.isInt k v
 | .inr x,v=>Value.isStrOf x v
def HJ(w:World):Key->Int
 | .inl k=>hashInt k
 | .inr x=>hashStr w x
theorem b8:∀{k:Key}{v:Value},qG k v=true->(∃i t,k=Sum.inl i/\v=Value.int i t)\/(∃x t,k=Sum.inr x/\v=Value.str x t)
 | .inl i,v,h=>by
  obtain⟨t,e⟩:=Value.isInt_shape (k:=i) (v:=v) h;exact .inl ⟨i,t,rfl,e⟩
 | .inr x,v,h=>by
  obtain⟨t,e⟩:=Value.isStrOf_shape (x:=x) (v:=v) h;exact .inr ⟨x,t,rfl,e⟩
theorem uR(i:Int)(t:Tok):qG (.inl i) (.int i t)=true:=by simp[qG,Value.isInt]
theorem uS(x:Str)(t:Tok):qG (.inr x) (.str x t)=true:=by simp[qG,Value.isStrOf]
theorem CK(a b:Int):decide ((Sum.inl a:Key)=Sum.inl b)=(a==b):=by
 by_cases e:a=b
 ·subst e;simp
 ·have h:¬ (Sum.inl a:Key)=Sum.inl b:=fun q=>e (Sum.inl.inj q)
  rw[VM h];exact(Wf.mpr e).symm
theorem CL(a b:Str):decide ((Sum.inr a:Key)=Sum.inr b)=decide (a=b):=by
 by_cases e:a=b
 ·subst e;simp
 ·have h:¬ (Sum.inr a:Key)=Sum.inr b:=fun q=>e (Sum.inr.inj q)
  rw[VM h,VM e]
theorem CM(a:Int)(b:Str):decide ((Sum.inl a:Key)=Sum.inr b)=false:=VM (fun q=>nomatch q)
theorem CN(a:Str)(b:Int):decide ((Sum.inr a:Key)=Sum.inl b)=false:=VM (fun q=>nomatch q)
noncomputable def mixKind(prog:Program)(w:World):PySem.KeyKind prog w Key where
 is:=qG
 hash:=HJ w
 inj:=fun v a b ha hb=>by
  rcases b8 ha with⟨i,t,rfl,rfl⟩|⟨x,t,rfl,rfl⟩
  ·rcases b8 hb with⟨j,u,rfl,e⟩|⟨y,u,rfl,e⟩
   ·injection e with e1 _;rw[e1]
   ·exact nomatch e
  ·rcases b8 hb with⟨j,u,rfl,e⟩|⟨y,u,rfl,e⟩
   ·exact nomatch e
   ·injection e with e1 _;rw[e1]
 byValue:=fun k v h=>by
  rcases b8 h with⟨i,t,rfl,rfl⟩|⟨x,t,rfl,rfl⟩ <;> rfl
 pyHash:=fun hv h=>by
  rcases b8 hv with⟨i,t,rfl,rfl⟩|⟨x,t,rfl,rfl⟩
  ·exact wpAny_pyHash_int h
  ·exact wpAny_pyHash_str h
 eqBool:=fun hu hv h=>by
  rcases b8 hu with⟨i,t,rfl,rfl⟩|⟨x,t,rfl,rfl⟩
  ·rcases b8 hv with⟨j,u,rfl,rfl⟩|⟨y,u,rfl,rfl⟩
   ·rw[CK]at h;exact wpAny_eqBool_int h
   ·rw[CM]at h;exact SeqAt.EqAt.int_str i t y u _ _ _ _ h
  ·rcases b8 hv with⟨j,u,rfl,rfl⟩|⟨y,u,rfl,rfl⟩
   ·rw[CN]at h;exact SeqAt.EqAt.str_int x t j u _ _ _ _ h
   ·rw[CL]at h;exact wpAny_eqBool_str h
 «strs»:=fun k x t v h=>by
  rcases b8 h with⟨i,u,rfl,e⟩|⟨y,u,rfl,e⟩
  ·exact nomatch e
  ·injection e with e1 _;subst e1;cases v <;> rfl
theorem tZ(prog:Program)(w:World)(k:Key)(v:Value):(mixKind prog w).is k v=qG k v:=rfl
theorem qH(prog:Program)(w:World)(i:Int)(t:Tok):(mixKind prog w).is (.inl i) (.int i t)=true:=uR i t
theorem qI(prog:Program)(w:World)(x:Str)(t:Tok):(mixKind prog w).is (.inr x) (.str x t)=true:=uS x t
inductive V where
 |non|bl (b:Bool)|int (i:Int)|str (x:Str)|byt (b:Array UInt8)|flt (b:UInt64)|ref (a:Addr)|ty (n:String)
 deriving DecidableEq
noncomputable def RelV:V->Value->Prop
 | .non,u=>u=Value.none
 | .bl b,u=>u=Value.bool b
 | .int i,u=>∃t,u=Value.int i t
 | .str x,u=>∃t,u=Value.str x t
 | .byt b,u=>∃t,u=Value.bytes b t
 | .flt b,u=>∃t,u=Value.float b t
 | .ref a,u=>u=Value.ref a
 | .ty n,u=>u=Value.type n
abbrev Vals:List V->List Value->Prop:=Paired RelV
theorem Vals.length{xs:List V}{us:List Value}(r:Vals xs us):xs.length=us.length:=YD r
theorem Vals.get:∀{xs:List V}{us:List Value}{i:Nat}{x:V},Vals xs us->xs[i]?=some x->∃u,us[i]?=some u/\RelV x u
 |_,_,_,_,.nil,e=>by simp at e
 |_,_,0,_,.cons r _,e=>by simp at e;subst e;exact⟨_,rfl,r⟩
 |_,_,i+1,x,.cons _ t,e=>by
  obtain⟨u,h1,h2⟩:=Vals.get (i:=i) (x:=x) t (by simpa using e);exact⟨u,by simpa using h1,h2⟩
theorem Vals.set{x:V}{u:Value}(r:RelV x u):∀{xs:List V}{us:List Value}(i:Nat),Vals xs us->Vals (xs.set i x) (us.set i u)
 |_,_,_,.nil=>.nil
 |_,_,0,.cons _ t=>.cons r t
 |_,_,i+1,.cons q t=>.cons q (Vals.set r i t)
theorem Vals.append:∀{xs ys:List V}{us ws:List Value},Vals xs us->Vals ys ws->Vals (xs++ys) (us++ws)
 |_,_,_,_,.nil,s=>s
 |_,_,_,_,.cons r t,s=>.cons r (Vals.append t s)
theorem Vals.take:∀{xs:List V}{us:List Value}(n:Nat),Vals xs us->Vals (xs.take n) (us.take n)
 |_,_,0,_=>.nil
 |_,_,_+1,.nil=>.nil
 |_,_,n+1,.cons r t=>.cons r (Vals.take n t)
theorem Vals.drop:∀{xs:List V}{us:List Value}(n:Nat),Vals xs us->Vals (xs.drop n) (us.drop n)
 |_,_,0,r=>r
 |_,_,_+1,.nil=>.nil
 |_,_,n+1,.cons _ t=>Vals.drop n t
theorem Vals.none_of:∀{xs:List V}{us:List Value}{i:Nat},Vals xs us->xs[i]?=none->us[i]?=none:=fun{xs us i} r e=>by
 have h1:=r.length;have h2:xs.length<=i:=X3.mp e;exact X3.mpr (by lia)
def RelO:Option V->Option Value->Prop
 |some v,some u=>RelV v u
 |none,none=>True
 |_,_=>False
def KV{κ:Type}:List (κ×V)->List (κ×Value)->Prop:=Paired fun(p:κ×V) (q:κ×Value)=>p.1=q.1/\RelV p.2 q.2
def kV:Key->V
 | .inl i=>.int i
 | .inr x=>.str x
inductive HO where
 |lst (xs:List V)
 |tup (xs:List V)
 |dK (kvs:List (Key×V))|dT (kvs:List (List Key×V))
 |set (S:Int->Bool) (n:Nat)
 |ins (C dx:Addr) (fs:List (Str×V))
 |own (x:Addr)
 |xd (fs:List (Str×V))
 |met (f x:Addr)
 |rng (lo hi:Int)
 |frz (o:Obj) (u:HO)
 |tbl (ps:Array Value)
 |ext (φ:Heap->Prop)
abbrev Hp:=Addr->Option HO
def upd(H:Hp)(a:Addr)(o:HO):Hp:=fun b=>if b=a then some o else H b
variable{H:Hp}{o:HO}
theorem bc:upd H a o a=some o:=by unfold upd;rw[Vn rfl]
variable{b:Addr}
theorem aF(h:b≠a):upd H a o b=H b:=by unfold upd;rw[Vt h]
theorem FA{u:HO}(h:H a=some o)(h':H b=some u)(d:o≠u):a≠b:=by
 intro e;subst e;rw[h]at h';exact d (VQ h')
theorem bq(h:H a=some o)(h':H b=none):a≠b:=by
 intro e;subst e;rw[h]at h';cases h'
section
variable(P:Program)(w:World)
noncomputable def ObjOk(H:Hp)(h:Heap)(a:Addr):HO->Prop
 | .lst xs=>xs.length<=sizeLine/\∃(IS:List Value) (n:Nat),Vals xs IS/\h.get? a=some {cls:=.type "list",data:=.seq IS.toArray n}
 | .tup xs=>xs.length<=sizeLine/\∃IS:List Value,Vals xs IS/\IsTupN h a IS.toArray
 | .dK kvs=>kvs.length<=sizeLine/\(a==sysModules)=false/\∃vs,KV kvs vs/\h.DictOf (mixKind P w) a vs
 | .dT kvs=>kvs.length<=sizeLine/\(a==sysModules)=false/\∃xs:List (List Key×Addr×Value),
   Paired (fun(p:List Key×V) (q:List Key×Addr×Value)=>p.1=q.1/\H q.2.1=some (.tup (p.1.map kV))/\RelV p.2 q.2.2) kvs xs/\
   ∃o es ep,h.get? a=some o/\o.ExactDict/\o.data=.dict es ep/\es.toList=xs.map (entryOfKey (tupleKind (mixKind P w)))/\(xs.map (·.1)).Nodup
 | .set S n=>h.SetOf (intKind P w) a S n
 | .ins C dx fs=>H dx=some (.own a)/\fs.length<=1000/\dx≠a/\h.get? a=some (PySem.W.instObj C dx)/\
   ∃mA,h.Ns1 dx mA/\(∀f,RelO (fs.lookup f) (mA f))/\PySem.Within mA (fs.map (·.1))
 | .own _=>∃o,h.get? a=some o
 | .xd fs=>∃mA,h.Ns1 a mA/\∀f,RelO (fs.lookup f) (mA f)
 | .rng lo hi=>∃t u v,h.get? a=some {cls:=.type "range",data:=.fields #[.int lo t,.int hi u,.int 1 v]}
 | .frz o u=>h.get? a=some o/\ObjOk H h a u
 | .tbl ps=>h.get? a=some {cls:=.none,data:=.fields ps}
 | .met f x=>h.get? a=some (PySem.W.methodObj (.ref f) (.ref x))
 | .ext φ=>φ h/\(∃o,h.get? a=some o)/\∀h1 h2:Heap,φ h1->(∀o,h1.get? a=some o->h2.get? a=some o)->φ h2
def HOk(H:Hp)(h:Heap):Prop:=∀a o,H a=some o->ObjOk P w H h a o
end
variable{P:Program}{w:World}{H':Hp}{h':Heap}
section
theorem ObjOk.lt(x:ObjOk P w H h a o):a<h.objs.size:=by
 cases o with
 |lst xs=>obtain⟨_,_,_,_,e⟩:=x;exact Vr e
 |tup xs=>obtain⟨_,_,_,p⟩:=x;exact p.tup.lt
 |dK kvs=>obtain⟨_,_,_,_,o,_,_,e,_⟩:=x;exact Vr e
 |dT kvs=>obtain⟨_,_,_,_,o,_,_,e,_⟩:=x;exact Vr e
 |set S n=>obtain⟨o,_,_,_,e,_⟩:=x;exact Vr e
 |ins C dx fs=>obtain⟨_,_,_,e,_⟩:=x;exact Vr e
 |own y=>obtain⟨_,e⟩:=x;exact Vr e
 |xd fs=>obtain⟨_,⟨_,_,_,e,_⟩,_⟩:=x;exact Vr e
 |rng lo hi=>obtain⟨_,_,_,e⟩:=x;exact Vr e
 |frz ob u=>obtain⟨e,_⟩:=x;exact Vr e
 |tbl ps=>exact Vr (show h.get? a=some _ from x)
 |met f y=>exact Vr (show h.get? a=some _ from x)
 |ext φ=>obtain⟨_,⟨_,e⟩,_⟩:=x;exact Vr e
theorem Paired.mapP{α β:Type}{F G:α->β->Prop}:∀{l₁:List α}{l₂:List β},Paired F l₁ l₂->(∀a b,F a b->G a b)->Paired G l₁ l₂
 |_,_,.nil,_=>.nil
 |_,_,.cons r t,f=>.cons (f _ _ r) (Paired.mapP t f)
theorem ObjOk.stay(x:ObjOk P w H h a o)(k:∀b u,(b=a\/H b=some (.own a))->h.get? b=some u->h'.get? b=some u)
  (ho:∀b,H b=some (.own a)->H' b=some (.own a)) (ht:∀b xs,H b=some (.tup xs)->H' b=some (.tup xs)):ObjOk P w H' h' a o:=by
 induction o with
 |lst xs=>obtain⟨z,IS,n,r,e⟩:=x;exact⟨z,IS,n,r,k _ _ (.inl rfl) e⟩
 |tup xs=>obtain⟨z,IS,r,ob,e,c⟩:=x;exact⟨z,IS,r,ob,k _ _ (.inl rfl) e,c⟩
 |dK kvs=>obtain⟨z,y,vs,r,ob,es,ep,e,c⟩:=x;exact⟨z,y,vs,r,ob,es,ep,k _ _ (.inl rfl) e,c⟩
 |dT kvs=>
  obtain⟨z,y,xs,r,ob,es,ep,e,c⟩:=x;exact⟨z,y,xs,Paired.mapP r fun p q z=>⟨z.1,ht _ _ z.2.1,z.2.2⟩,ob,es,ep,k _ _ (.inl rfl) e,c⟩
 |set S n=>obtain⟨ob,es,ep,t,e,c⟩:=x;exact⟨ob,es,ep,t,k _ _ (.inl rfl) e,c⟩
 |ins C dx fs=>
  obtain⟨d,z,ne,e,mA,⟨od,es,ep,e2,c⟩,r⟩:=x;exact⟨ho _ d,z,ne,k _ _ (.inl rfl) e,mA,⟨od,es,ep,k _ _ (.inr d) e2,c⟩,r⟩
 |own y=>obtain⟨ob,e⟩:=x;exact⟨ob,k _ _ (.inl rfl) e⟩
 |xd fs=>obtain⟨mA,⟨od,es,ep,e,c⟩,r⟩:=x;exact⟨mA,⟨od,es,ep,k _ _ (.inl rfl) e,c⟩,r⟩
 |rng lo hi=>obtain⟨t,u,v,e⟩:=x;exact⟨t,u,v,k _ _ (.inl rfl) e⟩
 |frz ob u ih=>obtain⟨e,q⟩:=x;exact⟨k _ _ (.inl rfl) e,ih q⟩
 |tbl ps=>
  have e:h.get? a=some {cls:=.none,data:=.fields ps}:=x;show h'.get? a=some {cls:=.none,data:=.fields ps};exact k a _ (.inl rfl) e
 |met f y=>
  have e:h.get? a=some (PySem.W.methodObj (.ref f) (.ref y)):=x;show h'.get? a=some (PySem.W.methodObj (.ref f) (.ref y));exact k a _ (.inl rfl) e
 |ext φ=>obtain⟨p,⟨o,e⟩,st⟩:=x;exact⟨st _ _ p fun o q=>k _ _ (.inl rfl) q,⟨o,k _ _ (.inl rfl) e⟩,st⟩
theorem HOk.lt(x:HOk P w H h)(e:H a=some o):a<h.objs.size:=(x a o e).lt
theorem HOk.fresh(x:HOk P w H h)(e:h.objs.size<=a):H a=none:=by
 cases q:H a with
 |none=>rfl
 |some u=>exact absurd (Vv (x.lt q) e) (Xy _)
theorem HOk.kept(x:HOk P w H h)(k:∀b u,h.get? b=some u->h'.get? b=some u):HOk P w H h':=fun a o e=>
 (x a o e).stay (fun b u _ q=>k b u q) (fun _ q=>q) fun _ _ q=>q
theorem HOk.laid(x:HOk P w H h)(k:∀b u,h.get? b=some u->h'.get? b=some u)(hp:h.objs.size<=a)(new:ObjOk P w (upd H a o) h' a o):HOk P w (upd H a o) h':=fun b u e=>by
 have hn:=x.fresh hp;by_cases hb:b=a
 ·subst hb;rw[bc]at e;cases e;exact new
 ·rw[aF hb]at e;exact(x b u e).stay (fun c v _ q=>k c v q) (fun c q=>by rw[aF (bq q hn)];exact q) fun c xs q=>by rw[aF (bq q hn)];exact q
end
def Rd(H:Hp)(a:Addr)(u:HO):Prop:=H a=some u\/∃o,H a=some (.frz o u)
theorem Rd.ok{u:HO}(r:Rd H a u)(x:HOk P w H h):ObjOk P w H h a u:=by
 rcases r with r|⟨o,r⟩
 ·exact x a u r
 ·obtain⟨_,q⟩:=x a _ r;exact q
def Q2:Option HO->Prop
 |some (.lst _)=>True
 |some (.dK _)=>True
 |some (.dT _)=>True
 |some (.set _ _)=>True
 |some (.ins _ _ _)=>True
 |some (.ext _)=>True
 |_=>False
section
variable{x e:Addr}{o':HO}
theorem HOk.write(ok:HOk P w H h)(mu:Q2 (H x))(he:e=x\/H e=some (.own x))(k:∀b u,b≠e->h.get? b=some u->h'.get? b=some u)(QD:∃u,h'.get? e=some u)
  (new:ObjOk P w (upd H x o') h' x o'):HOk P w (upd H x o') h':=fun b u q=>by
 have Q3:∀c y,H c=some (.own y)->c≠x:=fun c y r z=>by subst z;rw[r]at mu;exact mu
 have ntup:∀c xs,H c=some (.tup xs)->c≠x:=fun c xs r z=>by subst z;rw[r]at mu;exact mu
 by_cases hb:b=x
 ·subst hb;rw[bc]at q;cases q;exact new
 ·rw[aF hb]at q;by_cases hbe:b=e
  ·have q':H b=some (.own x):=by
    rcases he with z|z
    ·exact absurd (hbe.trans z) hb
    ·rw[hbe];exact z
   rw[q]at q';cases q';obtain⟨v,hv⟩:=QD;exact⟨v,by rw[hbe];exact hv⟩
  ·refine(ok b u q).stay (fun c v hc r=>k c v ?_ r) (fun c r=>by rw[aF (Q3 c b r)];exact r) fun c xs r=>by rw[aF (ntup c xs r)];exact r
   rcases hc with rfl|hc
   ·exact hbe
   ·rintro rfl;rcases he with z|z
    ·exact Q3 c b hc z
    ·rw[hc]at z;cases z;exact hb rfl
end
structure Un(fs ex:List Addr)(H H':Hp)(h h':Heap):Prop where
 keep:∀b o,h.get? b=some o->H b=none->b∉fs->b∉ex->h'.get? b=some o
 slot:∀b o,h.get? b=some o->H b=none->b∈fs->b∉ex->∃sl,h'.get? b=some {o with slots:=sl}
 free:∀b o,h.get? b=some o->H b=none->b∉ex->H' b=none
 there:∀b o,h.get? b=some o->b∉ex->∃o',h'.get? b=some o'
 tups:∀b xs,H b=some (.tup xs)->H' b=some (.tup xs)
 frzs:∀b o u,H b=some (.frz o u)->H' b=some (.frz o u)
 tbls:∀b ps,H b=some (.tbl ps)->∃more,H' b=some (.tbl (ps++more))
section
variable{fs fs' ex ex':List Addr}{H1 H2:Hp}{h1 h2:Heap}{x e:Addr}
theorem Un.any(u:Un fs ex H H1 h h1){ob:Obj}(q:h.get? b=some ob)(n:H b=none)(hx:b∉ex):∃sl,h1.get? b=some {ob with slots:=sl}:=by
 by_cases hb:b∈fs
 ·exact u.slot b ob q n hb hx
 ·exact⟨ob.slots,u.keep b ob q n hb hx⟩
theorem Un.trans(a:Un fs ex H H1 h h1)(b:Un fs ex H1 H2 h1 h2):Un fs ex H H2 h h2 where
 keep:=fun c ob q n hc hx=>b.keep c ob (a.keep c ob q n hc hx) (a.free c ob q n hx) hc hx
 slot:=fun c ob q n hc hx=>by
  obtain⟨sl,e1⟩:=a.slot c ob q n hc hx;obtain⟨SX,e2⟩:=b.slot c _ e1 (a.free c ob q n hx) hc hx;exact⟨SX,e2⟩
 free:=fun c ob q n hx=>by
  obtain⟨o',e1⟩:=a.there c ob q hx;exact b.free c o' e1 (a.free c ob q n hx) hx
 there:=fun c ob q hx=>by
  obtain⟨o',e1⟩:=a.there c ob q hx;exact b.there c o' e1 hx
 tups:=fun c xs q=>b.tups c xs (a.tups c xs q)
 frzs:=fun c ob xs q=>b.frzs c ob xs (a.frzs c ob xs q)
 tbls:=fun c ps q=>by
  obtain⟨m1,e1⟩:=a.tbls c ps q;obtain⟨m2,e2⟩:=b.tbls c _ e1;exact⟨m1++m2,by rw[e2,Z0]⟩
theorem Un.kept(k:∀b u,h.get? b=some u->h'.get? b=some u):Un fs ex H H h h':=
 ⟨fun b ob q _ _ _=>k b ob q,fun b ob q _ _ _=>⟨ob.slots,k b ob q⟩,fun _ _ _ n _=>n,fun b ob q _=>⟨ob,k b ob q⟩,fun _ _ q=>q,fun _ _ _ q=>q,fun _ ps q=>⟨#[],by rw[q];simp⟩⟩
theorem Un.refl:Un fs ex H H h h:=Un.kept fun _ _ q=>q
theorem Un.laid(k:∀b u,h.get? b=some u->h'.get? b=some u)(hp:h.objs.size<=a)(hn:H a=none):Un fs ex H (upd H a o) h h' where
 keep:=fun b u q _ _ _=>k b u q
 slot:=fun b u q _ _ _=>⟨u.slots,k b u q⟩
 free:=fun b u q n _=>by rw[aF (VI (Vv (Vr q) hp))];exact n
 there:=fun b u q _=>⟨u,k b u q⟩
 tups:=fun b xs q=>by rw[aF (bq q hn)];exact q
 frzs:=fun b u xs q=>by rw[aF (bq q hn)];exact q
 tbls:=fun b ps q=>⟨#[],by rw[aF (bq q hn),q];simp⟩
theorem Un.write(mu:Q2 (H x))(he:e=x\/H e=some (.own x))(k:∀b u,b≠e->h.get? b=some u->h'.get? b=some u)(QD:∃u,h'.get? e=some u):Un fs ex H (upd H x o) h h':=by
 have hx:∀b,H b=none->b≠x:=fun b n z=>by subst z;rw[n]at mu;exact mu
 have hb:∀b,H b=none->b≠e:=fun b n z=>by
  subst z;rcases he with r|r
  ·exact hx b n r
  ·rw[n]at r;cases r
 have hm:∀b u,H b=some u->¬ Q2 (some u)->b≠x:=fun b u q nm z=>by subst z;rw[q]at mu;exact nm mu
 refine⟨fun b u q n _ _=>k b u (hb b n) q,fun b u q n _ _=>⟨u.slots,k b u (hb b n) q⟩,fun b u q n _=>by rw[aF (hx b n)];exact n,fun b u q _=>?_,
  fun b xs q=>by rw[aF (hm b _ q fun z=>z)];exact q,fun b u xs q=>by rw[aF (hm b _ q fun z=>z)];exact q,fun b ps q=>⟨#[],by rw[aF (hm b _ q fun z=>z),q];simp⟩⟩
 by_cases hbe:b=e
 ·subst hbe;exact QD
 ·exact⟨u,k b u hbe q⟩
end
def trk(h:Heap)(H:Hp):List Addr:=(List.range h.objs.size).filter fun a=>(H a).isSome
def xU(h:Heap)(H:Hp):Heap:=PySem.W.hideAll h (trk h H)
theorem uT(h:Heap)(H:Hp):(xU h H).objs.size=h.objs.size:=PySem.W.hideAll_size _ _
theorem xV{o:Obj}(e:h.get? b=some o)(n:H b=none):(xU h H).get? b=some o:=
 PySem.W.hideAll_get _ e fun hm=>by
  have q:(H b).isSome=true:=(V7.mp hm).2;rw[n]at q;simp at q
theorem z9{o:Obj}(e:(xU h H).get? b=some o):h.get? b=some o/\H b=none:=by
 have e':h.get? b=some o:=PySem.W.of_hideAll (trk h H) e;refine⟨e',?_⟩;cases q:H b with
 |none=>rfl
 |some x=>
  have hm:b∈trk h H:=V7.mpr ⟨VD.mpr (Vr e'),by simp[q]⟩;have z:(xU h H).get? b=none:=PySem.W.hideAll_none (trk h H) hm;rw[z]at e;cases e
def Aa(g h:Heap)(L:Addr):List (Addr×Obj):=(List.range h.objs.size).filterMap fun a=>if a=L\/(g.get? a).isSome=true then none else(h.get? a).map fun o=>(a,o)
def cN(g h:Heap)(L d:Addr):List (Addr×Obj):=(Aa g h L).filter fun p=>decide (p.1≠d)
structure Mod(K:W.Frag)(mg:Str->Option Value)(base:Heap):Prop where
 kin:K.In base
 glob:base.Ns mainGlobals mg
 blt:∃mb,base.Ns builtinsNs mb/\∀x:Str,x≠"__name__"->mb x=bootBuiltins x
 nolimit:base.NoLimit
structure Cx where
 prog:Program
 w:World
 K:W.Frag
 mg:Str->Option Value
 base:Heap
 A:Around
 N:List Str
 s₀:Shared
 H₀:Hp
 env:Env
 outer:List Env
 stack:List Env
 ex:List Addr
 fn:Str->Bool
 calm:Bool
 pn:List (Addr×Obj)
 xe:Value->Shared->Prop
def Mu(l:List Env):List Addr:=l.filterMap (·.frame)
abbrev Cx.fs(X:Cx):List Addr:=Mu X.outer
def SY(sc:Scope)(x:Str):Prop:=sc.names.lookup x=some .local\/sc.names.lookup x=some .cell\/sc.names.lookup x=some .free
def Loc(sc:Scope)(x:Str):Prop:=sc.names.lookup x=some .local\/sc.names.lookup x=some .cell
def Hm(sc:Scope)(x:Str):Bool:=match sc.names.lookup x with
 |some .local=>true
 |some .cell=>true
 |_=>false
variable{sc:Scope}{x:Str}
theorem lo(h:Hm sc x=true):Loc sc x:=by
 unfold Hm at h;split at h
 ·exact .inl (by assumption)
 ·exact .inr (by assumption)
 ·cases h

def HK(env:Env)(h:Heap)(m:Str->Option Value)(x:Str)(u:Value):Prop:=
 (env.kindOf x=some .local/\m x=some u)\/((env.kindOf x=some .cell\/env.kindOf x=some .free)/\∃c,env.cells.lookup x=some c/\h.IsCell c (some u))
structure Cx.Ok(X:Cx):Prop where
 mod:Mod X.K X.mg X.base
 kind:X.env.scope.kind=.function
 glob:X.env.globals=mainGlobals
 blt:X.env.builtins=builtinsNs
 above:X.s₀.heap.objs.size<=X.env.locals
 inj:∀x y c,X.env.cells.lookup x=some c->X.env.cells.lookup y=some c->x=y
 has:∀x,(X.env.kindOf x=some .cell\/X.env.kindOf x=some .free)->∃c,X.env.cells.lookup x=some c
 cab:∀x c,X.fn x=true->X.env.cells.lookup x=some c->X.s₀.heap.objs.size<=c
 hd:X.calm=true->X.A.handled=none
 frames:X.A.frames=some X.stack
 stk:X.stack=X.outer\/(X.stack=X.env::X.outer/\X.env.frame=some X.env.locals)
 exf:∀b∈X.ex,b≠X.env.locals/\∀x c,X.env.cells.lookup x=some c->c≠b
 bs:∀b o,X.base.get? b=some o->X.s₀.heap.get? b=some o/\X.H₀ b=none
 bsz:X.base.objs.size<=X.s₀.heap.objs.size
 noex:∀b o,X.base.get? b=some o->b∉X.ex
 exfs:∀b∈X.ex,b∉X.fs
 funs:X.s₀.heap.FunFrames X.base X.outer
 frf:∀b∈X.fs,X.H₀ b=none
structure Inv(X:Cx)(pr:List (Addr×Obj))(σ:List (Option V))(H:Hp)(s:Shared):Prop where
 ok:X.Ok
 os:s.os=X.s₀.os
 bare:AllBare s.gens
 base:Un X.fs X.ex X.H₀ H X.s₀.heap s.heap
 loc:∃m,s.heap.Ns X.env.locals m/\∀(i:Nat) (x:Str) (v:V),X.N[i]?=some x->σ[i]?=some (some v)->SY X.env.scope x->∃u,RelV v u/\HK X.env s.heap m x u
 cell:∀x c,X.env.cells.lookup x=some c->∃v,s.heap.IsCell c v
 free:H X.env.locals=none
 freeC:∀x c,X.env.cells.lookup x=some c->H c=none
 pin:∀p∈X.pn++pr,s.heap.get? p.1=some p.2/\H p.1=none/\p.1≠X.env.locals/\p.1∉X.fs/\∀v,p.2.data≠.cell v
 hok:HOk X.prog X.w H s.heap
 len:σ.length=X.N.length
variable{X:Cx}{pr:List (Addr×Obj)}{s s':Shared}{ch:List Addr}{N:List Str}{i:Nat}{v:V}{u:Value}
section
variable{σ:List (Option V)}
theorem Cx.Ok.nofr(ok:X.Ok){o:Obj}(e:X.base.get? b=some o):b∉X.fs:=fun hb=>by
 have:=(ok.funs.mem hb).1;rw[e]at this;cases this
theorem Inv.bs(I:Inv X pr σ H s):∀b o,X.base.get? b=some o->s.heap.get? b=some o/\H b=none:=fun b o e=>
 ⟨I.base.keep b o (I.ok.bs b o e).1 (I.ok.bs b o e).2 (I.ok.nofr e) (I.ok.noex b o e),I.base.free b o (I.ok.bs b o e).1 (I.ok.bs b o e).2 (I.ok.noex b o e)⟩
theorem Inv.bk(I:Inv X pr σ H s):∀b o,X.base.get? b=some o->s.heap.get? b=some o:=fun b o e=>(I.bs b o e).1
theorem Inv.mod(I:Inv X pr σ H s):Mod X.K X.mg X.base:=I.ok.mod
theorem Inv.kIn(I:Inv X pr σ H s):X.K.In s.heap:=I.ok.mod.kin.keeps I.bk
theorem Inv.lt(I:Inv X pr σ H s):X.env.locals<s.heap.objs.size:=let⟨_,hn,_⟩:=I.loc;hn.lt
theorem Inv.sz(I:Inv X pr σ H s):X.s₀.heap.objs.size<=s.heap.objs.size:=VR I.ok.above (Zq I.lt)
theorem Inv.nofs(I:Inv X pr σ H s)(h:s.heap.objs.size<=a):a∉X.fs:=fun hb=>by
 obtain⟨_,o,ho,_⟩:=I.ok.funs.mem hb;exact absurd (Vv (Vr ho) (VR I.sz h)) (Xy _)
theorem Inv.cne(I:Inv X pr σ H s):∀x c,X.env.cells.lookup x=some c->c≠X.env.locals:=fun x c e z=>by
 obtain⟨v,o,ho,hd⟩:=I.cell x c e;obtain⟨m,⟨o',es,ep,Mv,Mw,_⟩,_⟩:=I.loc;rw[z,Mv]at ho;cases ho;rw[Mw]at hd;cases hd
theorem Inv.funs(I:Inv X pr σ H s):s.heap.FunFrames X.base X.outer:=by
 have all:∀(l:List Env),(∀b∈Mu l,b∈X.fs)->X.s₀.heap.FunFrames X.base l->s.heap.FunFrames X.base l:=by
  intro l;induction l with
  |nil=>intro _ _;trivial
  |cons env r ih=>
   intro hs hl;obtain⟨hk,⟨L,o,hf,hn,ho,hd⟩,hr⟩:=hl;have hL:L∈X.fs:=hs L (by unfold Mu;rw[Xz,hf];exact Va);obtain⟨sl,e⟩:=I.base.slot L o ho (I.ok.frf L hL) hL fun z=>I.ok.exfs L z hL
   exact⟨hk,⟨L,_,hf,hn,e,hd⟩,ih (fun b hb=>hs b (by unfold Mu;rw[Xz,hf];exact Vb _ hb)) hr⟩
 exact all X.outer (fun _ hb=>hb) I.ok.funs
theorem Inv.stack(I:Inv X pr σ H s):s.heap.FunFrames X.base X.stack:=by
 rcases I.ok.stk with e|⟨e,hf⟩
 ·rw[e];exact I.funs
 ·rw[e];obtain⟨m,hn,_⟩:=I.loc;refine .cons (by rw[I.ok.kind];decide) hf hn ?_ I.funs;exact Heap.get?_none_of_le (VR I.ok.bsz I.ok.above)
theorem Inv.stkSub(I:Inv X pr σ H s):∀b∈Mu X.stack,b∈X.env.locals::X.fs:=fun b hb=>by
 rcases I.ok.stk with e|⟨e,hf⟩
 ·rw[e]at hb;exact Vb _ hb
 ·rw[e]at hb;unfold Mu at hb;rw[Xz,hf]at hb;exact hb
theorem Inv.stkFree(I:Inv X pr σ H s):∀b∈Mu X.stack,H b=none:=fun b hb=>by
 rcases Vo.mp (I.stkSub b hb) with e|hb
 ·rw[e];exact I.free
 ·obtain⟨_,o,ho,_⟩:=I.ok.funs.mem hb;exact I.base.free b o ho (I.ok.frf b hb) fun z=>I.ok.exfs b z hb
theorem Inv.step{g':Array GenState}{t':Nat}{d':Drawn}(I:Inv X pr σ H s)
  (NQ:∀b∈ch,(b∈X.ex\/X.s₀.heap.objs.size<=b)/\b≠X.env.locals/\(∀x c,X.env.cells.lookup x=some c->c≠b)/\∀p∈X.pn++pr,p.1≠b)
  (keep:∀b o,b≠X.env.locals->b∉X.fs->b∉ch->s.heap.get? b=some o->H b=none->h'.get? b=some o)
  (slot:∀b o,b≠X.env.locals->b∈X.fs->b∉ch->s.heap.get? b=some o->H b=none->∃sl,h'.get? b=some {o with slots:=sl}) (free:∀b o,b∉ch->s.heap.get? b=some o->H b=none->H' b=none)
  (there:∀b o,b∉ch->s.heap.get? b=some o->∃o',h'.get? b=some o')
  (tups:∀b xs,H b=some (.tup xs)->H' b=some (.tup xs)) (frzs:∀b o u,H b=some (.frz o u)->H' b=some (.frz o u)) (tbls:∀b ps,H b=some (.tbl ps)->∃more,H' b=some (.tbl (ps++more)))
  (ns:∀m,s.heap.Ns X.env.locals m->h'.Ns X.env.locals m) (hok:HOk X.prog X.w H' h') (hg:AllBare g'):
  Inv X pr σ H' {s with heap:=h',gens:=g',drawn:=d',toks:=t'}:=by
 have Uh:∀b o,X.s₀.heap.get? b=some o->b≠X.env.locals:=fun b o e=>VI (Vv (Vr e) I.ok.above)
 have Sh:∀b o,X.s₀.heap.get? b=some o->b∉X.ex->b∉ch:=fun b o e hx hb=>by
  rcases(NQ b hb).1 with z|z
  ·exact hx z
  ·exact absurd (Vv (Vr e) z) (Xy _)
 have cellK:∀x c,X.env.cells.lookup x=some c->∀v,s.heap.IsCell c v->h'.IsCell c v:=fun x c e v Jc=>by
  obtain⟨o,ho,hd⟩:=Jc;have Q4:c∉ch:=fun z=>(NQ c z).2.2.1 x c e rfl
  by_cases hc:c∈X.fs
  ·obtain⟨sl,q⟩:=slot c o (I.cne x c e) hc Q4 ho (I.freeC x c e);exact⟨_,q,hd⟩
  ·exact⟨o,keep c o (I.cne x c e) hc Q4 ho (I.freeC x c e),hd⟩
 refine⟨I.ok,I.os,hg,⟨fun b o e n hb hx=>?_,fun b o e n hb hx=>?_,fun b o e n hx=>?_,fun b o e hx=>?_,fun b xs e=>tups b xs (I.base.tups b xs e),fun b o xs e=>frzs b o xs (I.base.frzs b o xs e),fun b ps e=>?_⟩,?_,fun x c e=>?_,?_,fun x c e=>?_,fun p hp=>?_,hok,I.len⟩
 ·exact keep b o (Uh b o e) hb (Sh b o e hx) (I.base.keep b o e n hb hx) (I.base.free b o e n hx)
 ·obtain⟨sl,e1⟩:=I.base.slot b o e n hb hx;obtain⟨SX,e2⟩:=slot b _ (Uh b o e) hb (Sh b o e hx) e1 (I.base.free b o e n hx);exact⟨SX,e2⟩
 ·obtain⟨o',e1⟩:=I.base.there b o e hx;exact free b o' (Sh b o e hx) e1 (I.base.free b o e n hx)
 ·obtain⟨o',e1⟩:=I.base.there b o e hx;exact there b o' (Sh b o e hx) e1
 ·obtain⟨m1,e1⟩:=I.base.tbls b ps e;obtain⟨m2,e2⟩:=tbls b _ e1;exact⟨m1++m2,by rw[e2,Z0]⟩
 ·obtain⟨m,hn,hl⟩:=I.loc;refine⟨m,ns m hn,fun i x v e1 e2 e3=>?_⟩;obtain⟨u,r,l⟩:=hl i x v e1 e2 e3;refine⟨u,r,?_⟩;rcases l with l|⟨k,c,e,z⟩
  ·exact .inl l
  ·exact .inr ⟨k,c,e,cellK x c e _ z⟩
 ·obtain⟨v,z⟩:=I.cell x c e;exact⟨v,cellK x c e v z⟩
 ·obtain⟨m,⟨o,_,_,ho,_⟩,_⟩:=I.loc;exact free _ o (fun z=>(NQ _ z).2.1 rfl) ho I.free
 ·obtain⟨v,o,ho,hd⟩:=I.cell x c e;exact free c o (fun z=>(NQ c z).2.2.1 x c e rfl) ho (I.freeC x c e)
 ·obtain⟨e,n,ne,nf,d⟩:=I.pin p hp;have Q4:p.1∉ch:=fun z=>(NQ p.1 z).2.2.2 p hp rfl
  exact⟨keep p.1 p.2 ne nf Q4 e n,free p.1 p.2 Q4 e n,ne,nf,d⟩
theorem Inv.un{t':Nat}(I:Inv X pr σ H s)(u:Un X.fs [] H H' s.heap h')(hok:HOk X.prog X.w H' h'):Inv X pr σ H' {s with heap:=h',toks:=t'}:=by
 obtain⟨m,⟨o,es,ep,ho,r⟩,_⟩:=id I.loc;obtain⟨sl,hL⟩:=u.any ho I.free (by simp);exact I.step (g':=s.gens) (d':=s.drawn) (ch:=[]) (fun _ z=>nomatch z) (fun b o _ hb _ e n=>u.keep b o e n hb (by simp)) (fun b o _ hb _ e n=>u.slot b o e n hb (by simp)) (fun b o _ e n=>u.free b o e n (by simp)) (fun b o _ e=>u.there b o e (by simp)) u.tups u.frzs u.tbls (fun m' hm=>by
  obtain⟨o',LQ,Po,Mv,r'⟩:=hm;rw[ho]at Mv;cases Mv;exact⟨_,LQ,Po,hL,r'⟩) hok I.bare
theorem Inv.call{g':Array GenState}{t':Nat}{d':Drawn}(I:Inv X pr σ H s)(u:Un (Mu X.stack) ch H H' s.heap h')(hok:HOk X.prog X.w H' h')(hg:AllBare g')
  (NQ:∀b∈ch,(b∈X.ex\/X.s₀.heap.objs.size<=b)/\b≠X.env.locals/\(∀x c,X.env.cells.lookup x=some c->c≠b)/\∀p∈X.pn++pr,p.1≠b):
  Inv X pr σ H' {s with heap:=h',gens:=g',drawn:=d',toks:=t'}:=by
 obtain⟨m,⟨o,es,ep,ho,r⟩,_⟩:=id I.loc;obtain⟨sl,hL⟩:=u.any ho I.free fun z=>(NQ _ z).2.1 rfl
 exact I.step (ch:=ch) NQ (fun b o hL hb hc e n=>u.keep b o e n (fun z=>(Vo.mp (I.stkSub b z)).elim hL hb) hc) (fun b o _ _ hc e n=>u.any e n hc) (fun b o hc e n=>u.free b o e n hc) (fun b o hc e=>u.there b o e hc) u.tups u.frzs u.tbls (fun m' hm=>by
  obtain⟨o',LQ,Po,Mv,r'⟩:=hm;rw[ho]at Mv;cases Mv;exact⟨_,LQ,Po,hL,r'⟩) hok hg
theorem Inv.turned{t':Nat}{it:Addr}(I:Inv X pr σ H s)(k:∀b o,b≠it->s.heap.get? b=some o->h'.get? b=some o)(hn:H it=none)(hL:it≠X.env.locals)
  (h1:it∈X.ex\/X.s₀.heap.objs.size<=it) (h2:∀x c,X.env.cells.lookup x=some c->c≠it) (h3:∀p∈X.pn++pr,p.1≠it):Inv X pr σ H {s with heap:=h',toks:=t'}:=by
 have Ui:∀b u,H b=some u->b≠it:=fun b u e z=>by rw[z,hn]at e;cases e
 refine I.step (g':=s.gens) (d':=s.drawn) (ch:=[it]) (fun b hb=>?_) (fun b o _ _ hc e _=>k b o (fun z=>hc (by simp[z])) e) (fun b o _ _ hc e _=>⟨o.slots,k b o (fun z=>hc (by simp[z])) e⟩) (fun _ _ _ _ n=>n)
  (fun b o hc e=>⟨o,k b o (fun z=>hc (by simp[z])) e⟩) (fun _ _ e=>e) (fun _ _ _ e=>e) (fun b ps e=>⟨#[],by rw[e];simp⟩) (fun m hm=>?_) (fun b u e=>?_) I.bare
 ·have e:b=it:=by simpa using hb
  subst e;exact⟨h1,hL,h2,h3⟩
 ·obtain⟨o,es,ep,ho,r⟩:=hm;exact⟨o,es,ep,k _ o (W7 hL) ho,r⟩
 ·refine(I.hok b u e).stay (fun c v hc q=>k c v ?_ q) (fun _ q=>q) fun _ _ q=>q
  rcases hc with z|z
  ·rw[z];exact Ui b u e
  ·exact Ui c _ z
theorem Inv.tok(I:Inv X pr σ H s)(t:Nat):Inv X pr σ H {s with toks:=t}:=I.un (h':=s.heap) (t':=t) Un.refl I.hok
theorem Inv.kept{t':Nat}(I:Inv X pr σ H s)(k:∀b u,s.heap.get? b=some u->h'.get? b=some u):Inv X pr σ H {s with heap:=h',toks:=t'}:=I.un (Un.kept k) (I.hok.kept k)
theorem Inv.laid{a:Addr}{o:HO}{t':Nat}(I:Inv X pr σ H s)(k:∀b u,s.heap.get? b=some u->h'.get? b=some u)(hp:s.heap.objs.size<=a)(new:ObjOk X.prog X.w (upd H a o) h' a o):
  Inv X pr σ (upd H a o) {s with heap:=h',toks:=t'}:=I.un (Un.laid k hp (I.hok.fresh hp)) (I.hok.laid k hp new)
theorem Inv.write{x e:Addr}{o:HO}{t':Nat}(I:Inv X pr σ H s)(mu:Q2 (H x))(he:e=x\/H e=some (.own x))(k:∀b u,b≠e->s.heap.get? b=some u->h'.get? b=some u)(QD:∃u,h'.get? e=some u)
  (new:ObjOk X.prog X.w (upd H x o) h' x o):Inv X pr σ (upd H x o) {s with heap:=h',toks:=t'}:=I.un (Un.write mu he k QD) (I.hok.write mu he k QD new)
theorem Inv.pins_of{O3:List (Addr×Obj)}(I:Inv X pr σ H s)(h:∀p∈O3,s.heap.get? p.1=some p.2/\H p.1=none/\p.1≠X.env.locals/\p.1∉X.fs/\∀v,p.2.data≠.cell v):Inv X O3 σ H s:=
 ⟨I.ok,I.os,I.bare,I.base,I.loc,I.cell,I.free,I.freeC,fun p hp=>(VS.mp hp).elim (fun z=>I.pin p (Vj _ z)) (h p),I.hok,I.len⟩
theorem rK(hN:N.Nodup){j:Nat}(a:N[i]?=some x)(b:N[j]?=some x):i=j:=by
 obtain⟨h1,e1⟩:=Vk.mp a;obtain⟨h2,e2⟩:=Vk.mp b;exact(List.getElem_inj hN).mp (e1.trans e2.symm)
theorem oT{M:Model}{A:Around}{E:Value->Shared->Prop}{Q:Unit->Shared->Prop}(I:Inv X pr σ H s)(hN:X.N.Nodup)(hi:X.N[i]?=some x)(hx:Loc X.env.scope x)(r:RelV v u)
  (h:∀s',Inv X pr (σ.set i (some v)) H s'->(∃a,Heap.SameBut a s.heap s'.heap/\(a=X.env.locals\/X.env.cells.lookup x=some a))->Q () s') (hf:X.fn x=true\/X.env.scope.names.lookup x=some .local:=by first|exact .inl rfl|exact .inr rfl|assumption):wpAny M A (storeName X.env x u) Q E s:=by
 obtain⟨m,hn,hl⟩:=id I.loc;have hcls:(X.env.scope.kind==.class||(X.env.scope.kind==.module&&X.env.locals != X.env.globals))=false:=by rw[I.ok.kind];rfl
 have hiσ:i<σ.length:=by rw[I.len];exact(Vk.mp hi).1
 have cne:=I.cne;have tracked:∀{a:Addr}{h':Heap},(∃o,s.heap.get? a=some o/\H a=none)->Heap.SameBut a s.heap h'->HOk X.prog X.w H h':=fun{a h'} ha hs b ob e=>by
  obtain⟨_,_,O4⟩:=ha;refine(I.hok b ob e).stay (fun c w' hc q=>(hs.2 c ?_).trans q) (fun _ q=>q) fun _ _ q=>q
  rintro rfl;rcases hc with rfl|hc
  ·rw[O4]at e;cases e
  ·rw[O4]at hc;cases hc
 rcases hx with hk|hk
 ·refine wpAny_storeName_local hk hn (fun h' Pp hs=>?_) hcls;obtain⟨oL,_,_,hoL,_⟩:=id hn;refine h _ ⟨I.ok,I.os,I.bare,⟨fun b o e n hb hx=>?_,fun b o e n hb hx=>?_,I.base.free,fun b o e hx=>?_,I.base.tups,I.base.frzs,I.base.tbls⟩,⟨_,Pp,fun j y v' e1 e2 e3=>?_⟩,fun y c e=>?_,I.free,I.freeC,fun p hp=>?_,tracked ⟨oL,hoL,I.free⟩ hs,by simpa using I.len⟩ ⟨_,hs,.inl rfl⟩
  ·exact(hs.2 b (VI (Vv (Vr e) I.ok.above))).trans (I.base.keep b o e n hb hx)
  ·obtain⟨sl,e1⟩:=I.base.slot b o e n hb hx;exact⟨sl,(hs.2 b (VI (Vv (Vr e) I.ok.above))).trans e1⟩
  ·obtain⟨o',e1⟩:=I.base.there b o e hx;exact⟨o',(hs.2 b (VI (Vv (Vr e) I.ok.above))).trans e1⟩
  ·by_cases hj:j=i
   ·subst hj;rw[hi]at e1;cases e1;rw[Wt hiσ]at e2;cases e2;exact⟨u,r,.inl ⟨hk,by simp⟩⟩
   ·rw[YA (W7 hj)]at e2;obtain⟨u',r',q⟩:=hl j y v' e1 e2 e3;refine⟨u',r',?_⟩;rcases q with⟨k,e⟩|⟨k,c,e,z⟩
    ·refine .inl ⟨k,?_⟩;have:y≠x:=fun e=>hj (rK hN e1 (e▸hi))
     simp[this,e]
    ·exact .inr ⟨k,c,e,z.sameBut hs (cne y c e)⟩
  ·obtain⟨w',z⟩:=I.cell y c e;exact⟨w',z.sameBut hs (cne y c e)⟩
  ·obtain⟨e,n,ne,nf,d⟩:=I.pin p hp;exact⟨(hs.2 p.1 ne).trans e,n,ne,nf,d⟩
 ·have ML:X.fn x=true:=by
   rcases hf with z|z
   ·exact z
   ·rw[z]at hk;cases hk
  obtain⟨c,hc⟩:=I.ok.has x (.inl hk);obtain⟨w',z⟩:=I.cell x c hc;refine wpAny_storeName_cell I.ok.kind hk hc z (fun h' N1 hs=>?_);obtain⟨oc,Uj,hocd⟩:=id z;refine h {s with heap:=h'} ⟨I.ok,I.os,I.bare,⟨fun b o e n hb hx=>?_,fun b o e n hb hx=>?_,I.base.free,fun b o e hx=>?_,I.base.tups,I.base.frzs,I.base.tbls⟩,⟨m,hn.sameBut hs (W7 (cne x c hc)),fun j y v' e1 e2 e3=>?_⟩,fun y c' e=>?_,I.free,I.freeC,fun p hp=>?_,tracked ⟨oc,Uj,I.freeC x c hc⟩ hs,by simpa using I.len⟩ ⟨c,hs,.inr hc⟩
  ·exact(hs.2 b (VI (Vv (Vr e) (I.ok.cab x c ML hc)))).trans (I.base.keep b o e n hb hx)
  ·obtain⟨sl,e1⟩:=I.base.slot b o e n hb hx;exact⟨sl,(hs.2 b (VI (Vv (Vr e) (I.ok.cab x c ML hc)))).trans e1⟩
  ·obtain⟨o',e1⟩:=I.base.there b o e hx;exact⟨o',(hs.2 b (VI (Vv (Vr e) (I.ok.cab x c ML hc)))).trans e1⟩
  ·by_cases hj:j=i
   ·subst hj;rw[hi]at e1;cases e1;rw[Wt hiσ]at e2;cases e2;exact⟨u,r,.inr ⟨.inl hk,c,hc,N1⟩⟩
   ·rw[YA (W7 hj)]at e2;obtain⟨u',r',q⟩:=hl j y v' e1 e2 e3;refine⟨u',r',?_⟩;rcases q with q|⟨k,c',e,z'⟩
    ·exact .inl q
    ·refine .inr ⟨k,c',e,z'.sameBut hs ?_⟩;rintro rfl;exact hj (rK hN e1 (I.ok.inj _ _ _ e hc▸hi))
  ·by_cases N3:c'=c
   ·subst N3;exact⟨_,N1⟩
   ·obtain⟨w2,z2⟩:=I.cell y c' e;exact⟨w2,z2.sameBut hs N3⟩
  ·obtain⟨e,n,ne,nf,d⟩:=I.pin p hp;refine⟨(hs.2 p.1 ?_).trans e,n,ne,nf,d⟩;intro q;rw[q,Uj]at e;have q':oc=p.2:=VQ e;exact d w' (by rw[<-q'];exact hocd)
theorem rL{M:Model}{A:Around}{E:Value->Shared->Prop}{Q:Unit->Shared->Prop}(I:Inv X pr σ H s)(hN:X.N.Nodup)(hi:X.N[i]?=some x)(hx:Loc X.env.scope x)(r:RelV v u)
  (h:∀s',Inv X pr (σ.set i (some v)) H s'->Q () s') (hf:X.fn x=true\/X.env.scope.names.lookup x=some .local:=by first|exact .inl rfl|exact .inr rfl|assumption):wpAny M A (storeName X.env x u) Q E s:=
 oT I hN hi hx r (fun s' I' _=>h s' I') hf
theorem Inv.call'(I:Inv X pr σ H s)(ho:s'.os=s.os)(u:Un (Mu X.stack) ch H H' s.heap s'.heap)(hok:HOk X.prog X.w H' s'.heap)(hg:AllBare s'.gens)
  (NQ:∀b∈ch,(b∈X.ex\/X.s₀.heap.objs.size<=b)/\b≠X.env.locals/\(∀x c,X.env.cells.lookup x=some c->c≠b)/\∀p∈X.pn++pr,p.1≠b):Inv X pr σ H' s':=by
 obtain⟨h',g',d',t',o'⟩:=s';have e:o'=s.os:=ho;subst e;exact I.call (g':=g') (t':=t') (d':=d') u hok hg NQ
end
abbrev XK:=Value->Option Addr->Hp->Prop
abbrev St:=List (Option V)
abbrev VK:=V->Hp->Prop
abbrev TE:=St->Hp->VK->Prop
abbrev TT:=St->Hp->(Bool->Hp->Prop)->Prop
abbrev TA:=St->Hp->(List V->Hp->Prop)->Prop
structure Ends where
 nx:St->Hp->Prop
 rt:VK
 bk:St->Hp->Prop:=fun _ _=>False
 ct:St->Hp->Prop:=fun _ _=>False
abbrev TS:=Ends->St->Hp->Prop
def EP(X:Cx)(pr:List (Addr×Obj))(σ:St)(Q:VK)(u:Value)(s':Shared):Prop:=∃v H',Inv X pr σ H' s'/\RelV v u/\Q v H'
def TP(X:Cx)(pr:List (Addr×Obj))(σ:St)(Q:Bool->Hp->Prop)(b:Bool)(s':Shared):Prop:=∃H',Inv X pr σ H' s'/\Q b H'
def AP(X:Cx)(pr:List (Addr×Obj))(σ:St)(Q:List V->Hp->Prop)(us:List Value)(s':Shared):Prop:=∃vs H',Inv X pr σ H' s'/\Vals vs us/\Q vs H'
def SP(X:Cx)(pr:List (Addr×Obj))(D:Ends)(f:Flow)(s':Shared):Prop:=
 match f with
 | .next=>∃σ' H',Inv X pr σ' H' s'/\D.nx σ' H'
 | .brk=>∃σ' H',Inv X pr σ' H' s'/\D.bk σ' H'
 | .cont=>∃σ' H',Inv X pr σ' H' s'/\D.ct σ' H'
 | .ret u=>∃v σ' H',Inv X pr σ' H' s'/\RelV v u/\D.rt v H'
def PE(X:Cx)(e:Expr)(t:TE):Prop:=
 ∀(pr:List (Addr×Obj)) (s:Shared) (σ:St) (H:Hp) (Q:VK),Inv X pr σ H s->t σ H Q->wpAny (model X.prog X.w) X.A (eval e X.env) (EP X pr σ Q) X.xe s
def PT(X:Cx)(e:Expr)(t:TT):Prop:=
 ∀(pr:List (Addr×Obj)) (s:Shared) (σ:St) (H:Hp) (Q:Bool->Hp->Prop),Inv X pr σ H s->t σ H Q->wpAny (model X.prog X.w) X.A (isTrue e X.env (eval e X.env)) (TP X pr σ Q) X.xe s
def PW(X:Cx)(e:Expr)(t:TT):Prop:=
 ∀(whole:Sem Value) (pr:List (Addr×Obj)) (s:Shared) (σ:St) (H:Hp) (Q:Bool->Hp->Prop),Inv X pr σ H s->t σ H Q->wpAny (model X.prog X.w) X.A (isTrue e X.env whole) (TP X pr σ Q) X.xe s
variable{e:Expr}
theorem PW.pt{t:TT}(h:PW X e t):PT X e t:=h _
def PA(X:Cx)(es:List Expr)(t:TA):Prop:=
 ∀(pos:Pos) (pr:List (Addr×Obj)) (s:Shared) (σ:St) (H:Hp) (Q:List V->Hp->Prop),Inv X pr σ H s->t σ H Q->wpAny (model X.prog X.w) X.A (spliced (backTo pos (starEach es X.env))) (AP X pr σ Q) X.xe s
def PS(X:Cx)(st:Stmt)(t:TS):Prop:=
 ∀(pr:List (Addr×Obj)) (s:Shared) (σ:St) (H:Hp) (D:Ends),Inv X pr σ H s->t D σ H->wpAny (model X.prog X.w) X.A (exec st X.env) (SP X pr D) X.xe s
def PSs(X:Cx)(st:List Stmt)(t:TS):Prop:=
 ∀(pr:List (Addr×Obj)) (s:Shared) (σ:St) (H:Hp) (D:Ends),Inv X pr σ H s->t D σ H->wpAny (model X.prog X.w) X.A (execs st X.env) (SP X pr D) X.xe s
variable{α:Type}{A:Around}{E:Value->Shared->Prop}
theorem Ji{t:Sem α}{Q Q':α->Shared->Prop}{M:Model}(h:wpAny M A t Q E s)(hQ:∀a s,Q a s->Q' a s):wpAny M A t Q' E s:=Yb h hQ fun _ _ x=>x
variable{Q:Value->Shared->Prop}{ta:TE}{σ:St}{pos:Pos}
section
theorem bin{a b:Expr}{tb:TE}(ha:PE X a ta)(hb:PE X b tb){R:V->V->Hp->Prop}(I:Inv X pr σ H s)(h:ta σ H fun x H1=>tb σ H1 fun y H2=>R x y H2)
  {Q:α->Shared->Prop}{f:Value->Value->Sem α}
  (hf:∀v u s2 x y H2,Inv X pr σ H2 s2->RelV x v->RelV y u->R x y H2->wpAny (model X.prog X.w) X.A (f v u) Q X.xe s2):
  wpAny (model X.prog X.w) X.A (eval a X.env) (fun v s₁=>wpAny (model X.prog X.w) X.A (eval b X.env) (fun u s₂=>wpAny (model X.prog X.w) X.A (f v u) Q X.xe s₂) X.xe s₁) X.xe s:=by
 refine Ji (ha pr s σ H _ I h) fun v s1 Jk=>?_
 obtain⟨x,H1,I1,r1,q1⟩:=Jk;refine Ji (hb pr s1 σ H1 _ I1 q1) fun u s2 Jk=>?_
 obtain⟨y,H2,I2,r2,q2⟩:=Jk;exact hf v u s2 x y H2 I2 r1 r2 q2
def xM(i:Nat):TE:=fun σ H Q=>∃v,σ[i]?=some (some v)/\Q v H
def tC(v:V):TE:=fun _ H Q=>Q v H
theorem CO{pos:Pos}(hN:X.N[i]?=some x)(hv:SY X.env.scope x)(hd:(x==("__debug__" : Str))=false:=by decide)(Nf:(x==("__classdict__" : Str))=false:=by decide):PE X (.Name x pos) (xM i):=by
 intro pr s σ H Q I h;obtain⟨v,e,h⟩:=h;obtain⟨m,hn,hl⟩:=I.loc;obtain⟨u,r,l⟩:=hl i x v hN e hv;have fin:EP X pr σ Q u s:=⟨v,H,I,r,h⟩
 rcases l with⟨hk,hm⟩|⟨hk,c,hc,JH⟩
 ·exact wpAny_Name (wpAny_loadName_local I.ok.kind hk hn hm fin) hd
 ·rcases hk with hk|hk
  ·exact wpAny_Name (wpAny_loadName_cell I.ok.kind hk hc JH fin) hd
  ·exact wpAny_Name (wpAny_loadName_free I.ok.kind hk hc JH fin Nf) hd
theorem CP{i j pos}:PE X (.Constant (.int i) j pos) (tC (.int i)):=fun _ _ _ H _ I h=>wpAny_Constant_int ⟨.int i,H,I.tok _,⟨_,rfl⟩,h⟩
theorem FC{b j pos}:PE X (.Constant (.bool b) j pos) (tC (.bl b)):=fun _ _ _ H _ I h=>Constant_bool ⟨.bl b,H,I,rfl,h⟩
theorem CQ{j pos}:PE X (.Constant .none j pos) (tC .non):=fun _ _ _ H _ I h=>Constant_none ⟨.non,H,I,rfl,h⟩
theorem CS{x j pos}:PE X (.Constant (.str x) j pos) (tC (.str x)):=fun _ _ _ H _ I h=>Calls.Constant_str ⟨.str x,H,I.tok _,⟨_,rfl⟩,h⟩
def Gl(X:Cx)(x:Str):Prop:=X.env.kindOf x=some .globalImplicit
theorem Ab{E:Value->Shared->Prop}{pos:Pos}(I:Inv X pr σ H s)(hg:Gl X x)(hm:X.mg x=some u)(h:Q u s)
  (hd:(x==("__debug__" : Str))=false:=by decide):wpAny (model X.prog X.w) X.A (eval (.Name x pos) X.env) Q E s:=
 YQ I.ok.kind hg (Calls.loadGlobal_global (by rw[I.ok.glob];exact I.mod.glob.keeps I.bk) hm h) hd
theorem gJ{E:Value->Shared->Prop}{pos:Pos}(I:Inv X pr σ H s)(hg:Gl X x)(hm:X.mg x=none)(hv:bootBuiltins x=some u)(h:Q u s)
  (hn:x≠"__name__":=by decide) (hd:(x==("__debug__" : Str))=false:=by decide):wpAny (model X.prog X.w) X.A (eval (.Name x pos) X.env) Q E s:=by
 obtain⟨mb,h1,h2⟩:=I.mod.blt;exact YQ I.ok.kind hg (Calls.loadGlobal_builtin (by rw[I.ok.glob];exact I.mod.glob.keeps I.bk) hm (by rw[I.ok.blt];exact h1.keeps I.bk) ((h2 x hn).trans hv) h) hd
theorem Ac{pos:Pos}(hg:Gl X x)(hm:X.mg x=none)(hv:bootBuiltins x=some u)(r:RelV v u)(hn:x≠"__name__":=by decide)(hd:(x==("__debug__" : Str))=false:=by decide):PE X (.Name x pos) (tC v):=
 fun _ _ _ H _ I h=>gJ I hg hm hv ⟨v,H,I,r,h⟩ hn hd
variable{a b:Expr}{tb:TE}
def PC(X:Cx)(op:CmpOp)(a b:Expr)(t:TE):Prop:=
 ∀(pr:List (Addr×Obj)) (s:Shared) (σ:St) (H:Hp) (Q:VK),Inv X pr σ H s->t σ H Q->
  wpAny (model X.prog X.w) X.A (eval a X.env) (fun v s₁=>wpAny (model X.prog X.w) X.A (eval b X.env) (fun u s₂=>wpAny (model X.prog X.w) X.A (compareOp op v u) (EP X pr σ Q) X.xe s₂) X.xe s₁) X.xe s
theorem xW(b:Expr){op:CmpOp}(h:op≠.In)(h2:op≠.NotIn):behindInMarks op b=false:=by
 have e1:(op==CmpOp.In)=false:=by cases op <;> first|rfl|exact absurd rfl h
 have e2:(op==CmpOp.NotIn)=false:=by cases op <;> first|rfl|exact absurd rfl h2
 cases b <;> simp[behindInMarks,e1,e2]
def tB(t:TE):TT:=fun σ H Q=>t σ H fun x H1=>∃c,x=.bl c/\Q c H1
theorem Hn{op:CmpOp}{t:TE}(h:PC X op a b t)(h1:behindInMarks op b=false:=by first|exact xW _ (by decide) (by decide)|rfl):PT X (.Compare a [op] [b] pos) (tB t):=by
 intro pr s σ H Q I hw;refine wpAny_isTrue_Compare1 (Ji (h pr s σ H _ I hw) fun v s1 h1=>Ji h1 fun u s2 h2=>Ji h2 fun c s3 ⟨x,H1,I1,r1,q1⟩=>?_) h1;obtain⟨d,rfl,q⟩:=q1;cases r1;exact Xp ⟨H1,I1,q⟩
theorem CT{t:TE}(h:PE X e t)(he:∀whole,isTrue e X.env whole=(do let v <-whole;standAt e.pos;holding [v] (truthy v)):=by intro _;rfl):PT X e (tB t):=by
 intro pr s σ H Q I hw;refine isTrue_plain (Ji (h pr s σ H _ I hw) fun v s1 ⟨x,H1,I1,r1,q1⟩=>?_) (he _);obtain⟨d,rfl,q⟩:=q1;cases r1;exact Xp ⟨H1,I1,q⟩
variable{tA Si:TT}{cN:List Expr}
def HL(t u:TT):TT:=fun σ H Q=>t σ H fun c H1=>if c=true then u σ H1 Q else Q false H1
def tOr(t u:TT):TT:=fun σ H Q=>t σ H fun c H1=>if c=true then Q true H1 else u σ H1 Q
def HM(t:TT):TT:=fun σ H Q=>t σ H fun c H1=>Q (!c) H1
theorem Ad(ha:PT X a tA):PW X (.BoolOp .And [a] pos) tA:=by
 intro wh pr s σ H Q I h;refine isTrue_and (Ji (ha pr s σ H Q I h) fun c s1 e=>?_);cases c with
 |true=>exact isTrue_and_nil e
 |false=>exact e
theorem CU(ha:PT X a tA):PW X (.BoolOp .Or [a] pos) tA:=by
 intro wh pr s σ H Q I h;refine isTrue_or (Ji (ha pr s σ H Q I h) fun c s1 e=>?_);cases c with
 |false=>exact isTrue_or_nil e
 |true=>exact e
theorem CV(ha:PT X a tA)(hb:PW X (.BoolOp .And (b::cN) pos) Si):PW X (.BoolOp .And (a::b::cN) pos) (HL tA Si):=by
 intro wh pr s σ H Q I h;refine isTrue_and (Ji (ha pr s σ H _ I h) fun c s1 Jk=>?_);obtain⟨H1,I1,q1⟩:=Jk;cases c with
 |true=>exact hb wh pr s1 σ H1 Q I1 q1
 |false=>exact⟨H1,I1,q1⟩
theorem FE(ha:PT X a tA)(hb:PW X (.BoolOp .Or (b::cN) pos) Si):PW X (.BoolOp .Or (a::b::cN) pos) (tOr tA Si):=by
 intro wh pr s σ H Q I h;refine isTrue_or (Ji (ha pr s σ H _ I h) fun c s1 Jk=>?_);obtain⟨H1,I1,q1⟩:=Jk;cases c with
 |true=>exact⟨H1,I1,q1⟩
 |false=>exact hb wh pr s1 σ H1 Q I1 q1
theorem CW(ha:PT X a tA):PT X (.UnaryOp .Not a pos) (HM tA):=by
 intro pr s σ H Q I h;exact isTrue_not (ha pr s σ H (fun c H1=>Q (!c) H1) I h)
def FH(ta tb:TE):TE:=fun σ H Q=>ta σ H fun x H1=>∃c,x=.bl c/\if c=true then tb σ H1 Q else Q (.bl false) H1
theorem CY{op}{t:TE}(h:PE X a t):PE X (.BoolOp op [a] pos) t:=fun pr s σ H Q I hw=>BoolOp_one (h pr s σ H Q I hw)
theorem CZ(ha:PE X a ta)(hb:PE X (.BoolOp .And (b::cN) pos) tb):PE X (.BoolOp .And (a::b::cN) pos) (FH ta tb):=by
 intro pr s σ H Q I h;refine BoolOp_and (Ji (ha pr s σ H _ I h) fun v s1 Jk=>?_);obtain⟨x,H1,I1,r1,q1⟩:=Jk;obtain⟨c,rfl,q1⟩:=q1;cases r1;refine Xp ?_;cases c with
 |true=>exact hb pr s1 σ H1 Q I1 q1
 |false=>exact⟨.bl false,H1,I1,rfl,q1⟩
end
def SqL(K:W.Frag)(H:Hp)(a:Addr)(xs:List V):Prop:=
 Rd H a (.lst xs)\/
  ∃(o:Obj) (IS:Array Value) (n:Nat),K.lookup a=some o/\o.cls=.type "list"/\o.dict=none/\o.data=.seq IS n/\IS.size<=sizeLine/\Vals xs IS.toList
def SqT(K:W.Frag)(H:Hp)(a:Addr)(xs:List V):Prop:=
 Rd H a (.tup xs)\/
  ∃(o:Obj) (IS:Array Value) (n:Nat),K.lookup a=some o/\o.cls=.type "tuple"/\o.dict=none/\o.data=.seq IS n/\IS.size<=sizeLine/\Vals xs IS.toList
def HN:Value->Option V
 | .none=>some .non
 | .bool b=>some (.bl b)
 | .int i _=>some (.int i)
 | .str x _=>some (.str x)
 | .bytes b _=>some (.byt b)
 | .float b _=>some (.flt b)
 | .ref a=>some (.ref a)
 | .type n=>some (.ty n)
 |_=>none
theorem RelV.abs{x:V}(r:RelV x u):HN u=some x:=by
 cases x with
 |non=>cases r;rfl
 |bl _=>cases r;rfl
 |int _=>obtain⟨t,rfl⟩:=r;rfl
 |str _=>obtain⟨t,rfl⟩:=r;rfl
 |byt _=>obtain⟨t,rfl⟩:=r;rfl
 |flt _=>obtain⟨t,rfl⟩:=r;rfl
 |ref _=>cases r;rfl
 |ty _=>cases r;rfl
theorem RelV.inj{x y:V}(r:RelV x u)(q:RelV y u):x=y:=VQ (r.abs.symm.trans q.abs)
theorem Vals.inj:∀{xs ys:List V}{us:List Value},Vals xs us->Vals ys us->xs=ys
 |_,_,_,.nil,.nil=>rfl
 |_,_,_,.cons r t,.cons r' t'=>by rw[r.inj r',Vals.inj t t']
variable{xs:List V}{K:W.Frag}
section
variable{ys:List V}
theorem SqL.of(h:H a=some (.lst xs)):SqL K H a xs:=.inl (.inl h)
theorem SqT.of(h:H a=some (.tup xs)):SqT K H a xs:=.inl (.inl h)
theorem Inv.list(I:Inv X pr σ H s)(h:SqL X.K H a xs):∃IS:List Value,Vals xs IS/\PlainL s.heap a IS.toArray/\xs.length<=sizeLine:=by
 rcases h with h|⟨o,IS,n,hk,hc,hd,hs,hz,r⟩
 ·obtain⟨z,IS,n,r,e⟩:=h.ok I.hok;exact⟨IS,r,⟨_,n,e,rfl,rfl,rfl⟩,z⟩
 ·refine⟨IS.toList,r,⟨o,n,I.kIn a o hk,hc,hd,by simpa using hs⟩,?_⟩;have e:=r.length;simp only[Vp]at e;lia
theorem Inv.tupleN(I:Inv X pr σ H s)(h:SqT X.K H a xs):∃IS:List Value,Vals xs IS/\IsTupN s.heap a IS.toArray/\xs.length<=sizeLine:=by
 rcases h with h|⟨o,IS,n,hk,hc,hdn,hs,hz,r⟩
 ·obtain⟨z,IS,r,p⟩:=h.ok I.hok;exact⟨IS,r,p,z⟩
 ·refine⟨IS.toList,r,⟨o,I.kIn a o hk,hc,⟨n,by simpa using hs⟩,hdn⟩,?_⟩;have e:=r.length;simp only[Vp]at e;lia
theorem Inv.tuple(I:Inv X pr σ H s)(h:SqT X.K H a xs):∃IS:List Value,Vals xs IS/\IsTup s.heap a IS.toArray/\xs.length<=sizeLine:=by
 obtain⟨IS,r,p,z⟩:=I.tupleN h;exact⟨IS,r,p.tup,z⟩
theorem Inv.list_inj(I:Inv X pr σ H s)(h:SqL X.K H a xs)(h':SqL X.K H a ys):xs=ys:=by
 obtain⟨IS,r,⟨o,n,e,_,_,d⟩,_⟩:=I.list h;obtain⟨its',r',⟨o',n',e',_,_,d'⟩,_⟩:=I.list h';rw[e]at e';cases e';rw[d]at d';injection d' with d1 _;have:IS=its':=by simpa using WM Array.toList d1
 subst this;exact r.inj r'
theorem Inv.tuple_inj(I:Inv X pr σ H s)(h:SqT X.K H a xs)(h':SqT X.K H a ys):xs=ys:=by
 obtain⟨IS,r,⟨o,e,_,n,d⟩,_⟩:=I.tuple h;obtain⟨its',r',⟨o',e',_,n',d'⟩,_⟩:=I.tuple h';rw[e]at e';cases e';rw[d]at d';injection d' with d1 _;have:IS=its':=by simpa using WM Array.toList d1
 subst this;exact r.inj r'
end
abbrev Cx.wish(X:Cx)(E:Value->Shared->Prop):Cx:={X with xe:=E}
abbrev Cx.nox(X:Cx):Cx:=X.wish fun _ _=>False
theorem Cx.Ok.wish{X:Cx}(ok:X.Ok)(E:Value->Shared->Prop):(X.wish E).Ok:=
 ⟨ok.mod,ok.kind,ok.glob,ok.blt,ok.above,ok.inj,ok.has,ok.cab,ok.hd,ok.frames,ok.stk,ok.exf,ok.bs,ok.bsz,ok.noex,ok.exfs,ok.funs,ok.frf⟩
theorem Cx.Ok.unwish(ok:(X.wish E).Ok):X.Ok:=
 ⟨ok.mod,ok.kind,ok.glob,ok.blt,ok.above,ok.inj,ok.has,ok.cab,ok.hd,ok.frames,ok.stk,ok.exf,ok.bs,ok.bsz,ok.noex,ok.exfs,ok.funs,ok.frf⟩
section
theorem Inv.wish(I:Inv X pr σ H s)(E:Value->Shared->Prop):Inv (X.wish E) pr σ H s:=⟨I.ok.wish E,I.os,I.bare,I.base,I.loc,I.cell,I.free,I.freeC,I.pin,I.hok,I.len⟩
theorem Inv.unwish(I:Inv (X.wish E) pr σ H s):Inv X pr σ H s:=⟨I.ok.unwish,I.os,I.bare,I.base,I.loc,I.cell,I.free,I.freeC,I.pin,I.hok,I.len⟩
theorem SP.unwish{D:Ends}{f:Flow}{s':Shared}(h:SP (X.wish E) pr D f s'):SP X pr D f s':=by
 cases f with
 |next=>obtain⟨σ',H',I,q⟩:=h;exact⟨σ',H',I.unwish,q⟩
 |brk=>obtain⟨σ',H',I,q⟩:=h;exact⟨σ',H',I.unwish,q⟩
 |cont=>obtain⟨σ',H',I,q⟩:=h;exact⟨σ',H',I.unwish,q⟩
 |ret u=>obtain⟨v,σ',H',I,r,q⟩:=h;exact⟨v,σ',H',I.unwish,r,q⟩
theorem PSs.nox{st:List Stmt}{t:TS}(h:PSs X.nox st t):PSs X st t:=fun pr s σ H D I hw=>
 Yb (h pr s σ H D (I.wish _) hw) (fun _ _ q=>q.unwish) fun _ _ z=>False.elim z
end
variable{te:TE}{c:Expr}{tc:TT}
section
variable{st:Stmt}{cN:List Stmt}{t u:TS}
def FJ:TS:=fun D σ H=>D.nx σ H
def HP(t u:TS):TS:=fun D σ H=>t {D with nx:=u D} σ H
theorem Ae:PSs X [] FJ:=fun _ _ σ H _ I h=>YH ⟨σ,H,I,h⟩
theorem xX(h1:PS X st t)(h2:PSs X cN u):PSs X (st::cN) (HP t u):=by
 intro pr s σ H D I h;refine wpAny_execs_cons (Ji (h1 pr s σ H {D with nx:=u D} I h) fun f s1 q=>?_);cases f with
 |next=>
  obtain⟨σ',H',I',q⟩:=q;exact h2 pr s1 σ' H' D I' q
 |ret v=>exact q
 |brk=>exact q
 |cont=>exact q
theorem Af(h1:PS X st t):PSs X [st] t:=by
 intro pr s σ H D I h;refine wpAny_execs_cons (Ji (h1 pr s σ H D I h) fun f s1 q=>?_);cases f with
 |next=>exact YH q
 |ret v=>exact q
 |brk=>exact q
 |cont=>exact q
theorem Inv.quiet(I:Inv X pr σ H s):interactive X.env=false:=by simp[interactive,I.ok.kind]
def FK(te:TE):TS:=fun D σ H=>te σ H fun _ H1=>D.nx σ H1
theorem Ag(he:PE X e te)(hs:swapsWith e none pos.line X.env=pure false:=by rfl):PS X (.Expr e pos) (FK te):=by
 intro pr s σ H D I h;exact wpAny_Expr_any (Ji (he pr s σ H _ I h) fun v s1 ⟨x,H1,I1,r1,q1⟩=>⟨σ,H1,I1,q1⟩) I.quiet hs
def HQ(te:TE):TS:=fun D σ H=>te σ H D.rt
theorem zh(he:PE X e te):PS X (.Return (some e) pos) (HQ te):=by
 intro pr s σ H D I h;exact wpAny_Return_some (Ji (he pr s σ H _ I h) fun v s1 ⟨x,H1,I1,r1,q1⟩=>⟨x,σ,H1,I1,r1,q1⟩)
def HR(c:TT)(t u:TS):TS:=fun D σ H=>c σ H fun b H1=>if b=true then t D σ H1 else u D σ H1
theorem FN{a b:List Stmt}(hc:PT X c tc)(ha:PSs X a t)(hb:PSs X b u):PS X (.If c a b pos) (HR tc t u):=by
 intro pr s σ H D I h;refine wpAny_If (Ji (hc pr s σ H _ I h) fun d s1 Jk=>?_);obtain⟨H1,I1,q1⟩:=Jk;cases d with
 |true=>exact ha pr s1 σ H1 D I1 q1
 |false=>exact hb pr s1 σ H1 D I1 q1
def C0:TS:=fun _ _ _=>False
theorem xY:PS X st C0:=fun _ _ _ _ _ _ h=>h.elim
end
abbrev TG:=V->St->Hp->(St->Hp->Prop)->Prop
abbrev O5:=List V->St->Hp->(St->Hp->Prop)->Prop
def PG(X:Cx)(target:Expr)(t:TG):Prop:=
 ∀(pr:List (Addr×Obj)) (s:Shared) (σ:St) (H:Hp) (v:V) (u:Value) (Q:St->Hp->Prop),Inv X pr σ H s->RelV v u->t v σ H Q->
  wpAny (model X.prog X.w) X.A (assign target X.env u) (fun _ s'=>∃σ' H',Inv X pr σ' H' s'/\Q σ' H') X.xe s
def Pq(X:Cx)(ts:List Expr)(t:O5):Prop:=
 ∀(pr:List (Addr×Obj)) (s:Shared) (σ:St) (H:Hp) (vs:List V) (us:List Value) (Q:St->Hp->Prop),Inv X pr σ H s->Vals vs us->t vs σ H Q->
  wpAny (model X.prog X.w) X.A (assignInOrder ((assignEach ts X.env).map (·.2)) us) (fun _ s'=>∃σ' H',Inv X pr σ' H' s'/\Q σ' H') X.xe s
abbrev HS:=V->V->V->Hp->(Hp->Prop)->Prop
def HU(X:Cx)(t:HS):Prop:=
 ∀(pr:List (Addr×Obj)) (s:Shared) (σ:St) (H:Hp) (o i v:V) (ov iv u:Value) (Q:Hp->Prop),Inv X pr σ H s->RelV o ov->RelV i iv->RelV v u->t o i v H Q->
  wpAny (model X.prog X.w) X.A (setItem ov iv u) (fun _ s'=>∃H',Inv X pr σ H' s'/\Q H') X.xe s
variable{es:List Expr}{n:Nat}{tg:Expr}
section
def C1(i:Nat):TG:=fun v σ H Q=>Q (σ.set i (some v)) H
theorem Ah(hN:X.N.Nodup)(hi:X.N[i]?=some x)(hx:Loc X.env.scope x)(hf:X.fn x=true\/X.env.scope.names.lookup x=some .local:=by first|exact .inl rfl|exact .inr rfl|assumption):PG X (.Name x pos) (C1 i):=by
 intro pr s σ H v u Q I r h;exact wpAny_assign_Name (rL I hN hi hx r (fun s' I'=>⟨_,H,I',h⟩) hf)
def HV:O5:=fun vs σ H Q=>vs=[]/\Q σ H
def FQ(t:TG)(u:O5):O5:=fun vs σ H Q=>∃v r,vs=v::r/\t v σ H fun σ' H'=>u r σ' H' Q
theorem Ai:Pq X [] HV:=by
 intro pr s σ H vs us Q I r h;obtain⟨e,h⟩:=h;subst e;cases r;exact assignInOrder_nil ⟨σ,H,I,h⟩
theorem xZ{t:TG}{u:O5}(h1:PG X e t)(h2:Pq X es u)
  (hs:(assignEach (e::es) X.env).map (·.2)=assign e X.env::(assignEach es X.env).map (·.2):=by rfl):Pq X (e::es) (FQ t u):=by
 intro pr s σ H vs us Q I r h;obtain⟨v,vr,e1,h⟩:=h;subst e1;cases r with
 |cons r rr=>
  rw[hs];refine assignInOrder_cons (Ji (h1 pr s σ H _ _ _ I r h) fun _ s1 Jk=>?_);obtain⟨σ1,H1,I1,q1⟩:=Jk;exact h2 pr s1 σ1 H1 _ _ Q I1 rr q1
def HW(K:W.Frag)(n:Nat)(t:O5):TG:=fun v σ H Q=>∃a xs,v=.ref a/\SqT K H a xs/\xs.length=n/\t xs σ H Q
theorem C2{k:Nat}{t:O5}(hc:X.calm=true)(h:Pq X es t)
  (hn:(assignEach es X.env).length=n:=by rfl) (Mx:(assignEach es X.env).findIdx? (·.1)=none:=by rfl):PG X (.Tuple es k pos) (HW X.K n t):=by
 intro pr s σ H v u Q I r hw;obtain⟨a,xs,e1,hq,hl,hw⟩:=hw;subst e1;cases r;obtain⟨IS,rv,ht,hz⟩:=I.tuple hq;refine assign_Tuple_tuple (I.ok.hd hc) ht (by simp[hn,<-hl,rv.length]) Mx fun h' hx=>?_
 have I1:Inv X pr σ H {s with heap:=h'}:=I.kept (t':=s.toks) fun b o e=>hx b o (VI (Vr e)) e
 exact h pr _ σ H xs _ Q I1 (by simpa using rv) hw
def Ho(te:TE)(g:TG):TS:=fun D σ H=>te σ H fun x H1=>g x σ H1 D.nx
theorem C3{g:TG}(he:PE X e te)(hg:PG X tg g)(hs:swapsWithSole [tg] e pos.line X.env=pure false:=by rfl)(hw:swappedStores [tg] e X.env=pure none:=by rfl)
  (h1:(assignEach [tg] X.env).map (·.2)=[assign tg X.env]:=by rfl):PS X (.Assign [tg] e pos) (Ho te g):=by
 intro pr s σ H D I h;refine wpAny_Assign_stores (Ji (he pr s σ H _ I h) fun v s1 ⟨x,H1,I1,r1,q1⟩=>?_) hs hw;rw[h1];exact Ji (hg pr s1 σ H1 x v _ I1 r1 q1) fun _ s2 q=>q
theorem C4{pos':Pos}(hN:X.N.Nodup)(hi:X.N[i]?=some x)(hx:Loc X.env.scope x)(he:PE X e te)(hs:swapsWith e (some (.Name x pos')) pos.line X.env=pure false:=by rfl)(hf:X.fn x=true\/X.env.scope.names.lookup x=some .local:=by first|exact .inl rfl|exact .inr rfl|assumption):
  PS X (.Assign [.Name x pos'] e pos) (Ho te (C1 i)):=by
 intro pr s σ H D I h;refine wpAny_Assign_Name (Ji (he pr s σ H _ I h) fun v s1 ⟨y,H1,I1,r1,q1⟩=>?_) hs;exact rL I1 hN hi hx r1 (fun s2 I2=>⟨_,H1,I2,q1⟩) hf
end
variable{tb:TS}{body:List Stmt}
section
def C5(c:TT)(tb:TS):TS:=fun D σ H=>∃W:Nat->St->Hp->Prop,(∃m,W m σ H)/\∀m σ H,W m σ H->
 c σ H fun b H1=>if b=true then ∃N:St->Hp->Prop,(∀σ' H',N σ' H'->∃m',m'<m/\W m' σ' H')/\tb {D with nx:=N,ct:=N,bk:=D.nx} σ H1 else D.nx σ H1
theorem x3(hp:PassesOwn (model X.prog X.w) X.A X.env X.xe)(hc:PT X c tc)(hb:PSs X body tb):PS X (.While c body [] pos) (C5 tc tb):=by
 intro pr s σ H D I h;obtain⟨W,⟨m0,w0⟩,turn⟩:=h;refine wpAny_While (codeAny_whileLoop (fun n s'=>∃σ' H',Inv X pr σ' H' s'/\W n σ' H') ?_ m0 ⟨σ,H,I,w0⟩);rintro n s1 ⟨σ1,H1,I1,w1⟩;refine Xq hp (Ji (hc pr s1 σ1 H1 _ I1 (turn n σ1 H1 w1)) fun b s2 Jk=>?_);obtain⟨H2,I2,q2⟩:=Jk;cases b with
 |true=>
  obtain⟨N,hN,q2⟩:=q2;rw[Vn rfl];refine Xq hp (Ji (hb pr s2 σ1 H2 _ I2 q2) fun f s3 q3=>?_);cases f with
  |next=>
   obtain⟨σ3,H3,I3,n3⟩:=q3;obtain⟨m',hm,w3⟩:=hN σ3 H3 n3;exact⟨m',hm,σ3,H3,I3,w3⟩
  |cont=>
   obtain⟨σ3,H3,I3,n3⟩:=q3;obtain⟨m',hm,w3⟩:=hN σ3 H3 n3;exact⟨m',hm,σ3,H3,I3,w3⟩
  |brk=>exact q3
  |ret v=>exact q3
 |false=>
  rw[Vt Vg];exact YH ⟨σ1,H2,I2,q2⟩
end
structure It where
 go:Nat->Hp->Prop
 yld:Nat->Hp->V->Hp->Prop
 stop:Nat->Hp->Prop
def uO(X:Cx)(pr:List (Addr×Obj))(H:Hp)(b:Addr):Prop:=
 H b=none/\b≠X.env.locals/\b∉X.fs/\(b∈X.ex\/X.s₀.heap.objs.size<=b)/\(∀x c,X.env.cells.lookup x=some c->c≠b)/\∀p∈X.pn++pr,p.1≠b
theorem Inv.fpOk(I:Inv X pr σ H s)(hb:s.heap.objs.size<=b)(hn:H' b=none):uO X pr H' b:=by
 refine⟨hn,aar (Vv I.lt hb),I.nofs hb,.inr (VR I.sz hb),fun x c e z=>?_,fun p hp z=>?_⟩
 ·obtain⟨v,q⟩:=I.cell x c e;exact absurd (Vv q.lt (by rw[z];exact hb)) (Xy _)
 ·exact absurd (Vv (Vr (I.pin p hp).1) (by rw[z];exact hb)) (Xy _)
structure Turn(P:Program)(w:World)(K:W.Frag)(tg:Expr)(J:It)(fp:List Addr)(it:Addr)(tn:Nat->Heap->Prop):Prop where
 mem:it∈fp
 obj:∀i h,tn i h->∀b∈fp,∃o,h.get? b=some o/\∀v,o.data≠.cell v
 keep:∀i h h',tn i h->(∀b∈fp,∀o,h.get? b=some o->h'.get? b=some o)->tn i h'
 item:∀(X:Cx),X.prog=P->X.w=w->X.K=K->X.calm=true->∀(i:Nat) (pr:List (Addr×Obj)) (s:Shared) (σ:St) (H:Hp) (E:Value->Shared->Prop),Inv X pr σ H s->(∀b∈fp,uO X pr H b)->tn i s.heap->J.go i H->
  wpAny (model P w) X.A (pyNext (.ref it)) (fun r s1=>∃u,r=some u/\
   wpAny (model P w) X.A (letOwnedTupleGo tg (.ref it) u) (fun _ s2=>∃x H',Inv X pr σ H' s2/\RelV x u/\J.yld i H x H'/\tn (i+1) s2.heap/\∀b∈fp,H' b=none) E s1) E s
 done:∀(X:Cx),X.prog=P->X.w=w->X.K=K->X.calm=true->∀(i:Nat) (pr:List (Addr×Obj)) (s:Shared) (σ:St) (H:Hp) (E:Value->Shared->Prop),Inv X pr σ H s->(∀b∈fp,uO X pr H b)->tn i s.heap->J.stop i H->
  wpAny (model P w) X.A (pyNext (.ref it)) (fun r s1=>r=none/\Inv X pr σ H s1) E s
 self:∀(A:Around) (i:Nat) (s:Shared) (Q:Value->Shared->Prop) (E:Value->Shared->Prop),tn i s.heap->Q (.ref it) s->wpAny (model P w) A (pyIter (.ref it)) Q E s
abbrev TI:=St->Hp->(It->Hp->Prop)->Prop
def Uk(X:Cx)(pr:List (Addr×Obj))(σ:St)(tg:Expr)(R:It->Hp->Prop)(Sj:Value)(s2:Shared):Prop:=
 ∃(it:Addr) (fp:List Addr) (tn:Nat->Heap->Prop) (J:It) (H':Hp),Sj=.ref it/\Inv X pr σ H' s2/\Turn X.prog X.w X.K tg J fp it tn/\tn 0 s2.heap/\(∀b∈fp,uO X pr H' b)/\R J H'
def PI(X:Cx)(tg iter:Expr)(wi:TI):Prop:=
 ∀(pr:List (Addr×Obj)) (s:Shared) (σ:St) (H:Hp) (R:It->Hp->Prop),Inv X pr σ H s->wi σ H R->
  wpAny (model X.prog X.w) X.A (eval iter X.env) (fun v s1=>wpAny (model X.prog X.w) X.A (pyIter v) (Uk X pr σ tg R) X.xe s1) X.xe s
theorem x4 {M : Model} {A : Around} {E : Value -> Shared -> Prop} {s : Shared} {tg : Expr} {it : Addr} {u : Value} {o : Obj} {n : String} {vs : Array Value} {Q : Unit -> Shared -> Prop} (ho : s.heap.get? it = some o) (hc : o.cls = .type n) (hd : o.data = .fields vs)
    (hn : ["enumerate", "zip", "dict_itemiterator", "dict_reverseitemiterator", "odict_iterator", "itertools.zip_longest", "itertools.pairwise"].contains n = false) (hQ : Q () s) : wpAny M A (letOwnedTupleGo tg (.ref it) u) Q E s := by
  unfold letOwnedTupleGo
  cases tg <;> first
    | exact Vf hQ
    | (cases u <;> first
        | exact Vf hQ
        | (refine U8 (wpAny_load ho ?_)
           rw [hc, hd]
           show wpAny M A (if (["enumerate", "zip", "dict_itemiterator", "dict_reverseitemiterator", "odict_iterator", "itertools.zip_longest", "itertools.pairwise"].contains n && vs[0]? == some (rawInt _)) = true then _ else _) Q E s
           rw [Vt (by intro h; rw [hn, YV] at h; cases h)]
           exact Vf hQ))
def QF(K:W.Frag)(a:Addr):It:=
 ⟨fun i H=>∃xs x,SqL K H a xs/\xs[i]?=some x,fun i H x H'=>H'=H/\∀xs,SqL K H a xs->xs[i]?=some x,fun i H=>∃xs,SqL K H a xs/\xs.length<=i⟩
def S1(K:W.Frag)(a:Addr):It:=
 ⟨fun i H=>∃xs x,SqT K H a xs/\xs[i]?=some x,fun i H x H'=>H'=H/\∀xs,SqT K H a xs->xs[i]?=some x,fun i H=>∃xs,SqT K H a xs/\xs.length<=i⟩
def Q5(lo:Int)(n:Nat):It:=⟨fun i _=>i<n,fun i H x H'=>H'=H/\x=.int (lo+i),fun i _=>n<=i⟩
theorem uU(a it:Addr):Turn P w K tg (QF K a) [it] it (fun i h=>h.IsListIter it a i) where
 mem:=by simp
 obj:=fun i h st b hb=>by
  have e:b=it:=by simpa using hb
  subst e;obtain⟨o,e,c,d⟩:=st;exact⟨o,e,fun v z=>by rw[d]at z;cases z⟩
 keep:=fun i h h' st k=>st.at fun o e=>k it (by simp) o e
 item:=by
  intro X hP hw hK hc i pr s σ H E I hf st hg;subst hP hw hK;obtain⟨xs,x,hq,hx⟩:=hg;obtain⟨IS,rv,p,hz⟩:=I.list hq;obtain⟨u,hu,ru⟩:=rv.get hx;obtain⟨f0,f1,f2,f3,f4,f5⟩:=hf it (by simp);refine wpAny_pyNext_list_item st p.isList (x:=u) (by simpa using hu) fun h' KD sb=>?_
  have I1:Inv X pr σ H {s with heap:=h'}:=I.turned (t':=s.toks) (fun b o hb e=>(sb.2 b hb).trans e) f0 f1 f3 f4 f5;obtain⟨o,e,c,d⟩:=id KD;exact⟨u,rfl,x4 (s:={s with heap:=h'}) e c d (by decide) ⟨x,H,I1,ru,⟨rfl,fun ys hy=>by rw[I.list_inj hy hq];exact hx⟩,KD,fun b hb=>(hf b hb).1⟩⟩
 done:=by
  intro X hP hw hK hc i pr s σ H E I hf st hg;subst hP hw hK;obtain⟨xs,hq,hx⟩:=hg;obtain⟨IS,rv,p,hz⟩:=I.list hq;obtain⟨f0,f1,f2,f3,f4,f5⟩:=hf it (by simp);have hl:=rv.length;exact wpAny_pyNext_list_end (I.ok.hd hc) st p.isList (by simp;lia) fun h' eb=>⟨rfl,I.turned (t':=s.toks) (fun b o hb e=>eb b o hb e) f0 f1 f3 f4 f5⟩
 self:=fun _ _ _ _ _ st h=>wpAny_pyIter_listiter st h
theorem ua(a it:Addr):Turn P w K tg (S1 K a) [it] it (fun i h=>h.IsTupleIter it a i) where
 mem:=by simp
 obj:=fun i h st b hb=>by
  have e:b=it:=by simpa using hb
  subst e;obtain⟨o,e,c,d⟩:=st;exact⟨o,e,fun v z=>by rw[d]at z;cases z⟩
 keep:=fun i h h' st k=>st.at fun o e=>k it (by simp) o e
 item:=by
  intro X hP hw hK hc i pr s σ H E I hf st hg;subst hP hw hK;obtain⟨xs,x,hq,hx⟩:=hg;obtain⟨IS,rv,p,hz⟩:=I.tuple hq;obtain⟨u,hu,ru⟩:=rv.get hx;obtain⟨f0,f1,f2,f3,f4,f5⟩:=hf it (by simp);refine wpAny_pyNext_tuple_item st (show s.heap.IsTuple a IS.toArray from p) (x:=u) (by simpa using hu) fun h' KD sb=>?_
  have I1:Inv X pr σ H {s with heap:=h'}:=I.turned (t':=s.toks) (fun b o hb e=>(sb.2 b hb).trans e) f0 f1 f3 f4 f5;obtain⟨o,e,c,d⟩:=id KD;exact⟨u,rfl,x4 (s:={s with heap:=h'}) e c d (by decide) ⟨x,H,I1,ru,⟨rfl,fun ys hy=>by rw[I.tuple_inj hy hq];exact hx⟩,KD,fun b hb=>(hf b hb).1⟩⟩
 done:=by
  intro X hP hw hK hc i pr s σ H E I hf st hg;subst hP hw hK;obtain⟨xs,hq,hx⟩:=hg;obtain⟨IS,rv,p,hz⟩:=I.tuple hq;obtain⟨f0,f1,f2,f3,f4,f5⟩:=hf it (by simp);have hl:=rv.length;exact wpAny_pyNext_tuple_end (I.ok.hd hc) st (show s.heap.IsTuple a IS.toArray from p) (by simp;lia) fun h' eb=>⟨rfl,I.turned (t':=s.toks) (fun b o hb e=>eb b o hb e) f0 f1 f3 f4 f5⟩
 self:=fun _ _ _ _ _ st h=>wpAny_pyIter_tupleiter st h
theorem ub(it:Addr)(lo:Int)(n:Nat):Turn P w K tg (Q5 lo n) [it] it (fun i h=>IsRangeIter h it (lo+(i:Nat)*1) ((n:Int)-(i:Nat)) 1) where
 mem:=by simp
 obj:=fun i h st b hb=>by
  have e:b=it:=by simpa using hb
  subst e;exact⟨_,st,fun v z=>by
   have z':Data.fields _=Data.cell v:=z;cases z'⟩
 keep:=fun i h h' st k=>k it (by simp) _ st
 item:=by
  intro X hP hw hK hc i pr s σ H E I hf st hg;subst hP hw hK;obtain⟨f0,f1,f2,f3,f4,f5⟩:=hf it (by simp);have W:=Walks.range (prog:=X.prog) (w:=X.w) (I.ok.hd hc) it lo 1 n;refine W.item i s _ _ hg st fun v h' tk hv KD kk=>?_
  obtain⟨t,rfl⟩:=hv;have I1:Inv X pr σ H {s with heap:=h',toks:=tk}:=I.turned (fun b o hb e=>kk b o (by simpa using hb) e) f0 f1 f3 f4 f5;refine⟨_,rfl,x4 (s:={s with heap:=h',toks:=tk}) (n:="range_iterator") KD rfl rfl (by decide) ⟨.int (lo+i),H,I1,⟨t,?_⟩,⟨rfl,rfl⟩,KD,fun b hb=>(hf b hb).1⟩⟩;rw[Int.mul_one]
 done:=by
  intro X hP hw hK hc i pr s σ H E I hf st hg;subst hP hw hK;obtain⟨f0,f1,f2,f3,f4,f5⟩:=hf it (by simp);exact wpAny_pyNext_range_end (I.ok.hd hc) st (by have:n<=i:=hg;lia) fun h' eb=>⟨rfl,I.turned (t':=s.toks) (fun b o hb e=>eb b o hb e) f0 f1 f3 f4 f5⟩
 self:=fun _ _ _ _ _ st h=>wpAny_pyIter_rangeiter st h
variable{l:Expr}{tl:TE}{fp:List Addr}
section
def FR(K:W.Frag)(tl:TE):TI:=fun σ H R=>tl σ H fun x H1=>∃a,x=.ref a/\(∃xs,SqL K H1 a xs)/\R (QF K a) H1
def HX(K:W.Frag)(tl:TE):TI:=fun σ H R=>tl σ H fun x H1=>∃a,x=.ref a/\(∃xs,SqT K H1 a xs)/\R (S1 K a) H1
theorem uV(hl:PE X l tl):PI X tg l (FR X.K tl):=by
 intro pr s σ H R I h;refine Ji (hl pr s σ H _ I h) fun v s1 Jk=>?_
 obtain⟨x,H1,I1,r1,q1⟩:=Jk;obtain⟨a,e,⟨xs,hq⟩,q⟩:=q1;subst e;cases r1;obtain⟨IS,rv,p,hz⟩:=I1.list hq;refine W5 p.isList ?_;refine⟨s1.heap.objs.size,[s1.heap.objs.size],_,_,H1,rfl,I1.kept (t':=s1.toks) fun b o e=>Vc _ e,uU a _,⟨_,Vy _ rfl,rfl,rfl⟩,fun b hb=>?_,q⟩;have e:b=s1.heap.objs.size:=by simpa using hb
 subst e;exact I1.fpOk (Vl _) (I1.hok.fresh (Vl _))
theorem C6(hl:PE X l tl):PI X tg l (HX X.K tl):=by
 intro pr s σ H R I h;refine Ji (hl pr s σ H _ I h) fun v s1 Jk=>?_
 obtain⟨x,H1,I1,r1,q1⟩:=Jk;obtain⟨a,e,⟨xs,hq⟩,q⟩:=q1;subst e;cases r1;obtain⟨IS,rv,p,hz⟩:=I1.tuple hq;refine Xh (show s1.heap.IsTuple a IS.toArray from p) ?_;refine⟨s1.heap.objs.size,[s1.heap.objs.size],_,_,H1,rfl,I1.kept (t':=s1.toks) fun b o e=>Vc _ e,ua a _,⟨_,Vy _ rfl,rfl,rfl⟩,fun b hb=>?_,q⟩;have e:b=s1.heap.objs.size:=by simpa using hb
 subst e;exact I1.fpOk (Vl _) (I1.hok.fresh (Vl _))
theorem rM{R:It->Hp->Prop}{lo hi:Int}{t u v:Tok}{tk:Nat}(I:Inv X pr σ H s)(h1:-(2 ^ 62)<=lo)(h2:lo<2 ^ 62)(h3:-(2 ^ 62)<=hi)(h4:hi<2 ^ 62)
  (q:R (Q5 lo (hi-lo).toNat) H):wpAny (model X.prog X.w) X.A (pyIter (.ref s.heap.objs.size)) (Uk X pr σ tg R) E {s with heap:=s.heap.push {cls:=.type "range",data:=.fields #[.int lo t,.int hi u,.int 1 v]},toks:=tk}:=by
 refine wpAny_pyIter_range (IsRange.new ..) (small_one h1 h2 h3 h4) ?_;have I1:Inv X pr σ H {s with heap:=s.heap.push {cls:=.type "range",data:=.fields #[.int lo t,.int hi u,.int 1 v]},toks:=tk}:=I.kept fun b o e=>Vc _ e
 refine⟨(s.heap.push {cls:=.type "range",data:=.fields #[.int lo t,.int hi u,.int 1 v]}).objs.size,[(s.heap.push {cls:=.type "range",data:=.fields #[.int lo t,.int hi u,.int 1 v]}).objs.size],_,_,H,rfl,
  I1.kept (t':=tk) fun b o e=>Vc _ e,ub _ lo (hi-lo).toNat,?_,fun b hb=>?_,q⟩
 ·have e1:lo+((0:Nat):Int)*1=lo:=by simp
  have e2:(((hi-lo).toNat:Nat):Int)-((0:Nat):Int)=Builtin.Range.rangeSize lo hi 1:=by rw[rangeSize_one];split <;> lia
  show IsRangeIter _ _ (lo+((0:Nat):Int)*1) ((((hi-lo).toNat:Nat):Int)-((0:Nat):Int)) 1;rw[e1,e2];exact Vy _ rfl
 ·have e:b=(s.heap.push {cls:=.type "range",data:=.fields #[.int lo t,.int hi u,.int 1 v]}).objs.size:=by simpa using hb
  subst e;exact I1.fpOk (Vl _) (I1.hok.fresh (Vl _))
def FU(ta:TA):TI:=fun σ H R=>ta σ H fun vs H1=>∃j:Int,vs=[.int j]/\-(2 ^ 62)<=j/\j<2 ^ 62/\R (Q5 0 j.toNat) H1
def FV(ta:TA):TI:=fun σ H R=>ta σ H fun vs H1=>∃i j:Int,vs=[.int i,.int j]/\(-(2 ^ 62)<=i/\i<2 ^ 62/\-(2 ^ 62)<=j/\j<2 ^ 62)/\R (Q5 i (j-i).toNat) H1
theorem uW{a:Expr}{ta:TA}{p pos:Pos}(hg:Gl X "range")(hm:X.mg "range" = none)(ha:PA X [a] ta)(hs:starEach [a] X.env=[(false,eval a X.env)]:=by rfl):PI X tg (.Call (.Name "range" p) [a] [] pos) (FU ta):=by
 intro pr s σ H R I h;refine Call_ (gJ I hg hm boot_range (Wj (Ji (ha pos pr s σ H _ I h) fun us s1 ⟨vs,H1,I1,r1,q1⟩=>?_) hs rfl));obtain⟨j,e,q1,q2,q⟩:=q1;subst e;cases r1 with
 |cons r rr=>
  cases rr;obtain⟨t,rfl⟩:=r;exact call_range_1 (rM I1 (by lia) (by lia) q1 q2 (by simpa using q))
theorem uX{a b:Expr}{ta:TA}{p pos:Pos}(hg:Gl X "range")(hm:X.mg "range" = none)(ha:PA X [a,b] ta)(hs:starEach [a,b] X.env=[(false,eval a X.env),(false,eval b X.env)]:=by rfl)(QH:starEach [b] X.env=[(false,eval b X.env)]:=by rfl):
  PI X tg (.Call (.Name "range" p) [a,b] [] pos) (FV ta):=by
 intro pr s σ H R I h;refine Call_ (gJ I hg hm boot_range (Wj (Ji (ha pos pr s σ H _ I h) fun us s1 ⟨vs,H1,I1,r1,q1⟩=>?_) (by rw[hs,QH]) (by rw[QH];rfl)));obtain⟨i,j,e,⟨q1,q2,q3,q4⟩,q⟩:=q1;subst e;cases r1 with
 |cons r rr=>
  cases rr with
  |cons r' rr=>
   cases rr;obtain⟨t,rfl⟩:=r;obtain⟨t',rfl⟩:=r';exact call_range_2 (rM I1 q1 q2 q3 q4 q)
noncomputable def HY(wi:TI)(g:TG)(tb:TS):TS:=fun D σ H=>wi σ H fun J H1=>∃W:Nat->Nat->St->Hp->Prop,(∃m,W 0 m σ H1)/\∀i m σ H,W i m σ H->
 (J.stop i H/\D.nx σ H)\/(J.go i H/\∃N:St->Hp->Prop,(∀σ' H',N σ' H'->∃m',m'<m/\W (i+1) m' σ' H')/\∀x H',J.yld i H x H'->g x σ H' fun σ2 H2=>tb {D with nx:=N,ct:=N,bk:=D.nx} σ2 H2)
def oU(fp:List Addr)(h:Heap):List (Addr×Obj):=fp.filterMap fun b=>(h.get? b).map fun o=>(b,o)
theorem ij{o:Obj}(hb:b∈fp)(e:h.get? b=some o):(b,o)∈oU fp h:=Yf.mpr ⟨b,hb,by rw[e];rfl⟩
theorem uY{p:Addr×Obj}(hp:p∈oU fp h):p.1∈fp/\h.get? p.1=some p.2:=by
 obtain⟨b,hb,e⟩:=Yf.mp hp;cases q:h.get? b with
 |none=>rw[q]at e;cases e
 |some o=>
  rw[q]at e;have e':(b,o)=p:=VQ e;subst e';exact⟨hb,q⟩
theorem Inv.pinned(I:Inv X pr σ H s)(hf:∀b∈fp,uO X pr H b)(ho:∀b∈fp,∃o,s.heap.get? b=some o/\∀v,o.data≠.cell v):Inv X (pr++oU fp s.heap) σ H s:=
 I.pins_of fun p hp=>(VS.mp hp).elim (fun z=>I.pin p (Vd _ z)) fun z=>by
  obtain⟨hb,e⟩:=uY z;obtain⟨f0,f1,f2,_⟩:=hf p.1 hb;obtain⟨o,e',d⟩:=ho p.1 hb;rw[e]at e';cases e';exact⟨e,f0,f1,f2,d⟩
theorem Inv.unpinned{pl:List (Addr×Obj)}(I:Inv X (pr++pl) σ H s):Inv X pr σ H s:=I.pins_of fun p hp=>I.pin p (Vd _ (Vj _ hp))
theorem zi{iter:Expr}{wi:TI}{g:TG}{pos:Pos}(hp:PassesOwn (model X.prog X.w) X.A X.env X.xe)(hc:X.calm=true)(hi:PI X tg iter wi)(hg:PG X tg g)(hb:PSs X body tb)
  (hs:∀x,foldedSetIterable iter X.env x=pure x:=by intro _;rfl):PS X (.For tg iter body [] pos) (HY wi g tb):=by
 intro pr s σ H D I h;refine wpAny_For (Ji (hi pr s σ H _ I h) fun v s1 h1=>Ji h1 fun Sj s2 h2=>?_) hs;obtain⟨it,fp,tn,J,H2,e,I2,T,I0,f2,W,⟨m0,w0⟩,turn⟩:=h2;subst e;have Mc:∀{H':Hp},(∀b∈fp,H' b=none)->∀b∈fp,uO X pr H' b:=fun hn b hb=>⟨hn b hb,(f2 b hb).2⟩
 refine codeAny_forLoop_any (fun n s'=>∃i σ' H',Inv X pr σ' H' s'/\tn i s'.heap/\(∀b∈fp,H' b=none)/\W i n σ' H') ?_ m0 ⟨0,σ,H2,I2,I0,fun b hb=>(f2 b hb).1,w0⟩;rintro n s3 ⟨i,σ3,H3,I3,Jt,Q6,w3⟩;rcases turn i n σ3 H3 w3 with⟨stop,qn⟩|⟨go,N,hN,step⟩
 ·refine Xq hp (Ji (T.done X rfl rfl rfl hc i pr s3 σ3 H3 X.xe I3 (Mc Q6) Jt stop) fun r s4 Jk=>?_);obtain⟨hr,I4⟩:=Jk;subst hr;exact YH ⟨σ3,H3,I4,qn⟩
 ·refine Xq hp (Ji (T.item X rfl rfl rfl hc i pr s3 σ3 H3 X.xe I3 (Mc Q6) Jt go) fun r s4 Jk=>?_);obtain⟨u,hr,h4⟩:=Jk;subst hr;refine Xq hp (Ji h4 fun _ s5 Jk=>?_);obtain⟨x,H5,I5,r5,y5,K1,S3⟩:=Jk;have S4:=I5.pinned (Mc S3) (T.obj _ _ K1);refine Xq hp (Ji (hg _ s5 σ3 H5 x u _ S4 r5 (step x H5 y5)) fun _ s6 Jk=>?_);obtain⟨σ6,H6,I6,q6⟩:=Jk;refine Xq hp (Ji (hb _ s6 σ6 H6 _ I6 q6) fun f s7 q7=>?_);have again:∀{σ7:St}{H7:Hp},Inv X (pr++oU fp s5.heap) σ7 H7 s7->N σ7 H7->∃m,m<n/\∃i σ' H',Inv X pr σ' H' s7/\tn i s7.heap/\(∀b∈fp,H' b=none)/\W i m σ' H':=fun{σ7 H7} I7 n7=>by
   obtain⟨m',hm,w7⟩:=hN σ7 H7 n7;refine⟨m',hm,i+1,σ7,H7,I7.unpinned,T.keep _ _ _ K1 fun b hb o e=>(I7.pin (b,o) (Vd _ (Vd _ (ij hb e)))).1,fun b hb=>?_,w7⟩;obtain⟨o,e,d⟩:=T.obj _ _ K1 b hb;exact(I7.pin (b,o) (Vd _ (Vd _ (ij hb e)))).2.1
  cases f with
  |next=>obtain⟨σ7,H7,I7,n7⟩:=q7;exact again I7 n7
  |cont=>obtain⟨σ7,H7,I7,n7⟩:=q7;exact again I7 n7
  |brk=>obtain⟨σ7,H7,I7,q7⟩:=q7;exact⟨σ7,H7,I7.unpinned,q7⟩
  |ret v=>obtain⟨x7,σ7,H7,I7,r7,q7⟩:=q7;exact⟨x7,σ7,H7,I7.unpinned,r7,q7⟩
end
theorem for_list{g:TG}{D:Ends}(Pv:Nat->St->Hp->Prop)(h0:Pv 0 σ H)(hl:∀i σ H,i<=xs.length->Pv i σ H->SqL K H a xs)
  (hs:∀i x σ H,xs[i]?=some x->Pv i σ H->g x σ H fun σ2 H2=>tb {D with nx:=Pv (i+1),ct:=Pv (i+1),bk:=D.nx} σ2 H2) (hd:∀σ H,Pv xs.length σ H->D.nx σ H):
  ∃W:Nat->Nat->St->Hp->Prop,(∃m,W 0 m σ H)/\∀i m σ H,W i m σ H->
   ((QF K a).stop i H/\D.nx σ H)\/((QF K a).go i H/\∃N:St->Hp->Prop,(∀σ' H',N σ' H'->∃m',m'<m/\W (i+1) m' σ' H')/\∀x H',(QF K a).yld i H x H'->g x σ H' fun σ2 H2=>tb {D with nx:=N,ct:=N,bk:=D.nx} σ2 H2):=by
 refine⟨fun i m σ H=>m=xs.length-i/\i<=xs.length/\Pv i σ H,⟨xs.length,by simp,V0 _,h0⟩,?_⟩;rintro i m σ H ⟨rfl,hi,p⟩;have q:=hl i σ H hi p;by_cases Jv:i<xs.length
 ·refine .inr ⟨⟨xs,xs[i],q,by simp[Jv]⟩,Pv (i+1),fun σ' H' p'=>⟨xs.length-(i+1),by lia,rfl,Jv,p'⟩,fun x H' y=>?_⟩;obtain⟨e,y⟩:=y;subst e;exact hs i x σ _ (y xs q) p
 ·have e:i=xs.length:=by lia
  subst e;exact .inl ⟨⟨xs,q,Vl _⟩,hd σ H p⟩
abbrev R2:=V->V->Hp->VK->Prop
def JG(X:Cx)(f:Value->Value->Sem Value)(r:R2):Prop:=
 ∀(pr:List (Addr×Obj)) (s:Shared) (σ:St) (H:Hp) (x y:V) (v u:Value) (Q:VK),Inv X pr σ H s->RelV x v->RelV y u->r x y H Q->
  wpAny (model X.prog X.w) X.A (f v u) (EP X pr σ Q) X.xe s
def dX(X:Cx)(f:Value)(r:List V->Hp->VK->Prop):Prop:=
 ∀(pr:List (Addr×Obj)) (s:Shared) (σ:St) (H:Hp) (xs:List V) (us:List Value) (Q:VK),Inv X pr σ H s->Vals xs us->r xs H Q->
  wpAny (model X.prog X.w) X.A (call f us) (EP X pr σ Q) X.xe s
def QJ(r:R2)(ta tb:TE):TE:=fun σ H Q=>ta σ H fun x H1=>tb σ H1 fun y H2=>r x y H2 Q
def rI(C:Int->Int->Prop)(g:Int->Int->V):R2:=fun x y H Q=>∃i j,x=.int i/\y=.int j/\C i j/\Q (g i j) H
def Pr(g:Int->Int->V):R2:=fun x y H Q=>∃i j,x=.int i/\y=.int j/\Q (g i j) H
variable{g:Int->Int->Int}{f:Value->Value->Sem Value}{r:R2}
section
variable{a b:Expr}{tb tc:TE}
theorem FW(ha:PE X a ta)(hb:PE X b tb){R:V->V->Hp->Prop}(I:Inv X pr σ H s)
  (h:ta σ H fun x H1=>tb σ H1 fun y H2=>R x y H2) 
  (hf:∀v u s2 x y H2,Inv X pr σ H2 s2->RelV x v->RelV y u->R x y H2->wpAny (model X.prog X.w) X.A (f v u) Q X.xe s2):
  wpAny (model X.prog X.w) X.A (eval a X.env) (fun v s₁=>wpAny (model X.prog X.w) X.A (eval b X.env) (fun u s₂=>wpAny (model X.prog X.w) X.A (f v u) Q X.xe s₂) X.xe s₁) X.xe s:=by
 refine Ji (ha pr s σ H _ I h) fun v s1 Jk=>?_
 obtain⟨x,H1,I1,r1,q1⟩:=Jk;refine Ji (hb pr s1 σ H1 _ I1 q1) fun u s2 Jk=>?_
 obtain⟨y,H2,I2,r2,q2⟩:=Jk;exact hf v u s2 x y H2 I2 r1 r2 q2
theorem FY{op:Operator}(ho:JG X (binaryOp op) r)(ha:PE X a ta)(hb:PE X b tb):PE X (.BinOp a op b pos) (QJ r ta tb):=by
 intro pr s σ H Q I h;exact wpAny_BinOp (FW ha hb I h fun v u s2 x y H2 I2 rx ry q=>ho pr s2 σ H2 x y v u Q I2 rx ry q)
theorem Sk{f:Value->Value->Sem Value}{C:Int->Int->Prop}
  (rule:∀(i j:Int) (t u:Tok) (s:Shared) (Q:Value->Shared->Prop) (E:Value->Shared->Prop),C i j->Q (.int (g i j) s.toks) {s with toks:=s.toks+1}->wpAny (model X.prog X.w) X.A (f (.int i t) (.int j u)) Q E s):
  JG X f (rI C fun i j=>.int (g i j)):=by
 intro pr s σ H x y v u Q I rx ry h;obtain⟨i,j,rfl,rfl,hc,q⟩:=h;obtain⟨t,rfl⟩:=rx;obtain⟨t',rfl⟩:=ry;exact rule i j t t' s _ _ hc ⟨.int (g i j),H,I.tok _,⟨_,rfl⟩,q⟩
theorem Hq{f:Value->Value->Sem Value}
  (rule:∀(i j:Int) (t u:Tok) (s:Shared) (Q:Value->Shared->Prop) (E:Value->Shared->Prop),Q (.int (g i j) s.toks) {s with toks:=s.toks+1}->wpAny (model X.prog X.w) X.A (f (.int i t) (.int j u)) Q E s):
  JG X f (Pr fun i j=>.int (g i j)):=by
 intro pr s σ H x y v u Q I rx ry h;obtain⟨i,j,rfl,rfl,q⟩:=h;obtain⟨t,rfl⟩:=rx;obtain⟨t',rfl⟩:=ry;exact rule i j t t' s _ _ ⟨.int (g i j),H,I.tok _,⟨_,rfl⟩,q⟩
theorem FZ{g:Int->Int->Bool}
  (rule:∀(i j:Int) (t u:Tok) (s:Shared) (Q:Value->Shared->Prop) (E:Value->Shared->Prop),Q (.bool (g i j)) s->wpAny (model X.prog X.w) X.A (f (.int i t) (.int j u)) Q E s):
  JG X f (Pr fun i j=>.bl (g i j)):=by
 intro pr s σ H x y v u Q I rx ry h;obtain⟨i,j,rfl,rfl,q⟩:=h;obtain⟨t,rfl⟩:=rx;obtain⟨t',rfl⟩:=ry;exact rule i j t t' s _ _ ⟨.bl (g i j),H,I,rfl,q⟩
def HZ(i j:Int):Prop:=0<j/\j<1073741824
def H0(i j:Int):Prop:=0<=j/\j<=1000000/\i.natAbs<2 ^ 64
def CMul(i j:Int):Prop:=(-(2 ^ 64)<i/\i<2 ^ 64)\/(-(2 ^ 64)<j/\j<2 ^ 64)
theorem CMul.ok{i j:Int}(h:CMul i j):IntMulOk i j:=by
 rcases h with⟨h1,h2⟩|⟨h1,h2⟩
 ·exact .of_left (intBits_le_64 h1 h2)
 ·exact .of_right (intBits_le_64 h1 h2)
theorem C7:JG X (binaryOp .Add) (Pr fun i j=>.int (i+j)):=Hq fun _ _ _ _ _ _ _ q=>add_int q
theorem C8:JG X (binaryOp .Sub) (Pr fun i j=>.int (i-j)):=Hq fun _ _ _ _ _ _ _ q=>sub_int q
theorem C9:JG X (binaryOp .Mult) (rI CMul fun i j=>.int (i*j)):=Sk fun _ _ _ _ _ _ _ hc q=>mul_int q hc.ok
theorem Aj:JG X (binaryOp .FloorDiv) (rI HZ fun i j=>.int (i / j)):=Sk fun i j _ _ _ _ _ hc q=>by
 have h1:(0:Int)<j:=hc.1;have h2:j<1073741824:=hc.2;exact floordiv_int (by lia) (by rw[Int.fdiv_eq_ediv_of_nonneg i (by lia)];exact q) (.inl (PyProof.noPylong_small (by lia)))
theorem Dc:JG X (binaryOp .Mod) (rI (fun _ j=>0<j) fun i j=>.int (i%j)):=Sk fun i j _ _ _ _ _ hc q=>by
 have h1:(0:Int)<j:=hc;exact mod_int' (by lia) (by rw[Int.fmod_eq_emod_of_nonneg i (by lia)];exact q)
theorem De:JG X (binaryOp .Pow) (rI H0 fun i j=>.int (i ^ j.toNat)):=Sk fun _ _ _ _ _ _ _ hc q=>pow_int_small hc.1 hc.2.1 hc.2.2 q
end
variable{us:List Value}
section
variable{a b:Expr}{tb tc:TE}
theorem uZ{Q:VK}{k k':Bool}(I:Inv X pr σ H s)(q:Q (.bl k) H)(e:k=k'):EP X pr σ Q (.bool k') s:=by
 subst e;exact⟨.bl k,H,I,rfl,q⟩
theorem F0:JG X (compareOp .Lt) (Pr fun i j=>.bl (decide (i<j))):=FZ fun _ _ _ _ _ _ _ q=>lt_int q
theorem F1:JG X (compareOp .Gt) (Pr fun i j=>.bl (decide (j<i))):=FZ fun _ _ _ _ _ _ _ q=>gt_int q
theorem F2:JG X (compareOp .GtE) (Pr fun i j=>.bl (decide (j<=i))):=FZ fun _ _ _ _ _ _ _ q=>ge_int q
theorem u0:JG X (compareOp .Lt) (fun x y H Q=>∃i j,x=.str i/\y=.str j/\Q (.bl (decide (i.cps.toList<j.cps.toList))) H):=by
 intro pr s σ H x y v u Q I rx ry h;obtain⟨i,j,rfl,rfl,q⟩:=h;obtain⟨t,rfl⟩:=rx;obtain⟨t',rfl⟩:=ry;exact lt_str (uZ I q rfl)
theorem ve:JG X (compareOp .In) (fun x y H Q=>∃i j,x=.str i/\y=.str j/\Q (.bl (!(Builtin.Str.occurrences j i 0 j.length 1).isEmpty)) H):=by
 intro pr s σ H x y v u Q I rx ry h;obtain⟨i,j,rfl,rfl,q⟩:=h;obtain⟨t,rfl⟩:=rx;obtain⟨t',rfl⟩:=ry;exact in_str (uZ I q rfl)
theorem oV:JG X (compareOp .NotIn) (fun x y H Q=>∃i j,x=.str i/\y=.str j/\Q (.bl (!(!(Builtin.Str.occurrences j i 0 j.length 1).isEmpty))) H):=by
 intro pr s σ H x y v u Q I rx ry h;obtain⟨i,j,rfl,rfl,q⟩:=h;obtain⟨t,rfl⟩:=rx;obtain⟨t',rfl⟩:=ry;exact notIn_str (uZ I q rfl)
theorem aR(b:Expr){op:CmpOp}(h:op≠.In:=by decide)(h2:op≠.NotIn:=by decide):behindInMarks op b=false:=by
 have e1:(op==CmpOp.In)=false:=by cases op <;> first|rfl|exact absurd rfl h
 have e2:(op==CmpOp.NotIn)=false:=by cases op <;> first|rfl|exact absurd rfl h2
 cases b <;> simp[behindInMarks,e1,e2]
theorem vf{op:CmpOp}(ho:JG X (compareOp op) r)(ha:PE X a ta)(hb:PE X b tb)(hm:behindInMarks op b=false):PE X (.Compare a [op] [b] pos) (QJ r ta tb):=by
 intro pr s σ H Q I h;exact wpAny_Compare1 (FW ha hb I h fun v u s2 x y H2 I2 rx ry q=>ho pr s2 σ H2 x y v u Q I2 rx ry q) hm
def F3(t:TE):TT:=fun σ H Q=>t σ H fun x H'=>∃k,x=.bl k/\Q k H'
theorem vg{op:CmpOp}(ho:JG X (compareOp op) r)(ha:PE X a ta)(hb:PE X b tb)(hm:behindInMarks op b=false):PT X (.Compare a [op] [b] pos) (F3 (QJ r ta tb)):=by
 intro pr s σ H Q I h;refine wpAny_isTrue_Compare1 (Ji (ha pr s σ H _ I h) fun v s1 ⟨x,H1,I1,r1,q1⟩=>Ji (hb pr s1 σ H1 _ I1 q1) fun u s2 ⟨y,H2,I2,r2,q2⟩=>
  Ji (ho pr s2 σ H2 x y v u _ I2 r1 r2 q2) fun c s3 ⟨z,H3,I3,r3,k,e,q3⟩=>?_) hm
 subst e;cases r3;exact Xp ⟨H3,I3,q3⟩
theorem ml:(sizeLine:Nat)<2 ^ 63:=by rw[Wr];decide
theorem uc:JG X (binaryOp .Add) (fun x y H Q=>∃i j,x=.str i/\y=.str j/\i.length+j.length<=sizeLine/\Q (.str (i++j)) H):=by
 intro pr s σ H x y v u Q I rx ry h;obtain⟨i,j,rfl,rfl,hz,q⟩:=h;obtain⟨t,rfl⟩:=rx;obtain⟨t',rfl⟩:=ry;exact add_str (fun t' tk=>⟨.str (i++j),H,I.tok _,⟨_,rfl⟩,q⟩) hz
theorem fV{x:V}(r:Vals [x] us):∃u,us=[u]/\RelV x u:=by
 cases r with
 |cons r1 r2=>cases r2;exact⟨_,rfl,r1⟩
theorem x5{x y:V}(r:Vals [x,y] us):∃u w',us=[u,w']/\RelV x u/\RelV y w':=by
 cases r with
 |cons r1 r2=>
  cases r2 with
  |cons r3 r4=>cases r4;exact⟨_,_,rfl,r1,r3⟩
theorem vh(hc:X.calm=true):dX X (.builtin "min") (fun xs H Q=>∃i j,xs=[.int i,.int j]/\Q (.int (if j<i then j else i)) H):=by
 intro pr s σ H xs us Q I r h;obtain⟨i,j,rfl,q⟩:=h;obtain⟨u,w',rfl,⟨t,rfl⟩,⟨t',rfl⟩⟩:=x5 r;refine min_two_ints (I.ok.hd hc) fun h' tk k=>⟨_,H,I.kept k,?_,q⟩
 by_cases hj:j<i
 ·rw[Vn hj,Vn hj];exact⟨_,rfl⟩
 ·rw[Vt hj,Vt hj];exact⟨_,rfl⟩
end
variable{C:Addr}{name:Str}
section
variable{prog:Program}{x dx f:Addr}{mA:Str->Option Value}{v:Value}
end
theorem RelO.some_of{o:Option Value}(r:RelO (some v) o):∃u,o=some u/\RelV v u:=by
 cases o with
 |none=>exact(show False from r).elim
 |some u=>exact⟨u,rfl,r⟩
section
variable{dx:Addr}{fs fs':List (Str×V)}
end
section
variable{dx:Addr}{fs:List (Str×V)}{f:Str}
end
section
variable{o value:Expr}{f:Str}{pos' Pt:Pos}{tv:TE}
end
section
variable{c:Value}{b:Bool}
end
structure Room(k:Nat)(A:Around):Prop where
 hd:A.handled=none
 dp:A.depth+3*k+5<recursionLimit
 un:A.units+16*k+200<cLine
theorem Room.mono{j k:Nat}(r:Room k A)(h:j<=k):Room j A:=⟨r.hd,by have:=r.dp;lia,by have:=r.un;lia⟩
theorem Room.m{j k:Nat}(r:Room k A)(h:j<=k:=by decide):Room j A:=r.mono h
theorem Room.deeper{k:Nat}{A:Around}(r:Room (k+1) A)(env:Env):Room k (A.deeper env):=
 ⟨r.hd,by have:=r.dp;show A.depth+1+3*k+5<_;lia,by have:=r.un;show A.units+3+16*k+200<_;lia⟩
theorem Room.depth{k:Nat}{A:Around}(r:Room k A):A.depth<recursionLimit:=by have:=r.dp;lia
theorem Room.units{k:Nat}{A:Around}(r:Room k A):A.units+64<cLine:=by have:=r.un;lia
theorem Room.units0{k:Nat}(r:Room k A):A.units<cLine:=by have:=r.un;lia
def Fu:TA:=fun _ H Q=>Q [] H
def x6(ta:TE)(tr:TA):TA:=fun σ H Q=>ta σ H fun x H1=>tr σ H1 fun xs H2=>Q (x::xs) H2
section
variable{t:TA}
theorem oW:PA X [] Fu:=fun _ _ _ _ H Q I h=>Y0 ⟨[],H,I,.nil,h⟩
theorem gK(ha:PE X e te)(hr:PA X es t)(hs:starEach (e::es) X.env=(false,eval e X.env)::starEach es X.env:=by rfl):PA X (e::es) (x6 te t):=by
 intro pos pr s σ H Q I h;rw[hs];show wpAny _ _ (spliced ((false,eval e X.env)::backTo pos (starEach es X.env))) _ _ s;refine YS (Ji (ha pr s σ H _ I h) fun u s1 Jk=>?_);obtain⟨x,H1,I1,r1,q1⟩:=Jk;exact Ji (hr pos pr s1 σ H1 _ I1 q1) fun us s2 ⟨xs,H2,I2,r2,q2⟩=>⟨x::xs,H2,I2,.cons r1 r2,q2⟩
def Ia(t:TA):TE:=fun σ H Q=>t σ H fun xs H1=>xs.length<=sizeLine/\∀p,H1 p=none->Q (.ref p) (upd H1 p (.tup xs))
def Ib(t:TA):TE:=fun σ H Q=>t σ H fun xs H1=>xs.length<=sizeLine/\∀p,H1 p=none->Q (.ref p) (upd H1 p (.lst xs))
theorem zj{x1}(h:PA X es t):PE X (.Tuple es x1 pos) (Ia t):=by
 intro pr s σ H Q I hq;refine wpAny_Tuple_spliced (Ji (h pos pr s σ H _ I hq) fun us s1 ⟨xs,H1,I1,r,z,q⟩=>⟨by rw[<-r.length];exact z,?_⟩);have hf:H1 s1.heap.objs.size=none:=I1.hok.fresh (Vl _);refine⟨.ref s1.heap.objs.size,upd H1 s1.heap.objs.size (.tup xs),I1.laid (t':=s1.toks) (fun b u e=>Vc _ e) (Vl _) ?_,rfl,q _ hf⟩;exact⟨z,us,r,⟨_,Vy _ rfl,rfl,⟨_,rfl⟩,rfl⟩⟩
theorem Dg(h:PA X es t):PE X (.List es pos) (Ib t):=by
 intro pr s σ H Q I hq;refine wpAny_List_spliced (Ji (h pos pr s σ H _ I hq) fun us s1 ⟨xs,H1,I1,r,z,q⟩=>⟨by rw[<-r.length];exact z,?_⟩);have hf:H1 s1.heap.objs.size=none:=I1.hok.fresh (Vl _);refine⟨.ref s1.heap.objs.size,upd H1 s1.heap.objs.size (.lst xs),I1.laid (t':=s1.toks) (fun b u e=>Vc _ e) (Vl _) ?_,rfl,q _ hf⟩;exact⟨z,us,0,r,Vy _ rfl⟩
end
abbrev Sp:=List V->Hp->VK->XK->Prop
abbrev CXT:=List Env->Hp->Shared->XK->Value->Shared->Prop
structure Env0(P:Program)(w:World)(K:W.Frag)(mg:Str->Option Value)(base:Heap)(A:Around)(outer:List Env)(s:Shared)(H:Hp):Prop where
 frames:A.frames=some outer
 mod:Mod K mg base
 bs:∀b o,base.get? b=some o->s.heap.get? b=some o/\H b=none
 bsz:base.objs.size<=s.heap.objs.size
 funs:s.heap.FunFrames base outer
 frf:∀b∈Mu outer,H b=none
 hok:HOk P w H s.heap
 bare:AllBare s.gens
def CE(outer:List Env)(P:Program)(w:World)(H:Hp)(s:Shared)(Q:VK)(u:Value)(s':Shared):Prop:=
 ∃v H',s'.os=s.os/\AllBare s'.gens/\Un (Mu outer) [] H H' s.heap s'.heap/\HOk P w H' s'.heap/\RelV v u/\Q v H'
def CR(CX:CXT)(outer:List Env)(P:Program)(w:World)(H:Hp)(s:Shared)(Q:VK)(E:XK)(r:Result)(s':Shared):Prop:=
 match r with
 | .ok (.ret u)=>CE outer P w H s Q u s'
 | .ok _=>False
 | .error e=>CX outer H s E e s'
structure FnOk(P:Program)(w:World)(K:W.Frag)(mg:Str->Option Value)(base:Heap)(CX:CXT)(k:Nat)(f:Addr)(fd:FuncData)(ps:List Str)(sp:Sp):Prop where
 len:∀vs H Q E,sp vs H Q E->vs.length=ps.length
 run:∀(A:Around) (outer:List Env) (s:Shared) (H:Hp) (args:Args) (us:List Value) (vs:List V) (Q:VK) (E:XK),Room k A->Env0 P w K mg base A outer s H->BindsTo s fd args (ps.zip us)->Vals vs us->sp vs H Q E->
  codeAny (model P w) A (.call (.ref f) args) (CR CX outer P w H s Q E) s
variable{mg:Str->Option Value}{base:Heap}{CX:CXT}{fd:FuncData}{ps:List Str}{sp:Sp}
theorem FnOk.imp{k:Nat}{f:Addr}{Ul:Sp}(F:FnOk P w K mg base CX k f fd ps sp)
  (h:∀vs H Q E,Ul vs H Q E->sp vs H Q E):FnOk P w K mg base CX k f fd ps Ul:=
 ⟨fun vs H Q E q=>F.len vs H Q E (h _ _ _ _ q),fun A outer s H args us vs Q E hr he hb hv hs=>F.run A outer s H args us vs Q E hr he hb hv (h _ _ _ _ hs)⟩
section
theorem Inv.env0(I:Inv X pr σ H s):Env0 X.prog X.w X.K X.mg X.base X.A X.stack s H:=
 ⟨I.ok.frames,I.ok.mod,I.bs,VR I.ok.bsz I.sz,I.stack,I.stkFree,I.hok,I.bare⟩
theorem Inv.after{Q:VK}(I:Inv X pr σ H s)(h:CE X.stack X.prog X.w H s Q u s'):EP X pr σ Q u s':=by
 obtain⟨v,H',os,bare,un,hok,r,q⟩:=h;obtain⟨hh,g,d,t,Sl⟩:=s';obtain rfl:Sl=s.os:=os;exact⟨v,H',I.call (h':=hh) (g':=g) (d':=d) (t':=t) (ch:=[]) un hok bare (fun b z=>absurd z (by simp)),r,q⟩
end
def tCall(sp:Sp)(O6:List V)(E:XK)(t:TA):TE:=fun σ H Q=>t σ H fun vs H1=>sp (vs++O6) H1 Q E
def Binds(K:W.Frag)(fd:FuncData)(ps:List Str)(ds:List Value):Prop:=
 ∀(s:Shared) (us:List Value),K.In s.heap->(us++ds).length=ps.length->BindsTo s fd ⟨us,[]⟩ (ps.zip (us++ds))
theorem Binds.all(h:∀us:List Value,us.length=ps.length->bindArgs fd ⟨us,[]⟩=pure (ps.zip us)):Binds K fd ps []:=fun s us _ hl=>by
 rw[VH]at hl ⊢;exact .of_eq (h us hl)
def vk(CX:CXT)(X:Cx)(E:XK):Prop:=∀(pr:List (Addr×Obj)) (σ:St) (H:Hp) (s:Shared) (e:Value) (s':Shared),Inv X pr σ H s->CX X.stack H s E e s'->X.xe e s'
variable{p:Pos}{vs:List V}
section
variable{k:Nat}{f:Addr}{O6:List V}{ds:List Value}{E:XK}{m:Str}{apos:Pos}{o:Expr}{t:TA}
theorem Dh{Q:VK}(F:FnOk X.prog X.w X.K X.mg X.base CX k f fd ps sp)(hr:Room k X.A)(hb:Binds X.K fd ps ds)(hd:Vals O6 ds)(hx:vk CX X E)
  (I:Inv X pr σ H s) (r:Vals vs us) (h:sp (vs++O6) H Q E):wpAny (model X.prog X.w) X.A (call (.ref f) us) (EP X pr σ Q) X.xe s:=by
 have r2:Vals (vs++O6) (us++ds):=r.append hd;have hl:(us++ds).length=ps.length:=by rw[<-r2.length];exact F.len _ _ _ _ h
 refine wpAny_call (YT (F.run X.A X.stack s H ⟨us,[]⟩ (us++ds) (vs++O6) Q E hr I.env0 (hb s us I.kIn hl) r2 h) fun r s' hq=>?_);cases r with
 |error e=>exact hx pr σ H s e s' I hq
 |ok fl=>
  cases fl with
  |ret u=>exact I.after hq
  |next=>exact False.elim hq
  |brk=>exact False.elim hq
  |cont=>exact False.elim hq
theorem Ak(F:FnOk X.prog X.w X.K X.mg X.base CX k f fd ps sp)(hr:Room k X.A)(hg:Gl X x)(hm:X.mg x=some (.ref f))(hk:PySem.W.keepIn X.K (.ref f)=true)(hb:Binds X.K fd ps ds)(hd:Vals O6 ds)(hx:vk CX X E)
  (ha:PA X (e::es) t) (KQ:(x==("__debug__" : Str))=false:=by decide) (he:starEach (e::es) X.env=(false,eval e X.env)::starEach es X.env:=by rfl) (JS:(backTo pos (starEach es X.env)).any (·.1)=false:=by rfl):
  PE X (.Call (.Name x p) (e::es) [] pos) (tCall sp O6 E t):=by
 intro pr s σ H Q I h;refine Ws (Ab I hg hm ?_ KQ);refine PySem.W.callWith_K (h₀:=X.base) I.ok.mod.kin hk (Ji (ha pos pr s σ H _ I h) fun us s1 ⟨vs,H1,I1,r,q⟩=>⟨I1.kIn,?_⟩) he JS;exact Dh F hr hb hd hx I1 r q
structure Mk(K:W.Frag)(C f:Addr):Prop where
 makes:PySem.W.makesIn K C=true
 init:PySem.W.findIn K (.ref C) "__init__" = some (some (.ref f))
 fn:PySem.W.isFn K (.ref f)=true
 kp:PySem.W.keepIn K (.ref C)=true
end
def PK(X:Cx)(Q7:List Keyword)(t:TA):Prop:=
 ∀(pos:Pos) (pr:List (Addr×Obj)) (s:Shared) (σ:St) (H:Hp) (Q:List V->Hp->Prop),Inv X pr σ H s->t σ H Q->wpAny (model X.prog X.w) X.A (evalAll ((backToKw pos (keywordEach Q7 X.env)).map (·.2))) (AP X pr σ Q) X.xe s
section
variable{k:Nat}{f:Addr}{ks:List Str}{E:XK}{m:Str}{apos MN:Pos}{o:Expr}{Q7:List Keyword}{t tk:TA}{nm:Option Str}
theorem Di:PK X [] Fu:=fun _ _ _ _ H Q I h=>wpAny_evalAll_nil ⟨[],H,I,.nil,h⟩
theorem Al(ha:PE X e te)(hr:PK X Q7 t):PK X (⟨nm,e,MN⟩::Q7) (x6 te t):=by
 intro pos pr s σ H Q I h;show wpAny _ _ (evalAll ((do let v <-eval e X.env;standAt pos;pure v)::(backToKw pos (keywordEach Q7 X.env)).map (·.2))) _ _ s;refine wpAny_evalAll_cons (U8 (Ji (ha pr s σ H _ I h) fun u s1 ⟨x,H1,I1,r1,q1⟩=>U8 (Z1 (Vf ?_))));exact Ji (hr pos pr s1 σ H1 _ I1 q1) fun us s2 ⟨xs,H2,I2,r2,q2⟩=>⟨x::xs,H2,I2,.cons r1 r2,q2⟩
variable{g:List Value->List Value->List Value}{gV:List V->List V->List V}
end
structure FnScope(N P:List Str)(sc:Scope):Prop where
 kind:sc.kind=.function
 co:sc.isCoroutine=false
 gen:sc.isGenerator=false
 nd:N.Nodup
 pre:N.take P.length=P
 par:∀x∈P,sc.names.lookup x=some .local\/sc.names.lookup x=some .cell
 nofree:∀y∈sc.names,y.2≠.free
theorem fs{N P:List Str}(a:sc.kind=.function:=by rfl)(b:sc.isCoroutine=false:=by rfl)(c:sc.isGenerator=false:=by rfl)(d:N.Nodup:=by decide +kernel)(e:N.take P.length=P:=by rfl)(f:∀x∈P,sc.names.lookup x=some .local\/sc.names.lookup x=some .cell:=by decide +kernel)(g:∀y∈sc.names,y.2≠.free:=by decide +kernel):FnScope N P sc:=⟨a,b,c,d,e,f,g⟩
theorem oX{kindOf:Str->Option NameKind}{x:Str}:∀{binds:List (Str×Value)}{m:Str->Option Value},(∀v,(x,v)∉binds)->bindL kindOf binds m x=m x
 |[],_,_=>rfl
 |(n,v)::r,m,h=>by
  unfold bindL;rw[oX fun w hw=>h w (Vb _ hw)];split
  ·have:x≠n:=by rintro rfl;exact h v Va
   simp[this]
  ·rfl
theorem oY{kindOf:Str->Option NameKind}{x:Str}:∀{binds:List (Str×Value)}{m:Str->Option Value},(∀v,(x,v)∉binds)->bindC kindOf binds m x=m x
 |[],_,_=>rfl
 |(n,v)::r,m,h=>by
  unfold bindC;rw[oY fun w hw=>h w (Vb _ hw)];split
  ·rfl
  ·have:x≠n:=by rintro rfl;exact h v Va
   simp[this]
theorem oZ{kindOf:Str->Option NameKind}{x:Str}{v:Value}:∀{P:List Str}{vs:List Value}{i:Nat}{m:Str->Option Value},P.Nodup->P[i]?=some x->vs[i]?=some v->kindOf x=some .local->
  bindL kindOf (P.zip vs) m x=some v
 |[],_,_,_,_,h,_,_=>by simp at h
 |_::_,[],_,_,_,_,h,_=>by simp at h
 |p::P,w::vs,0,m,nd,h1,h2,hk=>by
  simp at h1 h2;subst h1;subst h2;show bindL kindOf ((p,w)::P.zip vs) m p=_;unfold bindL;rw[oX fun v hv=>(VN.mp nd).1 (Xr hv).1,Vn hk];simp
 |p::P,w::vs,i+1,m,nd,h1,h2,hk=>by
  show bindL kindOf ((p,w)::P.zip vs) m x=_;unfold bindL;exact oZ (i:=i) (VN.mp nd).2 (by simpa using h1) (by simpa using h2) hk
theorem o6{kindOf:Str->Option NameKind}{x:Str}{v:Value}:∀{P:List Str}{vs:List Value}{i:Nat}{m:Str->Option Value},P.Nodup->P[i]?=some x->vs[i]?=some v->kindOf x≠some .local->
  bindC kindOf (P.zip vs) m x=some v
 |[],_,_,_,_,h,_,_=>by simp at h
 |_::_,[],_,_,_,_,h,_=>by simp at h
 |p::P,w::vs,0,m,nd,h1,h2,hk=>by
  simp at h1 h2;subst h1;subst h2;show bindC kindOf ((p,w)::P.zip vs) m p=_;unfold bindC;rw[oY fun v hv=>(VN.mp nd).1 (Xr hv).1,Vt hk];simp
 |p::P,w::vs,i+1,m,nd,h1,h2,hk=>by
  show bindC kindOf ((p,w)::P.zip vs) m x=_;unfold bindC;exact o6 (i:=i) (VN.mp nd).2 (by simpa using h1) (by simpa using h2) hk
def km(N:List Str)(vs:List V):St:=vs.map some++List.replicate (N.length-vs.length) none
noncomputable def xN(CX:CXT)(P:Program)(w:World)(K:W.Frag)(mg:Str->Option Value)(base:Heap)(N:List Str)(qual:Str)(scope:Scope)(f:Addr)(cd:Value)(A:Around)(outer:List Env)(s:Shared)(H:Hp)(E:XK):Cx where
 prog:=P
 w:=w
 K:=K
 mg:=mg
 base:=base
 A:=A.deeper (envOfC qual scope s.heap.objs.size f cd)
 N:=N
 s₀:=s
 H₀:=H
 env:=envOfC qual scope s.heap.objs.size f cd
 outer:=outer
 stack:=envOfC qual scope s.heap.objs.size f cd::outer
 ex:=[]
 calm:=true
 fn:=fun _=>true
 pn:=[]
 xe:=fun e s'=>wpAny (model P w) (A.deeper (envOfC qual scope s.heap.objs.size f cd)) (leaving (envOfC qual scope s.heap.objs.size f cd) e) (fun _ S5=>CX outer H s E e S5) (fun e' S5=>CX outer H s E e' S5) s'
theorem rN(h:sc.names.lookup x=some .cell):∃c,(cellsFrom n sc.names []).lookup x=some c:=by
 have q:=Zk sc.names n [] (.inl h);exact Wb.mp q
variable{qual:Str}{scope:Scope}
theorem vm{f:Addr}{cd:Value}{outer:List Env}{s1:Shared}{E:XK}
  (S:FnScope N ps scope) (hd:A.handled=none) (e0:Env0 P w K mg base A outer s H) (hl:vs.length=ps.length) (r:Vals vs us)
  (x:InCallC s s.heap.objs.size (bindL (envOfC qual scope s.heap.objs.size f cd).kindOf (ps.zip us) fun _=>none) (cellsFrom (s.heap.objs.size+1) scope.names []) (bindC (envOfC qual scope s.heap.objs.size f cd).kindOf (ps.zip us) fun _=>none) s1):
  Inv (xN CX P w K mg base N qual scope f cd A outer s H E) [] (km N vs) H s1:=by
 have JS:ps.length<=N.length:=by have:=WM List.length S.pre;rw[VZ]at this;lia
 obtain⟨h1,tk,rfl,hk⟩:=x.done;have Q8:∀b:Addr,b∉(xN CX P w K mg base N qual scope f cd A outer s H E).ex:=fun b z=>absurd (show b∈([]:List Addr) from z) (by simp)
 refine⟨⟨e0.mod,S.kind,rfl,rfl,Vl _,fun y z c h1 h2=>?_,fun y hy=>?_,fun y c _ h=>?_,fun _=>hd,Around.frames_deeper e0.frames,.inr ⟨rfl,rfl⟩,fun b z=>absurd z (Q8 b),e0.bs,e0.bsz,fun b _ _=>Q8 b,fun b z=>absurd z (Q8 b),e0.funs,e0.frf⟩,
  rfl,e0.bare,Un.kept hk,⟨_,x.toInCall.ns,fun i y v h1 h2 h3=>?_⟩,fun y c h=>⟨_,x.cell y c h⟩,e0.hok.fresh (Vl _),fun y c h=>?_,fun p hp=>absurd (show p∈([]:List (Addr×Obj)) from hp) (by simp),e0.hok.kept hk,?_⟩
 ·exact name_of_addr x.apart (W9 h1) (W9 h2)
 ·have hy:scope.names.lookup y=some .cell\/scope.names.lookup y=some .free:=hy;rcases hy with hy|hy
  ·exact rN hy
  ·exact absurd rfl (S.nofree _ (W9 hy))
 ·exact Zq (x.above y c (W9 h))
 ·have hi:i<vs.length:=by
   unfold km at h2;by_cases hi:i<vs.length
   ·exact hi
   ·rw[Wq (by simpa using hi)]at h2;rw[List.getElem?_replicate]at h2;split at h2 <;> cases h2
  have ha:vs[i]?=some v:=by
   unfold km at h2;rw[V1 (by simpa using hi),Vs]at h2;cases e:vs[i]? with
   |none=>rw[e]at h2;cases h2
   |some a=>rw[e]at h2;cases h2;rfl
  obtain⟨u,hu,rv⟩:=r.get ha;have hp:ps[i]?=some y:=by
   rw[<-S.pre,Y1 (by lia)];exact h1
  have Sm:ps.Nodup:=by rw[<-S.pre];exact S.nd.sublist (Y2 _ _)
  refine⟨u,rv,?_⟩;rcases S.par y (VF hp) with k|k
  ·exact .inl ⟨k,oZ Sm hp hu k⟩
  ·obtain⟨c,e⟩:=rN (n:=s.heap.objs.size+1) k;refine .inr ⟨.inl k,c,e,?_⟩;have q:=x.cell y c e;rw[o6 Sm hp hu (by show scope.names.lookup y≠_;rw[k];decide)]at q;exact q
 ·exact e0.hok.fresh (Zq (x.above y c (W9 h)))
 ·unfold km;show _=N.length;rw[VJ,Ve,List.length_replicate];lia
theorem F4{k:Nat}{f:Addr}{params:Arguments}{dV kV doc pm Jm ct oc:Value}{an od:Option Addr}
  {M5:Array (Option Value)}(lk:K.lookup f=some ⟨oc,od,.func (PySem.W.fnOf name qual params body scope dV kV doc pm an Jm ct),M5⟩) (Nf:PySem.W.codeIn K Jm qual=true) (S:FnScope N ps scope)
  (len:∀vs H Q E,sp vs H Q E->vs.length=ps.length)
  (Ng:∀(A:Around) (outer:List Env) (s:Shared) (H:Hp) (vs:List V) (Q:VK) (E:XK),Room k (A.deeper (envOfC qual scope s.heap.objs.size f Jm))->sp vs H Q E->
   ∃t,PSs (xN CX P w K mg base N qual scope f Jm A outer s H E) body t/\t {nx:=fun _ H'=>Q .non H',rt:=Q} (km N vs) H):
  FnOk P w K mg base CX (k+1) f (PySem.W.fnOf name qual params body scope dV kV doc pm an Jm ct) ps sp:=by
 refine⟨len,fun A outer s H args us vs Q E hr e0 hb r Nh=>?_⟩;have hl:=len _ _ _ _ Nh;have KX:K.In s.heap:=e0.mod.kin.keeps fun b o e=>(e0.bs b o e).1
 have lim:s.heap.NoLimit:=e0.mod.nolimit.keeps fun b o e=>(e0.bs b o e).1
 have LR:∀y∈ps.zip us,scope.names.lookup y.1=some .local\/(scope.names.lookup y.1=some .cell/\((cellsFrom (s.heap.objs.size+1) scope.names []).lookup y.1).isSome=true):=fun Jc hy=>by
  obtain⟨n,v⟩:=Jc;rcases S.par n (Xr hy).1 with q|q
  ·exact .inl q
  ·exact .inr ⟨q,Zk _ _ _ (.inl q)⟩
 refine codeAny_call_function hr.depth (KX _ _ lk) rfl S.co S.gen rfl (PySem.W.codeRec_of KX Nf) (hb _ _ _ _ ?_);refine wpAny_newFunctionEnv_cells S.kind LR fun env he s1 x=>?_
 subst he;refine⟨lim.keeps x.toInCall.keep,codeAny_func ?_⟩;obtain⟨t,ht,hq⟩:=Ng A outer s H vs Q E (hr.deeper _) Nh;have I:Inv (xN CX P w K mg base N qual scope f Jm A outer s H E) [] (km N vs) H s1:=vm S hr.hd e0 hl r x;refine Yb (ht [] s1 (km N vs) H _ I hq) (fun fl s' hs=>?_) fun e s' hs=>hs
 have fin:∀{σ':St}{H':Hp}{v:V}{u:Value},Inv (xN CX P w K mg base N qual scope f Jm A outer s H E) [] σ' H' s'->RelV v u->Q v H'->CE outer P w H s Q u s':=
  fun{σ' H' v u} J rv q=>⟨v,H',J.os,J.bare,J.base,J.hok,rv,q⟩
 cases fl with
 |ret u=>
  obtain⟨v,σ',H',J,rv,q⟩:=hs;exact fin J rv q
 |next=>
  obtain⟨σ',H',J,q⟩:=hs;exact fin (v:=V.non) (u:=Value.none) J rfl q
 |brk=>
  obtain⟨_,_,_,q⟩:=hs;exact False.elim q
 |cont=>
  obtain⟨_,_,_,q⟩:=hs;exact False.elim q
section
variable{t:TA}{id T:String}{r:List V->Hp->VK->Prop}
def S7(r:List V->Hp->VK->Prop)(t:TA):TE:=fun σ H Q=>t σ H fun vs H1=>r vs H1 Q
theorem rO(hc:dX X (.builtin id) r)(hg:Gl X x)(hm:X.mg x=none)(hv:bootBuiltins x=some (.builtin id))(ha:PA X (e::es) t)(hn:x≠"__name__":=by decide)(KQ:(x==("__debug__" : Str))=false:=by decide)
  (he:starEach (e::es) X.env=(false,eval e X.env)::starEach es X.env:=by rfl) (JS:(backTo pos (starEach es X.env)).any (·.1)=false:=by rfl):PE X (.Call (.Name x p) (e::es) [] pos) (S7 r t):=by
 intro pr s σ H Q I h;refine Ws (gJ I hg hm hv ?_ hn KQ);exact PyProof.Rows.callWith_builtin1 (Ji (ha pos pr s σ H _ I h) fun us s1 ⟨vs,H1,I1,r1,q1⟩=>hc pr s1 σ H1 vs us Q I1 r1 q1) he JS
theorem vn(hc:dX X (.type T) r)(hg:Gl X x)(hm:X.mg x=none)(hv:bootBuiltins x=some (.type T))(ha:PA X (e::es) t)(hn:x≠"__name__":=by decide)(KQ:(x==("__debug__" : Str))=false:=by decide)
  (he:starEach (e::es) X.env=(false,eval e X.env)::starEach es X.env:=by rfl) (JS:(backTo pos (starEach es X.env)).any (·.1)=false:=by rfl):PE X (.Call (.Name x p) (e::es) [] pos) (S7 r t):=by
 intro pr s σ H Q I h;refine Ws (gJ I hg hm hv ?_ hn KQ);exact Wj (Ji (ha pos pr s σ H _ I h) fun us s1 ⟨vs,H1,I1,r1,q1⟩=>hc pr s1 σ H1 vs us Q I1 r1 q1) he JS
end
end L2
namespace HT
open PySem PyProof.Rows
section
open PySem.SeqAt
open PySem.AutoSeq1 (wpAny_loadPart')
open PySem.MeetsSeq PySem.MeetsSeq2 PySem.MeetsSeq3
end
section
variable{prog:Program}{w:World}{A:Around}{E:Value->Shared->Prop}{s:Shared}
theorem Am{t b:Addr}{vs ws:List Value}{Q:Value->Shared->Prop}(ht:IsTup s.heap t vs.toArray)(hb:IsTup s.heap b ws.toArray)(hv:vs≠[])
  (h1:ws=[]->Q (.ref t) s) (h2:ws≠[]->Q (.ref s.heap.objs.size) {s with heap:=s.heap.push {cls:=.type "tuple",data:=.seq (vs++ws).toArray}})
  (hsz:vs.length+ws.length<=sizeLine):wpAny (model prog w) A (binaryOp .Add (.ref t) (.ref b)) Q E s:=by
 obtain⟨⟨cls,dd,data,sl⟩,ho,hc,n,hd⟩:=id ht;obtain⟨⟨Q9,QK,data2,QL⟩,KG,My,n2,hd2⟩:=id hb;simp only at hc hd My hd2;subst hc hd My hd2;have e:vs.toArray++ws.toArray=(vs++ws).toArray:=by simp
 by_cases hw:ws=[]
 ·exact Zs ⟨_,ho,rfl⟩ ⟨_,KG,rfl⟩ Zg Z2 Yo Yg (Yc _ _)
   (tuple_addW1 t b vs.toArray ws.toArray n n2 dd QK sl QL (by simpa using hv) (by simp[hw])) ⟨ho,KG,h1 hw⟩
 ·refine Zs ⟨_,ho,rfl⟩ ⟨_,KG,rfl⟩ Zg Z2 Yo Yg (Yc _ _)
   (tuple_addW2 t b vs.toArray ws.toArray n n2 dd QK sl QL (by simpa using hv) (by simpa using hw) (by rw[Vh,Vh];exact hsz)) ⟨ho,KG,?_⟩
  rw[e];exact h2 hw
def sIx(n d:Nat):Option Int->Nat
 |none=>d
 |some v=>if v<0 then(v+(n:Int)).toNat else min v.toNat n
theorem rP(n d:Nat):sIx n d none=d:=rfl
theorem m6(n d k:Nat):sIx n d (some (k:Int))=min k n:=by
 show(if(k:Int)<0 then((k:Int)+(n:Int)).toNat else min (k:Int).toNat n)=min k n;rw[Vt (by lia),W6]
theorem vo(n d:Nat)(hd:d<=n)(o:Option Int):sIx n d o<=n:=by
 cases o with
 |none=>exact hd
 |some v=>
  show(if v<0 then(v+(n:Int)).toNat else min v.toNat n)<=n;by_cases hv:v<0
  ·rw[Vn hv];lia
  ·rw[Vt hv];exact Nat.min_le_right _ _
theorem vp(v:Int)(n d:Nat):(if v<0 then max (v+(n:Int)) 0 else min v (n:Int))=((sIx n d (some v):Nat):Int):=by
 show(if v<0 then max (v+(n:Int)) 0 else min v (n:Int))=(((if v<0 then(v+(n:Int)).toNat else min v.toNat n):Nat):Int)
 by_cases hv:v<0
 ·simp only[Vn hv];lia
 ·simp only[Vt hv];lia
theorem ud(lo hi:Option Int)(n:Nat):Builtin.Slice.sliceAdjust lo hi 1 (n:Int)=(((sIx n 0 lo:Nat):Int),((sIx n n hi:Nat):Int)):=by
 have h1:¬ ((1:Int)<0):=by lia
 unfold Builtin.Slice.sliceAdjust;simp only[h1,WW];refine Prod.ext ?_ ?_
 ·cases lo with
  |none=>rfl
  |some v=>exact vp v n 0
 ·cases hi with
  |none=>rfl
  |some v=>exact vp v n n
theorem ue(i j:Nat):Builtin.Slice.slicePlaces (i:Int) (j:Int) 1=j-i:=by
 unfold Builtin.Slice.slicePlaces;have h1:(1:Int)>0:=by lia
 simp only[h1,XA,Int.ediv_one];split <;> lia
theorem mn{v:Value}{o:Option Int}{Q:Option Int->Shared->Prop}(p:IsPart v o)(h:Q o s):wpAny (model prog w) A (Builtin.Slice.slicePartIndex v) Q E s:=by
 cases p with
 |none=>exact slicePart_none h
 |int i t=>exact slicePart_int h
theorem gq{sl:Addr}{vl vu:Value}{lo hi:Option Int}{n:Nat}{Q:Int×Int×Nat->Shared->Prop}(hs:s.heap.IsSliceOf sl vl vu .none)(pl:IsPart vl lo)(pu:IsPart vu hi)
  (h:Q (((sIx n 0 lo:Nat):Int),1,sIx n n hi-sIx n 0 lo) s):wpAny (model prog w) A (Builtin.Slice.sliceApplied (.ref sl) (pure (n:Int))) Q E s:=by
 obtain⟨os,N4,Sn,N5⟩:=id hs;unfold Builtin.Slice.sliceApplied Builtin.Slice.sliceFields;refine U8 (U8 (WB N4 N5 (x:=vl) rfl (U8 (WB N4 N5 (x:=vu) rfl (U8 (WB N4 N5 (x:=.none) rfl (Vf ?_)))))));refine U8 (slicePart_none ?_);show wpAny _ _ (if((1:Int)==0)=true then _ else _) _ _ s;rw[Vt (by decide)];refine U8 (mn pl (U8 (mn pu (U8 (Vf ?_)))));show wpAny _ _ (match Builtin.Slice.sliceAdjust lo hi 1 (n:Int) with|(lo,hi)=>pure (lo,(1:Int),Builtin.Slice.slicePlaces lo hi 1)) _ _ s;rw[ud lo hi n];show wpAny _ _ (pure (((sIx n 0 lo:Nat):Int),(1:Int),Builtin.Slice.slicePlaces ((sIx n 0 lo:Nat):Int) ((sIx n n hi:Nat):Int) 1)) _ _ s;rw[ue];exact Vf h
theorem x9(xs:Array Value)(i k:Nat):((List.range k).filterMap fun(m:Nat)=>xs[((i:Int)+(m:Int)*1).toNat]?).toArray=((xs.toList.drop i).take k).toArray:=by
 have e:(fun(m:Nat)=>xs[((i:Int)+(m:Int)*1).toNat]?)=fun m=>xs[i+m]?:=by
  funext m
  have:((i:Int)+(m:Int)*1).toNat=i+m:=by lia
  rw[this]
 rw[e];have:=pick_run xs i k;rw[List.filterMap_map]at this;have e2:((fun x=>xs[x]?)∘fun x=>i+x)=fun m=>xs[i+m]?:=rfl
 rw[e2]at this;rw[this]
theorem jO{t sl:Addr}{items:Array Value}{vl vu:Value}{lo hi:Option Int}{Q:Value->Shared->Prop}(ht:IsTup s.heap t items)(hs:s.heap.IsSliceOf sl vl vu .none)(pl:IsPart vl lo)(pu:IsPart vu hi)
  (hw:¬ (sIx items.size 0 lo=0/\sIx items.size items.size hi=items.size))
  (h:Q (.ref s.heap.objs.size) {s with heap:=s.heap.push {cls:=.type "tuple",data:=.seq ((items.toList.drop (sIx items.size 0 lo)).take (sIx items.size items.size hi-sIx items.size 0 lo)).toArray}})
  (hsz:items.size<=sizeLine):wpAny (model prog w) A (getItem (.ref t) (.ref sl)) Q E s:=by
 have Mz:sizeOk (.seq ((items.toList.drop (sIx items.size 0 lo)).take (sIx items.size items.size hi-sIx items.size 0 lo)).toArray):=by
  show((items.toList.drop (sIx items.size 0 lo)).take (sIx items.size items.size hi-sIx items.size 0 lo)).toArray.size<=sizeLine;rw[Vh,VZ,WY,Vp];lia
 have hj:sIx items.size items.size hi<=items.size:=vo _ _ (Vl _) hi;obtain⟨os,N4,Sn,N5⟩:=id hs;have S8:s.TypeIs (.ref sl) "slice":=⟨os,N4,Sn⟩
 unfold getItem;try with_reducible refine WN ?_
 first|refine U8 (Vf ?_)|skip
 refine U8 (wpAny_sequenceKey ht.typeIs (by decide) ?_);refine U8 (Wo (name:=Str.ofString "__getitem__") ht.typeIs WK
  (Xf WK ht.typeIs entry_tuple_getitem ?_ (args_tuple_getitem _ _)))
 show wpAny _ _ (Builtin.Tuple.tupleItemsOf (.ref t) >>= _) _ _ s;refine U8 (tupleItemsOf_ ht ?_);refine U8 (XM S8 ?_);rw[Vn (by decide)];refine U8 (gq hs pl pu ?_);have O7:¬ ((((sIx items.size 0 lo:Nat):Int)==0&&(1:Int)==1&&(sIx items.size items.size hi-sIx items.size 0 lo)==items.size)=true):=by
  intro q;rw[Vu,Vu]at q;have q1:((sIx items.size 0 lo:Nat):Int)=0:=eq_of_beq q.1.1;have q2:sIx items.size items.size hi-sIx items.size 0 lo=items.size:=eq_of_beq q.2;exact hw ⟨by lia,by lia⟩
 show wpAny _ _ (if(((sIx items.size 0 lo:Nat):Int)==0&&(1:Int)==1&&(sIx items.size items.size hi-sIx items.size 0 lo)==items.size)=true then _ else _) _ _ s;rw[Vt O7,x9];first
  |exact U8 (m:=Builtin.Tuple.tupleExact _) (WL (Vf ⟨_,rfl,Vf h⟩) Mz)
  |exact U8 (m:=Builtin.Tuple.tupleExact _) (WL (U8 (Vf (Vf ⟨_,rfl,Vf h⟩))) Mz)
  |exact U8 (U8 (m:=Builtin.Tuple.tupleExact _) (WL (Vf (Vf ⟨_,rfl,Vf h⟩)) Mz))
  |exact U8 (U8 (m:=Builtin.Tuple.tupleExact _) (WL (Vf ⟨_,rfl,Vf h⟩) Mz))
end
end HT
namespace L2
open PySem PySem.Spec PyProof.Rows
abbrev TO:=St->Hp->(Option Int->Hp->Prop)->Prop
def PO(X:Cx)(e:Option Expr)(t:TO):Prop:=
 ∀(pr:List (Addr×Obj)) (s:Shared) (σ:St) (H:Hp) (Q:Option Int->Hp->Prop),Inv X pr σ H s->t σ H Q->
  wpAny (model X.prog X.w) X.A (evalPart e X.env) (fun u s'=>∃o H',Inv X pr σ H' s'/\IsPart u o/\Q o H') X.xe s
def An:TO:=fun _ H Q=>Q none H
def F5(t:TE):TO:=fun σ H Q=>t σ H fun x H1=>∃i,x=.int i/\Q (some i) H1
variable{X:Cx}{pos:Pos}{xs:List V}
section
variable{e:Expr}{te:TE}{lo hi:Option Expr}{tl th:TO}{p2:Pos}
theorem Ao:PO X none An:=by
 intro pr s σ H Q I h;rw[evalPart_none];exact Vf ⟨none,H,I,.none,h⟩
theorem Ap(h:PE X e te):PO X (some e) (F5 te):=by
 intro pr s σ H Q I hw;rw[evalPart_some];refine Ji (h pr s σ H _ I hw) fun u s1 Jk=>?_
 obtain⟨x,H1,I1,r1,q1⟩:=Jk;obtain⟨i,rfl,q⟩:=q1;obtain⟨t,rfl⟩:=r1;exact⟨some i,H1,I1,.int i t,q⟩
def Pu(X:Cx)(r:V->Option Int->Option Int->Hp->VK->Prop):Prop:=
 ∀(pr:List (Addr×Obj)) (s:Shared) (σ:St) (H:Hp) (x:V) (v vl vu:Value) (lo hi:Option Int) (sl:Addr) (Q:VK),Inv X pr σ H s->RelV x v->s.heap.IsSliceOf sl vl vu .none->IsPart vl lo->IsPart vu hi->r x lo hi H Q->
  ∃T id,typeLookup (.type T) "__getitem__" = pure (some (.builtin id))/\s.TypeIs v T/\wpAny (model X.prog X.w) X.A (getItem v (.ref sl)) (EP X pr σ Q) X.xe s
def tSl(r:V->Option Int->Option Int->Hp->VK->Prop)(te:TE)(tl th:TO):TE:=fun σ H Q=>te σ H fun x H1=>tl σ H1 fun l H2=>th σ H2 fun u H3=>r x l u H3 Q
theorem ya{r:V->Option Int->Option Int->Hp->VK->Prop}(hr:Pu X r)(he:PE X e te)(hl:PO X lo tl)(hu:PO X hi th):PE X (.Subscript e (.Slice lo hi none p2) pos) (tSl r te tl th):=by
 intro pr s σ H Q I h;refine Subscript_ (Ji (he pr s σ H _ I h) fun v s1 Jk=>?_);obtain⟨x,H1,I1,r1,q1⟩:=Jk;refine wpAny_Slice (Ji (hl pr s1 σ H1 _ I1 q1) fun vl s2 ⟨l,H2,I2,pl,q2⟩=>Ji (hu pr s2 σ H2 _ I2 q2) fun vu s3 Jk=>?_);obtain⟨u,H3,I3,pu,q3⟩:=Jk;rw[evalPart_none];refine Vf ?_;have I4:Inv X pr σ H3 {s3 with heap:=s3.heap.push {cls:=.type "slice",data:=.fields #[vl,vu,.none]}}:=I3.kept (t':=s3.toks) fun b ob q=>Vc _ q
 obtain⟨T,id,hT,ht,hg⟩:=hr pr {s3 with heap:=s3.heap.push {cls:=.type "slice",data:=.fields #[vl,vu,.none]}} σ H3 x v vl vu l u s3.heap.objs.size Q I4 r1 (Heap.IsSliceOf.new ..) pl pu q3;show wpAny (model X.prog X.w) X.A (subscriptTail e (.Slice lo hi none p2) v (.ref s3.heap.objs.size)) (EP X pr σ Q) X.xe {s3 with heap:=s3.heap.push {cls:=.type "slice",data:=.fields #[vl,vu,.none]}};exact tail_any (ops:=[.ref s3.heap.objs.size,v]) ht hT hg (by with_unfolding_all rfl)
def zk(xs:List V)(lo hi:Option Int):List V:=(xs.drop (HT.sIx xs.length 0 lo)).take (HT.sIx xs.length xs.length hi-HT.sIx xs.length 0 lo)
theorem kJ(xs:List V)(lo hi:Option Int):(zk xs lo hi).length<=xs.length:=by
 unfold zk;rw[VZ,WY];lia
def Ic(K:W.Frag):V->Option Int->Option Int->Hp->VK->Prop:=fun x lo hi H Q=>∃a xs,x=.ref a/\SqT K H a xs/\
 ¬ (HT.sIx xs.length 0 lo=0/\HT.sIx xs.length xs.length hi=xs.length)/\∀p,H p=none->Q (.ref p) (upd H p (.tup (zk xs lo hi)))
theorem Dk:Pu X (Ic X.K):=by
 intro pr s σ H x v vl vu lo hi sl Q I rx hs pl pu h;obtain⟨a,xs,rfl,hx,hw,q⟩:=h;cases rx;obtain⟨IS,r,ht,hz⟩:=I.tuple hx;have hlen:IS.toArray.size=xs.length:=by rw[Vh];exact r.length.symm
 refine⟨"tuple",_,PyProof.Rows.slot_tuple_getitem.lookup,ht.typeIs,?_⟩;refine HT.jO ht hs pl pu (by rw[hlen];exact hw) ?_ (by rw[hlen];exact hz);rw[hlen];refine⟨.ref s.heap.objs.size,_,I.laid (t':=s.toks) (o:=.tup (zk xs lo hi)) (fun b ob q=>Vc _ q) (Vl _) ?_,rfl,q _ (I.hok.fresh (Vl _))⟩;exact⟨VR (kJ xs lo hi) hz,_,(r.drop (HT.sIx xs.length 0 lo)).take (HT.sIx xs.length xs.length hi-HT.sIx xs.length 0 lo),IsTupN.new _ _⟩
def F6(K:W.Frag):R2:=fun x y H Q=>∃a b xs ys,x=.ref a/\y=.ref b/\SqT K H a xs/\SqT K H b ys/\xs≠[]/\xs.length+ys.length<=sizeLine/\
 (ys=[]->Q (.ref a) H)/\(ys≠[]->∀p,H p=none->Q (.ref p) (upd H p (.tup (xs++ys))))
theorem Vals.nil_iff{us:List Value}(r:Vals xs us):us=[]<->xs=[]:=by
 cases r with
 |nil=>simp
 |cons _ _=>simp
theorem Aq:JG X (binaryOp .Add) (F6 X.K):=by
 intro pr s σ H x y v u Q I rx ry h;obtain⟨a,b,xs,ys,rfl,rfl,ha,hb,hx,hz,q1,q2⟩:=h;cases rx;cases ry;obtain⟨IS,r1,p1,_⟩:=I.tuple ha;obtain⟨Ni,r2,p2,_⟩:=I.tuple hb;refine HT.Am p1 p2 (fun z=>hx (r1.nil_iff.mp z)) (fun z=>⟨.ref a,H,I,rfl,q1 (r2.nil_iff.mp z)⟩) (fun z=>?_) (by rw[<-r1.length,<-r2.length];exact hz);refine⟨.ref s.heap.objs.size,_,I.laid (t':=s.toks) (o:=.tup (xs++ys)) (fun b ob q=>Vc _ q) (Vl _) ?_,rfl,q2 (fun w=>z (r2.nil_iff.mpr w)) _ (I.hok.fresh (Vl _))⟩;exact⟨by rw[VJ];exact hz,_,r1.append r2,IsTupN.new _ _⟩
end
def ixN(n:Nat)(i:Int):Option Nat:=if 0<=i then(if i<n then some i.toNat else none) else if -(n:Int)<=i then some (i+n).toNat else none
def JV{α:Type}(xs:List α)(i:Int):Option α:=(ixN xs.length i).bind fun j=>xs[j]?
variable{i:Int}{j:Nat}
theorem vq{n:Nat}(h:ixN n i=some j):seqIndex? i n=some j/\j<n/\-(n:Int)<=i/\i<n:=by
 unfold ixN at h;by_cases h0:0<=i
 ·rw[Vn h0]at h;by_cases h1:i<n
  ·rw[Vn h1]at h;have e:i.toNat=j:=VQ h;exact⟨by rw[seqIndex_of h0 h1,e],by lia,by lia,h1⟩
  ·rw[Vt h1]at h;cases h
 ·rw[Vt h0]at h;by_cases h1:-(n:Int)<=i
  ·rw[Vn h1]at h;have e:(i+n).toNat=j:=VQ h;exact⟨by rw[seqIndex_neg (by lia) h1,e],by lia,h1,by lia⟩
  ·rw[Vt h1]at h;cases h
variable{α:Type}
theorem qJ{xs:List α}{v:α}(h:JV xs i=some v):∃j,seqIndex? i xs.length=some j/\xs[j]?=some v/\j<xs.length/\-(xs.length:Int)<=i/\i<xs.length:=by
 unfold JV at h;cases e:ixN xs.length i with
 |none=>rw[e]at h;cases h
 |some j=>
  rw[e]at h;obtain⟨h1,h2,h3,h4⟩:=vq e;exact⟨j,h1,h,h2,h3,h4⟩
theorem fB{xs:List α}{v:α}(h:xs[j]?=some v):JV xs (j:Int)=some v:=by
 have hj:j<xs.length:=(Vk.mp h).1;have e:ixN xs.length (j:Int)=some j:=by
  unfold ixN;rw[Vn (by lia),Vn (by lia)];simp
 unfold JV;rw[e];exact h
def vv(b:Expr):Prop:=∀o i,subscripted b false o i=operate [o,i] (getItem o i)
def Rb(X:Cx)(r:R2):Prop:=
 ∀(value slice:Expr) (pr:List (Addr×Obj)) (s:Shared) (σ:St) (H:Hp) (x y:V) (v u:Value) (Q:VK),Inv X pr σ H s->RelV x v->RelV y u->r x y H Q->
  subscripted slice false v u=operate [v,u] (getItem v u)->wpAny (model X.prog X.w) X.A (subscriptTail value slice v u) (EP X pr σ Q) X.xe s
def O8(X:Cx)(id:String)(r:V->List V->Hp->VK->Prop):Prop:=
 ∀(pr:List (Addr×Obj)) (s:Shared) (σ:St) (H:Hp) (x:V) (xs:List V) (v:Value) (us:List Value) (Q:VK),Inv X pr σ H s->RelV x v->Vals xs us->r x xs H Q->
  wpAny (model X.prog X.w) X.A (call (.builtin id) (v::us)) (EP X pr σ Q) X.xe s
variable{pr:List (Addr×Obj)}{σ:St}{H:Hp}{s:Shared}{p:Addr}{A:Around}{T:String}
section
variable{a b:Expr}{ta tb:TE}
theorem F7{r:R2}(hr:Rb X r)(ha:PE X a ta)(hb:PE X b tb)(hs:vv b):PE X (.Subscript a b pos) (QJ r ta tb):=by
 intro pr s σ H Q I h;exact Subscript_ (FW ha hb I h fun v u s2 x y H2 I2 rx ry q=>hr a b pr s2 σ H2 x y v u Q I2 rx ry q (hs _ _))
def Ie(K:W.Frag):R2:=fun x y H Q=>∃p xs i v,x=.ref p/\y=.int i/\SqL K H p xs/\JV xs i=some v/\Q v H
def Ig(K:W.Frag):R2:=fun x y H Q=>∃p xs i v,x=.ref p/\y=.int i/\SqT K H p xs/\JV xs i=some v/\Q v H
def Ih:R2:=fun x y H Q=>∃z i c,x=.str z/\y=.int i/\z.length<=sizeLine/\JV z.cps.toList i=some c/\Q (.str ⟨#[c]⟩) H
theorem Ar:Rb X (Ie X.K):=by
 intro value slice pr s σ H x y v u Q I rx ry h hs;obtain⟨p,xs,i,z,rfl,rfl,hq,he,q⟩:=h;cases rx;obtain⟨t,rfl⟩:=ry;obtain⟨IS,r,pl,hz⟩:=I.list hq;obtain⟨j,h1,h2,h3,h4,h5⟩:=qJ he;obtain⟨w,ew,MO⟩:=r.get h2;have hl:=r.length;have hn:=ml;have fin:EP X pr σ Q w s:=⟨z,H,I,MO,q⟩
 by_cases h0:0<=i
 ·have hj:i.toNat=j:=by
   rw[seqIndex_of h0 h5]at h1;exact VQ h1
  exact item_listR pl.isList h0 (by lia) (by rw[hj];simpa using ew) fin hs
 ·have hj:(i+(IS.toArray.size:Int)).toNat=j:=by
   rw[seqIndex_neg (by lia) h4]at h1;rw[Vh,<-hl];exact VQ h1
  exact subscriptTail_builtinR (x:=w) pl.isList.typeIs slot_list_getitem.lookup
   (wpAny_getItem_list_neg (Q:=fun r s'=>r=w/\EP X pr σ Q r s') pl.isList (by lia) (by rw[Vh] <;> lia) (by lia) (by rw[hj];simpa using ew) ⟨rfl,fin⟩) hs
theorem Dl:Rb X (Ig X.K):=by
 intro value slice pr s σ H x y v u Q I rx ry h hs;obtain⟨p,xs,i,z,rfl,rfl,hq,he,q⟩:=h;cases rx;obtain⟨t,rfl⟩:=ry;obtain⟨IS,r,pl,hz⟩:=I.tuple hq;obtain⟨j,h1,h2,h3,h4,h5⟩:=qJ he;obtain⟨w,ew,MO⟩:=r.get h2;have hl:=r.length;have hn:=ml;have fin:EP X pr σ Q w s:=⟨z,H,I,MO,q⟩
 exact subscriptTail_builtinR (x:=w) pl.typeIs slot_tuple_getitem.lookup
  (getItem_tuple (j:=j) (Q:=fun r s'=>r=w/\EP X pr σ Q r s') pl (by lia) (by lia) (by rw[Vh,<-hl];exact h1) (by simpa using ew) ⟨rfl,fin⟩) hs
theorem Dm:Rb X Ih:=by
 intro value slice pr s σ H x y v u Q I rx ry h hs;obtain⟨z,i,c,rfl,rfl,hz,he,q⟩:=h;obtain⟨t,rfl⟩:=rx;obtain⟨t',rfl⟩:=ry;obtain⟨j,h1,h2,h3,h4,h5⟩:=qJ he;have hl:z.cps.toList.length=z.length:=by simp[Str.length]
 rw[hl]at h1 h4 h5;have hn:=ml;exact tail_any (ZJ s z t) slot_str_getitem.lookup (getItem_str (c:=c) (by
  have e1:decide (i < -(2 ^ 63:Int))=false:=VM (by lia);have e2:decide (i>=2 ^ 63)=false:=VM (by lia);rw[e1,e2,Bool.or_false]) (by rw[h1];simpa using h2) ⟨.str ⟨#[c]⟩,H,I.tok _,⟨_,rfl⟩,q⟩) hs
theorem uf(IS:List Value)(n j:Nat)(u:Value):Obj.mapSeq (·.setIfInBounds j u) {cls:=.type "list",data:=.seq IS.toArray n}={cls:=.type "list",data:=.seq (IS.set j u).toArray n}:=by
 simp[Obj.mapSeq]
theorem Inv.lst(I:Inv X pr σ H s)(h:H p=some (.lst xs)):
  ∃(IS:List Value) (n:Nat),Vals xs IS/\s.heap.get? p=some {cls:=.type "list",data:=.seq IS.toArray n}/\xs.length<=sizeLine:=by
 obtain⟨z,IS,n,r,e⟩:=I.hok p _ h;exact⟨IS,n,r,e,z⟩
theorem Inv.lstUpd{ys:List V}{IS its':List Value}{n n':Nat}{f:Obj->Obj}(I:Inv X pr σ H s)(h:H p=some (.lst xs))
  (ho:s.heap.get? p=some {cls:=.type "list",data:=.seq IS.toArray n}) (hf:f {cls:=.type "list",data:=.seq IS.toArray n}={cls:=.type "list",data:=.seq its'.toArray n'}) (r:Vals ys its') (hz:ys.length<=sizeLine) (t:Nat):
  Inv X pr σ (upd H p (.lst ys)) {s with heap:=s.heap.update p f,toks:=t}:=by
 have e:(s.heap.update p f).get? p=some {cls:=.type "list",data:=.seq its'.toArray n'}:=by
  rw[WS f ho (by rw[hf] <;> rfl),hf]
 refine I.write (x:=p) (e:=p) (by rw[h];trivial) (.inl rfl) (fun b u hb q=>(V3 _ _ (W7 hb)).trans q) ⟨_,e⟩ ?_;exact⟨hz,its',n',r,e⟩
def Dn:V->V->V->Hp->(Hp->Prop)->Prop:=fun o i v H Q=>∃p xs k j,o=.ref p/\i=.int k/\H p=some (.lst xs)/\ixN xs.length k=some j/\Q (upd H p (.lst (xs.set j v)))
theorem yb:HU X Dn:=by
 intro pr s σ H o i v ov iv u Q I ro ri rv h;obtain⟨p,xs,k,j,rfl,rfl,hp,hj,q⟩:=h;cases ro;obtain⟨t,rfl⟩:=ri;obtain⟨IS,n,r,ho,hz⟩:=I.lst hp;obtain⟨h1,h2,h3,h4⟩:=vq hj;have hl:=r.length;have hn:=ml;have I':Inv X pr σ (upd H p (.lst (xs.set j v))) {s with heap:=s.heap.update p (Obj.mapSeq (·.setIfInBounds j u))}:=
  I.lstUpd hp ho (uf IS n j u) (r.set rv j) (by rw[Wc];exact hz) s.toks
 by_cases h0:0<=k
 ·have hk:k.toNat=j:=by
   rw[seqIndex_of h0 h4]at h1;exact VQ h1
  exact PySem.W.ki_setAt ho h0 (by lia) (by rw[Vh,<-hl];exact h4) (by rw[hk];exact⟨_,I',q⟩)
 ·have hk:(k+(IS.toArray.size:Int)).toNat=j:=by
   rw[seqIndex_neg (by lia) h3]at h1;rw[Vh,<-hl];exact VQ h1
  exact PySem.W.ki_setBack ho (by lia) (by rw[Vh,<-hl];exact h3) (by lia) (by rw[hk];exact⟨_,I',q⟩)
theorem o7(lo hi:Option Int)(n:Nat):(sliceBounds lo hi none n).1=((HT.sIx n 0 lo:Nat):Int)/\(sliceBounds lo hi none n).2.1=((HT.sIx n n hi:Nat):Int)/\(sliceBounds lo hi none n).2.2=1:=by
 refine⟨?_,?_,rfl⟩
 ·cases lo with
  |none=>simp[sliceBounds,HT.sIx]
  |some i=>
   simp only[sliceBounds,HT.sIx,XD,show(1:Int)>0 by decide,XA];by_cases h:i<0
   ·simp only[h,XA] <;> lia
   ·simp only[h,WW] <;> lia
 ·cases hi with
  |none=>simp[sliceBounds,HT.sIx]
  |some i=>
   simp only[sliceBounds,HT.sIx,XD,show(1:Int)>0 by decide,XA];by_cases h:i<0
   ·simp only[h,XA] <;> lia
   ·simp only[h,WW] <;> lia
theorem m7(IS:List Value)(lo hi:Option Int):slicePick IS.toArray lo hi none=((IS.drop (HT.sIx IS.length 0 lo)).take (HT.sIx IS.length IS.length hi-HT.sIx IS.length 0 lo)).toArray:=by
 obtain⟨h1,h2,h3⟩:=o7 lo hi IS.toArray.size;unfold slicePick;rw[h1,h2,h3];simp only[sliceRange_one,pick_run,Vh] <;> rfl
def Ii(K:W.Frag):V->Option Int->Option Int->Hp->VK->Prop:=fun x lo hi H Q=>∃a xs,x=.ref a/\SqL K H a xs/\∀p,H p=none->Q (.ref p) (upd H p (.lst (zk xs lo hi)))
theorem As:Pu X (Ii X.K):=by
 intro pr s σ H x v vl vu lo hi sl Q I rx hs pl pu h;obtain⟨a,xs,rfl,hx,q⟩:=h;cases rx;obtain⟨IS,r,ht,hz⟩:=I.list hx;have hlen:=r.length;refine⟨"list",_,slot_list_getitem.lookup,ht.isList.typeIs,?_⟩;refine Y3 ht.isList hs pl pu .none (by simp) ?_ (by rw[Vh] <;> lia);rw[m7,<-hlen];refine⟨.ref s.heap.objs.size,_,I.laid (t':=s.toks) (o:=.lst (zk xs lo hi)) (fun b ob q=>Vc _ q) (Vl _) ?_,rfl,q _ (I.hok.fresh (Vl _))⟩;exact⟨VR (kJ xs lo hi) hz,_,0,(r.drop (HT.sIx xs.length 0 lo)).take (HT.sIx xs.length xs.length hi-HT.sIx xs.length 0 lo),Vy _ rfl⟩
def yc:V->Bool
 | .non=>true
 | .bl _=>true
 | .int _=>true
 | .str _=>true
 |_=>false
def S9:V->V->Bool
 | .non,.non=>true
 | .bl a,.bl b=>a==b
 | .bl a,.int b=>(if a then 1 else 0)==b
 | .int a,.bl b=>a==(if b then 1 else 0)
 | .int a,.int b=>a==b
 | .str a,.str b=>a==b
 |_,_=>false
theorem Dp{y x:V}{u v:Value}(ry:RelV y u)(rx:RelV x v)(fy:yc y=true)(fx:yc x=true):SeqAt.EqAt A s u v (S9 y x):=by
 cases y with
 |non=>
  cases ry;cases x with
  |non=>cases rx;exact SeqAt.EqAt.same _
  |bl b=>cases rx;exact SeqAt.EqAt.none_bool b
  |int b=>obtain⟨t,rfl⟩:=rx;exact SeqAt.EqAt.none_int b t
  |str b=>obtain⟨t,rfl⟩:=rx;exact SeqAt.EqAt.none_str b t
  |_=>exact absurd (show false=true from fx) Vg
 |bl a=>
  cases ry;cases x with
  |non=>cases rx;exact SeqAt.EqAt.bool_none a
  |bl b=>cases rx;exact SeqAt.EqAt.bool_bool a b
  |int b=>obtain⟨t,rfl⟩:=rx;exact SeqAt.EqAt.bool_int a b t
  |str b=>obtain⟨t,rfl⟩:=rx;exact SeqAt.EqAt.bool_str a b t
  |_=>exact absurd (show false=true from fx) Vg
 |int a=>
  obtain⟨t',rfl⟩:=ry;cases x with
  |non=>cases rx;exact SeqAt.EqAt.int_none a t'
  |bl b=>cases rx;exact SeqAt.EqAt.int_bool a t' b
  |int b=>obtain⟨t,rfl⟩:=rx;exact SeqAt.EqAt.int_int a t' b t
  |str b=>obtain⟨t,rfl⟩:=rx;exact SeqAt.EqAt.int_str a t' b t
  |_=>exact absurd (show false=true from fx) Vg
 |str a=>
  obtain⟨t',rfl⟩:=ry;cases x with
  |non=>cases rx;exact SeqAt.EqAt.str_none a t'
  |bl b=>cases rx;exact SeqAt.EqAt.str_bool a t' b
  |int b=>obtain⟨t,rfl⟩:=rx;exact SeqAt.EqAt.str_int a t' b t
  |str b=>obtain⟨t,rfl⟩:=rx;exact SeqAt.EqAt.str_str a t' b t
  |_=>exact absurd (show false=true from fx) Vg
 |_=>exact absurd (show false=true from fy) Vg
theorem j4:dX X (.builtin "len") (fun xs H Q=>∃p ys,xs=[.ref p]/\(SqL X.K H p ys\/SqT X.K H p ys)/\Q (.int ys.length) H):=by
 intro pr s σ H xs us Q I r h;obtain⟨p,ys,rfl,hq,q⟩:=h;obtain⟨u,rfl,rx⟩:=fV r;cases rx;have hn:=ml;rcases hq with hq|hq
 ·obtain⟨IS,r',pl,hz⟩:=I.list hq;have hlen:=r'.length;exact Calls.call_len_list pl.isList (by simp only[Vh] <;> lia) ⟨.int ys.length,H,I.tok _,⟨s.toks+1,by rw[Vh,hlen]⟩,q⟩
 ·obtain⟨IS,r',pl,hz⟩:=I.tuple hq;have hlen:=r'.length;exact len_tuple pl (by simp only[Vh] <;> lia) ⟨.int ys.length,H,I.tok _,⟨s.toks+1,by rw[Vh,hlen]⟩,q⟩
theorem o9:dX X (.builtin "len") (fun xs H Q=>∃z,xs=[.str z]/\z.length<=sizeLine/\Q (.int z.length) H):=by
 intro pr s σ H xs us Q I r h;obtain⟨z,rfl,hz,q⟩:=h;obtain⟨u,rfl,t,rfl⟩:=fV r;have hn:=ml;exact len_str (by lia) ⟨.int z.length,H,I.tok _,⟨_,rfl⟩,q⟩
theorem j5:dX X (.type "list") (fun xs H Q=>∃p ys,xs=[.ref p]/\(SqL X.K H p ys\/SqT X.K H p ys)/\∀l,H l=none->Q (.ref l) (upd H l (.lst ys))):=by
 intro pr s σ H xs us Q I r h;obtain⟨p,ys,rfl,hq,q⟩:=h;obtain⟨u,rfl,rx⟩:=fV r;cases rx;have fin:∀(IS:List Value),Vals ys IS->ys.length<=sizeLine->∀(h':Heap) (c':Nat),(∀b o',s.heap.get? b=some o'->h'.get? b=some o')->
   h'.get? s.heap.objs.size=some {cls:=.type "list",dict:=none,data:=.seq IS.toArray c',slots:=#[]}->EP X pr σ Q (.ref s.heap.objs.size) {s with heap:=h'}:=fun IS r' hz h' c' kp e=>
  ⟨.ref s.heap.objs.size,_,I.laid (t':=s.toks) kp (Vl _) (show ObjOk X.prog X.w _ h' _ (.lst ys) from⟨hz,IS,c',r',e⟩),rfl,q _ (I.hok.fresh (Vl _))⟩
 rcases hq with hq|hq
 ·obtain⟨IS,r',pl,hz⟩:=I.list hq;have hlen:=r'.length;obtain⟨o,ho,hc,n,hd⟩:=pl.isList;exact call_list_seq p (.inl rfl) ho hc hd (fun h' c' kp e=>fin IS r' hz h' c' kp e) (by simp only[Vh] <;> lia)
 ·obtain⟨IS,r',pl,hz⟩:=I.tuple hq;have hlen:=r'.length;obtain⟨o,ho,hc,n,hd⟩:=pl;exact call_list_seq p (.inr rfl) ho hc hd (fun h' c' kp e=>fin IS r' hz h' c' kp e) (by simp only[Vh] <;> lia)
theorem jd:dX X (.type "tuple") (fun xs H Q=>∃p ys,xs=[.ref p]/\((SqL X.K H p ys/\∀l,H l=none->Q (.ref l) (upd H l (.tup ys)))\/(SqT X.K H p ys/\Q (.ref p) H))):=by
 intro pr s σ H xs us Q I r h;obtain⟨p,ys,rfl,h⟩:=h;obtain⟨u,rfl,rx⟩:=fV r;cases rx;rcases h with⟨hq,q⟩|⟨hq,q⟩
 ·obtain⟨IS,r',pl,hz⟩:=I.list hq;have hlen:=r'.length;refine call_tuple_list pl.isList (fun h' kp=>?_) (by simp only[Vh] <;> lia);have I1:Inv X pr σ H {s with heap:=h'}:=I.kept (t':=s.toks) kp;have I2:Inv X pr σ (upd H h'.objs.size (.tup ys)) {s with heap:=h'.push {cls:=.type "tuple",data:=.seq IS.toArray}}:=
   I1.laid (t':=s.toks) (fun b o e=>Vc _ e) (Vl _) (show ObjOk X.prog X.w _ _ _ (.tup ys) from⟨hz,IS,r',IsTupN.new _ _⟩)
  exact⟨.ref h'.objs.size,_,I2,rfl,q _ (I1.hok.fresh (Vl _))⟩
 ·obtain⟨IS,r',pl,hz⟩:=I.tuple hq;exact call_tuple_same pl ⟨.ref p,H,I,rfl,q⟩
def Ta(K:W.Frag)(T:String)(x:V)(H:Hp):Prop:=match x with
 | .str _=>T = "str"
 | .int _=>T = "int"
 | .ref p=>(T = "list"/\∃xs,SqL K H p xs)\/(T = "tuple"/\∃o,K.lookup p=some o/\o.cls=.type "tuple"/\o.dict=none)\/
   (T = "dict"/\((∃kvs,H p=some (.dK kvs))\/∃kvs,H p=some (.dT kvs)))\/(T = "set"/\∃S n,H p=some (.set S n))
 |_=>False
theorem Dq{x:V}{v:Value}(I:Inv X pr σ H s)(r:RelV x v)(ty:Ta X.K T x H):
  s.TypeIs v T/\∀a,v=.ref a->∃ob,s.heap.get? a=some ob/\ob.dict=none:=by
 cases x with
 |str z=>
  obtain⟨t,rfl⟩:=r;cases(show T = "str" from ty);exact⟨ZJ s z t,fun _ e=>nomatch e⟩
 |int i=>
  obtain⟨t,rfl⟩:=r;cases(show T = "int" from ty);exact⟨typeIs_int s i t,fun _ e=>nomatch e⟩
 |ref p=>
  cases r;rcases ty with⟨rfl,xs,hq⟩|⟨rfl,o,hk,hc,hd⟩|⟨rfl,hk⟩|⟨rfl,S,n,hk⟩
  ·obtain⟨IS,_,pl,_⟩:=I.list hq;refine⟨pl.isList.typeIs,fun a e=>?_⟩;cases e;obtain⟨o,n,e,c,hd,_⟩:=pl;exact⟨o,e,hd⟩
  ·refine⟨⟨o,I.kIn p o hk,hc⟩,fun a e=>?_⟩;cases e;exact⟨o,I.kIn _ o hk,hd⟩
  ·have z:∃o,s.heap.get? p=some o/\o.ExactDict:=by
    rcases hk with⟨kvs,hk⟩|⟨kvs,hk⟩
    ·obtain⟨_,_,_,_,o,_,_,e,ex,_⟩:=I.hok p _ hk;exact⟨o,e,ex⟩
    ·obtain⟨_,_,_,_,o,_,_,e,ex,_⟩:=I.hok p _ hk;exact⟨o,e,ex⟩
   obtain⟨o,e,ex⟩:=z;refine⟨⟨o,e,ex.1⟩,fun a e2=>?_⟩;cases e2;exact⟨o,e,ex.2.1⟩
  ·obtain⟨o,_,_,_,e,ex,_⟩:=I.hok p _ hk;refine⟨⟨o,e,ex.1⟩,fun a e2=>?_⟩;cases e2;exact⟨o,e,ex.2.1⟩
 |_=>exact False.elim ty
def tBM(K:W.Frag)(T:String)(r:V->List V->Hp->VK->Prop)(to:TE)(t:TA):TE:=fun σ H Q=>to σ H fun x H1=>Ta K T x H1/\t σ H1 fun xs H2=>r x xs H2 Q
variable{o e:Expr}{es:List Expr}{to:TE}{t:TA}{name:Str}{apos Jj:Pos}{id:String}{r:V->List V->Hp->VK->Prop}
theorem Au(pa:PlainAttrs T)(slot:Slot T name id)(N6:typeOf (.builtin id)=pure (.type "method_descriptor"))(hm:O8 X id r)(ho:PE X o to)(ha:PA X (e::es) t)
  (JZ:attributeBase o name X.env (eval o X.env)=eval o X.env:=by rfl)
  (KR:((backTo Jj (starEach (e::es) X.env)).all (fun x=>!x.1)&&(backToKw Jj (keywordEach [] X.env)).all (fun x=>x.1.isSome)
   && decide ((e::es).length+([]:List Keyword).length+(if([]:List Keyword).isEmpty then 0 else 1)<30))=true:=by rfl)
  (J0:(apos.endLine==Jj.line)=true:=by rfl) (hs:starEach (e::es) X.env=(false,eval e X.env)::starEach es X.env:=by rfl) (JI:(backTo Jj (starEach es X.env)).any (·.1)=false:=by rfl):
  PE X (.Call (.Attribute o name apos) (e::es) [] Jj) (tBM X.K T r to t):=by
 intro pr s σ H Q I h;refine wpAny_Call_method_late JZ KR J0 rfl (Ji (ho pr s σ H _ I h) fun v s1 Jk=>?_);obtain⟨x,H1,I1,r1,ty,q1⟩:=Jk;obtain⟨h1,h2⟩:=Dq I1 r1 ty;refine⟨T,id,pa,slot,N6,h1,h2,?_⟩;have hA:=ha Jj pr s1 σ H1 _ I1 q1;rw[hs]at hA ⊢;refine XH (by show(false||(backTo Jj (starEach es X.env)).any (·.1))=false;rw[JI] <;> rfl) (X0 ?_);exact Ji hA fun us s2 ⟨vs,H2,I2,r2,q2⟩=>hm pr s2 σ H2 x vs v us Q I2 r1 r2 q2
end
def MtM(X:Cx)(id:String)(r:V->List V->Hp->VK->Prop):Prop:=
 ∀(pr:List (Addr×Obj)) (s:Shared) (σ:St) (H:Hp) (x:V) (xs:List V) (v:Value) (us:List Value) (Q:VK),Inv X pr σ H s->RelV x v->Vals xs us->r x xs H Q->
  wpAny (model X.prog X.w) X.A (call (.builtin id) (v::us)) (EP X pr σ Q) X.xe s
theorem Vals.one:∀{x:V}{us:List Value},Vals [x] us->∃u,us=[u]/\RelV x u
 |_,_,.cons r .nil=>⟨_,rfl,r⟩
section
variable{l b:Addr}{ys zs:List V}
theorem Inv.lset{IS its':List Value}{n:Nat}{f:Array Value->Array Value}{t':Nat}(I:Inv X pr σ H s)(hH:H l=some (.lst xs))
  (e:s.heap.get? l=some {cls:=.type "list",data:=.seq IS.toArray n}) (hf:f IS.toArray=its'.toArray) (hv:Vals ys its') (hz:ys.length<=sizeLine):
  Inv X pr σ (upd H l (.lst ys)) {s with heap:=s.heap.update l (Obj.mapSeq f),toks:=t'}:=by
 have q:=PySem.IsL.update e f;rw[hf]at q;refine I.write (x:=l) (e:=l) (by rw[hH];exact trivial) (.inl rfl) (fun b' u hb hu=>(V3 s.heap (Obj.mapSeq f) (W7 hb)).trans hu) ⟨_,q⟩ ?_;exact⟨hz,its',_,hv,q⟩
theorem Inv.lnew{IS:List Value}{t':Nat}(I:Inv X pr σ H s)(hv:Vals ys IS)(hz:ys.length<=sizeLine):
  Inv X pr σ (upd H s.heap.objs.size (.lst ys)) {s with heap:=s.heap.push {cls:=.type "list",data:=.seq IS.toArray},toks:=t'}:=
 I.laid (fun _ _ q=>Vc _ q) (Vl _) ⟨hz,IS,0,hv,Vy _ rfl⟩
theorem Inv.fresh(I:Inv X pr σ H s):H s.heap.objs.size=none:=I.hok.fresh (Vl _)
theorem Inv.lstM(I:Inv X pr σ H s)(hH:H l=some (.lst xs)):xs.length<=sizeLine/\∃(IS:List Value) (n:Nat),Vals xs IS/\xs.length=IS.length/\s.heap.get? l=some {cls:=.type "list",data:=.seq IS.toArray n}:=by
 obtain⟨z,IS,n,r,e⟩:=I.hok l _ hH;exact⟨z,IS,n,r,r.length,e⟩
end
section
def Av:V->List V->Hp->VK->Prop:=fun x vs H Q=>∃l xs y,x=.ref l/\vs=[y]/\H l=some (.lst xs)/\xs.length<sizeLine/\Q .non (upd H l (.lst (xs++[y])))
theorem pb:MtM X "list.append" Av:=by
 intro pr s σ H x vs v us Q I rx rv h;obtain⟨l,xs,y,rfl,rfl,hH,hz,q⟩:=h;cases rx;obtain⟨u,rfl,ru⟩:=rv.one;obtain⟨z,IS,n,r,hl,e⟩:=I.lstM hH;refine call_meets F.slot_list_append ⟨_,e,rfl⟩ F.entry_list_append (F.args_list_append_2 _ _) (PySem.list_append l IS.toArray n u (by rw[Vh];lia)) ⟨e,?_⟩;refine⟨.non,_,I.lset (its':=IS++[u]) hH e (by simp) (r.append (.cons ru .nil)) ?_,rfl,q⟩;rw[VJ,VC];lia
end
section
variable{prog:Program}{w:World}{E:Value->Shared->Prop}
end
section
end
end L2
namespace Att
open PySem PySem.W PySem.Calls PyProof.Rows
theorem kK{P:Params}{h:Heap}:∀(ns:List Int) (vs:List Value),WellAll P h vs (ns.map WData.int)->IntsAre vs ns:=by
 intro ns;induction ns with
 |nil=>
  intro vs w;rw[V8]at w;cases w;exact .nil
 |cons n ns ih=>
  intro vs w;rw[Vz]at w;cases w with
  |cons a b=>
   cases a;exact .cons _ _ (ih _ b)
theorem vy{l:OpenLaw}{n:Nat}(hn:l.most=some n){P:Params}{h:Heap}{args:List WData}{vals:List Value}
  (N7:l.row.toRowW.claim.pre args=true) (N8:WellAll P h vals args):
  ∃a vs ns,vals=[Value.ref a]/\args=[WData.list (ns.map WData.int)]/\h.get? a=some {cls:=.type "list",data:=.seq vs.toArray}/\IntsAre vs ns/\ns.length<=n:=by
 have hsh:WShape.hasAll [] args [.list .int]=true:=(pre_splitW N7).1;have hc:l.pre.holds [] {args:=args}=true:=(pre_splitW N7).2;obtain⟨d,r,rfl,h1,h2⟩:=hasAllW_cons hsh;obtain rfl:=hasAllW_nil h2;obtain⟨xs,rfl,h3⟩:=hasW_list h1;obtain⟨ns,rfl⟩:=items_int h3;have hlen:ns.length<=n:=by
  unfold OpenLaw.pre at hc;have h4:(WTm.not (.lt (.lit (.int (n:Int))) (.len (.arg 0)))).holds [] {args:=[.list (ns.map .int)]}=true:=by
   have h4:=(holds_andW hc).1;rw[hn]at h4;exact h4
  have h5:=condW_of h4 (w_not (w_lt w_lit (w_len_list (w_arg rfl))));rw[Ve]at h5;refine Nat.le_of_not_lt fun q=>?_
  have q':(n:Int)<((ns.length:Nat):Int):=by lia
  first
   |(rw[VB q']at h5;exact absurd h5 (by decide))
   |(simp at h5;lia)
 cases N8 with
 |cons w1 w2=>
  cases w2;cases w1 with
  |list ho Kq=>exact⟨_,_,ns,rfl,rfl,ho,kK ns _ Kq,hlen⟩
theorem vz(l:OpenLaw)(args:List WData):l.row.toRowW.claim.post args (.bool true) args=true:=
 postW_of (r:=l.row.toRowW) (X:=(true==true))
  (show WShape.has [] (.bool true) .bool=true by first|rfl|decide|simp[WShape.has,WShape.arms,WShape.armsAll])
  (show(WTm.eq .res (.lit (.bool true))).value [] {args:=args,res:=some (.bool true),after:=args}=some (.bool (true==true)) from w_eq_bool (w_res rfl) w_lit) rfl
theorem attach_call{l:OpenLaw}{n:Nat}{q:Program}{loose:List Str}{XP:(Str->Option Value)->Heap->Prop}{YP:World->Heap->Prop}{d:DefRec}
  (hn:l.most=some n) (Rc:d.params.defaults=[])
  (call:∀(w:World) (s₀ s₁:Shared) (mg mb:Str->Option Value) (fa:Addr) (o:Obj) (pm cd doc:Value) (a:Addr) (vs:List Value) (ns:List Int),
   Ground q loose [] XP w s₀ mg mb s₁.heap->YP w s₁.heap->
   s₁.heap.get? fa=some o->o.data=.func (docDef d.name d.params d.body d.scope pm cd doc)->s₁.heap.CodeRec cd d.name->mg d.name=some (.ref fa)->
   s₁.heap.get? a=some {cls:=.type "list",data:=.seq vs.toArray}->IntsAre vs ns->ns.length<=n->s₁.gens = #[]->
   codeAny (model l.prog w) callerA (.call (.ref fa) ⟨[.ref a],[]⟩) (fun r s'=>r=.ok (.ret (.bool true))/\OldK s₁.heap s'.heap/\s'.os=s₁.os/\AllBare s'.gens) s₁):
  WalkO q loose XP YP l.row.toRowW d [] (fun f vs=>PySem.call f vs):=by
 intro w s₀ s₁ mg mb G Y fa o pm cd doc dV kV ho hd Nf hD Rf hg args vals as N7 Rg hrd N8 Um;obtain rfl:dV=.none:=Dflts.none hD Rc;obtain rfl:kV=.none:=Dflts.noKw hD;obtain⟨a,vs,ns,rfl,rfl,Pw,hints,hlen⟩:=vy hn N7 N8;refine enter_call (YT (call w s₀ s₁ mg mb fa o pm cd doc a vs ns G Y ho (fd_plain hd) Nf Rf Pw hints hlen hg) fun r s' hq=>?_);obtain⟨rfl,h2,h3,h4⟩:=hq;exact⟨.inl ⟨.bool true,.bool true,[],rfl,fun _=>rfl,.bool true,vz l _,fun _=>⟨List.Pairwise.nil,fun _ hm=>(nomatch hm)⟩⟩,h2,h3,h4⟩
section
variable{prog:Program}{w:World}{A:Around}{E:Value->Shared->Prop}{s:Shared}{K:Frag}
end
end Att
namespace L2
open PySem PySem.Spec PyProof.Rows
theorem pd:∀{vs:List Value}{ns:List Int},IntsAre vs ns->Vals (ns.map V.int) vs
 |_,_,.nil=>.nil
 |_,_,.cons n t h=>.cons ⟨t,rfl⟩ (pd h)
def F8(H:Hp):Prop:=∀b,H b=none\/∃o xs,H b=some (.frz o (.lst xs))
variable{K:W.Frag}{mg:Str->Option Value}{x:Str}
theorem yd{P:Program}{w:World}{mb:Str->Option Value}{CX:CXT}{k:Nat}{fa a:Addr}{fd:FuncData}{sp:Sp}{s₁:Shared}{vs:List Value}{ns:List Int}
  (KX:K.In s₁.heap) (O9:s₁.heap.Ns mainGlobals mg) (hb:s₁.heap.Ns builtinsNs mb) (Nj:∀x:Str,x≠"__name__"->mb x=bootBuiltins x) (hlim:s₁.heap.NoLimit) (hg:s₁.gens = #[])
  (ha:s₁.heap.get? a=some {cls:=.type "list",data:=.seq vs.toArray}) (hi:IntsAre vs ns) (hl:ns.length<=sizeLine) (hr:Room k callerA)
  (F:∀base:Heap,K.In base->base.Ns mainGlobals mg->FnOk P w K mg base CX k fa fd [x] sp) (Rh:∀(s:Shared) (u:Value),BindsTo s fd ⟨[u],[]⟩ [(x,u)])
  (Nh:∀H:Hp,F8 H->SqL K H a (ns.map V.int)->sp [.ref a] H (fun v _=>v=.bl true) fun _ _ _=>False)
  (Tc:∀H e s',CX [] H s₁ (fun _ _ _=>False) e s'->False):
  codeAny (model P w) callerA (.call (.ref fa) ⟨[.ref a],[]⟩) (fun r s'=>r=.ok (.ret (.bool true))/\OldK s₁.heap s'.heap/\s'.os=s₁.os/\AllBare s'.gens) s₁:=by
 have rv:=pd hi;have lenV:=hi.length;have core:∀H:Hp,F8 H->SqL K H a (ns.map V.int)->HOk P w H s₁.heap->(∀b,H b≠none->b=a)->(H a≠none->K.lookup a=none)->
   codeAny (model P w) callerA (.call (.ref fa) ⟨[.ref a],[]⟩) (fun r s'=>r=.ok (.ret (.bool true))/\OldK s₁.heap s'.heap/\s'.os=s₁.os/\AllBare s'.gens) s₁:=by
  intro H hO hS hok hA hK;have MA:∀{b:Addr}{o:Obj},s₁.heap.get? b=some o->H b=none->(xU s₁.heap H).get? b=some o:=fun e n=>xV e n
  have Q8:∀{b:Addr}{o:Obj}{es:Array DictEntry}{ep:Nat},s₁.heap.get? b=some o->o.data=.dict es ep->H b=none:=fun{b o es ep} e d=>by
   cases q:H b with
   |none=>rfl
   |some u=>
    have e':b=a:=hA b (by rw[q];simp);subst e';rw[ha]at e;cases e;have d':Data.seq vs.toArray _=Data.dict es ep:=d;cases d'
  have Sq:∀{b:Addr}{m:Str->Option Value},s₁.heap.Ns b m->(xU s₁.heap H).Ns b m:=fun{b m} ⟨o,es,ep,e,d,r⟩=>⟨o,es,ep,MA e (Q8 e d),d,r⟩
  have Uo:K.In (xU s₁.heap H):=fun b o e=>MA (KX b o e) (by
   cases q:H b with
   |none=>rfl
   |some u=>
    have e':b=a:=hA b (by rw[q];simp);subst e';rw[hK (by rw[q];simp)]at e;cases e)
  have hM:Mod K mg (xU s₁.heap H):=⟨Uo,Sq O9,⟨mb,Sq hb,Nj⟩,let⟨mc,h1,h2⟩:=hlim;⟨mc,Sq h1,h2⟩⟩
  have e0:Env0 P w K mg (xU s₁.heap H) callerA [] s₁ H:=⟨rfl,hM,fun b o e=>z9 e,Nat.le_of_eq (uT _ _),trivial,fun b hb=>absurd (show b∈([]:List Addr) from hb) (by simp),hok,.of_eq hg⟩
  refine YT ((F _ Uo (Sq O9)).run callerA [] s₁ H ⟨[.ref a],[]⟩ [.ref a] [.ref a] _ _ hr e0 (Rh s₁ (.ref a)) (.cons rfl .nil) (Nh H hO hS)) fun r s' h=>?_
  cases r with
  |error e=>exact(Tc H e s' h).elim
  |ok fl=>
   cases fl with
   |next=>exact False.elim h
   |brk=>exact False.elim h
   |cont=>exact False.elim h
   |ret u=>
    obtain⟨v,H',os,bare,un,hok',r',q⟩:=h;have q':v=.bl true:=q;subst q';obtain rfl:u=Value.bool true:=r';refine⟨rfl,OldK.of_keep fun b o e=>?_,os,bare⟩;cases q:H b with
    |none=>exact un.keep b o e q (by intro z;exact absurd (show b∈([]:List Addr) from z) (by simp)) (by simp)
    |some u=>
     rcases hO b with z|⟨ob,xs,z⟩
     ·rw[q]at z;cases z
     ·have z2:=un.frzs b ob _ z;obtain⟨e1,_⟩:=hok b _ z;obtain⟨e2,_⟩:=hok' b _ z2;rw[e]at e1;cases e1;exact e2
 cases hk:K.lookup a with
 |some o=>
  have e:=KX a o hk;rw[ha]at e;cases e;refine core (fun _=>none) (fun _=>.inl rfl) (.inr ⟨_,vs.toArray,_,hk,rfl,rfl,rfl,by rw[Vh,lenV];exact hl,by simpa using rv⟩) (fun b u z=>by have z':(none:Option HO)=some u:=z;cases z') (fun b z=>absurd rfl z) fun z=>absurd rfl z
 |none=>
  refine core (fun b=>if b=a then some (.frz {cls:=.type "list",data:=.seq vs.toArray} (.lst (ns.map V.int))) else none) (fun b=>?_) (.inl (.inr ⟨{cls:=.type "list",data:=.seq vs.toArray},Vn rfl⟩)) (fun b u z=>?_) (fun b z=>?_) fun _=>hk
  ·by_cases hb:b=a
   ·exact .inr ⟨_,_,Vn hb⟩
   ·exact .inl (Vt hb)
  ·by_cases hb:b=a
   ·have z':=(Vn hb).symm.trans z;cases z';subst hb;exact⟨ha,by rw[Ve];exact hl,vs,_,rv,ha⟩
   ·have z':=(Vt hb).symm.trans z;cases z'
  ·by_cases hb:b=a
   ·exact hb
   ·exact absurd (Vt hb) z
theorem Aw{l:PySem.W.OpenLaw}{n k:Nat}{q:Program}{loose:List Str}{XP:(Str->Option Value)->Heap->Prop}{YP:World->Heap->Prop}{d:DefRec}{K:Params->W.Frag}{CX:World->CXT}{sp:World->Sp}
  (hn:l.most=some n) (hn2:n<=sizeLine) (Rc:d.params.defaults=[]) (hr:Room k callerA)
  (hY:∀(w:World) (h:Heap),YP w h->(K w.params).In h)
  (F:∀(w:World) (mg:Str->Option Value) (fa:Addr) (h:Heap),(K w.params).In h->h.Ns mainGlobals mg->mg d.name=some (.ref fa)->
   ∃fd:FuncData,(∀(s:Shared) (u:Value),BindsTo s fd ⟨[u],[]⟩ [(x,u)])/\
    ∀base:Heap,(K w.params).In base->base.Ns mainGlobals mg->FnOk l.prog w (K w.params) mg base (CX w) k fa fd [x] (sp w))
  (Nh:∀(w:World) (H:Hp) (a:Addr) (ns:List Int),ns.length<=n->F8 H->SqL (K w.params) H a (ns.map V.int)->sp w [.ref a] H (fun v _=>v=.bl true) fun _ _ _=>False)
  (Tc:∀(w:World) (H:Hp) (s:Shared) (e:Value) (s':Shared),CX w [] H s (fun _ _ _=>False) e s'->False):
  PySem.W.WalkO q loose XP YP l.row.toRowW d [] (fun f vs=>PySem.call f vs):=by
 refine Att.attach_call hn Rc fun w s₀ s₁ mg mb fa o pm cd doc a vs ns G Y ho hd Nf Rf Pw hints hlen hg=>?_
 have KX:=hY w _ Y;obtain⟨fd,hb,hF⟩:=F w mg fa _ KX G.T.g Rf;exact yd KX G.T.g G.T.b G.T.builtins G.T.nolimit hg Pw hints (VR hlen hn2) hr hF hb (fun H hO hS=>Nh w H a ns hlen hO hS) fun H e s'=>Tc w H s₁ e s'
def fC(s:Stmt):Arguments:=match s with
 | .FunctionDef _ a _ _ _ _ _ _ _ _=>a
 |_=>{posonlyargs:=[],args:=[],vararg:=none,kwonlyargs:=[],kw_defaults:=[],kwarg:=none,defaults:=[]}
def c9(s:Stmt):List Stmt:=match s with
 | .FunctionDef _ _ b _ _ _ _ _ _ _=>b
 |_=>[]
def defScope(s:Stmt):Scope:=match s with
 | .FunctionDef _ _ _ _ _ _ sc _ _ _=>sc
 |_=>{kind:=.function,names:=[],isGenerator:=false,isCoroutine:=false}
abbrev MP:CXT:=fun _ _ _ _ _ _=>False
abbrev E0:XK:=fun _ _ _=>False
variable{X:Cx}
theorem F9:vk MP X E0:=fun _ _ _ _ _ _ _ h=>h.elim
structure Fun(K:W.Frag)(x qual:Str)(st:Stmt)(f:Addr)(fd:FuncData):Prop where
 ex:∃(oc:Value) (od:Option Addr) (kV doc pm:Value) (an:Option Addr) (Jm ct:Value) (M5:Array (Option Value)),
  fd=PySem.W.fnOf x qual (fC st) (c9 st) (defScope st) .none kV doc pm an Jm ct/\K.lookup f=some ⟨oc,od,.func fd,M5⟩/\PySem.W.codeIn K Jm qual=true
 kp:PySem.W.keepIn K (.ref f)=true
variable{qual:Str}{st:Stmt}{f:Addr}{fd:FuncData}{ps:List Str}
section
variable{P:Program}{w:World}{base:Heap}
theorem Fun.ok{N:List Str}{k:Nat}{sp:Sp}(F:Fun K x qual st f fd)(S:FnScope N ps (defScope st))(len:∀vs H Q E,sp vs H Q E->vs.length=ps.length)
  (Ng:∀(Jm:Value) (A:Around) (outer:List Env) (s:Shared) (H:Hp) (vs:List V) (Q:VK) (E:XK),Room k (A.deeper (envOfC qual (defScope st) s.heap.objs.size f Jm))->sp vs H Q E->
   ∃t,PSs (xN MP P w K mg base N qual (defScope st) f Jm A outer s H E).nox (c9 st) t/\t {nx:=fun _ H'=>Q .non H',rt:=Q} (km N vs) H):FnOk P w K mg base MP (k+1) f fd ps sp:=by
 obtain⟨oc,od,kV,doc,pm,an,Jm,ct,M5,rfl,lk,Nf⟩:=F.ex;refine F4 lk Nf S len fun A outer s H vs Q E hr Nh=>?_
 obtain⟨t,h,q⟩:=Ng Jm A outer s H vs Q E hr Nh;exact⟨t,h.nox,q⟩
theorem Fun.binds(F:Fun K x qual st f fd)
  (h:∀(kV doc pm:Value) (an:Option Addr) (Jm ct:Value) (us:List Value),us.length=ps.length->bindArgs (PySem.W.fnOf x qual (fC st) (c9 st) (defScope st) .none kV doc pm an Jm ct) ⟨us,[]⟩=pure (ps.zip us)):Binds K fd ps []:=by
 obtain⟨oc,od,kV,doc,pm,an,Jm,ct,M5,rfl,lk,Nf⟩:=F.ex;exact .all (h kV doc pm an Jm ct)
theorem zl{oc:Value}{od an:Option Addr}{M5:Array (Option Value)}{kV doc pm Jm ct:Value}(l:K.lookup f=some ⟨oc,od,.func (PySem.W.fnOf x qual (fC st) (c9 st) (defScope st) .none kV doc pm an Jm ct),M5⟩)
  (c:PySem.W.codeIn K Jm qual=true) (k:PySem.W.keepIn K (.ref f)=true):Fun K x qual st f (PySem.W.fnOf x qual (fC st) (c9 st) (defScope st) .none kV doc pm an Jm ct):=⟨⟨oc,od,kV,doc,pm,an,Jm,ct,M5,rfl,l,c⟩,k⟩
end
theorem hu_of{A:Around}{k:Nat}(hr:Room k A):A.units+1<cLine:=Z5 (ZU (by decide:1<=64) _) hr.units
section
theorem pv(i:Nat){pos:Pos}(hN:X.N[i]?=some x:=by rfl)(hv:SY X.env.scope x:=by first|exact Or.inl rfl|exact Or.inr (Or.inl rfl)|exact Or.inr (Or.inr rfl))(hd:(x==("__debug__" : Str))=false:=by decide)
  (Nf:(x==("__classdict__" : Str))=false:=by decide):PE X (.Name x pos) (xM i):=CO hN hv hd Nf
end
theorem iteF{A B:Prop}(h:B):if false=true then A else B:=by
 rw[Vt Vg];exact h
theorem Fv{A B:Prop}(h:A):if true=true then A else B:=by
 rw[Vn rfl];exact h
def Same(H H':Hp):Prop:=∀b o,H b=some o->H' b=some o
theorem Same.refl(H:Hp):Same H H:=fun _ _ h=>h
theorem Same.trans{H H1 H2:Hp}(a:Same H H1)(b:Same H1 H2):Same H H2:=fun c o h=>b c o (a c o h)
theorem Same.free{H H':Hp}(e:Same H H'){l:Addr}(h:H' l=Option.none):H l=Option.none:=by
 cases q:H l with
 |none=>rfl
 |some o=>
  rw[e l o q]at h;cases h
end L2
set_option maxHeartbeats 4000000
namespace NX
open PySem PySem.Spec PyProof.Rows L2
variable{X:Cx}
section
theorem ye(v:Int)(n:Nat):max (0:Int) (min (if v<0 then v+(n:Int) else v) (n:Int))=((HT.sIx n 0 (some v):Nat):Int):=by
 show _=(((if v<0 then(v+(n:Int)).toNat else min v.toNat n):Nat):Int)
 split <;> lia
theorem Dr(a b:Nat):sliceRange (a:Int) (b:Int) 1=(List.range (b-a)).map (fun k=>a+k):=by
 unfold sliceRange;rw[Vn (by decide:(1:Int)>0)];by_cases Jv:(a:Int)<b
 ·have e3:(((b:Int)-a+1-1) / 1).toNat=b-a:=by first|lia|(simp;done)|(simp;lia)
  simp only[Jv,XA,e3];refine Xa fun k _=>?_
  lia
 ·have:b-a=0:=by lia
  simp[Jv,this]
theorem Ij(lo hi:Option Int)(n:Nat):Builtin.Str.strSliceIndices lo hi 1 n=(List.range (HT.sIx n n hi-HT.sIx n 0 lo)).map (fun k=>HT.sIx n 0 lo+k):=by
 rw[<-Dr];unfold Builtin.Str.strSliceIndices;simp only[show(1:Int)>0 from by decide,XA];cases lo with
 |none=>
  cases hi with
  |none=>rfl
  |some v=>exact WM (fun z=>sliceRange 0 z 1) (ye v n)
 |some u=>
  cases hi with
  |none=>exact WM (fun z=>sliceRange z (n:Int) 1) (ye u n)
  |some v=>exact(WM (fun z=>sliceRange z _ 1) (ye u n)).trans (WM (fun z=>sliceRange _ z 1) (ye v n))
def Ds(xs:List Nat)(lo hi:Option Int):List Nat:=(xs.drop (HT.sIx xs.length 0 lo)).take (HT.sIx xs.length xs.length hi-HT.sIx xs.length 0 lo)
theorem zm{α:Type}(l:List α):∀(n a:Nat),a+n<=l.length->((List.range n).map (fun k=>a+k)).filterMap (l[·]?)=(l.drop a).take n
 | 0,_,_=>by simp
 |n+1,a,h=>by
  have Jv:a+n<l.length:=by lia
  rw[Zt,VA,Yv,zm l n a (by lia),XT,List.getElem?_drop];simp[U9 Jv]
theorem vA(x:Str)(lo hi:Option Int):(Txt.slice x lo hi).cps.toList=Ds x.cps.toList lo hi:=by
 have hl:x.cps.toList.length=x.length:=Vp;have ha:=HT.vo x.length 0 (V0 _) lo;have hb:=HT.vo x.length x.length (Vl _) hi;unfold Txt.slice Ds;rw[Ij,hl];split
 ·rename_i h;have h2:HT.sIx x.length x.length hi-HT.sIx x.length 0 lo=x.length:=by simpa using h
  have ez:HT.sIx x.length 0 lo=0\/x.length=0:=by lia
  rcases ez with e|e
  ·rw[h2,e,YW,Xd (by lia)]
  ·have:x.cps.toList=[]:=Wg (by lia);rw[this];simp
 ·have hk:∀(f:List Nat),f.filterMap (x.cps[·]?)=f.filterMap (x.cps.toList[·]?):=fun f=>by
   congr 1
   funext i
   simp
  show(List.filterMap _ _).toArray.toList=_;rw[YI,hk];by_cases hle:HT.sIx x.length 0 lo<=HT.sIx x.length x.length hi
  ·rw[zm _ _ _ (by lia)]
  ·have e0:HT.sIx x.length x.length hi-HT.sIx x.length 0 lo=0:=by lia
   rw[e0];rfl
abbrev S(l:List Nat):Str:=⟨l.toArray⟩
theorem pe(x:Str):S x.cps.toList=x:=by cases x;simp[S]
theorem S_inj{a b:List Nat}(h:S a=S b):a=b:=by
 have:=WM (fun z:Str=>z.cps.toList) h;simpa[S] using this
theorem pg(l:List Nat):(S l).length=l.length:=by simp[S,Str.length]
theorem eZ(l:List Nat):(S l).cps.toList=l:=by simp[S]
theorem Ga(a b:List Nat):S a++S b=S (a++b):=by
 rw[<-pe (S a++S b),PySem.W.KT.app_list,eZ,eZ]
def Ik:V->Option Int->Option Int->Hp->VK->Prop:=fun x lo hi H Q=>∃l,x=.str (S l)/\l.length<=sizeLine/\Q (.str (S (Ds l lo hi))) H
theorem Dt:Pu X Ik:=by
 intro pr s σ H x v vl vu lo hi sl Q I rx hs pl pu h;obtain⟨l,rfl,hz,q⟩:=h;obtain⟨t,rfl⟩:=rx;have hz':(S l).length<=sizeLine:=by rw[pg];exact hz
 have e:∀t' k,EP X pr σ Q (.str (Txt.slice (S l) lo hi) t') {s with toks:=k}:=fun t' k=>by
  refine⟨.str (S (Ds l lo hi)),H,I.tok _,⟨t',?_⟩,q⟩;have e1:=vA (S l) lo hi;rw[eZ]at e1;rw[<-e1,pe]
 refine⟨"str",_,PySem.F.slot_str_getitem.lookup,ZJ _ _ _,?_⟩;have key:∀(Px Sr:Option (Int×Tok)),partValue Px=vl->partValue Sr=vu->Px.map (·.1)=lo->Sr.map (·.1)=hi->
   wpAny (model X.prog X.w) X.A (getItem (.str (S l) t) (.ref sl)) (EP X pr σ Q) X.xe s:=by
  rintro Px Sr rfl rfl rfl rfl;exact wpAny_getItem_str_slice (l:=Px) (u:=Sr) (st:=none) hs rfl (post_val_or_str ⟨VR (Txt.slice_le (S l) _ _) hz',fun t' k=>e t' k⟩)
 cases pl with
 |none=>
  cases pu with
  |none=>exact key none none rfl rfl rfl rfl
  |int j uj=>exact key none (some (j,uj)) rfl rfl rfl rfl
 |int i ui=>
  cases pu with
  |none=>exact key (some (i,ui)) none rfl rfl rfl rfl
  |int j uj=>exact key (some (i,ui)) (some (j,uj)) rfl rfl rfl rfl
theorem Ax{xs:List V}{j:Nat}{x:V}(h:xs[j]?=some x):xs.getD j .non=x:=by rw[Vi,h];rfl
end
def Def(K:W.Frag)(mg:Str->Option Value)(x:Str)(st:Stmt):Prop:=∃f fd,Fun K x x st f fd/\mg x=some (.ref f)
def Ct(P:Program)(w:World)(K:W.Frag)(mg:Str->Option Value)(base:Heap)(x:Str)(k:Nat)(sp:Sp):Prop:=
 ∃f fd ps,FnOk P w K mg base MP k f fd ps sp/\mg x=some (.ref f)/\PySem.W.keepIn K (.ref f)=true/\Binds K fd ps []
variable{e:Expr}{es:List Expr}{x:Str}{pos:Pos}
section
variable{t:TA}{p:Pos}{k:Nat}{sp:Sp}
theorem Ay(C:Ct X.prog X.w X.K X.mg X.base x k sp)(hr:Room k X.A)(hg:Gl X x)(ha:PA X (e::es) t)(KQ:(x==("__debug__" : Str))=false:=by decide)
  (he:starEach (e::es) X.env=(false,eval e X.env)::starEach es X.env:=by rfl) (JS:(backTo pos (starEach es X.env)).any (·.1)=false:=by rfl):
  PE X (.Call (.Name x p) (e::es) [] pos) (tCall sp [] E0 t):=by
 obtain⟨f,fd,ps,G,m,kp,b⟩:=C;exact Ak G hr hg m kp b .nil F9 ha KQ he JS
end
theorem bt_len:bootBuiltins "len" = some (.builtin "len"):=by decide +kernel
theorem m9:bootBuiltins "isinstance" = some (.builtin "isinstance"):=by decide +kernel
theorem Du:bootBuiltins "str" = some (.type "str"):=by decide +kernel
theorem vB:bootBuiltins "list" = some (.type "list"):=by decide +kernel
theorem cO:bootBuiltins "tuple" = some (.type "tuple"):=by decide +kernel
theorem line_eq:sizeLine=16777216:=Wr
theorem flat_strs(a:List (List Nat)):(a.map fun l=>V.str (S l)).all yc=true:=by
 rw[VO];intro v hv;obtain⟨l,_,rfl⟩:=Wz.mp hv;rfl
section
variable{st:Stmt}
end
def clOf(scope:Scope)(env:Env):List (Str×Addr):=scope.names.foldl (fun cs y=>if y.2==NameKind.free then(y.1,(env.cells.lookup y.1).getD 0)::cs else cs) []
def je(scope:Scope)(env:Env):Bool:=scope.names.all fun y=>y.2 != NameKind.free||env.kindOf y.1==some .cell||env.kindOf y.1==some .free
theorem ik(env:Env):∀(l:List (Str×NameKind)) (cs:List (Str×Addr)),(∀y∈l,y.2=.free->∃c,env.cells.lookup y.1=some c)->
  (forIn l cs fun(y:Str×NameKind) (r:List (Str×Addr))=>(do
   if y.2==NameKind.free then
    let a <-cellOf env y.1
    pure (ForInStep.yield ((y.1,a)::r))
   else pure (ForInStep.yield r):Sem (ForInStep (List (Str×Addr)))))=pure (l.foldl (fun cs y=>if y.2==NameKind.free then(y.1,(env.cells.lookup y.1).getD 0)::cs else cs) cs)
 |[],cs,_=>by simp
 |y::l,cs,h=>by
  rw[Zu,XN];by_cases k:y.2=.free
  ·obtain⟨c,e⟩:=h y Va k;have e2:cellOf env y.1=pure c:=by unfold cellOf;rw[e]
   simp only[k,V6,XA,e2,e,XE,pure_bind];exact ik env l _ fun z hz=>h z (Vb _ hz)
  ·have kb:(y.2==NameKind.free)=false:=by simpa using k
   simp only[kb,VL,WW,pure_bind];exact ik env l _ fun z hz=>h z (Vb _ hz)
theorem iG(env:Env)(x:Str)(c:Addr):∀(l:List (Str×NameKind)) (cs:List (Str×Addr)),(∀y∈l,y.2=.free->∃c,env.cells.lookup y.1=some c)->(cs.lookup x=some c->env.cells.lookup x=some c)->
  (l.foldl (fun cs y=>if y.2==NameKind.free then(y.1,(env.cells.lookup y.1).getD 0)::cs else cs) cs).lookup x=some c->env.cells.lookup x=some c
 |[],_,_,h,e=>h e
 |y::l,cs,hf,h,e=>by
  rw[XN]at e;refine iG env x c l _ (fun z hz=>hf z (Vb _ hz)) (fun q=>?_) e;split at q
  ·rename_i k;have k:y.2=.free:=by simpa using k
   obtain⟨d,ed⟩:=hf y Va k;rw[Wv]at q;cases hx:x==y.1 with
   |true=>
    rw[hx]at q;have exy:x=y.1:=by simpa using hx
    rw[ed,XE]at q;rw[exy,ed];exact q
   |false=>
    rw[hx]at q;exact h q
  ·exact h q
theorem kM(env:Env)(x:Str):∀(l:List (Str×NameKind)) (cs:List (Str×Addr)),((∃d,cs.lookup x=some d)\/(x,NameKind.free)∈l)->
  ∃d,(l.foldl (fun cs y=>if y.2==NameKind.free then(y.1,(env.cells.lookup y.1).getD 0)::cs else cs) cs).lookup x=some d
 |[],_,h=>by
  rcases h with h|h
  ·exact h
  ·cases h
 |y::l,cs,h=>by
  rw[XN];refine kM env x l _ ?_;rcases h with⟨d,h⟩|h
  ·refine .inl ?_;split
   ·rw[Wv];cases hx:x==y.1 with
    |true=>exact⟨_,rfl⟩
    |false=>exact⟨d,h⟩
   ·exact⟨d,h⟩
  ·rcases Vo.mp h with h|h
   ·refine .inl ?_;rw[<-h];refine⟨(env.cells.lookup x).getD 0,?_⟩;show List.lookup x ((x,_)::cs)=_;rw[Wv,V6]
   ·exact .inr h
noncomputable def cq(X:Cx)(scope:Scope)(N:List Str)(C:Addr)(s:Shared)(H:Hp)(fp:List Addr)(pn:List (Addr×Obj)):Cx:=
 {X with N:=N,s₀:=s,H₀:=H,env:=compEnvC scope (clOf scope X.env) C X.env,outer:=X.stack,ex:=fp,fn:=fun _=>false,pn:=pn,xe:=fun _ _=>False}
def mq(ix:List (Option Nat))(σ:L2.St):L2.St:=ix.map fun i=>i.bind fun i=>(σ[i]?).bind id
noncomputable def Az(wi:TI)(ix:List (Option Nat))(g:TG)(tc:TT)(te:TE):TE:=fun σ H Q=>wi σ H fun J H1=>∀D,H1 D=none->∃W:Nat->Nat->L2.St->Hp->Prop,(∃m,W 0 m (mq ix σ) (upd H1 D (.lst [])))/\
 ∀i m σ1 H2,W i m σ1 H2->(J.stop i H2/\Q (.ref D) H2)\/(J.go i H2/\∀x H3,J.yld i H2 x H3->g x σ1 H3 fun σ2 H4=>tc σ2 H4 fun b H5=>if b=true then te σ2 H5 fun v H6=>
  ∃ys,H6 D=some (.lst ys)/\ys.length<sizeLine/\∃m',m'<m/\W (i+1) m' σ2 (upd H6 D (.lst (ys++[v]))) else ∃m',m'<m/\W (i+1) m' σ2 H5)
abbrev N9:Value->Shared->Prop:=fun _ _=>False
variable{α:Type}{A:Around}{E:Value->Shared->Prop}{s:Shared}
theorem QM{M:Model}{t:Sem α}{Q Q':α->Shared->Prop}(h:wpAny M A t Q N9 s)(k:∀a s,Q a s->Q' a s):wpAny M A t Q' E s:=Yb h k fun _ _ z=>z.elim
variable{prog:Program}{w:World}{elt iter:Expr}{ifs:List Expr}{scope:Scope}{env:Env}
theorem vC{R:Result->Shared->Prop}{target:Expr}{it acc:Value}(I:Nat->Shared->Prop)
  (turn:∀n s,I n s->wpAny (model prog w) A (pyNext it) (fun r s₁=>match r with
   |none=>R (.ok .next) s₁
   |some v=>wpAny (model prog w) A (letOwnedTupleGo target it v) (fun _ s₂=>wpAny (model prog w) A (assign target env v) (fun _ s₃=>
     wpAny (model prog w) A (forIn ifs true fun c r=>if r=true then do let ok <-isTrue c env (eval c env);pure (ForInStep.yield ok) else pure (ForInStep.yield r)) (fun ok s₄=>
      if ok=true then wpAny (model prog w) A (eval elt env) (fun x s₅=>
       wpAny (model prog w) A (call (.builtin "list.append") [acc,x]) (fun _ s₆=>∃m,m<n/\I m s₆) N9 s₅) N9 s₄
      else ∃m,m<n/\I m s₄) N9 s₃) N9 s₂) N9 s₁) N9 s)
  (n:Nat) (h:I n s):codeAny (model prog w) A (.compLoop (.ListComp elt [⟨target,iter,ifs,0⟩] scope pos) 0 it acc env) R s:=by
 refine codeAny_loop rfl I (fun n s hI=>?_) n h;show wpAny _ A ((compTurn (.ListComp elt [⟨target,iter,ifs,0⟩] scope pos) 0 it acc env).onRaise (fun x=>do noteFrame x env;theTreesLotGoes x)) _ _ s;refine wpAny_noted ?_;rw[compTurn_list];refine U8 (Z1 (U8 (QM (turn n s hI) fun r s₁ h₁=>?_)));cases r with
 |none=>exact Vf h₁
 |some v=>
  refine U8 (QM h₁ fun _ s₂ h₂=>U8 (QM h₂ fun _ s₃ h₃=>U8 (QM h₃ fun ok s₄ h₄=>?_)));cases ok with
  |false=>exact Vf ⟨rfl,h₄⟩
  |true=>exact U8 (U8 (QM h₄ fun x s₅ h₅=>U8 (QM h₅ fun _ s₆ h₆=>Vf (Vf ⟨rfl,h₆⟩))))
def QN(X:Cx)(ifs:List Expr)(t:TT):Prop:=
 ∀(pr:List (Addr×Obj)) (s:Shared) (σ:L2.St) (H:Hp) (Q:Bool->Hp->Prop),Inv X pr σ H s->t σ H Q->
  wpAny (model X.prog X.w) X.A (forIn ifs true fun c r=>if r=true then do let ok <-isTrue c X.env (eval c X.env);pure (ForInStep.yield ok) else pure (ForInStep.yield r)) (TP X pr σ Q) X.xe s
def Il:TT:=fun _ H Q=>Q true H
theorem AB:QN X [] Il:=fun _ _ _ H _ I h=>wpAny_tests_nil ⟨H,I,h⟩
theorem AD{c:Expr}{t:TT}(h:PT X c t):QN X [c] t:=fun pr s σ H Q I k=>wpAny_tests_one (h pr s σ H Q I k)
def zo(X:Cx)(scope:Scope)(N:List Str)(ix:List (Option Nat)):Bool:=
 N.length==ix.length&&(N.zip ix).all fun y=>match y.2 with
  |none=>true
  |some j=>X.N[j]?==some y.1&&scope.names.lookup y.1==some .free
theorem ph(h:scope.names.lookup x=some .free):(relabel scope env).names.lookup x=some .cell\/(relabel scope env).names.lookup x=some .free:=by
 unfold relabel;dsimp only;generalize scope.names=l at h;induction l with
 |nil=>cases h
 |cons y l ih=>
  obtain⟨n,k⟩:=y;rw[Wv]at h;rw[Vz];cases hx:x==n with
  |true=>
   rw[hx]at h;have hk:k=.free:=VQ h;subst hk;dsimp only;split
   ·exact .inl (by rw[Wv,hx])
   ·exact .inr (by rw[Wv,hx])
  |false=>
   rw[hx]at h;dsimp only;split
   ·rw[Wv,hx];exact ih h
   ·rw[Wv,hx];exact ih h
theorem pk(hc:∀y∈scope.names,y.2≠.cell)(h:(relabel scope env).names.lookup x=some .cell\/(relabel scope env).names.lookup x=some .free):(x,NameKind.free)∈scope.names:=by
 unfold relabel at h;dsimp only at h;generalize scope.names=l at h hc;induction l with
 |nil=>rcases h with h|h <;> cases h
 |cons y l ih=>
  obtain⟨n,k⟩:=y;rw[Vz]at h;dsimp only at h;have nk:k≠.cell:=hc (n,k) Va;have Uq:=ih (hc:=fun z hz=>hc z (Vb _ hz));by_cases cnd:(k==NameKind.free&&env.scope.kind==.function&&env.kindOf n==some .cell)=true
  ·rw[Vn cnd,Wv]at h;have kf:k=.free:=by
    have:(k==NameKind.free)=true:=by
     simp only[Vu]at cnd;exact cnd.1.1
    simpa using this
   cases hx:x==n with
   |true=>
    have:x=n:=by simpa using hx
    rw[this,kf];exact Va
   |false=>
    rw[hx]at h;exact Vb _ (Uq h)
  ·rw[Vt cnd,Wv]at h;cases hx:x==n with
   |true=>
    rw[hx]at h;have:x=n:=by simpa using hx
    rcases h with h|h
    ·exact absurd (VQ h) nk
    ·rw[this,<-VQ h];exact Va
   |false=>
    rw[hx]at h;exact Vb _ (Uq h)
variable{pr:List (Addr×Obj)}{σ:L2.St}{H:Hp}{N:List Str}{ix:List (Option Nat)}{fp:List Addr}
section
theorem ng(ok:X.Ok)(hf:je scope X.env=true):∀y∈scope.names,y.2=.free->∃c,X.env.cells.lookup y.1=some c:=fun y hy k=>by
 have:=VO.mp hf y hy;rw[k]at this;simp only[Yp,Bool.false_or,Zv,V5]at this;exact ok.has y.1 this
theorem kN(ok:X.Ok)(hf:je scope X.env=true){c:Addr}(h:(clOf scope X.env).lookup x=some c):X.env.cells.lookup x=some c:=
 iG X.env x c scope.names [] (ng ok hf) (fun z=>nomatch z) h
theorem vD(ok:X.Ok)(hf:je scope X.env=true)(h:(x,NameKind.free)∈scope.names):∃c,(clOf scope X.env).lookup x=some c/\X.env.cells.lookup x=some c:=by
 obtain⟨c,e⟩:=kM X.env x scope.names [] (.inr h);exact⟨c,e,kN ok hf e⟩
theorem _root_.L2.Inv.block(I:Inv X pr σ H s)(hf:je scope X.env=true)(hk:scope.kind=.function)(JH:∀y∈scope.names,y.2≠.cell)(Kc:zo X scope N ix=true)(fo:∀b∈fp,uO X pr H b)(fin:∀b∈fp,∃o,s.heap.get? b=some o)
  {h1:Heap}{t1:Nat}{D C:Addr}(hD:D=s.heap.objs.size) (hC:C=s.heap.objs.size+1) (old:∀b o,s.heap.get? b=some o->h1.get? b=some o) {n:Nat}(acc:h1.get? D=some {cls:=.type "list",data:=.seq #[] n})
  {m:Str->Option Value}(ns:h1.Ns C m):Inv (cq X scope N C s H fp (X.pn++pr)) [] (mq ix σ) (upd H D (.lst [])) {s with heap:=h1,toks:=t1}:=by
 have Md:s.heap.objs.size<=C:=by rw[hC];exact XO _
 have freshD:s.heap.objs.size<=D:=by rw[hD];exact Vl _
 have nD:H D=none:=I.hok.fresh freshD;have DC:D≠C:=by rw[hD,hC];exact VI (XF _)
 have Py:∀b,H b=none->b≠D->upd H D (.lst []) b=none:=fun b n z=>by rw[aF z];exact n
 have QQ:∀b o,s.heap.get? b=some o->b≠D:=fun b o e=>VI (Vv (Vr e) freshD)
 have Oa:∀b o,s.heap.get? b=some o->b≠C:=fun b o e=>VI (Vv (Vr e) Md)
 have cellAt:∀x c,(clOf scope X.env).lookup x=some c->∃v o,s.heap.get? c=some o/\o.data=.cell v:=fun x c e=>by
  obtain⟨v,o,ho,hd⟩:=I.cell x c (kN I.ok hf e);exact⟨v,o,ho,hd⟩
 have okY:(cq X scope N C s H fp (X.pn++pr)).Ok:=by
  refine⟨I.ok.mod,hk,I.ok.glob,I.ok.blt,Md,fun x y c e1 e2=>?_,fun x hx=>?_,fun x c z _=>?_,I.ok.hd,I.ok.frames,.inl rfl,fun b hb=>?_,I.bs,?_,fun b o e hb=>?_,fun b hb hs=>?_,I.stack,I.stkFree⟩
  ·exact I.ok.inj x y c (kN I.ok hf e1) (kN I.ok hf e2)
  ·obtain⟨c,e,_⟩:=vD I.ok hf (pk JH hx);exact⟨c,e⟩
  ·exact absurd (show false=true from z) Vg
  ·obtain⟨f0,f1,f2,f3,f4,f5⟩:=fo b hb;refine⟨?_,fun x c e=>f4 x c (kN I.ok hf e)⟩;intro z;have z:b=C:=z;obtain⟨o,ho⟩:=fin b hb;exact Oa b o ho z
  ·exact VR I.ok.bsz I.sz
  ·obtain⟨f0,f1,f2,f3,f4,f5⟩:=fo b hb;rcases f3 with q|q
   ·exact I.ok.noex b o e q
   ·exact absurd (Vv (Vr e) (VR I.ok.bsz q)) (Xy _)
  ·obtain⟨f0,f1,f2,_⟩:=fo b hb;exact(Vo.mp (I.stkSub b hs)).elim f1 f2
 refine⟨okY,rfl,I.bare,Un.laid old freshD nD,⟨m,ns,fun i x v e1 e2 e3=>?_⟩,fun x c e=>?_,?_,fun x c e=>?_,fun p hp=>?_,I.hok.laid old freshD ⟨V0 _,[],n,.nil,acc⟩,?_⟩
 ·
  have e2:(ix.map fun i=>i.bind fun i=>(σ[i]?).bind id)[i]?=some (some v):=e2;have e1:N[i]?=some x:=e1;unfold zo at Kc;rw[Vu]at Kc;rw[Vs]at e2;cases q:ix[i]? with
  |none=>rw[q]at e2;cases e2
  |some o=>
   rw[q]at e2;have e2:(o.bind fun i=>(σ[i]?).bind id)=some v:=VQ e2;cases o with
   |none=>cases e2
   |some j=>
    have e2:(σ[j]?).bind id=some v:=e2;have hσ:σ[j]?=some (some v):=by
     cases w':σ[j]? with
     |none=>rw[w']at e2;cases e2
     |some y=>rw[w']at e2;exact WM some e2
    have hz:(N.zip ix)[i]?=some (x,some j):=by
     rw[X4];exact⟨e1,q⟩
    have hy:=VO.mp Kc.2 _ (VF hz);simp only[Vu,V5]at hy;have Ob:(x,NameKind.free)∈scope.names:=W9 hy.2;obtain⟨c,c1,c2⟩:=vD I.ok hf Ob;have Ri:X.env.kindOf x=some .cell\/X.env.kindOf x=some .free:=by
     have:=VO.mp hf _ Ob;simpa using this
    obtain⟨mo,O7,Um⟩:=I.loc;obtain⟨u,r,l⟩:=Um j x v hy.1 hσ (.inr Ri);refine⟨u,r,.inr ⟨ph hy.2,c,c1,?_⟩⟩;rcases l with⟨k1,_⟩|⟨_,c',e',Mv⟩
    ·rcases Ri with k2|k2 <;> (rw[k1]at k2;cases k2)
    ·rw[c2]at e';cases e';obtain⟨o,ho,hd⟩:=Mv;exact⟨o,old c o ho,hd⟩
 ·obtain⟨v,o,ho,hd⟩:=cellAt x c e;exact⟨v,o,old c o ho,hd⟩
 ·exact Py C (I.hok.fresh Md) (W7 DC)
 ·obtain⟨v,o,ho,hd⟩:=cellAt x c e;exact Py c (I.freeC x c (kN I.ok hf e)) (QQ c o ho)
 ·have hp:p∈X.pn++pr:=by
   have:p∈(X.pn++pr)++[]:=hp
   rwa [VH]at this
  obtain⟨e,nn,ne,nf,d⟩:=I.pin p hp;refine⟨old _ _ e,Py _ nn (QQ _ _ e),Oa _ _ e,fun z=>?_,d⟩;exact(Vo.mp (I.stkSub p.1 z)).elim ne nf
 ·unfold zo at Kc;rw[Vu]at Kc;have:N.length=ix.length:=by simpa using Kc.1
  show(ix.map _).length=N.length;rw[Ve,this]
theorem _root_.L2.Inv.unblock{C:Addr}{σ1:L2.St}{H1:Hp}{s1:Shared}{h2:Heap}(I:Inv X pr σ H s)(fo:∀b∈fp,uO X pr H b)(hC:s.heap.objs.size<=C)(J:Inv (cq X scope N C s H fp (X.pn++pr)) [] σ1 H1 s1)(hs:Heap.SameBut C s1.heap h2):
  Inv X pr σ H1 {s1 with heap:=h2}:=by
 have Oa:∀b o,s.heap.get? b=some o->b≠C:=fun b o e=>VI (Vv (Vr e) hC)
 have bb:Un (Mu X.stack) fp H H1 s.heap s1.heap:=J.base;have jf:H1 C=none:=J.free;refine I.call' (s':={s1 with heap:=h2}) (ch:=fp) J.os ⟨fun b o e n hb hx=>?_,fun b o e n hb hx=>?_,bb.free,fun b o e hx=>?_,bb.tups,bb.frzs,bb.tbls⟩ (fun b ob e=>?_) J.bare fun b hb=>?_
 ·exact(hs.2 b (Oa b o e)).trans (bb.keep b o e n hb hx)
 ·obtain⟨sl,q⟩:=bb.slot b o e n hb hx;exact⟨sl,(hs.2 b (Oa b o e)).trans q⟩
 ·obtain⟨o',q⟩:=bb.there b o e hx;exact⟨o',(hs.2 b (Oa b o e)).trans q⟩
 ·refine(J.hok b ob e).stay (fun c w' hc q=>(hs.2 c ?_).trans q) (fun _ q=>q) fun _ _ q=>q
  rintro rfl;rcases hc with rfl|hc
  ·rw[jf]at e;cases e
  ·rw[jf]at hc;cases hc
 ·obtain⟨f0,f1,f2,f3,f4,f5⟩:=fo b hb;exact⟨f3,f1,f4,f5⟩
end
variable{tg:Expr}{wi:TI}{g:TG}{tc:TT}{te:TE}{it:Addr}
section
theorem mr{H2:Hp}{s2:Shared}{J:It}{tn:Nat->Heap->Prop}{Q:VK}{RR:Value->Addr->Result->Shared->Prop}{E:Value->Shared->Prop}
  (hc:X.calm=true) (I2:Inv X pr σ H2 s2) (T:Turn X.prog X.w X.K tg J fp it tn) (I0:tn 0 s2.heap) (f2:∀b∈fp,uO X pr H2 b)
  (hg:∀C s H fp pn,PG (cq X scope N C s H fp pn) tg g) (ht:∀C s H fp pn,QN (cq X scope N C s H fp pn) ifs tc) (he:∀C s H fp pn,PE (cq X scope N C s H fp pn) elt te)
  (hf:je scope X.env=true) (hk:scope.kind=.function) (JH:∀y∈scope.names,y.2≠.cell) (Kc:zo X scope N ix=true)
  (q:∀D,H2 D=none->∃W:Nat->Nat->L2.St->Hp->Prop,(∃m,W 0 m (mq ix σ) (upd H2 D (.lst [])))/\
   ∀i m σ1 H3,W i m σ1 H3->(J.stop i H3/\Q (.ref D) H3)\/(J.go i H3/\∀x H4,J.yld i H3 x H4->g x σ1 H4 fun σ2 H5=>tc σ2 H5 fun b H6=>if b=true then te σ2 H6 fun v H7=>
    ∃ys,H7 D=some (.lst ys)/\ys.length<sizeLine/\∃m',m'<m/\W (i+1) m' σ2 (upd H7 D (.lst (ys++[v]))) else ∃m',m'<m/\W (i+1) m' σ2 H6))
  (hRR:∀(D C:Addr) (σ1:L2.St) (H1:Hp) (s1:Shared),s2.heap.objs.size<=C->Inv (cq X scope N C s2 H2 fp (X.pn++pr)) [] σ1 H1 s1->Q (.ref D) H1->RR (.ref D) C (.ok .next) s1):
  wpAny (model X.prog X.w) X.A (newList []) (fun acc s₃=>wpAny (model X.prog X.w) X.A (newFunctionEnv scope X.env.globals (clOf scope X.env) [] X.env.qual none .none (some X.env)) (fun Rj s₄=>
   codeAny (model X.prog X.w) X.A (.compStart (.ListComp elt [⟨tg,iter,ifs,0⟩] scope pos) 0 (.ref it) acc {Rj with scope:=relabel scope X.env}) (RR acc Rj.locals) s₄) E s₃) E s2:=by
 refine WL (wpAny_newFunctionEnv JH (by intro y hy;simp at hy) (fun h₁ hns₁ hsb₁=>?_) hk);dsimp only at hns₁ hsb₁ ⊢;generalize hH2:s2.heap.push {cls:=.type "list",dict:=none,data:=.seq ([]:List Value).toArray}=HH at hns₁ hsb₁ ⊢;have hC:HH.objs.size=s2.heap.objs.size+1:=by rw[<-hH2,WO]
 have hDC:s2.heap.objs.size≠HH.objs.size:=by rw[hC];exact VI (XF _)
 have Rk:s2.heap.objs.size<=HH.objs.size:=by rw[hC];exact XO _
 have Oa:∀b o,s2.heap.get? b=some o->b≠HH.objs.size:=fun b o e=>VI (Vv (Vr e) Rk)
 have old:∀b o,s2.heap.get? b=some o->h₁.get? b=some o:=fun b o e=>hsb₁.extBut b o (Oa b o e) (Vc _ (hH2▸Vc _ e))
 have Oc:h₁.get? s2.heap.objs.size=some {cls:=.type "list",data:=.seq #[] 0}:=hsb₁.extBut _ _ hDC (Vc _ (hH2▸Vy _ rfl));obtain⟨W,⟨m0,w0⟩,turn⟩:=q s2.heap.objs.size (I2.hok.fresh (Vl _));have fin:∀b∈fp,∃o,s2.heap.get? b=some o:=fun b hb=>let⟨o,e,_⟩:=T.obj 0 _ I0 b hb;⟨o,e⟩
 have Mc:∀{H':Hp},(∀b∈fp,H' b=none)->∀b∈fp,uO (cq X scope N HH.objs.size s2 H2 fp (X.pn++pr)) [] H' b:=fun{H'} hn b hb=>by
  obtain⟨f0,f1,ff,f3,f4,f5⟩:=f2 b hb;refine⟨hn b hb,?_,fun z=>?_,.inl hb,fun x c e=>f4 x c (kN I2.ok hf e),fun p hp=>?_⟩
  ·intro z;have z:b=HH.objs.size:=z;obtain⟨o,ho⟩:=fin b hb;exact Oa b o ho z
  ·exact(Vo.mp (I2.stkSub b z)).elim f1 ff
  ·have hp:p∈X.pn++pr:=by
    have:p∈(X.pn++pr)++[]:=hp
    rwa [VH]at this
   exact f5 p hp
 have loop:∀s₃:Shared,s₃={s2 with heap:=h₁,toks:=s2.toks+([]:List (Str×Value)).length}->
   codeAny (model X.prog X.w) X.A (.compLoop (.ListComp elt [⟨tg,iter,ifs,0⟩] scope pos) 0 (.ref it) (.ref s2.heap.objs.size) (compEnvC scope (clOf scope X.env) HH.objs.size X.env)) (RR (.ref s2.heap.objs.size) HH.objs.size) s₃:=by
  rintro s₃ rfl;refine vC (fun n s'=>∃i σ' H',Inv (cq X scope N HH.objs.size s2 H2 fp (X.pn++pr)) [] σ' H' s'/\tn i s'.heap/\(∀b∈fp,H' b=none)/\W i n σ' H') ?_ m0
   ⟨0,_,_,I2.block hf hk JH Kc f2 fin rfl hC old Oc hns₁,T.keep 0 _ _ I0 fun b _ o e=>old b o e,fun b hb=>?_,w0⟩
  ·rintro n s3 ⟨i,σ3,H3,I3,Jt,Q6,w3⟩;rcases turn i n σ3 H3 w3 with⟨stop,qn⟩|⟨go,step⟩
   ·refine Ji (T.done (cq X scope N HH.objs.size s2 H2 fp (X.pn++pr)) rfl rfl rfl hc i [] s3 σ3 H3 N9 I3 (Mc Q6) Jt stop) fun r s4 Jk=>?_
    obtain⟨hr,I4⟩:=Jk;subst hr;exact hRR _ _ σ3 H3 s4 Rk I4 qn
   ·refine Ji (T.item (cq X scope N HH.objs.size s2 H2 fp (X.pn++pr)) rfl rfl rfl hc i [] s3 σ3 H3 N9 I3 (Mc Q6) Jt go) fun r s4 Jk=>?_
    obtain⟨u,hr,h4⟩:=Jk;subst hr;refine Ji h4 fun _ s5 Jk=>?_
    obtain⟨x,H5,I5,r5,y5,K1,S3⟩:=Jk;have S4:=I5.pinned (Mc S3) (T.obj _ _ K1);refine Ji (hg _ _ _ _ _ _ s5 σ3 H5 x u _ S4 r5 (step x H5 y5)) fun _ s6 Jk=>?_
    obtain⟨σ6,H6,I6,q6⟩:=Jk;refine Ji (ht _ _ _ _ _ _ s6 σ6 H6 _ I6 q6) fun ok s7 Jk=>?_
    obtain⟨H7,I7,q7⟩:=Jk;have again:∀{H8:Hp}{s8:Shared},Inv (cq X scope N HH.objs.size s2 H2 fp (X.pn++pr)) ([]++oU fp s5.heap) σ6 H8 s8->(∃m',m'<n/\W (i+1) m' σ6 H8)->
      ∃m,m<n/\∃i σ' H',Inv (cq X scope N HH.objs.size s2 H2 fp (X.pn++pr)) [] σ' H' s8/\tn i s8.heap/\(∀b∈fp,H' b=none)/\W i m σ' H':=fun{H8 s8} I8 ⟨m',hm,w8⟩=>by
     refine⟨m',hm,i+1,σ6,H8,I8.unpinned,T.keep _ _ _ K1 fun b hb o e=>(I8.pin (b,o) (Vd _ (Vd _ (ij hb e)))).1,fun b hb=>?_,w8⟩;obtain⟨o,e,d⟩:=T.obj _ _ K1 b hb;exact(I8.pin (b,o) (Vd _ (Vd _ (ij hb e)))).2.1
    cases ok with
    |false=>exact again I7 q7
    |true=>
     show wpAny _ _ _ _ _ _;refine Ji (he _ _ _ _ _ _ s7 σ6 H7 _ I7 q7) fun x8 s8 Jk=>?_
     obtain⟨v8,H8,I8,r8,ys,Td,Jv,q8⟩:=Jk;refine Ji (pb _ s8 σ6 H8 (.ref s2.heap.objs.size) [v8] (.ref s2.heap.objs.size) [x8] (fun _ H9=>∃m',m'<n/\W (i+1) m' σ6 H9) I8 rfl (.cons r8 .nil) ⟨_,ys,v8,rfl,rfl,Td,Jv,q8⟩) fun _ s9 Jk=>?_
     obtain⟨_,H9,I9,_,q9⟩:=Jk;exact again I9 q9
  ·rw[aF (fun z=>by
    obtain⟨o,ho⟩:=fin b hb;exact absurd z (VI (Vr ho)))]
   exact(f2 b hb).1
 exact codeAny_compStart_list (loop _ rfl) (T.self _ 0 _ _ _ (T.keep 0 _ _ I0 fun b _ o e=>old b o e) (loop _ rfl))
theorem AE(ix:List (Option Nat))(N:List Str)(hc:X.calm=true)(hi:PI X tg iter wi)(hg:∀C s H fp pn,PG (cq X scope N C s H fp pn) tg g)(ht:∀C s H fp pn,QN (cq X scope N C s H fp pn) ifs tc)(he:∀C s H fp pn,PE (cq X scope N C s H fp pn) elt te)
  (hf:je scope X.env=true:=by rfl) (hk:scope.kind=.function:=by rfl) (JH:∀y∈scope.names,y.2≠.cell:=by decide +kernel) (Km:∀y∈scope.names,y.2=.local->scope.names.lookup y.1=some .local:=by decide +kernel) (Kc:zo X scope N ix=true:=by rfl)
  (hs:∀x,foldedSetIterable iter X.env x=pure x:=by intro _;rfl):PE X (.ListComp elt [⟨tg,iter,ifs,0⟩] scope pos) (Az wi ix g tc te):=by
 intro pr s σ H Q I h;rw[eval_ListComp];have Nk:closureFor scope X.env=pure (clOf scope X.env):=by
  unfold closureFor clOf;have:=ik X.env scope.names [] (ng I.ok hf);simpa using this
 refine Y4 (use:=none) rfl hs Nk hk Km (Ji (hi pr s σ H _ I h) fun v s1 h1=>Ji h1 fun Sj s2 h2=>?_);obtain⟨it,fp,tn,J,H2,e,I2,T,I0,f2,q⟩:=h2;subst e;refine mr (RR:=fun acc C=>compPost (model X.prog X.w) X.A X.xe none (EP X pr σ Q) acc C) (Q:=Q) (iter:=iter) hc I2 T I0 f2 hg ht he hf hk JH Kc q fun D C σ1 H1 s1 hC J1 q1=>?_
 obtain⟨m,ns,_⟩:=J1.loc;exact⟨m,ns,fun h' Te=>⟨.ref D,H1,I2.unblock f2 hC J1 Te,rfl,q1⟩⟩
end
variable{i:Nat}
section
theorem AF{y:Str}{py Nl:Pos}(ix:List (Option Nat))(N:List Str)(hN:X.N.Nodup)(Tf:X.N[i]?=some y)(hy:Loc X.env.scope y)(hc:X.calm=true)(hi:PI X tg iter wi)(hg:∀C s H fp pn,PG (cq X scope N C s H fp pn) tg g)(ht:∀C s H fp pn,QN (cq X scope N C s H fp pn) ifs tc)
  (he:∀C s H fp pn,PE (cq X scope N C s H fp pn) elt te) (Tg:swapsWith (.ListComp elt [⟨tg,iter,ifs,0⟩] scope pos) (some (.Name y py)) Nl.line X.env=pure true:=by rfl)
  (hf:je scope X.env=true:=by rfl) (hk:scope.kind=.function:=by rfl) (JH:∀y∈scope.names,y.2≠.cell:=by decide +kernel) (Km:∀y∈scope.names,y.2=.local->scope.names.lookup y.1=some .local:=by decide +kernel) (Kc:zo X scope N ix=true:=by rfl)
  (hs:∀x,foldedSetIterable iter X.env x=pure x:=by intro _;rfl) (ML:X.fn y=true\/X.env.scope.names.lookup y=some .local:=by first|exact .inl rfl|exact .inr rfl):
  PS X (.Assign [.Name y py] (.ListComp elt [⟨tg,iter,ifs,0⟩] scope pos) Nl) (fun D σ H=>Az wi ix g tc te σ H fun v H'=>D.nx (σ.set i (some v)) H'):=by
 intro pr s σ H Dd I h;rw[exec_Assign_Name_used _ _ _ _ Tg];have Nk:closureFor scope X.env=pure (clOf scope X.env):=by
  unfold closureFor clOf;have:=ik X.env scope.names [] (ng I.ok hf);simpa using this
 refine U8 (Z1 (U8 ?_));show wpAny _ X.A (do let _ <-comprehension (.ListComp elt [⟨tg,iter,ifs,0⟩] scope pos) scope X.env _ (newList []) false (eval iter X.env) (some (assign (.Name y py) X.env))) _ _ s;refine U8 (Yb (Y4 (use:=some (assign (.Name y py) X.env)) (Q:=fun _ s'=>SP X pr Dd .next s') rfl hs Nk hk Km
  (Ji (hi pr s σ H _ I h) fun v s1 h1=>Ji h1 fun Sj s2 h2=>?_)) (fun _ s' hq=>Vf (Vf hq)) fun _ _ e=>e)
 obtain⟨it,fp,tn,J,H2,e,I2,T,I0,f2,q⟩:=h2;subst e;refine mr (RR:=fun acc C=>compPost (model X.prog X.w) X.A X.xe (some (assign (.Name y py) X.env)) (fun _ s'=>SP X pr Dd .next s') acc C) (Q:=fun v H'=>Dd.nx (σ.set i (some v)) H') (iter:=iter) hc I2 T I0 f2 hg ht he hf hk JH Kc q fun D C σ1 H1 s1 hC J1 q1=>?_
 obtain⟨m,ns,_⟩:=id J1.loc;have ns:s1.heap.Ns C m:=ns;have I3:Inv X pr σ H1 s1:=I2.unblock f2 hC J1 (.refl ..);show wpAny _ X.A (assign (.Name y py) X.env (.ref D)) _ _ s1;refine wpAny_assign_Name (oT I3 hN Tf hy (v:=.ref D) rfl (fun s4 I4 ⟨a,sb,ha⟩=>?_) ML);have aC:C≠a:=by
  intro z;rcases ha with ha|ha
  ·exact VI (Vv I2.lt hC) (ha▸z.symm)
  ·obtain⟨v,o,ho,_⟩:=I2.cell y a ha;exact VI (Vv (Vr ho) hC) z.symm
 refine⟨m,ns.sameBut sb aC,fun h' Te=>?_⟩;have jf:H1 C=none:=J1.free;have kk:∀b o,b≠C->s4.heap.get? b=some o->h'.get? b=some o:=fun b o hb e=>(Te.2 b hb).trans e
 refine⟨σ.set i (some (.ref D)),H1,?_,q1⟩;have z:=I4.turned (t':=s4.toks) kk jf (fun z=>VI (Vv I2.lt hC) z.symm) (.inr (VR I2.sz hC)) (fun x c e z=>by
  obtain⟨v,o,ho,_⟩:=I2.cell x c e;exact VI (Vv (Vr ho) hC) z) (fun p hp z=>VI (Vv (Vr (I2.pin p hp).1) hC) z)
 exact z
end
variable{h':Heap}{us:List Value}{ns:List Int}
section
theorem kF{p:Addr}{xs:List V}{E:Value->Shared->Prop}{R:Value->Shared->Prop}(hc:X.calm=true)(I:Inv X pr σ H s)(h:SqL X.K H p xs\/SqT X.K H p xs)
  (k:∀(it:Addr) (fp:List Addr) (o:Obj) (us:List Value) (Sx:Nat->Heap->Prop),Vals xs us->Walks X.prog X.w X.A.in1 it fp [it] us.length (fun i v=>us[i]?=some v) Sx->Sx 0 (s.heap.push o)->(∀b∈fp,b<(s.heap.push o).objs.size)->it=s.heap.objs.size->R (.ref it) {s with heap:=s.heap.push o}):
  wpAny (model X.prog X.w) X.A.in1 (pyIter (.ref p)) R E s:=by
 have hh:X.A.in1.handled=none:=I.ok.hd hc;rcases h with h|h
 ·obtain⟨us,r,pl,hz⟩:=I.list h;have Jv:p<s.heap.objs.size:=by obtain⟨o,ho,_⟩:=pl.isList;exact Vr ho
  refine W5 pl.isList (k s.heap.objs.size [s.heap.objs.size,p] _ us (fun i h=>h.IsListIter s.heap.objs.size p i/\h.IsList p us.toArray) r (by
   have W:=Walks.list (prog:=X.prog) (w:=X.w) hh s.heap.objs.size p (VI Jv) us.toArray;simpa using W) ⟨⟨_,Vy _ rfl,rfl,rfl⟩,pl.isList.at fun o e=>Vc _ e⟩ (fun b hb=>?_) rfl)
  rw[WO];rcases Vo.mp hb with rfl|hb
  ·exact XF _
  ·rw[Vx]at hb;rw[hb];exact Y5 Jv
 ·obtain⟨us,r,pl,hz⟩:=I.tuple h;have Px:s.heap.IsTuple p us.toArray:=pl;have Jv:p<s.heap.objs.size:=by obtain⟨o,ho,_⟩:=pl;exact Vr ho
  refine Xh Px (k s.heap.objs.size [s.heap.objs.size,p] _ us (fun i h=>h.IsTupleIter s.heap.objs.size p i/\h.IsTuple p us.toArray) r (by
   have W:=Walks.tuple (prog:=X.prog) (w:=X.w) hh s.heap.objs.size p (VI Jv) us.toArray;simpa using W) ⟨⟨_,Vy _ rfl,rfl,rfl⟩,Px.at fun o e=>Vc _ e⟩ (fun b hb=>?_) rfl)
  rw[WO];rcases Vo.mp hb with rfl|hb
  ·exact XF _
  ·rw[Vx]at hb;rw[hb];exact Y5 Jv
theorem il{o:Obj}{tk:Nat}(I:Inv X pr σ H s)(kk:∀b ob,b∉[s.heap.objs.size]->(s.heap.push o).get? b=some ob->h'.get? b=some ob):
  Inv X pr σ H {s with heap:=h',toks:=tk}:=I.kept fun b ob e=>kk b ob (fun z=>VI (Vr e) (by simpa using z)) (Vc _ e)
theorem bY(l:List α)(i:Nat)(d:α)(h:i<l.length):l.getD i d=l[i]:=by
 rw[Vi,U9 h];rfl
def Dv:V->Bool
 | .bl b=>b
 |_=>false
def Gb:V->Bool
 | .bl _=>true
 |_=>false
theorem yf{xs:List V}(r:Vals xs us)(hb:xs.all Gb=true):TruthOf X.prog X.w X.A.in1 (fun i v=>us[i]?=some v) (fun i=>Dv (xs.getD i .non)):=by
 intro i v s Q E hv q;have hl:=r.length;obtain⟨hi,_⟩:=Vk.mp hv;have e1:xs[i]?=some (xs[i]'(by lia)):=U9 _;obtain⟨u,hu,ru⟩:=r.get e1;rw[hv]at hu;cases hu;have q:Q (Dv (xs.getD i .non)) s:=q;rw[Ax e1]at q;have bl:=VO.mp hb _ (VF e1);generalize xs[i]'(by lia)=x at ru q bl;cases x <;> first|(exact absurd (show false=true from bl) Vg)|skip
 cases ru;exact Xp q
theorem vE{xs:List V}(f:V->Bool):(List.range xs.length).all (fun i=>f (xs.getD i .non))=xs.all f:=by
 rw[VT,VO,VO];constructor
 ·intro h x hx;obtain⟨i,hi,rfl⟩:=X8 hx;have:=h i (VD.mpr hi)
  rwa [bY _ _ _ hi]at this
 ·intro h i hi;have hi:=VD.mp hi;rw[bY _ _ _ hi];exact h _ (XG hi)
theorem yg(hc:X.calm=true):dX X (.builtin "all") (fun vs H Q=>∃p xs,vs=[.ref p]/\(SqL X.K H p xs\/SqT X.K H p xs)/\xs.all Gb=true/\Q (.bl (xs.all Dv)) H):=by
 intro pr s σ H vs us Q I r h;obtain⟨p,xs,rfl,hp,hb,q⟩:=h;obtain⟨u,rfl,r1⟩:=fV r;cases r1;refine call_all_walk (kF hc I hp fun it fp o ws Sx rv W st hf hit=>⟨it,fp,[it],_,_,Sx,_,rfl,W,st,yf rv hb,fun h' tk kk=>?_⟩);subst hit;refine⟨.bl (xs.all Dv),H,il (s:=s) I kk,?_,q⟩;rw[<-rv.length,vE];rfl
theorem fD(r:Vals (ns.map V.int) us){v:Value}(h:us[i]?=some v):∃t,v=.int (ns.getD i 0) t:=by
 have hl:=r.length;rw[Ve]at hl;obtain⟨hi,_⟩:=Vk.mp h;have e1:(ns.map V.int)[i]?=some (.int (ns.getD i 0)):=by
  rw[Vs,U9 (by lia),bY _ _ _ (by lia)];rfl
 obtain⟨u,hu,t,rfl⟩:=r.get e1;rw[h]at hu;exact⟨t,VQ hu⟩
theorem rQ(r:Vals (ns.map V.int) us)(A:Around):CmpOf X.prog X.w A .Gt (fun i v=>us[i]?=some v) (fun i j=>decide (ns.getD j 0<ns.getD i 0)):=by
 intro i j vi vj s Q E hi hj q;obtain⟨t,rfl⟩:=fD r hi;obtain⟨t',rfl⟩:=fD r hj;exact gt_int q
theorem vF(r:Vals (ns.map V.int) us)(A:Around):CmpOf X.prog X.w A .Lt (fun i v=>us[i]?=some v) (fun i j=>decide (ns.getD i 0<ns.getD j 0)):=by
 intro i j vi vj s Q E hi hj q;obtain⟨t,rfl⟩:=fD r hi;obtain⟨t',rfl⟩:=fD r hj;exact lt_int q
def maxOf(ns:List Int):Int:=ns.foldl max (ns.headD 0)
def AG(ns:List Int):Int:=ns.foldl min (ns.headD 0)
theorem nh(ns:List Int):∀k,k<ns.length->argBest (fun i j=>decide (ns.getD j 0<ns.getD i 0)) k<ns.length/\ns.getD (argBest (fun i j=>decide (ns.getD j 0<ns.getD i 0)) k) 0=(ns.take (k+1)).foldl max (ns.headD 0)
 | 0,h=>by
  refine⟨h,?_⟩;cases ns with
  |nil=>cases h
  |cons a l=>show a=max a a;lia
 |k+1,h=>by
  obtain⟨Th,Ti⟩:=nh ns k (by lia);have et:ns.take (k+1+1)=ns.take (k+1)++[ns.getD (k+1) 0]:=by
   rw[XT,U9 h,bY _ _ _ h];rfl
  rw[et,XU,<-Ti];show(if decide (ns.getD (argBest (fun i j=>decide (ns.getD j 0<ns.getD i 0)) k) 0<ns.getD (k+1) 0)=true then k+1 else argBest (fun i j=>decide (ns.getD j 0<ns.getD i 0)) k)<ns.length/\
   ns.getD (if decide (ns.getD (argBest (fun i j=>decide (ns.getD j 0<ns.getD i 0)) k) 0<ns.getD (k+1) 0)=true then k+1 else argBest (fun i j=>decide (ns.getD j 0<ns.getD i 0)) k) 0=max _ _
  split
  ·rename_i hd;have:=XW hd;exact⟨h,by lia⟩
  ·rename_i hd;rw[Vq]at hd;exact⟨Th,by lia⟩
theorem rR(ns:List Int):∀k,k<ns.length->argBest (fun i j=>decide (ns.getD i 0<ns.getD j 0)) k<ns.length/\ns.getD (argBest (fun i j=>decide (ns.getD i 0<ns.getD j 0)) k) 0=(ns.take (k+1)).foldl min (ns.headD 0)
 | 0,h=>by
  refine⟨h,?_⟩;cases ns with
  |nil=>cases h
  |cons a l=>show a=min a a;lia
 |k+1,h=>by
  obtain⟨Th,Ti⟩:=rR ns k (by lia);have et:ns.take (k+1+1)=ns.take (k+1)++[ns.getD (k+1) 0]:=by
   rw[XT,U9 h,bY _ _ _ h];rfl
  rw[et,XU,<-Ti];show(if decide (ns.getD (k+1) 0<ns.getD (argBest (fun i j=>decide (ns.getD i 0<ns.getD j 0)) k) 0)=true then k+1 else argBest (fun i j=>decide (ns.getD i 0<ns.getD j 0)) k)<ns.length/\
   ns.getD (if decide (ns.getD (k+1) 0<ns.getD (argBest (fun i j=>decide (ns.getD i 0<ns.getD j 0)) k) 0)=true then k+1 else argBest (fun i j=>decide (ns.getD i 0<ns.getD j 0)) k) 0=min _ _
  split
  ·rename_i hd;have:=XW hd;exact⟨h,by lia⟩
  ·rename_i hd;rw[Vq]at hd;exact⟨Th,by lia⟩
theorem vH(hc:X.calm=true):dX X (.builtin "max") (fun vs H Q=>∃(p:Addr) (ns:List Int),vs=[.ref p]/\(SqL X.K H p (ns.map V.int)\/SqT X.K H p (ns.map V.int))/\ns≠[]/\Q (.int (maxOf ns)) H):=by
 intro pr s σ H vs us Q I r h;obtain⟨p,ns,rfl,hp,KH,q⟩:=h;obtain⟨u,rfl,r1⟩:=fV r;cases r1;have hn:0<ns.length:=by cases ns with|nil=>exact absurd rfl KH|cons _ _=>simp
 refine call_max_walk (kF hc I hp fun it fp o ws Sx rv W st hf hit=>?_);have hl:=rv.length;rw[Ve]at hl;refine⟨it,fp,[it],_,_,Sx,_,rfl,W,st,hf,by lia,rQ rv _,fun v h' tk hv kk=>?_⟩;subst hit;obtain⟨b1,b2⟩:=nh ns (ns.length-1) (by lia);rw[<-hl]at hv;obtain⟨t,rfl⟩:=fD rv hv;refine⟨.int (maxOf ns),H,il (s:=s) I kk,⟨t,?_⟩,q⟩;rw[b2,show ns.length-1+1=ns.length by lia,WZ];rfl
theorem vI(hc:X.calm=true):dX X (.builtin "min") (fun vs H Q=>∃(p:Addr) (ns:List Int),vs=[.ref p]/\(SqL X.K H p (ns.map V.int)\/SqT X.K H p (ns.map V.int))/\ns≠[]/\Q (.int (AG ns)) H):=by
 intro pr s σ H vs us Q I r h;obtain⟨p,ns,rfl,hp,KH,q⟩:=h;obtain⟨u,rfl,r1⟩:=fV r;cases r1;have hn:0<ns.length:=by cases ns with|nil=>exact absurd rfl KH|cons _ _=>simp
 refine call_min_walk (kF hc I hp fun it fp o ws Sx rv W st hf hit=>?_);have hl:=rv.length;rw[Ve]at hl;refine⟨it,fp,[it],_,_,Sx,_,rfl,W,st,hf,by lia,vF rv _,fun v h' tk hv kk=>?_⟩;subst hit;obtain⟨b1,b2⟩:=rR ns (ns.length-1) (by lia);rw[<-hl]at hv;obtain⟨t,rfl⟩:=fD rv hv;refine⟨.int (AG ns),H,il (s:=s) I kk,⟨t,?_⟩,q⟩;rw[b2,show ns.length-1+1=ns.length by lia,WZ];rfl
end
variable{kw:List (Str×Value)}
section
variable{R:Result->Shared->Prop}{wr:List Addr}{n:Nat}{Pv:Nat->Value->Prop}{Sx:Nat->Heap->Prop}
theorem ni:(toString "max"++toString ".loop" : String) = "max.loop":=by decide
theorem Gd(Wk:Walks prog w A.in1 it fp wr n Pv Sx)(bt:Nat->Nat->Bool)(cm:CmpOf prog w A.in1 .Gt Pv bt)(T:Addr)(nT:T∉fp):∀(k j:Nat) (s:Shared) (vb:Value) (c:Nat),n-(j+1)=k->j+1<=n->Sx (j+1) s.heap->Pv (argBest bt j) vb->
   s.heap.get? T=some {cls:=.type "list",dict:=none,data:=.seq #[vb,vb] c,slots:=#[]}->
   (∀v h' tk,Pv (argBest bt (n-1)) v->(∀b o,b∉wr->b≠T->s.heap.get? b=some o->h'.get? b=some o)->R (.ok (.ret v)) {s with heap:=h',toks:=tk})->codeAny (model prog w) A (.builtin "max.loop" ⟨[.ref it,.none,.ref T],kw⟩) R s:=by
 have Ss:T∉wr:=fun z=>nT (Wk.sub _ z)
 intro k;induction k with
 |zero=>
  intro j s vb c hk hj st hp hT fin;have ej:j+1=n:=by lia
  refine XQ Zh ?_;rw[Xn Xg _];show wpAny _ A.in1 (seqItems? (.ref T) >>= _) _ _ s;refine U8 (Wm hT rfl ?_);show wpAny _ A.in1 (tryCatch (pyNext (.ref it)) _ >>= _) _ _ s;refine U8 (Yt (Wk.done s _ _ (ej▸st) fun h' tk kk=>?_));have Pa:=kk T _ Ss hT;show wpAny _ A.in1 (updateSeq T (fun _=>#[]) >>= _) _ _ _;refine U8 (Zw Pa rfl (U8 (X9 (Vf ?_))));exact fin vb _ tk (by rw[<-ej];exact hp) fun b o bw bT e=>(V3 _ _ (W7 bT)).trans (kk b o bw e)
 |succ k ih=>
  intro j s vb c hk hj st hp hT fin;have jn:j+1<n:=by lia
  refine XQ Zh ?_;rw[Xn Xg _];show wpAny _ A.in1 (seqItems? (.ref T) >>= _) _ _ s;refine U8 (Wm hT rfl ?_);show wpAny _ A.in1 (tryCatch (pyNext (.ref it)) _ >>= _) _ _ s;refine U8 (Yt (Wk.item (j+1) s _ _ jn st fun v h' tk pv KD kk=>?_));have Pa:=kk T _ Ss hT;show wpAny _ A.in1 (tryCatch (holding [v,v] (richCompare .Gt v vb >>= _)) _ >>= _) _ _ _;refine U8 (Yt (WN (U8 (cm (j+1) (argBest bt j) v vb _ _ _ pv hp (U8 (WN (Xp (U8 (X9 (Vf ?_))))))))));cases eb:bt (j+1) (argBest bt j) with
  |true=>
   rw[Vn rfl];refine U8 (Zw Pa rfl (U8 (X9 ?_)));rw[ni];refine Vf ⟨YE Xg _,ih (j+1) _ v _ (by lia) jn (Wk.frame _ _ _ KD fun b bf o e=>?_) (by simp only[argBest,eb,XA];exact pv) (WS _ Pa rfl) fun v2 h2 t2 p2 k2=>?_⟩
   ·exact(V3 _ _ (fun z:T=b=>nT (by rw[z];exact bf))).trans e
   ·exact fin v2 h2 t2 p2 fun b o bw bT e=>k2 b o bw bT ((V3 _ _ (W7 bT)).trans (kk b o bw e))
  |false=>
   rw[Vt Vg];refine U8 (X9 ?_);rw[ni];refine Vf ⟨YE Xg _,ih (j+1) _ vb c (by lia) jn KD (by simp only[argBest,eb,VL,WW];exact hp) Pa fun v2 h2 t2 p2 k2=>?_⟩;exact fin v2 h2 t2 p2 fun b o bw bT e=>k2 b o bw bT (kk b o bw e)
theorem yh(Wk:Walks prog w A.in1 it fp wr n Pv Sx)(bt:Nat->Nat->Bool)(cm:CmpOf prog w A.in1 .Gt Pv bt)(T:Addr)(nT:T∉fp){c:Nat}{d:Value}(hkw:kw=[(Str.ofString "default",d)])(st:Sx 0 s.heap)
  (hT:s.heap.get? T=some {cls:=.type "list",dict:=none,data:=.seq #[] c,slots:=#[]}) (fin:∀v h' tk,(if n=0 then v=d else Pv (argBest bt (n-1)) v)->(∀b o,b∉wr->b≠T->s.heap.get? b=some o->h'.get? b=some o)->R (.ok (.ret v)) {s with heap:=h',toks:=tk}):
  codeAny (model prog w) A (.builtin "max.loop" ⟨[.ref it,.none,.ref T],kw⟩) R s:=by
 have Ss:T∉wr:=fun z=>nT (Wk.sub _ z)
 refine XQ Zh ?_;rw[Xn Xg _];show wpAny _ A.in1 (seqItems? (.ref T) >>= _) _ _ s;refine U8 (Wm hT rfl ?_);show wpAny _ A.in1 (tryCatch (pyNext (.ref it)) _ >>= _) _ _ s;by_cases hn:n=0
 ·refine U8 (Yt (Wk.done s _ _ (by rw[hn];exact st) fun h' tk kk=>?_));subst hkw;refine U8 (ZK (Vf ?_));exact fin d _ tk (by rw[Vn hn]) fun b o bw bT e=>kk b o bw e
 ·refine U8 (Yt (Wk.item 0 s _ _ (by lia) st fun v h' tk pv KD kk=>?_));have Pa:=kk T _ Ss hT;show wpAny _ A.in1 (updateSeq T (fun _=>#[v,v]) >>= _) _ _ _;refine U8 (Zw Pa rfl ?_);rw[ni];refine Vf ⟨YE Xg _,Gd Wk bt cm T nT _ 0 _ v _ rfl (by lia) (Wk.frame _ _ _ KD fun b bf o e=>?_) pv (WS _ Pa rfl) fun v2 h2 t2 p2 k2=>?_⟩
  ·exact(V3 _ _ (fun z:T=b=>nT (by rw[z];exact bf))).trans e
  ·exact fin v2 h2 t2 (by rw[Vt hn];exact p2) fun b o bw bT e=>k2 b o bw bT ((V3 _ _ (W7 bT)).trans (kk b o bw e))
end
variable{Q:Value->Shared->Prop}
theorem tree_kw{id:String}{bf:Builtin}{args:List Value}(hk:builtinKind id=none)(hp:plainId id=true)
  (hb:entryFor table id=some bf) (ha:argsOk id ⟨args,kw⟩)
  (hc:wpAny (model prog w) A.in1 (bf ⟨args,kw⟩) (fun fin s'=>match fin with
   | .done f=>(match(Except.ok f:Result) with | .ok (.ret v)=>Q v s' | .ok _=>False | .error e=>E e s')
   | .again c'=>c'.quiet=true/\codeAny (model prog w) A c' (fun r s'=>match r with | .ok (.ret v)=>Q v s' | .ok _=>False | .error e=>E e s') s') E s):wpAny (model prog w) A (call (.builtin id) args kw) Q E s:=by
 refine wpAny_call (codeAny_call_builtin hp hb ?_);simp only[checkBuiltinCall,hk];cases hsig:Manifest.signature? id with
 |none=>exact Vf hc
 |some sig=>
  have ha2:Bind.checkArgs id sig ⟨args,kw⟩=pure ():=by simpa only[argsOk,hsig] using ha
  simp only[ha2];exact Vf hc
theorem vJ(a d:Value):argsOk "max" ⟨[a],[(Str.ofString "default",d)]⟩:=by unfold argsOk;kernel_rfl
section
variable{k:Expr}{tk:TE}{p MN:Pos}
def maxD(ns:List Int)(d:Int):Int:=if ns=[] then d else maxOf ns
def Ge(K:W.Frag)(te tk:TE):TE:=fun σ H Q=>x6 te Fu σ H fun vs H1=>x6 tk Fu σ H1 fun ks H2=>∃(a:Addr) (ns:List Int) (d:Int),vs=[.ref a]/\ks=[.int d]/\(SqL K H2 a (ns.map V.int)\/SqT K H2 a (ns.map V.int))/\Q (.int (maxD ns d)) H2
theorem AH(hc:X.calm=true)(hg:Gl X "max")(hm:X.mg "max" = none)(he:PE X e te)(hk:PE X k tk)(hs:starEach [e] X.env=[(false,eval e X.env)]:=by rfl):
  PE X (.Call (.Name "max" p) [e] [⟨some "default",k,MN⟩] pos) (Ge X.K te tk):=by
 intro pr s σ H Q I h;refine Ws (gJ I hg hm (by decide +kernel:bootBuiltins "max" = some (.builtin "max")) ?_ (by decide) (by decide));refine callWith_kw (Ji (gK he oW (hs:=hs) pos pr s σ H _ I h) fun us s1 ⟨vs,H1,I1,r1,q1⟩=>?_) (by rw[hs];rfl) (by rw[hs];rfl);refine Ji (Al hk Di pos pr s1 σ H1 _ I1 q1) fun ws s2 Jk=>?_
 obtain⟨ks,H2,I2,r2,a,ns,d,e1,e2,hp,q⟩:=Jk;subst e1 e2;obtain⟨u,rfl,ru⟩:=fV r1;obtain⟨w',rfl,t,rfl⟩:=fV r2;cases ru;show wpAny _ _ (call (.builtin "max") [.ref a] [(Str.ofString "default",.int d t)]) _ _ s2;refine tree_kw F.kind_max F.plain_max F.entry_max (vJ _ _) ?_;show wpAny _ X.A.in1 (Builtin.Builtins.bindParams "max" ["key","default"] 0 ⟨[],[(Str.ofString "default",.int d t)]⟩ >>= _) _ _ s2;refine U8 (wpAny_of_eq (show Builtin.Builtins.bindParams "max" ["key","default"] 0 ⟨[],[(Str.ofString "default",.int d t)]⟩=pure [none,some (.int d t)] from rfl) ?_);refine U8 (Vf ?_);refine U8 (kF hc I2 hp fun it fp o ws Sx rv Wk st hf hit=>?_);have hl:=rv.length;rw[Ve]at hl;refine U8 (WL ?_);have nT:(s2.heap.push o).objs.size∉fp:=fun z=>Xy _ (hf _ z)
 rw[ni];refine Vf ⟨YE Xg _,yh Wk _ (rQ rv _) (s2.heap.push o).objs.size nT rfl (Wk.frame _ _ _ st fun b _ ob e=>Vc _ e) (Vy _ rfl) fun v h' Tj hv kk=>?_⟩;subst hit;have I3:Inv X pr σ H2 {s2 with heap:=h',toks:=Tj}:=il (s:=s2) (o:=o) I2 fun b ob nb e=>kk b ob nb (VI (Vr e)) (Vc _ e)
 refine⟨.int (maxD ns d),H2,I3,?_,q⟩;unfold maxD;by_cases hn:ns=[]
 ·rw[Vn (by rw[<-hl,hn];rfl)]at hv;rw[Vn hn,hv];exact⟨t,rfl⟩
 ·have h0:0<ns.length:=YJ.mpr hn;rw[Vt (by lia)]at hv;rw[Vt hn];obtain⟨b1,b2⟩:=nh ns (ns.length-1) (by lia);rw[<-hl]at hv;obtain⟨t2,rfl⟩:=fD rv hv;refine⟨t2,?_⟩;rw[b2,show ns.length-1+1=ns.length by lia,WZ];rfl
end
variable{items xs ys:Array Value}{h:Heap}{l l1 l2:Addr}{k1 k2:Bool}
section
theorem yi{t:Addr}{x:Value}(hi:s.heap.IsTupleIter it t i)(ht:s.heap.IsTuple t items)(hx:items[i]?=some x)
  (k:∀h',h'.IsTupleIter it t (i+1)->Heap.SameBut it s.heap h'->Q x {s with heap:=h'}):wpAny (model prog w) A (Builtin.SmallTypes.nextOf (.ref it)) Q E s:=by
 obtain⟨o,ho,oc,od⟩:=id hi;obtain⟨q,hq,_,n,qd⟩:=ht;unfold Builtin.SmallTypes.nextOf;refine U8 (Wo (name:=Str.ofString "__next__") hi.typeIs Xe (Xf Xe hi.typeIs YK ?_ (YF _)));show wpAny _ _ (field (.ref it) 0 >>= _) _ _ s;refine U8 (WB ho od (x:=.ref t) rfl ?_);show wpAny _ _ (if(Value.ref t==Value.none)=true then _ else _) _ _ s;rw[Vt (fun z:(Value.ref t==Value.none)=true=>Vg z)];show wpAny _ _ (field (.ref it) 1 >>= _) _ _ s;refine U8 (WB ho od (x:=.int i 0) rfl (U8 (Wm hq qd ?_)));simp only[W6,hx];refine U8 (wpAny_setField ho od (by simp) (Vf ⟨x,rfl,Vf (k _ ⟨_,WS _ ho (Obj.isFreed_of_fields (Obj.data_mapFields od _)),(Obj.cls_mapFields ..).trans oc,?_⟩ (Ya ..))⟩));rw[Obj.data_mapFields od];simp[rawInt]
theorem AI{t:Addr}{Q:Value->Shared->Prop}(hh:A.handled=none)(hi:s.heap.IsTupleIter it t i)(ht:s.heap.IsTuple t items)(hx:items[i]?=none)
  (k:∀h' e,Heap.ExtBut it s.heap h'->(∃o,h'.get? e=some o/\o.cls=.type "StopIteration")->E (.ref e) {s with heap:=h'}):wpAny (model prog w) A (Builtin.SmallTypes.nextOf (.ref it)) Q E s:=by
 obtain⟨o,ho,oc,od⟩:=id hi;obtain⟨q,hq,_,n,qd⟩:=ht;unfold Builtin.SmallTypes.nextOf;refine U8 (Wo (name:=Str.ofString "__next__") hi.typeIs Xe (Xf Xe hi.typeIs YK ?_ (YF _)));show wpAny _ _ (field (.ref it) 0 >>= _) _ _ s;refine U8 (WB ho od (x:=.ref t) rfl ?_);show wpAny _ _ (if(Value.ref t==Value.none)=true then _ else _) _ _ s;rw[Vt (fun z:(Value.ref t==Value.none)=true=>Vg z)];show wpAny _ _ (field (.ref it) 1 >>= _) _ _ s;refine U8 (WB ho od (x:=.int i 0) rfl (U8 (Wm hq qd ?_)));simp only[W6,hx];refine U8 (ZK (U8 (wpAny_setField ho od (by simp) ?_)));show wpAny _ _ (newExc (.type "StopIteration") [] >>= _) _ _ _;refine U8 ?_;simp only[newExc,newTuple];refine U8 (WL (U8 (m:=firstArgMember _ _) (wpAny_of_eq (a:=Value.none) (by first|rfl|(simp only[firstArgMember];rfl)) (WL ?_ (by size_fits)))) (by size_fits));simp only[raiseNew];refine U8 (wpAny_handled ?_);first
  |rw[show A.in1.handled=none from hh]
  |rw[hh]
 exact U8 (Vf (wpAny_throw (k _ _ (((Ya ..).extBut.push _).push _) ⟨_,Vy _ rfl,rfl⟩)))
def IsIt(k:Bool)(h:Heap)(it l:Addr)(i:Nat):Prop:=match k with
 |true=>h.IsListIter it l i
 |false=>h.IsTupleIter it l i
def IsSq(k:Bool)(h:Heap)(l:Addr)(xs:Array Value):Prop:=match k with
 |true=>h.IsList l xs
 |false=>h.IsTuple l xs
theorem IsIt.at{k:Bool}(x:IsIt k h it l i)(e:∀o,h.get? it=some o->h'.get? it=some o):IsIt k h' it l i:=by
 cases k with
 |true=>obtain⟨o,ho,r⟩:=(show h.IsListIter it l i from x);exact(show h'.IsListIter it l i from⟨o,e o ho,r⟩)
 |false=>obtain⟨o,ho,r⟩:=(show h.IsTupleIter it l i from x);exact(show h'.IsTupleIter it l i from⟨o,e o ho,r⟩)
theorem IsSq.at{k:Bool}(x:IsSq k h l xs)(e:∀o,h.get? l=some o->h'.get? l=some o):IsSq k h' l xs:=by
 cases k with
 |true=>obtain⟨o,ho,r⟩:=(show h.IsList l xs from x);exact(show h'.IsList l xs from⟨o,e o ho,r⟩)
 |false=>obtain⟨o,ho,r⟩:=(show h.IsTuple l xs from x);exact(show h'.IsTuple l xs from⟨o,e o ho,r⟩)
theorem IsIt.obj{k:Bool}(x:IsIt k h it l i):∃o,h.get? it=some o/\∀v,o.data≠.cell v:=by
 cases k with
 |true=>obtain⟨o,ho,_,d⟩:=(show h.IsListIter it l i from x);exact⟨o,ho,fun v z=>by rw[d]at z;cases z⟩
 |false=>obtain⟨o,ho,_,d⟩:=(show h.IsTupleIter it l i from x);exact⟨o,ho,fun v z=>by rw[d]at z;cases z⟩
theorem qK{k:Bool}{x:Value}(hi:IsIt k s.heap it l i)(hl:IsSq k s.heap l xs)(hx:xs[i]?=some x)
  (q:∀h',IsIt k h' it l (i+1)->Heap.SameBut it s.heap h'->Q x {s with heap:=h'}):wpAny (model prog w) A (Builtin.SmallTypes.nextOf (.ref it)) Q E s:=by
 cases k with
 |true=>exact wpAny_nextOf_list_item hi hl hx q
 |false=>exact yi hi hl hx q
theorem zp{k:Bool}{Q:Value->Shared->Prop}(hh:A.handled=none)(hi:IsIt k s.heap it l i)(hl:IsSq k s.heap l xs)(hx:xs[i]?=none)
  (q:∀h' e,Heap.ExtBut it s.heap h'->(∃o,h'.get? e=some o/\o.cls=.type "StopIteration")->E (.ref e) {s with heap:=h'}):wpAny (model prog w) A (Builtin.SmallTypes.nextOf (.ref it)) Q E s:=by
 cases k with
 |true=>exact wpAny_nextOf_list_end hh hi hl hx q
 |false=>exact AI hh hi hl hx q
theorem AJ{z TI TO i1 i2:Addr}{x y a b:Value}(D:ZipApart z TI TO i1 i2 l1 l2)(hz:IsZip s.heap z TI TO .none)(Me:IsPair s.heap TI (.ref i1) (.ref i2))(MQ:IsPair s.heap TO a b)
  (h1:IsIt k1 s.heap i1 l1 i) (h2:IsIt k2 s.heap i2 l2 i) (g1:IsSq k1 s.heap l1 xs) (g2:IsSq k2 s.heap l2 ys) (hx:xs[i]?=some x) (hy:ys[i]?=some y)
  (q:∀h',IsZip h' z TI TO (rawInt s.heap.objs.size)->IsPair h' TO x y->IsIt k1 h' i1 l1 (i+1)->IsIt k2 h' i2 l2 (i+1)->IsPair h' s.heap.objs.size x y->
   (∀c o,c≠z->c≠TO->c≠i1->c≠i2->s.heap.get? c=some o->h'.get? c=some o)->Q (.ref s.heap.objs.size) {s with heap:=h'}):
  wpAny (model prog w) A (Builtin.«zip.__next__» ⟨[.ref z],[]⟩) (fun fin s'=>∃v,fin=.done (.ret v)/\Q v s') E s:=by
 show wpAny _ _ (field (.ref z) 2 >>= _) _ _ _;refine U8 (WB hz rfl (x:=.bool false) rfl ?_);show wpAny _ _ (field (.ref z) 3 >>= _) _ _ _;refine U8 (WB hz rfl (x:=.ref TI) rfl (U8 (Wm Me rfl ?_)));show wpAny _ _ (Builtin.SmallTypes.ownedTupleIsFree (.ref z) >>= _) _ _ _;refine U8 ?_;unfold Builtin.SmallTypes.ownedTupleIsFree;refine U8 (WB hz rfl (x:=.none) rfl (Vf ?_));rw[Vn (by rfl)];refine U8 (ZK (U8 (WB hz rfl (x:=.ref TO) rfl (U8 (Xi hz (by simp) fun hA zA sA=>?_)))));have zA:IsZip hA z TI TO .ellipsis:=zA;refine U8 ?_;simp only[List.zipIdx_cons,List.zipIdx_nil,Zu,List.forIn_nil];refine U8 (U8 (Y8 ?_));show wpAny _ _ (Builtin.SmallTypes.nextOf (.ref i1) >>= _) _ _ _;refine U8 (qK (h1.at fun o e=>sA.extBut _ _ D.i1z e) (g1.at fun o e=>sA.extBut _ _ D.l1z e) hx fun hB iB sB=>Vf ?_);have tB:IsPair hB TO a b:=sB.extBut _ _ D.TOi1 (sA.extBut _ _ D.TOz MQ);refine U8 (Wm tB rfl (U8 (YB tB fun hC tC sC=>U8 (X9 (Vf ?_)))));have tC:IsPair hC TO x b:=tC;refine U8 (U8 (Y8 ?_));show wpAny _ _ (Builtin.SmallTypes.nextOf (.ref i2) >>= _) _ _ _;refine U8 (qK (h2.at fun o e=>sC.extBut _ _ D.TOi2.symm (sB.extBut _ _ D.i12.symm (sA.extBut _ _ D.i2z e))) (g2.at fun o e=>sC.extBut _ _ D.l2TO (sB.extBut _ _ D.l2i1 (sA.extBut _ _ D.l2z e))) hy fun hD iD sD=>Vf ?_);have tD:IsPair hD TO x b:=sD.extBut _ _ D.TOi2 tC;refine U8 (Wm tD rfl (U8 (YB tD fun hE tE sE=>U8 (X9 (Vf (Vf ?_))))));have tE:IsPair hE TO x y:=tE;refine U8 (Wm tE rfl (U8 (wpAny_newTuple ?_)));have ez:hE.objs.size=s.heap.objs.size:=by rw[sE.1,sD.1,sC.1,sB.1,sA.1]
 have zE:IsZip hE z TI TO .ellipsis:=sE.extBut _ _ D.TOz.symm (sD.extBut _ _ D.i2z.symm (sC.extBut _ _ D.TOz.symm (sB.extBut _ _ D.i1z.symm zA)));have kE:∀c o,c≠z->c≠TO->c≠i1->c≠i2->s.heap.get? c=some o->hE.get? c=some o:=fun c o c1 c2 c3 c4 e=>sE.extBut _ _ c2 (sD.extBut _ _ c4 (sC.extBut _ _ c2 (sB.extBut _ _ c3 (sA.extBut _ _ c1 e))))
 have i1E:IsIt k1 hE i1 l1 (i+1):=iB.at fun o e=>sE.extBut _ _ D.TOi1.symm (sD.extBut _ _ D.i12 (sC.extBut _ _ D.TOi1.symm e))
 have i2E:IsIt k2 hE i2 l2 (i+1):=iD.at fun o e=>sE.extBut _ _ D.TOi2.symm e
 show wpAny _ _ (Builtin.SmallTypes.ownedTupleHandOut (.ref z) (.ref hE.objs.size) >>= _) _ _ _;refine U8 ?_;unfold Builtin.SmallTypes.ownedTupleHandOut;have zF:IsZip (hE.push {cls:=.type "tuple",data:=.seq #[x,y]}) z TI TO .ellipsis:=Vc _ zE;refine U8 (Xi zF (by simp) fun hG zG sG=>?_);have zG:IsZip hG z TI TO (rawInt hE.objs.size):=zG;refine Xi zG (by simp) fun hK zK sK=>?_
 have zK:IsZip hK z TI TO (rawInt hE.objs.size):=zK;have up:∀c o,c≠z->hE.get? c=some o->hK.get? c=some o:=fun c o c1 e=>sK.extBut _ _ c1 (sG.extBut _ _ c1 (Vc _ e))
 have nz:hE.objs.size≠z:=aar (Vr zE);have tK:IsPair hK hE.objs.size x y:=sK.extBut _ _ nz (sG.extBut _ _ nz (Vy _ rfl));rw[ez]at zK tK;refine Vf ⟨_,rfl,?_⟩;show Q (.ref hE.objs.size) _;rw[ez];exact q hK zK (up _ _ D.TOz tE) (i1E.at fun o e=>up _ o D.i1z e) (i2E.at fun o e=>up _ o D.i2z e) tK fun c o c1 c2 c3 c4 e=>up c o c1 (kE c o c1 c2 c3 c4 e)
theorem Dw{z TI TO i1 i2:Addr}{a b:Value}{Q:Fin->Shared->Prop}(hh:A.handled=none)(D:ZipApart z TI TO i1 i2 l1 l2)(hz:IsZip s.heap z TI TO .none)(Me:IsPair s.heap TI (.ref i1) (.ref i2))(MQ:IsPair s.heap TO a b)
  (h1:IsIt k1 s.heap i1 l1 i) (h2:IsIt k2 s.heap i2 l2 i) (g1:IsSq k1 s.heap l1 xs) (g2:IsSq k2 s.heap l2 ys) (he:xs[i]?=none\/ys[i]?=none)
  (q:∀h' e,(∀c o,c≠z->c≠TO->c≠i1->c≠i2->s.heap.get? c=some o->h'.get? c=some o)->(∃o,h'.get? e=some o/\o.cls=.type "StopIteration")->E (.ref e) {s with heap:=h'}):
  wpAny (model prog w) A (Builtin.«zip.__next__» ⟨[.ref z],[]⟩) Q E s:=by
 show wpAny _ _ (field (.ref z) 2 >>= _) _ _ _;refine U8 (WB hz rfl (x:=.bool false) rfl ?_);show wpAny _ _ (field (.ref z) 3 >>= _) _ _ _;refine U8 (WB hz rfl (x:=.ref TI) rfl (U8 (Wm Me rfl ?_)));show wpAny _ _ (Builtin.SmallTypes.ownedTupleIsFree (.ref z) >>= _) _ _ _;refine U8 ?_;unfold Builtin.SmallTypes.ownedTupleIsFree;refine U8 (WB hz rfl (x:=.none) rfl (Vf ?_));rw[Vn (by rfl)];refine U8 (ZK (U8 (WB hz rfl (x:=.ref TO) rfl (U8 (Xi hz (by simp) fun hA zA sA=>?_)))));have zA:IsZip hA z TI TO .ellipsis:=zA;refine U8 ?_;simp only[List.zipIdx_cons,List.zipIdx_nil,Zu,List.forIn_nil];refine U8 (U8 (Y8 ?_));show wpAny _ _ (Builtin.SmallTypes.nextOf (.ref i1) >>= _) _ _ _;cases hx:xs[i]? with
 |none=>
  refine U8 (zp hh (h1.at fun o e=>sA.extBut _ _ D.i1z e) (g1.at fun o e=>sA.extBut _ _ D.l1z e) hx fun hB e sB Jk=>?_);obtain⟨oe,ge,ce⟩:=Jk;have zB:IsZip hB z TI TO .ellipsis:=sB _ _ D.i1z.symm zA;have ne:e≠z:=fun x=>by subst x;rw[zB]at ge;cases ge;simp at ce
  exact Xi zB (by simp) fun hC _ sC=>q hC e (fun c o c1 _ c3 _ x=>sC.extBut _ _ c1 (sB _ _ c3 (sA.extBut _ _ c1 x))) ⟨oe,sC.extBut _ _ ne ge,ce⟩
 |some x=>
  have hy:ys[i]?=none:=by
   rcases he with z|z
   ·rw[hx]at z;cases z
   ·exact z
  refine U8 (qK (h1.at fun o e=>sA.extBut _ _ D.i1z e) (g1.at fun o e=>sA.extBut _ _ D.l1z e) hx fun hB iB sB=>Vf ?_);have tB:IsPair hB TO a b:=sB.extBut _ _ D.TOi1 (sA.extBut _ _ D.TOz MQ);refine U8 (Wm tB rfl (U8 (YB tB fun hC tC sC=>U8 (X9 (Vf ?_)))));refine U8 (U8 (Y8 ?_));show wpAny _ _ (Builtin.SmallTypes.nextOf (.ref i2) >>= _) _ _ _;refine U8 (zp hh (h2.at fun o e=>sC.extBut _ _ D.TOi2.symm (sB.extBut _ _ D.i12.symm (sA.extBut _ _ D.i2z e))) (g2.at fun o e=>sC.extBut _ _ D.l2TO (sB.extBut _ _ D.l2i1 (sA.extBut _ _ D.l2z e))) hy fun hD e sD Jk=>?_);obtain⟨oe,ge,ce⟩:=Jk;have zD:IsZip hD z TI TO .ellipsis:=sD _ _ D.i2z.symm (sC.extBut _ _ D.TOz.symm (sB.extBut _ _ D.i1z.symm zA));have ne:e≠z:=fun x=>by subst x;rw[zD]at ge;cases ge;simp at ce
  exact Xi zD (by simp) fun hF _ sF=>q hF e (fun c o c1 c2 c3 c4 x=>sF.extBut _ _ c1 (sD _ _ c4 (sC.extBut _ _ c2 (sB.extBut _ _ c3 (sA.extBut _ _ c1 x))))) ⟨oe,sF.extBut _ _ ne ge,ce⟩
end
def itObj(k:Bool)(l:Addr):Obj:=match k with
 |true=>{cls:=.type "list_iterator",data:=.fields #[.ref l,.int 0 0]}
 |false=>{cls:=.type "tuple_iterator",data:=.fields #[.ref l,.int 0 0]}
theorem rS(k:Bool)(h:Heap)(l:Addr):IsIt k (h.push (itObj k l)) h.objs.size l 0:=by
 cases k with
 |true=>exact⟨_,Vy _ rfl,rfl,rfl⟩
 |false=>exact⟨_,Vy _ rfl,rfl,rfl⟩
abbrev zA(h:Heap)(k1:Bool)(l1:Addr):Heap:=h.push (itObj k1 l1)
abbrev zB(h:Heap)(k1 k2:Bool)(l1 l2:Addr):Heap:=(zA h k1 l1).push (itObj k2 l2)
abbrev zC(h:Heap)(k1 k2:Bool)(l1 l2:Addr):Heap:=(zB h k1 k2 l1 l2).push {cls:=.type "tuple",data:=.seq #[.ref h.objs.size,.ref (zA h k1 l1).objs.size]}
abbrev zD(h:Heap)(k1 k2:Bool)(l1 l2:Addr):Heap:=(zC h k1 k2 l1 l2).push {cls:=.type "tuple",data:=.seq #[.none,.none]}
abbrev zE(h:Heap)(k1 k2:Bool)(l1 l2:Addr):Heap:=(zD h k1 k2 l1 l2).push {cls:=.type "zip",data:=.fields #[.none,.bool false,.bool false,.ref (zB h k1 k2 l1 l2).objs.size,.ref (zC h k1 k2 l1 l2).objs.size]}
set_option maxHeartbeats 8000000 in
theorem Dx(k1 k2:Bool)(l1 l2:Addr)(xs ys:Array Value):
  Meets (Builtin.«zip.__new__» ⟨[.type "zip",.ref l1,.ref l2],[]⟩) (fun _ R s=>IsSq k1 s.heap l1 xs/\IsSq k2 s.heap l2 ys/\R (.ok (.ret (.ref (zD s.heap k1 k2 l1 l2).objs.size))) {s with heap:=zE s.heap k1 k2 l1 l2}):=
 .of_wp fun prog w A R s h=>by
  obtain⟨hp,g,d,tk,os⟩:=s;obtain⟨g1,g2,q⟩:=h;have LS:=sub_zip;cases k1 with
  |true=>
   have e1:Heap.IsList (Shared.heap ⟨hp,g,d,tk,os⟩) l1 xs:=g1;cases k2 with
   |true=>
    have e2:Heap.IsList (Shared.heap ⟨hp.push {cls:=.type "list_iterator",data:=.fields #[.ref l1,.int 0 0]},g,d,tk,os⟩) l2 ys:=Heap.IsList.push g2 _
    wp_walk using W5 e1,W5 e2
    exact⟨_,rfl,q⟩
   |false=>
    have e2:Heap.IsTuple (Shared.heap ⟨hp.push {cls:=.type "list_iterator",data:=.fields #[.ref l1,.int 0 0]},g,d,tk,os⟩) l2 ys:=Heap.IsTuple.push g2 _
    wp_walk using W5 e1,Xh e2
    exact⟨_,rfl,q⟩
  |false=>
   have e1:Heap.IsTuple (Shared.heap ⟨hp,g,d,tk,os⟩) l1 xs:=g1;cases k2 with
   |true=>
    have e2:Heap.IsList (Shared.heap ⟨hp.push {cls:=.type "tuple_iterator",data:=.fields #[.ref l1,.int 0 0]},g,d,tk,os⟩) l2 ys:=Heap.IsList.push g2 _
    wp_walk using Xh e1,W5 e2
    exact⟨_,rfl,q⟩
   |false=>
    have e2:Heap.IsTuple (Shared.heap ⟨hp.push {cls:=.type "tuple_iterator",data:=.fields #[.ref l1,.int 0 0]},g,d,tk,os⟩) l2 ys:=Heap.IsTuple.push g2 _
    wp_walk using Xh e1,Xh e2
    exact⟨_,rfl,q⟩
def ZS(k1 k2:Bool)(z TI TO i1 i2 l1 l2:Addr)(i:Nat)(h:Heap):Prop:=IsZip h z TI TO .none/\IsPair h TI (.ref i1) (.ref i2)/\(∃a b,IsPair h TO a b)/\IsIt k1 h i1 l1 i/\IsIt k2 h i2 l2 i
theorem AK{prog:Program}{w:World}{A:Around}{E:Value->Shared->Prop}(g1:IsSq k1 s.heap l1 xs)(g2:IsSq k2 s.heap l2 ys)
  (q:∀h',ZS k1 k2 (s.heap.objs.size+4) (s.heap.objs.size+2) (s.heap.objs.size+3) s.heap.objs.size (s.heap.objs.size+1) l1 l2 0 h'->(∀c o,s.heap.get? c=some o->h'.get? c=some o)->Q (.ref (s.heap.objs.size+4)) {s with heap:=h'}):
  wpAny (model prog w) A (call (.type "zip") [.ref l1,.ref l2]) Q E s:=by
 refine callType_new F.called_zip (by decide) (F.typeCall_zip_2 _ _) (F.newCall_zip_2 _ _) (fun obj=>F.args_object_init_3 obj _ _) F.entry_zip_new (Dx k1 k2 l1 l2 xs ys) ⟨g1,g2,?_⟩;have nA:(zA s.heap k1 l1).objs.size=s.heap.objs.size+1:=WO ..;have nB:(zB s.heap k1 k2 l1 l2).objs.size=s.heap.objs.size+2:=by rw[WO,nA]
 have nC:(zC s.heap k1 k2 l1 l2).objs.size=s.heap.objs.size+3:=by rw[WO,nB]
 have nD:(zD s.heap k1 k2 l1 l2).objs.size=s.heap.objs.size+4:=by rw[WO,nC]
 have pu:∀{h:Heap}{o:Obj}{c:Addr}{v:Obj},h.get? c=some v->(h.push o).get? c=some v:=fun e=>Vc _ e
 have gz:(zE s.heap k1 k2 l1 l2).get? (zD s.heap k1 k2 l1 l2).objs.size=some _:=Vy _ rfl;have go:(zE s.heap k1 k2 l1 l2).get? (zC s.heap k1 k2 l1 l2).objs.size=some _:=pu (Vy _ rfl);have gi:(zE s.heap k1 k2 l1 l2).get? (zB s.heap k1 k2 l1 l2).objs.size=some _:=pu (pu (Vy _ rfl));have j2:IsIt k2 (zE s.heap k1 k2 l1 l2) (zA s.heap k1 l1).objs.size l2 0:=(rS k2 (zA s.heap k1 l1) l2).at fun o e=>pu (pu (pu e))
 have j1:IsIt k1 (zE s.heap k1 k2 l1 l2) s.heap.objs.size l1 0:=(rS k1 s.heap l1).at fun o e=>pu (pu (pu (pu e)))
 show _/\_;rw[nB,nC,nD]at gz;rw[nA,nB]at gi;rw[nC]at go;rw[nA]at j2;rw[nD];exact⟨⟨_,gz,rfl⟩,q _ ⟨gz,gi,⟨_,_,go⟩,j1,j2⟩ fun c o x=>pu (pu (pu (pu (pu x))))⟩
noncomputable def Tn(K:W.Frag)(k1 k2:Bool)(a b:Addr):It:=
 ⟨fun i H=>∃xs ys x y,(if k1 then SqL K H a xs else SqT K H a xs)/\(if k2 then SqL K H b ys else SqT K H b ys)/\xs[i]?=some x/\ys[i]?=some y,
  fun i H v H'=>∃T,H T=none/\v=.ref T/\∀xs ys x y,(if k1 then SqL K H a xs else SqT K H a xs)->(if k2 then SqL K H b ys else SqT K H b ys)->xs[i]?=some x->ys[i]?=some y->H'=upd H T (.tup [x,y]),
  fun i H=>∃xs ys,(if k1 then SqL K H a xs else SqT K H a xs)/\(if k2 then SqL K H b ys else SqT K H b ys)/\i=min xs.length ys.length⟩
variable{a:Addr}
section
theorem ug(I:Inv X pr σ H s){k:Bool}{xs:List V}(h:if k then SqL X.K H a xs else SqT X.K H a xs):∃us:List Value,Vals xs us/\IsSq k s.heap a us.toArray:=by
 cases k with
 |true=>
  obtain⟨us,r,p,_⟩:=I.list (show SqL X.K H a xs from h);exact⟨us,r,p.isList⟩
 |false=>
  obtain⟨us,r,p,_⟩:=I.tuple (show SqT X.K H a xs from h);exact⟨us,r,(show s.heap.IsTuple a us.toArray from p)⟩
theorem zq(I:Inv X pr σ H s){k:Bool}{xs ys:List V}(h:if k then SqL X.K H a xs else SqT X.K H a xs)(h':if k then SqL X.K H a ys else SqT X.K H a ys):xs=ys:=by
 cases k with
 |true=>exact I.list_inj (show SqL X.K H a xs from h) (show SqL X.K H a ys from h')
 |false=>exact I.tuple_inj (show SqT X.K H a xs from h) (show SqT X.K H a ys from h')
theorem iF(I:Inv X pr σ H s){k:Bool}{b:Addr}{xs:List V}(h:if k then SqL X.K H a xs else SqT X.K H a xs)(f:uO X pr H b):a≠b:=by
 rintro rfl;obtain⟨f0,_,_,f3,_⟩:=f;have nb:∀o,X.K.lookup a=some o->False:=fun o hk=>by
  have e:=I.ok.mod.kin a o hk;rcases f3 with z|z
  ·exact I.ok.noex a o e z
  ·exact absurd (Vv (Vr e) (VR I.ok.bsz z)) (Xy _)
 cases k with
 |true=>
  rcases(show SqL X.K H a xs from h) with(h|⟨o,h⟩)|⟨o,IS,n,hk,_⟩
  ·rw[f0]at h;cases h
  ·rw[f0]at h;cases h
  ·exact nb o hk
 |false=>
  rcases(show SqT X.K H a xs from h) with(h|⟨o,h⟩)|⟨o,IS,n,hk,_⟩
  ·rw[f0]at h;cases h
  ·rw[f0]at h;cases h
  ·exact nb o hk
end
theorem nx_zip_item{prog:Program}{w:World}{A:Around}{E:Value->Shared->Prop}{z TI TO i1 i2:Addr}{x y:Value}{Q:Option Value->Shared->Prop}(D:ZipApart z TI TO i1 i2 l1 l2)(st:ZS k1 k2 z TI TO i1 i2 l1 l2 i s.heap)
  (g1:IsSq k1 s.heap l1 xs) (g2:IsSq k2 s.heap l2 ys) (hx:xs[i]?=some x) (hy:ys[i]?=some y)
  (q:∀h',IsZip h' z TI TO (rawInt s.heap.objs.size)->IsPair h' TO x y->IsIt k1 h' i1 l1 (i+1)->IsIt k2 h' i2 l2 (i+1)->IsPair h' s.heap.objs.size x y->
   (∀c o,c≠z->c≠TO->c≠i1->c≠i2->s.heap.get? c=some o->h'.get? c=some o)->Q (some (.ref s.heap.objs.size)) {s with heap:=h'}):wpAny (model prog w) A (pyNext (.ref z)) Q E s:=by
 obtain⟨hz,Me,⟨a,b,MQ⟩,h1,h2⟩:=st;have ty:s.TypeIs (.ref z) "zip":=⟨_,hz,rfl⟩
 unfold pyNext;exact U8 (wpAny_attempt (Wo (name:=Str.ofString "__next__") ty YL (Xf YL ty F.entry_zip_next (AJ D hz Me MQ h1 h2 g1 g2 hx hy fun h' a1 a2 a3 a4 a5 a6=>Vf (q h' a1 a2 a3 a4 a5 a6)) (F.args_zip_next_1 _))))
theorem uh{prog:Program}{w:World}{E:Value->Shared->Prop}{z TI TO i1 i2:Addr}{Q:Option Value->Shared->Prop}(hh:A.handled=none)(D:ZipApart z TI TO i1 i2 l1 l2)(st:ZS k1 k2 z TI TO i1 i2 l1 l2 i s.heap)
  (g1:IsSq k1 s.heap l1 xs) (g2:IsSq k2 s.heap l2 ys) (he:xs[i]?=none\/ys[i]?=none) (q:∀h',(∀c o,c≠z->c≠TO->c≠i1->c≠i2->s.heap.get? c=some o->h'.get? c=some o)->Q none {s with heap:=h'}):wpAny (model prog w) A (pyNext (.ref z)) Q E s:=by
 obtain⟨hz,Me,⟨a,b,MQ⟩,h1,h2⟩:=st;have ty:s.TypeIs (.ref z) "zip":=⟨_,hz,rfl⟩
 unfold pyNext;refine U8 (wpAny_attempt (Wo (name:=Str.ofString "__next__") ty YL (Xf YL ty F.entry_zip_next (Dw hh D hz Me MQ h1 h2 g1 g2 he fun h' e kk ⟨o,ho,oc⟩=>?_) (F.args_zip_next_1 _))));exact U8 (wpAny_isInstance (T:="StopIteration") (b:=true) ⟨o,ho,oc⟩ isSubtype_stop (Vf (q _ kk)))
variable{kt:Nat}
theorem yj{P:Program}{K:W.Frag}{pt:Pos}(k1 k2:Bool)(a b z TI TO i1 i2:Addr)(ne:z≠TI/\z≠TO/\z≠i1/\z≠i2/\TI≠TO/\TI≠i1/\TI≠i2/\TO≠i1/\TO≠i2/\i1≠i2):
  Turn P w K (.Tuple es kt pt) (Tn K k1 k2 a b) [z,TI,TO,i1,i2] z (ZS k1 k2 z TI TO i1 i2 a b) where
 mem:=by simp
 obj:=fun i h st c hc=>by
  obtain⟨hz,Me,⟨x,y,MQ⟩,h1,h2⟩:=st;simp only[Vo,Wn,aaL]at hc;rcases hc with rfl|rfl|rfl|rfl|rfl
  ·exact⟨_,hz,fun v q=>by cases q⟩
  ·exact⟨_,Me,fun v q=>by cases q⟩
  ·exact⟨_,MQ,fun v q=>by cases q⟩
  ·exact h1.obj
  ·exact h2.obj
 keep:=fun i h h' st k=>by
  obtain⟨hz,Me,⟨x,y,MQ⟩,h1,h2⟩:=st;exact⟨k z (by simp) _ hz,k TI (by simp) _ Me,⟨x,y,k TO (by simp) _ MQ⟩,h1.at fun o e=>k i1 (by simp) o e,h2.at fun o e=>k i2 (by simp) o e⟩
 item:=by
  intro X hP hw hK hc i pr s σ H E I hf st hg;subst hP hw hK;obtain⟨xs,ys,x,y,s1,s2,hx,hy⟩:=hg;obtain⟨us,r1,q1⟩:=ug I s1;obtain⟨ws,r2,q2⟩:=ug I s2;obtain⟨u,hu,ru⟩:=r1.get hx;obtain⟨v,hv,rv⟩:=r2.get hy;obtain⟨n1,n2,n3,n4,n5,n6,n7,n8,n9,To⟩:=ne;have f:=fun c hc=>hf c hc
  have D:ZipApart z TI TO i1 i2 a b:=⟨n1.symm,n2.symm,n3.symm,n4.symm,n5,n6,n7,n8,n9,To,iF I s1 (f z (by simp)),iF I s1 (f TO (by simp)),iF I s1 (f i1 (by simp)),iF I s1 (f i2 (by simp)),
   iF I s2 (f z (by simp)),iF I s2 (f TO (by simp)),iF I s2 (f i1 (by simp)),iF I s2 (f i2 (by simp))⟩
  have Me:=st.2.1;refine nx_zip_item D st q1 q2 (by simpa using hu) (by simpa using hv) fun h' z1 t1 j1 j2 tp kk=>⟨_,rfl,?_⟩
  refine wpAny_letOwnedTupleGo_zip z1 fun h2 z2 sb=>?_
  have nT:H s.heap.objs.size=none:=I.hok.fresh (Vl _);have tT:s.heap.objs.size≠z:=aar (Vr st.1);have all:∀c o,c≠z->c≠TO->c≠i1->c≠i2->s.heap.get? c=some o->h2.get? c=some o:=fun c o c1 c2 c3 c4 e=>(sb.2 c c1).trans (kk c o c1 c2 c3 c4 e)
  have fz:=f z (by simp);have fo:=f TO (by simp);have f1:=f i1 (by simp);have f2:=f i2 (by simp);have Pz:∀c ob,H c=some ob->c≠z/\c≠TO/\c≠i1/\c≠i2:=fun c ob e=>⟨(fun q=>by rw[q,fz.1]at e;cases e),(fun q=>by rw[q,fo.1]at e;cases e),(fun q=>by rw[q,f1.1]at e;cases e),(fun q=>by rw[q,f2.1]at e;cases e)⟩
  refine⟨.ref s.heap.objs.size,upd H s.heap.objs.size (.tup [x,y]),?_,rfl,⟨_,nT,rfl,fun J8 ys' x' y' a1 a2 a3 a4=>?_⟩,⟨z2,?_,⟨u,v,(sb.2 TO n2.symm).trans t1⟩,j1.at fun o e=>(sb.2 i1 n3.symm).trans e,j2.at fun o e=>(sb.2 i2 n4.symm).trans e⟩,fun c hc=>?_⟩
  ·have tup2:h2.get? s.heap.objs.size=some {cls:=.type "tuple",data:=.seq #[u,v]}:=(sb.2 _ tT).trans tp;have S0:Inv X pr σ (upd H s.heap.objs.size (.tup [x,y])) {s with heap:=h2,gens:=s.gens,drawn:=s.drawn,toks:=s.toks}:=by
    refine I.step (ch:=[z,TO,i1,i2]) (fun c hc=>?_) (fun c o _ _ nc e _=>all c o (fun q=>nc (by simp[q])) (fun q=>nc (by simp[q])) (fun q=>nc (by simp[q])) (fun q=>nc (by simp[q])) e)
     (fun c o _ _ nc e _=>⟨o.slots,all c o (fun q=>nc (by simp[q])) (fun q=>nc (by simp[q])) (fun q=>nc (by simp[q])) (fun q=>nc (by simp[q])) e⟩) (fun c o _ e n=>by rw[aF (VI (Vr e))];exact n)
     (fun c o nc e=>⟨o,all c o (fun q=>nc (by simp[q])) (fun q=>nc (by simp[q])) (fun q=>nc (by simp[q])) (fun q=>nc (by simp[q])) e⟩) (fun c l e=>by rw[aF (bq e nT)];exact e) (fun c o u' e=>by rw[aF (bq e nT)];exact e)
     (fun c ps e=>⟨#[],by rw[aF (bq e nT),e];simp⟩) (fun m hm=>?_) (fun c ob e=>?_) I.bare
    ·simp only[Vo,Wn,aaL]at hc;rcases hc with rfl|rfl|rfl|rfl
     ·exact⟨fz.2.2.2.1,fz.2.1,fz.2.2.2.2.1,fz.2.2.2.2.2⟩
     ·exact⟨fo.2.2.2.1,fo.2.1,fo.2.2.2.2.1,fo.2.2.2.2.2⟩
     ·exact⟨f1.2.2.2.1,f1.2.1,f1.2.2.2.2.1,f1.2.2.2.2.2⟩
     ·exact⟨f2.2.2.2.1,f2.2.1,f2.2.2.2.2.1,f2.2.2.2.2.2⟩
    ·obtain⟨o,es,ep,ho,r⟩:=hm;exact⟨o,es,ep,all _ o (W7 fz.2.1) (W7 fo.2.1) (W7 f1.2.1) (W7 f2.2.1) ho,r⟩
    ·by_cases ec:c=s.heap.objs.size
     ·subst ec;rw[bc]at e;cases e;exact⟨by simp only[Vm,Wl];rw[Wr];decide,[u,v],.cons ru (.cons rv .nil),⟨_,tup2,rfl,⟨0,rfl⟩,rfl⟩⟩
     ·rw[aF ec]at e;refine(I.hok c ob e).stay (fun d w' hd q=>?_) (fun d q=>by rw[aF (bq q nT)];exact q) fun d l q=>by rw[aF (bq q nT)];exact q
      have Mw:∃oo,H d=some oo:=by
       rcases hd with rfl|hd
       ·exact⟨_,e⟩
       ·exact⟨_,hd⟩
      obtain⟨oo,Tp⟩:=Mw;obtain⟨m1,m2,m3,m4⟩:=Pz d oo Tp;exact all d w' m1 m2 m3 m4 q
   exact S0
  ·have e1:=zq I a1 s1;have e2:=zq I a2 s2;subst e1 e2;rw[hx]at a3;rw[hy]at a4;cases a3;cases a4;rfl
  ·exact(sb.2 TI n1.symm).trans (kk TI _ n1.symm n5 n6 n7 Me)
  ·have hc0:=(f c hc).1;have cs:c≠s.heap.objs.size:=by
    have:=(fun i h st=>by
     exact(by
      obtain⟨hz,Me,⟨x,y,MQ⟩,h1,h2⟩:=st;simp only[Vo,Wn,aaL]at hc;rcases hc with rfl|rfl|rfl|rfl|rfl
      ·exact⟨_,hz⟩
      ·exact⟨_,Me⟩
      ·exact⟨_,MQ⟩
      ·obtain⟨o,e,_⟩:=h1.obj;exact⟨o,e⟩
      ·obtain⟨o,e,_⟩:=h2.obj;exact⟨o,e⟩:∃o,h.get? c=some o):∀i h,ZS k1 k2 z TI TO i1 i2 a b i h->∃o,h.get? c=some o) i s.heap st
    obtain⟨o,e⟩:=this;exact VI (Vr e)
   rw[aF cs];exact hc0
 done:=by
  intro X hP hw hK hc i pr s σ H E I hf st hg;subst hP hw hK;obtain⟨xs,ys,s1,s2,hi⟩:=hg;obtain⟨us,r1,q1⟩:=ug I s1;obtain⟨ws,r2,q2⟩:=ug I s2;have l1:=r1.length;have l2:=r2.length;obtain⟨n1,n2,n3,n4,n5,n6,n7,n8,n9,To⟩:=ne;have f:=fun c hc=>hf c hc
  have D:ZipApart z TI TO i1 i2 a b:=⟨n1.symm,n2.symm,n3.symm,n4.symm,n5,n6,n7,n8,n9,To,iF I s1 (f z (by simp)),iF I s1 (f TO (by simp)),iF I s1 (f i1 (by simp)),iF I s1 (f i2 (by simp)),
   iF I s2 (f z (by simp)),iF I s2 (f TO (by simp)),iF I s2 (f i1 (by simp)),iF I s2 (f i2 (by simp))⟩
  have fz:=f z (by simp);have fo:=f TO (by simp);have f1:=f i1 (by simp);have f2:=f i2 (by simp);refine uh (I.ok.hd hc) D st q1 q2 (by
   rcases Nat.le_total us.length ws.length with q|q
   ·exact .inl (by simp;lia)
   ·exact .inr (by simp;lia)) fun h' kk=>⟨rfl,?_⟩
  have Pz:∀c ob,H c=some ob->c≠z/\c≠TO/\c≠i1/\c≠i2:=fun c ob e=>⟨(fun q=>by rw[q,fz.1]at e;cases e),(fun q=>by rw[q,fo.1]at e;cases e),(fun q=>by rw[q,f1.1]at e;cases e),(fun q=>by rw[q,f2.1]at e;cases e)⟩
  have S0:Inv X pr σ H {s with heap:=h',gens:=s.gens,drawn:=s.drawn,toks:=s.toks}:=by
   refine I.step (ch:=[z,TO,i1,i2]) (fun c hc=>?_) (fun c o _ _ nc e _=>kk c o (fun q=>nc (by simp[q])) (fun q=>nc (by simp[q])) (fun q=>nc (by simp[q])) (fun q=>nc (by simp[q])) e)
    (fun c o _ _ nc e _=>⟨o.slots,kk c o (fun q=>nc (by simp[q])) (fun q=>nc (by simp[q])) (fun q=>nc (by simp[q])) (fun q=>nc (by simp[q])) e⟩) (fun c o _ e n=>n)
    (fun c o nc e=>⟨o,kk c o (fun q=>nc (by simp[q])) (fun q=>nc (by simp[q])) (fun q=>nc (by simp[q])) (fun q=>nc (by simp[q])) e⟩) (fun c l e=>e) (fun c o u' e=>e)
    (fun c ps e=>⟨#[],by rw[e];simp⟩) (fun m hm=>?_) (fun c ob e=>?_) I.bare
   ·simp only[Vo,Wn,aaL]at hc;rcases hc with rfl|rfl|rfl|rfl
    ·exact⟨fz.2.2.2.1,fz.2.1,fz.2.2.2.2.1,fz.2.2.2.2.2⟩
    ·exact⟨fo.2.2.2.1,fo.2.1,fo.2.2.2.2.1,fo.2.2.2.2.2⟩
    ·exact⟨f1.2.2.2.1,f1.2.1,f1.2.2.2.2.1,f1.2.2.2.2.2⟩
    ·exact⟨f2.2.2.2.1,f2.2.1,f2.2.2.2.2.1,f2.2.2.2.2.2⟩
   ·obtain⟨o,es,ep,ho,r⟩:=hm;exact⟨o,es,ep,kk _ o (W7 fz.2.1) (W7 fo.2.1) (W7 f1.2.1) (W7 f2.2.1) ho,r⟩
   ·refine(I.hok c ob e).stay (fun d w' hd q=>?_) (fun d q=>q) fun d l q=>q
    have Mw:∃oo,H d=some oo:=by
     rcases hd with rfl|hd
     ·exact⟨_,e⟩
     ·exact⟨_,hd⟩
    obtain⟨oo,Tp⟩:=Mw;obtain⟨m1,m2,m3,m4⟩:=Pz d oo Tp;exact kk d w' m1 m2 m3 m4 q
  exact S0
 self:=fun _ _ _ _ _ st h=>wpAny_pyIter_zip st.1 h
section
variable{pt:Pos}
def Im(K:W.Frag)(k1 k2:Bool)(ta:TA):TI:=fun σ H R=>ta σ H fun vs H1=>∃a b xs ys,vs=[.ref a,.ref b]/\(if k1 then SqL K H1 a xs else SqT K H1 a xs)/\(if k2 then SqL K H1 b ys else SqT K H1 b ys)/\R (Tn K k1 k2 a b) H1
theorem Dy(k1 k2:Bool){e1 e2:Expr}{ta:TA}{p pos:Pos}(hg:Gl X "zip")(hm:X.mg "zip" = none)(ha:PA X [e1,e2] ta)(he:starEach [e1,e2] X.env=(false,eval e1 X.env)::starEach [e2] X.env:=by rfl)(JS:(backTo pos (starEach [e2] X.env)).any (·.1)=false:=by rfl):
  PI X (.Tuple es kt pt) (.Call (.Name "zip" p) [e1,e2] [] pos) (Im X.K k1 k2 ta):=by
 intro pr s σ H R I h;refine Ws (gJ I hg hm (by decide +kernel:bootBuiltins "zip" = some (.type "zip")) ?_ (by decide) (by decide));refine Wj (Ji (ha pos pr s σ H _ I h) fun us s1 ⟨vs,H1,I1,r1,a,b,xs,ys,e,s1',s2',q⟩=>?_) he JS;subst e;obtain⟨u,w',rfl,ra,rb⟩:=x5 r1;cases ra;cases rb;obtain⟨us,v1,q1⟩:=ug I1 s1';obtain⟨ws,v2,q2⟩:=ug I1 s2';refine AK q1 q2 fun h' st kk=>?_
 refine wpAny_pyIter_zip st.1 ?_;have fr:∀j,uO X pr H1 (s1.heap.objs.size+j):=fun j=>I1.fpOk (Zi _ _) (I1.hok.fresh (Zi _ _))
 have nn:∀i j:Nat,i≠j->s1.heap.objs.size+i≠s1.heap.objs.size+j:=fun i j h z=>h (Nat.add_left_cancel z)
 refine⟨_,_,_,_,H1,rfl,I1.kept (t':=s1.toks) kk,yj k1 k2 a b (s1.heap.objs.size+4) (s1.heap.objs.size+2) (s1.heap.objs.size+3) (s1.heap.objs.size+0) (s1.heap.objs.size+1)
  ⟨nn 4 2 (by decide),nn 4 3 (by decide),nn 4 0 (by decide),nn 4 1 (by decide),nn 2 3 (by decide),nn 2 0 (by decide),nn 2 1 (by decide),nn 3 0 (by decide),nn 3 1 (by decide),nn 0 1 (by decide)⟩,st,fun c hc=>?_,q⟩
 simp only[Vo,Wn,aaL]at hc;rcases hc with rfl|rfl|rfl|rfl|rfl
 ·exact fr 4
 ·exact fr 2
 ·exact fr 3
 ·exact fr 0
 ·exact fr 1
end
end NX
namespace NX
open PySem PySem.W PyProof.Rows
variable{p:Array Nat}{Jz i:Nat}{Q:Nat×Array Nat->Shared->Prop}{s:Shared}
section
variable{n:Nat}{O:KeyOrd}{κ:Nat->O.α}{cmp:Nat->Nat->(Bool->Shared->Prop)->Shared->Prop}{Good:Shared->Prop}
def kk(κ:Nat->O.α)(p:Array Nat)(i:Nat):O.α:=κ (p.getD i 0)
structure POk(n:Nat)(p:Array Nat):Prop where
 perm:p.toList.Perm (List.range n)
theorem POk.size{p:Array Nat}(h:POk n p):p.size=n:=by
 have:=h.perm.length_eq;simpa using this
theorem POk.lt(h:POk n p)(hi:i<n):p.getD i 0<n:=by
 have hs:=h.size;have L9:i<p.size:=by lia
 have e:p.getD i 0=p[i]:=by simp[Array.getD,L9]
 rw[e];exact VD.mp (h.perm.mem_iff.mp (Array.getElem_mem_toList L9))
theorem POk.of{q:Array Nat}(h:POk n p)(hq:q.Perm p):POk n q:=⟨(Array.perm_iff_toList_perm.mp hq).trans h.perm⟩
def bE(κ:Nat->O.α)(p:Array Nat)(m:Nat):Prop:=∀i j,i<=j->j<m->O.kle (kk κ p i) (kk κ p j)
def fW(κ:Nat->O.α)(p:Array Nat)(m:Nat):Prop:=∀i j,i<=j->j<m->O.kle (kk κ p j) (kk κ p i)
theorem fK{q:Array Nat}{j:Nat}(h:p[i]?=q[j]?):p.getD i 0=q.getD j 0:=by
 rw[VX,VX,h]
theorem rT{j:Nat}(hj:j<=p.size)(k:Nat):kk κ (kas_rev p i j) k=if i<=k/\k<j then kk κ p (i+j-1-k) else kk κ p k:=by
 have e:=getElem?_mirror_all (i:=i) hj k;unfold kk kas_rev;split
 ·rename_i h;rw[Vn h]at e;rw[fK e]
 ·rename_i h;rw[Vt h]at e;rw[fK e]
theorem zr{src d:Nat}(hs:src<p.size)(hd:d<=src)(k:Nat):kk κ (bubble p src d) k=if k=src-d then kk κ p src else if src-d<k/\k<=src then kk κ p (k-1) else kk κ p k:=by
 have e:=getElem?_bubble hs d hd k;by_cases h:k=src-d
 ·rw[Vn h]at e ⊢;exact WM κ (fK e)
 ·rw[Vt h]at e ⊢;by_cases h2:src-d<k/\k<=src
  ·rw[Vn h2]at e ⊢;exact WM κ (fK e)
  ·rw[Vt h2]at e ⊢;exact WM κ (fK e)
theorem POk.rev(h:POk n p)(i j:Nat):POk n (kas_rev p i j):=h.of (mirror_perm _ _ _ _)
theorem POk.bub(h:POk n p)(i j:Nat):POk n (bubble p i j):=h.of (bubble_perm _ _ _)
theorem uk(p:Array Nat):bE κ p 1:=fun i j a b=>by
 have e:i=j:=by lia
 rw[e];exact Xb _
theorem qL{m:Nat}(h1:1<=m)(h:bE κ p m)(hm:O.kle (kk κ p (m-1)) (kk κ p m)):bE κ p (m+1):=by
 intro i j NR hj;by_cases e:j=m
 ·subst e;by_cases e2:i=j
  ·subst e2;exact Xb _
  ·exact Yx (h i (j-1) (by lia) (by lia)) hm
 ·exact h i j NR (by lia)
theorem fL{m:Nat}(h1:1<=m)(h:fW κ p m)(hm:O.kle (kk κ p m) (kk κ p (m-1))):fW κ p (m+1):=by
 intro i j NR hj;by_cases e:j=m
 ·subst e;by_cases e2:i=j
  ·subst e2;exact Xb _
  ·exact Yx hm (h i (j-1) (by lia) (by lia))
 ·exact h i j NR (by lia)
variable(hc:∀i j,i<n->j<n->∀(Q:Bool->Shared->Prop) s,Good s->(∀s',Good s'->Q (O.blt (κ i) (κ j)) s')->cmp i j Q s)
include hc
theorem vK{p:Array Nat}(hp:POk n p){Jz:Nat}(hn:Jz<=n){Q:Nat->Shared->Prop}:∀(f m:Nat) (s:Shared),Good s->1<=m->m+f=Jz->bE κ p m->
  (∀r s',Good s'->m<=r->r<=Jz->bE κ p r->(r<Jz->O.klt (kk κ p r) (kk κ p (r-1)))->Q r s')->(kas_asc p f m).kasWp cmp Q s
 | 0,m,s,g,h1,hf,hs,k=>k m s g (Vl _) (by lia) hs (fun z=>by lia)
 |f+1,m,s,g,h1,hf,hs,k=>by
  show cmp (p.getD m 0) (p.getD (m-1) 0) _ s;refine hc _ _ (hp.lt (by lia)) (hp.lt (by lia)) _ s g fun s' g'=>?_
  cases e:O.blt (κ (p.getD m 0)) (κ (p.getD (m-1) 0)) with
  |true=>
   (try dsimp only)
   rw[Vn rfl];exact k m s' g' (Vl _) (by lia) hs fun _=>e
  |false=>
   (try dsimp only)
   rw[Vt Vg];exact vK hp hn f (m+1) s' g' (by lia) (by lia) (qL h1 hs e) fun r s2 g2 a b c d=>k r s2 g2 (by lia) b c d
def AL(κ:Nat->O.α)(p:Array Nat)(m q:Nat):Prop:=∀k,m-(q+1)<=k->k<m->kk κ p k=kk κ p (m-1)
omit hc in
theorem pq{m q:Nat}(hm:m<=p.size)(h:AL κ p m q)(k:Nat):kk κ (kas_rev p (m-(q+1)) m) k=kk κ p k:=by
 rw[rT hm];split
 ·rename_i hk;rw[h _ (by lia) (by lia),h k hk.1 hk.2]
 ·rfl
omit hc in
theorem jP{p':Array Nat}{m:Nat}(e:∀k,kk κ p' k=kk κ p k)(h:fW κ p m):fW κ p' m:=fun i j a b=>by rw[e,e];exact h i j a b
theorem nj{Jz:Nat}(hn:Jz<=n){Q:Array Nat×Nat×Nat->Shared->Prop}:∀(f:Nat) (p:Array Nat) (m q:Nat) (s:Shared),POk n p->Good s->1<=m->q+1<=m->m+f=Jz->fW κ p m->AL κ p m q->
  (∀p' m' q' s',POk n p'->Good s'->m<=m'->m'<=Jz->q'+1<=m'->fW κ p' m'->AL κ p' m' q'->Q (p',m',q') s')->(kas_desc f p m q).kasWp cmp Q s
 | 0,p,m,q,s,hp,g,h1,hq,hf,hs,ha,k=>k p m q s hp g (Vl _) (by lia) hq hs ha
 |f+1,p,m,q,s,hp,g,h1,hq,hf,hs,ha,k=>by
  show cmp (p.getD m 0) (p.getD (m-1) 0) _ s;refine hc _ _ (hp.lt (by lia)) (hp.lt (by lia)) _ s g fun s' g'=>?_
  have hsz:=hp.size;cases e:O.blt (κ (p.getD m 0)) (κ (p.getD (m-1) 0)) with
  |true=>
   (try dsimp only)
   rw[Vn rfl];have le:O.kle (kk κ p m) (kk κ p (m-1)):=Yq e;by_cases h0:q>0
   ·rw[Vn h0];have same:=pq (κ:=κ) (p:=p) (m:=m) (q:=q) (by lia) ha;refine nj hn f _ (m+1) 0 s' (hp.rev _ _) g' (by lia) (by lia) (by lia) (fL h1 (jP same hs) (by rw[same,same];exact le)) ?_ fun p' m' q' s2 a b c d e' f' g2=>k p' m' q' s2 a b (by lia) d e' f' g2
    intro k' a b;have:k'=m:=by lia
    rw[this];rfl
   ·rw[Vt h0];refine nj hn f p (m+1) 0 s' hp g' (by lia) (by lia) (by lia) (fL h1 hs le) ?_ fun p' m' q' s2 a b c d e' f' g2=>k p' m' q' s2 a b (by lia) d e' f' g2
    intro k' a b;have:k'=m:=by lia
    rw[this];rfl
  |false=>
   (try dsimp only)
   rw[Vt Vg];show cmp (p.getD (m-1) 0) (p.getD m 0) _ s';refine hc _ _ (hp.lt (by lia)) (hp.lt (by lia)) _ s' g' fun s2 g2=>?_
   cases e2:O.blt (κ (p.getD (m-1) 0)) (κ (p.getD m 0)) with
   |true=>
    (try dsimp only)
    rw[Vn rfl];exact k p m q s2 hp g2 (Vl _) (by lia) hq hs ha
   |false=>
    (try dsimp only)
    rw[Vt Vg];have eq:kk κ p (m-1)=kk κ p m:=KeyOrd.kle_antisymm (O:=O) e e2;refine nj hn f p (m+1) (q+1) s2 hp g2 (by lia) (by lia) (by lia) (fL h1 hs (by rw[eq];exact Xb _)) ?_ fun p' m' q' s3 a b c d e' f' g3=>k p' m' q' s3 a b (by lia) d e' f' g3
    intro k' a b;show kk κ p k'=kk κ p m;by_cases z:k'=m
    ·rw[z]
    ·rw[ha k' (by lia) (by lia),eq]
omit hc in
theorem um{m:Nat}(hm:m<=p.size)(h:fW κ p m):bE κ (kas_rev p 0 m) m:=by
 intro i j a b;rw[rT hm,rT hm,Vn (by lia),Vn (by lia)];exact h _ _ (by lia) (by lia)
theorem vL(hp:POk n p){m:Nat}(hn:Jz<=n)(h1:1<=m)(hm:m<=Jz)(hs:fW κ p m)(g:Good s)
  (k:∀r p' s',POk n p'->Good s'->1<=r->r<=Jz->bE κ p' r->Q (r,p') s'):(kas_tail3 m Jz p).kasWp cmp Q s:=by
 unfold kas_tail3;rw[KasT.kasWp_bind];have hsz:=hp.size;refine vK hc (hp.rev 0 m) hn (Jz-m) m s g h1 (by lia) (um (by lia) hs) fun r s' g' a b c _=>?_
 exact k r _ s' (hp.rev 0 m) g' (by lia) b c
theorem kO(hp:POk n p){m:Nat}(hn:Jz<=n)(h1:1<=m)(hm:m+1<=Jz)(hs:fW κ p (m+1))(g:Good s)
  (k:∀r p' s',POk n p'->Good s'->1<=r->r<=Jz->bE κ p' r->Q (r,p') s'):(kas_descPart m Jz p).kasWp cmp Q s:=by
 unfold kas_descPart;rw[KasT.kasWp_bind];refine nj hc hn (Jz-(m+1)) p (m+1) 0 s hp g (by lia) (by lia) (by lia) hs ?_ fun p' m' q' s' a b c d e f g2=>?_
 ·intro k' a b;have:k'=m:=by lia
  rw[this];rfl
 ·have hsz:=a.size;dsimp only;split
  ·have same:=pq (κ:=κ) (p:=p') (m:=m') (q:=q') (by lia) g2;exact vL hc (a.rev _ _) hn (by lia) d (jP same f) b k
  ·exact vL hc a hn (by lia) d f b k
theorem count_ok(hp:POk n p)(hn:Jz<=n)(h1:1<=Jz)(g:Good s)
  (k:∀r p' s',POk n p'->Good s'->1<=r->r<=Jz->bE κ p' r->Q (r,p') s'):(kas_count Jz p).kasWp cmp Q s:=by
 unfold kas_count;rw[KasT.kasWp_bind];have hsz:=hp.size;refine vK hc hp hn (Jz-1) 1 s g (Vl _) (by lia) (uk p) fun m s' g' a b c d=>?_
 by_cases e:m=Jz
 ·rw[Vn (by simpa using e)];exact k m p s' hp g' (by lia) (by lia) c
 ·rw[Vt (by simpa using e)];have dd:=d (by lia);by_cases h2:m>1
  ·rw[Vn h2];show cmp (p.getD 0 0) (p.getD (m-1) 0) _ s';refine hc _ _ (hp.lt (by lia)) (hp.lt (by lia)) _ s' g' fun s2 g2=>?_
   cases e2:O.blt (κ (p.getD 0 0)) (κ (p.getD (m-1) 0)) with
   |true=>
    (try dsimp only)
    rw[Vn rfl];exact k m p s2 hp g2 (by lia) b c
   |false=>
    (try dsimp only)
    rw[Vt Vg];have eq:∀i,i<m->kk κ p i=kk κ p 0:=fun i hi=>by
     have x1:=c 0 i (by lia) hi;have x2:=c i (m-1) (by lia) (by lia);exact KeyOrd.kle_antisymm (O:=O) (Yx x2 e2) x1
    have same:∀i,kk κ (kas_rev p 0 m) i=kk κ p i:=fun i=>by
     rw[rT (by lia)];split
     ·rw[eq _ (by lia),eq i (by lia)]
     ·rfl
    refine kO hc (hp.rev 0 m) hn (by lia) (by lia) ?_ g2 k;refine jP same (fL (by lia) (fun i j x y=>?_) (Yq dd));rw[eq i (by lia),eq j y];exact Xb _
  ·rw[Vt h2];refine kO hc hp hn (by lia) (by lia) (fL (by lia) (fun i j x y=>?_) (Yq dd)) g' k;have:i=j:=by lia
   rw[this];exact Xb _
theorem nq{p:Array Nat}(hp:POk n p){t:Nat}(ht:t<n)(hs:bE κ p t){Q:Nat->Shared->Prop}:∀(f l r:Nat) (s:Shared),Good s->l<=r->r<=t->r-l<=f->(∀i,i<l->O.kle (kk κ p i) (kk κ p t))->(∀i,r<=i->i<t->O.klt (kk κ p t) (kk κ p i))->
  (∀x s',Good s'->x<=t->(∀i,i<x->O.kle (kk κ p i) (kk κ p t))->(∀i,x<=i->i<t->O.klt (kk κ p t) (kk κ p i))->Q x s')->(kas_place p t f l r).kasWp cmp Q s
 | 0,l,r,s,g,h1,h2,h3,lo,hi,k=>k l s g (by lia) lo fun i a b=>hi i (by lia) b
 |f+1,l,r,s,g,h1,h2,h3,lo,hi,k=>by
  unfold kas_place;by_cases e:l>=r
  ·rw[Vn e];exact k l s g (by lia) lo fun i a b=>hi i (by lia) b
  ·rw[Vt e];show cmp (p.getD t 0) (p.getD ((l+r) / 2) 0) _ s;refine hc _ _ (hp.lt ht) (hp.lt (by lia)) _ s g fun s' g'=>?_
   cases e2:O.blt (κ (p.getD t 0)) (κ (p.getD ((l+r) / 2) 0)) with
   |true=>
    (try dsimp only)
    rw[Vn rfl];refine nq hp ht hs f l ((l+r) / 2) s' g' (by lia) (by lia) (by lia) lo (fun i a b=>?_) k;exact KeyOrd.klt_of_klt_of_kle (O:=O) e2 (hs _ i a b)
   |false=>
    (try dsimp only)
    rw[Vt Vg];refine nq hp ht hs f ((l+r) / 2+1) r s' g' (by lia) (by lia) (by lia) (fun i a=>?_) hi k;exact Yx (O:=O) (hs i ((l+r) / 2) (by lia) (by lia)) e2
theorem zt{Q:Array Nat->Shared->Prop}:∀(f:Nat) (p:Array Nat) (t:Nat) (s:Shared),POk n p->Good s->t+f=n->bE κ p t->(∀p' s',POk n p'->Good s'->bE κ p' n->Q p' s')->(kas_bin f p t).kasWp cmp Q s
 | 0,p,t,s,hp,g,hf,hs,k=>k p s hp g (by rw[show n=t by lia];exact hs)
 |f+1,p,t,s,hp,g,hf,hs,k=>by
  unfold kas_bin;rw[KasT.kasWp_bind];have hsz:=hp.size;refine nq hc hp (by lia) hs t 0 t s g (V0 _) (Vl _) (by lia) (fun i a=>by lia) (fun i a b=>by lia) fun x s' g' hx lo hi=>?_
  refine zt f _ (t+1) s' (hp.bub _ _) g' (by lia) ?_ k;have ex:t-(t-x)=x:=by lia
  intro i j a b;rw[zr (by lia) (by lia),zr (by lia) (by lia),ex];have lo':=lo;by_cases i1:i=x
  ·by_cases j1:j=x
   ·rw[Vn i1,Vn j1];exact Xb _
   ·rw[Vn i1,Vt j1,Vn (by lia)];exact Yq (hi (j-1) (by lia) (by lia))
  ·rw[Vt i1];by_cases i2:x<i/\i<=t
   ·rw[Vn i2,Vt (by lia),Vn (by lia)];exact hs (i-1) (j-1) (by lia) (by lia)
   ·rw[Vt i2];by_cases j1:j=x
    ·rw[Vn j1];exact lo i (by lia)
    ·rw[Vt j1];by_cases j2:x<j/\j<=t
     ·rw[Vn j2];exact hs i (j-1) (by lia) (by lia)
     ·rw[Vt j2];exact hs i j a (by lia)
theorem AM(h1:1<=n){Q:Array Nat->Shared->Prop}(g:Good s)(k:∀p s',POk n p->Good s'->bE κ p n->Q p s'):(kas_sort n).kasWp cmp Q s:=by
 unfold kas_sort;rw[KasT.kasWp_bind];refine count_ok hc (p:=List.toArray (List.range n)) ⟨by simp⟩ (Vl _) h1 g fun r p' s' hp g' a b c=>?_
 dsimp only;split
 ·have e:max r 1=r:=by lia
  rw[e];exact zt hc (n-r) p' r s' hp g' (by lia) c k
 ·exact k p' s' hp g' (by rw[show n=r by lia];exact c)
end
end NX
namespace NX
open PySem PySem.W PySem.Spec PyProof.Rows L2
variable{prog:Program}{w:World}{A:Around}{s:Shared}{kd:SortKind}{a:Addr}{vs:List Value}
section
variable{E:Value->Shared->Prop}
theorem rU(n:Nat):POk n (List.toArray (List.range n)):=⟨by simp⟩
theorem nr{O:KeyOrd}{key:Nat->O.α}{n:Nat}{P:PySem.Fin->Shared->Prop}(ho:s.heap.get? a=some (seqObj "list" vs.toArray n))(PB:vs.length<64)
  (LR:2<=vs.length->∀(h':Heap),(∀b o,b≠a->s.heap.get? b=some o->h'.get? b=some o)->∀Q:SortKind->Shared->Prop,Q kd {s with heap:=h'}->wpAny (model prog w) A (keyKind' vs.toArray) Q E {s with heap:=h'})
  (PD:∀i j,i<vs.length->j<vs.length->∀(h':Heap),(∀b o,b≠a->s.heap.get? b=some o->h'.get? b=some o)->∀C:Bool->Shared->Prop,C (O.blt (key i) (key j)) {s with heap:=h'}->kas_ask prog w A kd vs i j C {s with heap:=h'})
  (h:∀p h',POk vs.length p->bE key p vs.length->(∃e,h'.get? a=some (seqObj "list" (List.toArray (p.toList.map fun i=>vs.getD i .none)) e))->(∀b o,b≠a->s.heap.get? b=some o->h'.get? b=some o)->P (.done (.ret .none)) {s with heap:=h'}):
  wpAny (model prog w) A (Builtin.«list.sort» ⟨[.ref a],[]⟩) P E s:=by
 rw[list_sort_plain];have la:a<s.heap.objs.size:=Vr ho;have zs:vs.toArray.size=vs.length:=by simp
 refine U8 (listItems_at ho rfl (U8 (listUpdate_at ho rfl ?_ (by rw[zs,Wr];lia) (V0 _))));obtain⟨e1,h1⟩:∃e1,(s.heap.update a (Obj.mapSeq fun _=>#[])).get? a=some (seqObj "list" #[] e1):=⟨_,get?_update_seq ho (fun _=>#[])⟩
 refine U8 (seqEpoch_at h1 rfl (U8 (wpAny_newTuple (U8 (wpAny_newList (WN ?_))) (by simp only[YI];rw[Wr];lia))));generalize e6:((s.heap.update a (Obj.mapSeq fun _=>#[])).push {cls:=.type "tuple",data:=.seq vs.toArray.toList.toArray}).push {cls:=.type "list",data:=.seq ([]:List Value).toArray}=h6;have k6:∀b o,b≠a->s.heap.get? b=some o->h6.get? b=some o:=fun b o nb e=>by
  rw[<-e6];exact Vc _ (Vc _ ((V3 _ _ (W7 nb)).trans e))
 have Rl:h6.get? a=some (seqObj "list" #[] e1):=by
  rw[<-e6];exact Vc _ (Vc _ h1)
 dsimp only;have fin:∀(p:Array Nat),POk vs.length p->bE key p vs.length->∀out:Array Value,out=List.toArray (p.toList.map fun i=>vs.getD i .none)->
   P (.done (.ret .none)) {s with heap:=h6.update a (Obj.mapSeq fun _=>out)}:=fun p hp hs out eo=>by
  subst eo;exact h p _ hp hs ⟨_,get?_update_seq Rl _⟩ fun b o nb e=>(V3 _ _ (W7 nb)).trans (k6 b o nb e)
 have fits:∀{out:Array Value}{p:Array Nat},POk vs.length p->out=List.toArray (p.toList.map fun i=>vs.getD i .none)->out.size<=sizeLine+1:=fun{out p} hp e=>by
  rw[e,Vh,Ve,hp.perm.length_eq,VG,Wr];lia
 by_cases h2:vs.toArray.size<2
 ·rw[Vn h2,Vn h2];refine U8 (Vf ?_);rw[StateT.run_pure];refine U8 (Vf ?_);dsimp only;have eo:(arrOf (SortSt.mk' general' (vs.toArray.zip vs.toArray) #[] 7 none)).map (·.2)=List.toArray ((List.toArray (List.range vs.length)).toList.map fun i=>vs.getD i .none):=by
   show(vs.toArray.zip vs.toArray).map (·.2)=_;apply Array.toList_inj.mp;simp only[Array.toList_map,Array.toList_zip,YI];have a1:(vs.zip vs).map (·.2)=vs:=by
    rw[List.map_snd_zip];exact Vl _
   rw[a1];apply Yr;intro i;by_cases hi:i<vs.length
   ·simp[hi]
   ·simp[hi]
  refine U8 (seqEpoch_at Rl rfl (U8 (listUpdate_at Rl rfl ?_ (V0 _) (fits (rU _) eo))));simp only[Yp,VL,WW];refine Vf (fin _ (rU _) ?_ _ eo);intro i j x y;have:i=j:=by lia
  rw[this];exact Xb _
 ·rw[Vt h2,Vt h2];have Tq:2<=vs.length:=by lia
  refine U8 (LR Tq h6 k6 _ ?_);refine U8 (Yb (kat_run (ks:=vs) (vs:=vs) (Q:=fun KD s'=>∃p,POk vs.length p/\bE key p vs.length/\arrOf KD=p.map (kas_item (vs.toArray.zip vs.toArray))/\failedOf KD=none/\s'={s with heap:=h6})
   (G:=fun p s'=>POk vs.length p/\bE key p vs.length/\s'={s with heap:=h6}) rfl Tq PB (fun p KD s' hz PF hf hg=>⟨p,hg.1,hg.2.1,PF,hf,hg.2.2⟩)
   (AM (n:=vs.length) (O:=O) (κ:=key) (Good:=fun s'=>s'={s with heap:=h6}) (fun i j hi hj Q s' g k=>?_) (by lia) rfl fun p s' hp g hs=>⟨hp,hs,g⟩)) (fun r s' hq=>?_) fun _ _ e=>e)
  ·subst g;exact PD i j hi hj h6 k6 Q (k _ rfl)
  ·obtain⟨p,hp,hs,PF,hf,rfl⟩:=hq;have eo:=kat_snds (ks:=vs) (vs:=vs) rfl PF;refine U8 (seqEpoch_at Rl rfl (U8 (listUpdate_at Rl rfl ?_ (V0 _) (fits hp eo))));rw[hf];simp only[Yp,VL,WW];exact Vf (fin p hp hs _ eo)
theorem jQ{O:KeyOrd}{key:Nat->O.α}{l:Addr}{Q:Value->Shared->Prop}(hl:s.heap.IsList l vs.toArray)(PB:vs.length<64)
  (LR:2<=vs.length->∀(A':Around) (E':Value->Shared->Prop) (h':Heap),(∀b o,s.heap.get? b=some o->h'.get? b=some o)->∀Q:SortKind->Shared->Prop,Q kd {s with heap:=h'}->wpAny (model prog w) A' (keyKind' vs.toArray) Q E' {s with heap:=h'})
  (PD:∀i j,i<vs.length->j<vs.length->∀(h':Heap),(∀b o,s.heap.get? b=some o->h'.get? b=some o)->∀C:Bool->Shared->Prop,C (O.blt (key i) (key j)) {s with heap:=h'}->kas_ask prog w A.in1.in1 kd vs i j C {s with heap:=h'})
  (h:∀p h' e,POk vs.length p->bE key p vs.length->h'.get? (s.heap.objs.size+1)=some (seqObj "list" (List.toArray (p.toList.map fun i=>vs.getD i .none)) e)->(∀b o,s.heap.get? b=some o->h'.get? b=some o)->Q (.ref (s.heap.objs.size+1)) {s with heap:=h'}):
  wpAny (model prog w) A (call (.builtin "sorted") [.ref l]) Q E s:=by
 refine YX kind_sorted plain_sorted entry_sorted (args_sorted1 _) ?_;unfold Builtin.«sorted»;refine U8 (m:=checkCount "sorted" 1 1 _) (Vf (U8 (collect_list hl (U8 (wpAny_newList ?_ (by rw[Wr];lia))) (by rw[Wr];lia))));have zz:((s.heap.push (seqObj "list" #[] 0)).update s.heap.objs.size (Obj.mapSeq (·++vs.toArray))).objs.size=s.heap.objs.size+1:=by rw[Heap.size_update,size_push']
 generalize e5:(s.heap.push (seqObj "list" #[] 0)).update s.heap.objs.size (Obj.mapSeq (·++vs.toArray))=h5 at zz ⊢;have k5:∀b o,s.heap.get? b=some o->(h5.push (seqObj "list" vs.toArray 0)).get? b=some o:=fun b o e=>by
  rw[<-e5];exact Vc _ ((V3 _ _ (W7 (VI (Vr e)))).trans (Vc _ e))
 have hL:(h5.push (seqObj "list" vs.toArray 0)).get? (s.heap.objs.size+1)=some (seqObj "list" vs.toArray 0):=by
  rw[<-zz];exact Vy _ rfl
 have ne:∀b o,s.heap.get? b=some o->b≠s.heap.objs.size+1:=fun b o e=>VI (Y5 (Vr e))
 show wpAny _ _ _ _ _ {s with heap:=h5.push (seqObj "list" vs.toArray 0)};rw[zz];refine U8 (WN (Xf slot_list_sort ⟨_,hL,rfl⟩ entry_list_sort (nr (key:=key) (kd:=kd) hL PB (fun h2 h' kk Q' q=>LR h2 _ _ h' (fun b o e=>kk b o (ne b o e) (k5 b o e)) Q' q)
  (fun i j hi hj h' kk C q=>PD i j hi hj h' (fun b o e=>kk b o (ne b o e) (k5 b o e)) C q) fun p h' hp hs ⟨e,he⟩ kk=>⟨_,rfl,?_⟩) (args_list_sort _)))
 exact Vf ⟨_,rfl,h p h' e hp hs he fun b o q=>kk b o (ne b o q) (k5 b o q)⟩
end
def intO:KeyOrd where
 α:=Int
 blt a b:=decide (a<b)
 irrefl a:=by simp
 trans a b c h1 h2:=by simp only[Vq] at *;lia
 negTrans a b c h:=by simp only[Vq] at *;lia
 total a b h1 h2:=by simp only[WC] at *;lia
abbrev Hr:KeyOrd:=strKind.toKeyOrd
noncomputable def uP:KeyOrd where
 α:=Key
 blt a b:=match a,b with
  | .inl i,.inl j=>decide (i<j)
  | .inr x,.inr y=>decide (x.cps.toList<y.cps.toList)
  | .inl _,.inr _=>true
  | .inr _,.inl _=>false
 irrefl a:=by
  cases a with
  |inl i=>simp
  |inr x=>simpa using List.lt_irrefl x.cps.toList
 trans a b c h1 h2:=by
  cases a <;> cases b <;> cases c <;> simp_all
  ·lia
  ·exact List.lt_trans h1 h2
 negTrans a b c h:=by
  cases a <;> cases b <;> cases c <;> simp_all
  ·lia
  ·rename_i x y z;by_cases q:x.cps.toList<y.cps.toList
   ·exact .inl q
   ·exact .inr (List.lt_of_le_of_lt (Y9.mp q) h)
 total a b h1 h2:=by
  cases a <;> cases b <;> simp_all
  ·lia
  ·rename_i x y;have e:x.cps.toList=y.cps.toList:=List.le_antisymm (by first|exact h2|exact Y9.mp h2) (by first|exact h1|exact Y9.mp h1);rw[<-pe x,<-pe y,e]
def jM:List Key->List Key->Bool
 |[],[]=>false
 |[],_::_=>true
 |_::_,[]=>false
 |a::r,b::t=>if a=b then jM r t else uP.blt a b
theorem iR:∀a:List Key,jM a a=false
 |[]=>rfl
 |a::r=>by
  show(if a=a then jM r r else _)=false;rw[Vn rfl];exact iR r
theorem AN{a b:Key}(h:uP.blt a b=true):a≠b:=by
 rintro rfl;have:=uP.irrefl a;rw[h]at this;cases this
theorem iq:∀a b c:List Key,jM a b=true->jM b c=true->jM a c=true
 |[],[],_,h,_=>by cases h
 |[],_::_,[],_,h=>by cases h
 |[],_::_,_::_,_,_=>rfl
 |_::_,[],_,h,_=>by cases h
 |_::_,_::_,[],_,h=>by cases h
 |a::r,b::t,c::u,h1,h2=>by
  have h1:(if a=b then jM r t else uP.blt a b)=true:=h1;have h2:(if b=c then jM t u else uP.blt b c)=true:=h2;show(if a=c then jM r u else uP.blt a c)=true;by_cases e1:a=b
  ·by_cases e2:b=c
   ·rw[Vn e1]at h1;rw[Vn e2]at h2;rw[Vn (e1.trans e2)];exact iq r t u h1 h2
   ·rw[Vt e2]at h2;rw[e1,Vt e2];exact h2
  ·rw[Vt e1]at h1;by_cases e2:b=c
   ·rw[<-e2,Vt e1];exact h1
   ·rw[Vt e2]at h2;have h3:=uP.trans a b c h1 h2;rw[Vt (AN h3)];exact h3
theorem ir:∀a b:List Key,jM a b=false->jM b a=false->a=b
 |[],[],_,_=>rfl
 |[],_::_,h,_=>by cases h
 |_::_,[],_,h=>by cases h
 |a::r,b::t,h1,h2=>by
  have h1:(if a=b then jM r t else uP.blt a b)=false:=h1;have h2:(if b=a then jM t r else uP.blt b a)=false:=h2;by_cases e:a=b
  ·rw[Vn e]at h1;rw[Vn e.symm]at h2;rw[e,ir r t h1 h2]
  ·rw[Vt e]at h1;rw[Vt (W7 e)]at h2;exact absurd (uP.total a b h1 h2) e
theorem yk(a b c:List Key)(h:jM a c=true):jM a b=true\/jM b c=true:=by
 cases e:jM a b with
 |true=>exact .inl rfl
 |false=>
  refine .inr ?_;cases e2:jM b a with
  |true=>exact iq b a c e2 h
  |false=>
   rw[<-ir a b e e2];exact h
def Hs:KeyOrd where
 α:=List Key
 blt:=jM
 irrefl:=iR
 trans:=iq
 negTrans:=yk
 total:=ir
variable{α:Type}{p:Array Nat}{xs:List V}{us:List Value}
section
variable{O:KeyOrd}
def xO(p:Array Nat)(xs:List V):List V:=p.toList.map fun i=>xs.getD i .non
theorem l6(xs:List α)(d:α):((List.range xs.length).map fun i=>xs.getD i d)=xs:=by
 apply Yr;intro i;by_cases hi:i<xs.length
 ·simp[hi]
 ·simp[hi]
theorem nu{xs:List α}(d:α)(hp:POk xs.length p):(p.toList.map fun i=>xs.getD i d).Perm xs:=by
 have:=hp.perm.map (fun i=>xs.getD i d)
 rwa [l6]at this
theorem jR{xs:List α}(d:α)(key:α->O.α)(hp:POk xs.length p)(hs:bE (O:=O) (fun i=>key (xs.getD i d)) p xs.length):(p.toList.map fun i=>xs.getD i d).Pairwise fun a b=>O.kle (key a) (key b):=by
 rw[YY];intro i j hi hj NR;have hsz:=hp.size;have L9:i<p.size:=by simpa using hi
 have Su:j<p.size:=by simpa using hj
 have h:=hs i j (Zq NR) (by lia);unfold kk at h;simp only[Yy,Wh];have e1:p.getD i 0=p[i]:=by simp[Array.getD,L9]
 have e2:p.getD j 0=p[j]:=by simp[Array.getD,Su]
 rw[e1,e2]at h;exact h
theorem vals_pick{xs:List V}{us:List Value}(r:Vals xs us):∀l:List Nat,(∀i∈l,i<xs.length)->Vals (l.map fun i=>xs.getD i .non) (l.map fun i=>us.getD i .none)
 |[],_=>.nil
 |i::l,h=>by
  refine .cons ?_ (vals_pick r l fun j hj=>h j (Vb _ hj));have hi:=h i Va;have e1:xs[i]?=some (xs.getD i .non):=by rw[bY _ _ _ hi];exact U9 hi
  obtain⟨u,hu,ru⟩:=r.get e1;have e2:us.getD i .none=u:=by rw[Vi,hu];rfl
  show L2.RelV (xs.getD i .non) (us.getD i .none);rw[e2];exact ru
theorem nv(r:Vals xs us)(hp:POk xs.length p):Vals (xO p xs) (p.toList.map fun i=>us.getD i .none):=
 vals_pick r _ fun i hi=>VD.mp (hp.perm.mem_iff.mp hi)
end
variable{X:Cx}{pr:List (Addr×Obj)}{σ:L2.St}{H:Hp}{h':Heap}{i:Nat}
section
theorem kP{ys:List V}{e:Nat}{D:Addr}(I:Inv X pr σ H s)(kk:∀b o,s.heap.get? b=some o->h'.get? b=some o)(hD:s.heap.objs.size<=D)
  (ho:h'.get? D=some (seqObj "list" (List.toArray us) e)) (r:Vals ys us) (hz:ys.length<=sizeLine):Inv X pr σ (upd H D (.lst ys)) {s with heap:=h'}:=
 I.laid (t':=s.toks) kk hD ⟨hz,us,e,r,ho⟩
theorem kn(hc:X.calm=true):dX X (.builtin "sorted") (fun vs H Q=>∃(p:Addr) (ns:List Int),vs=[.ref p]/\SqL X.K H p (ns.map V.int)/\ns.length<64/\∀(D:Addr) (ms:List Int),H D=none->ms.Perm ns->ms.Pairwise (·<=·)->Q (.ref D) (upd H D (.lst (ms.map V.int)))):=by
 intro pr s σ H vs us Q I r h;obtain⟨p,ns,rfl,hp,PB,q⟩:=h;obtain⟨u,rfl,r1⟩:=fV r;cases r1;obtain⟨ws,rv,pl,hz⟩:=I.list hp;have hl:=rv.length;rw[Ve]at hl;have isI:∀v∈ws,∃n t,v=.int n t:=fun v hv=>by
  obtain⟨i,hi⟩:=WT.mp hv;obtain⟨t,e⟩:=fD rv hi;exact⟨_,t,e⟩
 refine jQ (O:=intO) (key:=fun i=>ns.getD i 0) (kd:=oneType') pl.isList (by lia) (fun h2 A' E' h' kk Q' q'=>?_) (fun i j hi hj h' kk C q'=>?_) fun pp h' e Lm hs he kk=>?_
 ·refine kas_kind h2 (T:=.type "int") (fun v hv=>?_) (by decide) (by decide) q';obtain⟨n,t,rfl⟩:=isI v hv;exact fun A Q E s _ q=>XM (typeIs_int s n t) q
 ·unfold kas_ask;have e1:ws[i]?=some (ws.getD i .none):=by rw[bY _ _ _ hi];exact U9 hi
  have e2:ws[j]?=some (ws.getD j .none):=by rw[bY _ _ _ hj];exact U9 hj
  obtain⟨t,PH⟩:=fD rv e1;obtain⟨t',Pb⟩:=fD rv e2;rw[PH,Pb];exact kat_lt_int q'
 ·rw[<-hl]at Lm hs;have Rn:POk (ns.map V.int).length pp:=by rw[Ve];exact Lm
  have eo:xO pp (ns.map V.int)=(pp.toList.map fun i=>ns.getD i 0).map V.int:=by
   unfold xO;rw[VU];refine Xa fun i hi=>?_
   have hi:=VD.mp (Lm.perm.mem_iff.mp hi);show(ns.map V.int).getD i .non=V.int (ns.getD i 0);rw[bY _ _ _ (by rw[Ve];exact hi),bY _ _ _ hi];simp
  have hn:H (s.heap.objs.size+1)=none:=I.hok.fresh (XO _);refine⟨.ref (s.heap.objs.size+1),_,kP I kk (XO _) he (nv rv Rn) ?_,rfl,?_⟩
  ·show(xO pp (ns.map V.int)).length<=sizeLine;rw[eo,Ve,Ve,Lm.perm.length_eq,VG,Wr];lia
  ·rw[eo];refine q _ _ hn (nu 0 Lm) ?_;have:=jR (O:=intO) 0 (fun i:Int=>i) Lm hs;refine this.imp fun{a b} NS=>?_
   have NS:decide (b<a)=false:=NS;have:=Z8 NS;lia
theorem qM{ls:List (List Nat)}(r:Vals (ls.map fun l=>V.str (S l)) us){v:Value}(h:us[i]?=some v):∃t,v=.str (S (ls.getD i [])) t:=by
 have hl:=r.length;rw[Ve]at hl;obtain⟨hi,_⟩:=Vk.mp h;have e1:(ls.map fun l=>V.str (S l))[i]?=some (.str (S (ls.getD i []))):=by
  rw[Vs,U9 (by lia),bY _ _ _ (by lia)];rfl
 obtain⟨u,hu,t,rfl⟩:=r.get e1;rw[h]at hu;exact⟨t,VQ hu⟩
theorem ko(hc:X.calm=true):dX X (.builtin "sorted") (fun vs H Q=>∃(p:Addr) (ls:List (List Nat)),vs=[.ref p]/\SqL X.K H p (ls.map fun l=>V.str (S l))/\ls.length<64/\∀(D:Addr) (ms:List (List Nat)),H D=none->ms.Perm ls->ms.Pairwise (fun a b=>¬ b<a)->Q (.ref D) (upd H D (.lst (ms.map fun l=>V.str (S l))))):=by
 intro pr s σ H vs us Q I r h;obtain⟨p,ls,rfl,hp,PB,q⟩:=h;obtain⟨u,rfl,r1⟩:=fV r;cases r1;obtain⟨ws,rv,pl,hz⟩:=I.list hp;have hl:=rv.length;rw[Ve]at hl;refine jQ (O:=Hr) (key:=fun i=>ls.getD i []) (kd:=oneType') pl.isList (by lia) (fun h2 A' E' h' kk Q' q'=>?_) (fun i j hi hj h' kk C q'=>?_) fun pp h' e Lm hs he kk=>?_
 ·refine kas_kind h2 (T:=.type "str") (fun v hv=>?_) (by decide) (by decide) q';obtain⟨i,hi⟩:=WT.mp hv;obtain⟨t,rfl⟩:=qM rv hi;exact fun A Q E s _ q=>XM (ZJ s _ t) q
 ·unfold kas_ask;have e1:ws[i]?=some (ws.getD i .none):=by rw[bY _ _ _ hi];exact U9 hi
  have e2:ws[j]?=some (ws.getD j .none):=by rw[bY _ _ _ hj];exact U9 hj
  obtain⟨t,PH⟩:=qM rv e1;obtain⟨t',Pb⟩:=qM rv e2;rw[PH,Pb];refine kas_lt_str ?_;rw[eZ,eZ];exact q'
 ·rw[<-hl]at Lm hs;have Rn:POk (ls.map fun l=>V.str (S l)).length pp:=by rw[Ve];exact Lm
  have eo:xO pp (ls.map fun l=>V.str (S l))=(pp.toList.map fun i=>ls.getD i []).map fun l=>V.str (S l):=by
   unfold xO;rw[VU];refine Xa fun i hi=>?_
   have hi:=VD.mp (Lm.perm.mem_iff.mp hi);show(ls.map fun l=>V.str (S l)).getD i .non=V.str (S (ls.getD i []));rw[bY _ _ _ (by rw[Ve];exact hi),bY _ _ _ hi];simp
  have hn:H (s.heap.objs.size+1)=none:=I.hok.fresh (XO _);refine⟨.ref (s.heap.objs.size+1),_,kP I kk (XO _) he (nv rv Rn) ?_,rfl,?_⟩
  ·show(xO pp (ls.map fun l=>V.str (S l))).length<=sizeLine;rw[eo,Ve,Ve,Lm.perm.length_eq,VG,Wr];lia
  ·rw[eo];refine q _ _ hn (nu [] Lm) ?_;have:=jR (O:=Hr) [] (fun l:List Nat=>l) Lm hs;refine this.imp fun{a b} NS=>?_
   have NS:decide (b<a)=false:=NS;exact Z8 NS
end
def kinds(k:List Key):List Bool:=k.map fun x=>x.isLeft
section
theorem AO(a b:Key):S9 (kV a) (kV b)=decide (a=b):=by
 cases a <;> cases b <;> (rw[VT];simp[kV,S9])
theorem rV(a:Key):yc (kV a)=true:=by cases a <;> rfl
theorem Dz{a b:Key}{u v:Value}{top:Bool}{Q:Bool->Shared->Prop}(ra:L2.RelV (kV a) u)(rb:L2.RelV (kV b) v)(hk:a.isLeft=b.isLeft)(q:Q (uP.blt a b) s):wpAny (model prog w) A (oneLt' top u v) Q (fun _ _=>False) s:=by
 cases a with
 |inl i=>
  cases b with
  |inr _=>cases hk
  |inl j=>
   obtain⟨t,rfl⟩:=ra;obtain⟨t',rfl⟩:=rb;cases top with
   |true=>exact kat_lt_int (E:=fun _ _=>False) q
   |false=>exact kat_one _ _ (lt_int q)
 |inr x=>
  cases b with
  |inl _=>cases hk
  |inr y=>
   obtain⟨t,rfl⟩:=ra;obtain⟨t',rfl⟩:=rb;cases top with
   |true=>exact oneLt_str q
   |false=>exact kat_one _ _ (lt_str q)
theorem pw{Q:Bool->Shared->Prop}:∀(k1 k2:List Key) (us ws:List Value) (i:Nat),Vals (k1.map kV) us->Vals (k2.map kV) ws->kinds k1=kinds k2->Q (jM k1 k2) s->KatLex prog w A true false Q (us.zip ws) i s
 |[],[],_,_,_,.nil,.nil,_,q=>q
 |[],_::_,_,_,_,_,_,h,_=>by cases h
 |_::_,[],_,_,_,_,_,h,_=>by cases h
 |a::r,b::t,u::us,v::ws,i,.cons ru rus,.cons rv rvs,h,q=>by
  have h1:a.isLeft=b.isLeft:=(Za h).1;have h2:kinds r=kinds t:=(Za h).2;have q:Q (if a=b then jM r t else uP.blt a b) s:=q;refine kat_cons (Dp (A:=A) (s:=s) ru rv (rV a) (rV b) prog w _ _ ?_);rw[AO];by_cases e:a=b
  ·rw[Vn e]at q;rw[VB e];exact kat_yes (pw r t us ws (i+1) rus rvs h2 q)
  ·rw[Vt e]at q;rw[VM e];exact kat_no (Dz ru rv h1 q)
end
variable{al:List (Addr×List Key)}
section
theorem vM(I:Inv X pr σ H s)(h:SqT X.K H a xs):∃(us:List Value) (o:Obj) (n:Nat),Vals xs us/\s.heap.get? a=some o/\o.cls=.type "tuple"/\o.data=.seq us.toArray n:=by
 obtain⟨us,r,pl,_⟩:=I.tuple h;obtain⟨o,ho,oc,n,od⟩:=pl;exact⟨us,o,n,r,ho,oc,od⟩
theorem vN(r:Vals (al.map fun a=>V.ref a.1) us)(h:i<al.length):us.getD i .none=.ref (al.getD i (0,[])).1:=by
 have e1:(al.map fun a=>V.ref a.1)[i]?=some (.ref (al.getD i (0,[])).1):=by
  rw[Vs,U9 h,bY _ _ _ h];rfl
 obtain⟨u,hu,ru⟩:=r.get e1;rw[Vi,hu];exact ru
theorem ym(I:Inv X pr σ H s)(kk:∀b o,s.heap.get? b=some o->h'.get? b=some o)(top:Bool):
  (r:Vals (al.map fun a=>V.ref a.1) us)->(∀a∈al,SqT X.K H a.1 (a.2.map kV)/\∃t,kinds a.2=top::t)->∃fs:List Value,KatTups h' us fs/\fs.length=al.length/\∀v∈fs,∀M:Model,Looks M h' (typeOf v) (.type (if top then "int" else "str")):=by
 induction al generalizing us with
 |nil=>
  intro r _;cases r;exact⟨[],trivial,rfl,fun v hv=>by cases hv⟩
 |cons a al ih=>
  intro r h;cases r with
  |cons ra rs=>
   cases ra;obtain⟨fs,t1,t2,t3⟩:=ih rs fun b hb=>h b (Vb _ hb)
   obtain⟨ha,kt,hk⟩:=h a Va;obtain⟨ws,o,n,rv,ho,oc,od⟩:=vM I ha;cases e2:a.2 with
   |nil=>rw[e2]at hk;cases hk
   |cons k ks=>
    rw[e2]at rv hk;have Ur:k.isLeft=top:=(Za hk).1;cases rv with
    | @cons _ f _ fr rf rfs=>
     refine⟨f::fs,KatTups.cons (kk _ _ ho) oc od (by simp) t1,by simp[t2],fun v hv M=>?_⟩;rcases Vo.mp hv with rfl|hv
     ·cases k with
      |inl i=>
       obtain⟨t,rfl⟩:=rf;have:top=true:=Ur.symm;subst this;exact fun A Q E s _ q=>XM (typeIs_int s _ t) q
      |inr x=>
       obtain⟨t,rfl⟩:=rf;have:top=false:=Ur.symm;subst this;exact fun A Q E s _ q=>XM (ZJ s _ t) q
     ·exact t3 v hv M
end
section
theorem kq(hc:X.calm=true):dX X (.builtin "sorted") (fun vs H Q=>∃(p:Addr) (al:List (Addr×List Key)) (top:Bool) (t:List Bool),vs=[.ref p]/\SqL X.K H p (al.map fun a=>V.ref a.1)/\(∀a∈al,SqT X.K H a.1 (a.2.map kV)/\kinds a.2=top::t)/\al.length<64/\
  ∀(D:Addr) (ms:List (Addr×List Key)),H D=none->ms.Perm al->ms.Pairwise (fun a b=>jM b.2 a.2=false)->Q (.ref D) (upd H D (.lst (ms.map fun a=>V.ref a.1)))):=by
 intro pr s σ H vs us Q I r h;obtain⟨p,al,top,kt,rfl,hp,NT,PB,q⟩:=h;obtain⟨u,rfl,r1⟩:=fV r;cases r1;obtain⟨ws,rv,pl,hz⟩:=I.list hp;have hl:=rv.length;rw[Ve]at hl;refine jQ (O:=Hs) (key:=fun i=>(al.getD i (0,[])).2) (kd:=tuples' true) pl.isList (by lia) (fun h2 A' E' h' kk Q' q'=>?_) (fun i j hi hj h' kk C q'=>?_) fun pp h' e Lm hs he kk=>?_
 ·obtain⟨fs,t1,t2,t3⟩:=ym I kk top rv fun a ha=>⟨(NT a ha).1,kt,(NT a ha).2⟩
  refine kat_kind (T:=.type (if top then "int" else "str")) t1 (by lia) (fun v hv=>t3 v hv _) (by simp) ?_;have:((Value.type (if top then "int" else "str")) != Value.type "tuple")=true:=by cases top <;> decide
  rw[this];exact q'
 ·unfold kas_ask;have L9:i<al.length:=by lia
  have Su:j<al.length:=by lia
  rw[vN rv L9,vN rv Su];have mi:al.getD i (0,[])∈al:=by rw[bY _ _ _ L9];exact XG _
  have mj:al.getD j (0,[])∈al:=by rw[bY _ _ _ Su];exact XG _
  obtain⟨u1,o1,n1,r1,g1,_,d1⟩:=vM I (NT _ mi).1;obtain⟨u2,o2,n2,r2,g2,_,d2⟩:=vM I (NT _ mj).1;have ek:kinds (al.getD i (0,[])).2=kinds (al.getD j (0,[])).2:=by rw[(NT _ mi).2,(NT _ mj).2]
  have el:u1.length=u2.length:=by
   have a1:=r1.length;have a2:=r2.length;have a3:=WM List.length ek;simp only[kinds,Ve]at a1 a2 a3;lia
  refine kat_lt (kk _ _ g1) d1 (kk _ _ g2) d2 ?_;have ef:decide (u1.toArray.size<u2.toArray.size)=false:=by simp[el]
  rw[ef];exact pw _ _ _ _ 0 r1 r2 ek q'
 ·rw[<-hl]at Lm hs;have Rn:POk (al.map fun a=>V.ref a.1).length pp:=by rw[Ve];exact Lm
  have eo:xO pp (al.map fun a=>V.ref a.1)=(pp.toList.map fun i=>al.getD i (0,[])).map fun a=>V.ref a.1:=by
   unfold xO;rw[VU];refine Xa fun i hi=>?_
   have hi:=VD.mp (Lm.perm.mem_iff.mp hi);show(al.map fun a=>V.ref a.1).getD i .non=V.ref (al.getD i (0,[])).1;rw[bY _ _ _ (by rw[Ve];exact hi),bY _ _ _ hi];simp
  have hn:H (s.heap.objs.size+1)=none:=I.hok.fresh (XO _);refine⟨.ref (s.heap.objs.size+1),_,kP I kk (XO _) he (nv rv Rn) ?_,rfl,?_⟩
  ·show(xO pp (al.map fun a=>V.ref a.1)).length<=sizeLine;rw[eo,Ve,Ve,Lm.perm.length_eq,VG,Wr];lia
  ·rw[eo];refine q _ _ hn (nu (0,[]) Lm) ?_;exact jR (O:=Hs) (0,[]) (fun a:Addr×List Key=>a.2) Lm hs
end
end NX
namespace L2
open PySem PySem.Spec PyProof.Rows
variable{κ:Type}{o:Option V}{y:V}{u:Value}
section
variable[DecidableEq κ]
def px(kvs:List (κ×V))(k:κ):Option V:=(kvs.find? fun kv=>decide (kv.1=k)).map (·.2)
def kr(kvs:List (κ×V))(k:κ)(v:V):List (κ×V):=
 if(kvs.any fun kv=>decide (kv.1=k))=true then kvs.map (fun kv=>if kv.1=k then(kv.1,v) else kv) else kvs++[(k,v)]
theorem ny{p:κ×V}{r:List (κ×V)}{k:κ}(e:p.1=k):px (p::r) k=some p.2:=by simp[px,XR,e]
theorem nE{p:κ×V}{r:List (κ×V)}{k:κ}(e:¬ p.1=k):px (p::r) k=px r k:=by simp[px,XR,e]
theorem rW(k:κ):∀kvs:List (κ×V),(kvs.any fun kv=>decide (kv.1=k))=(px kvs k).isSome
 |[]=>rfl
 |p::r=>by
  rw[Z9];by_cases e:p.1=k
  ·simp only[ny e,VB e,Bool.true_or,Option.isSome_some]
  ·rw[nE e,VM e,Bool.false_or];exact rW k r
theorem iS(kvs:List (κ×V))(k:κ)(v:V):(kr kvs k v).length<=kvs.length+1:=by
 unfold kr;split
 ·rw[Ve];lia
 ·rw[VJ,Vm,Wl];lia
theorem RelO.isSome_eq{u:Option Value}(r:RelO o u):o.isSome=u.isSome:=by
 cases o with
 |none=>cases u with
  |none=>rfl
  |some _=>exact(show False from r).elim
 |some _=>cases u with
  |none=>exact(show False from r).elim
  |some _=>rfl
theorem KV.val{kvs:List (κ×V)}{vs:List (κ×Value)}(r:KV kvs vs)(k:κ):RelO (px kvs k) (valueAt vs k):=by
 unfold KV at r;induction r with
 |nil=>exact True.intro
 | @cons p q ps qs h t ih=>
  obtain⟨h1,h2⟩:=h;by_cases e:p.1=k
  ·have e':q.1=k:=h1.symm.trans e;have b:valueAt (q::qs) k=some q.2:=by simp[valueAt,XR,e']
   rw[ny e,b];exact h2
  ·have e':¬ q.1=k:=fun z=>e (h1.trans z)
   have b:valueAt (q::qs) k=valueAt qs k:=by simp[valueAt,XR,e']
   rw[nE e,b];exact ih
theorem KV.any{kvs:List (κ×V)}{vs:List (κ×Value)}(r:KV kvs vs)(k:κ):(kvs.any fun kv=>decide (kv.1=k))=vs.any fun kv=>decide (kv.1=k):=by
 unfold KV at r;induction r with
 |nil=>rfl
 |cons h t ih=>rw[Z9,Z9,ih,h.1]
theorem KV.repl{kvs:List (κ×V)}{vs:List (κ×Value)}(r:KV kvs vs)(k:κ)(ry:RelV y u):
  KV (kvs.map fun kv=>if kv.1=k then(kv.1,y) else kv) (vs.map fun kv=>if kv.1=k then(kv.1,u) else kv):=by
 unfold KV at r ⊢;induction r with
 |nil=>exact .nil
 | @cons p q ps qs h t ih=>
  rw[Vz,Vz];refine .cons ?_ ih;obtain⟨h1,h2⟩:=h;by_cases e:p.1=k
  ·rw[Vn e,Vn (h1.symm.trans e)];exact⟨h1,ry⟩
  ·rw[Vt e,Vt (fun z=>e (h1.trans z))];exact⟨h1,h2⟩
theorem KV.put{kvs:List (κ×V)}{vs:List (κ×Value)}(r:KV kvs vs)(k:κ)(ry:RelV y u):KV (kr kvs k y) (stored vs k u):=by
 unfold kr stored;rw[r.any k];by_cases e:(vs.any fun kv=>decide (kv.1=k))=true
 ·rw[Vn e,Vn e];exact r.repl k ry
 ·rw[Vt e,Vt e];exact Paired.snoc r ⟨rfl,ry⟩
theorem KV.length{kvs:List (κ×V)}{vs:List (κ×Value)}(r:KV kvs vs):kvs.length=vs.length:=YD r
end
variable{P:Program}{w:World}
theorem kV_is{k:Key}(r:RelV (kV k) u):(mixKind P w).is k u=true:=by
 cases k with
 |inl i=>obtain⟨t,e⟩:=(show ∃t,u=Value.int i t from r);subst e;exact qH P w i t
 |inr x=>obtain⟨t,e⟩:=(show ∃t,u=Value.str x t from r);subst e;exact qI P w x t
theorem pA{P:Program}{w:World}:∀{ks:List Key}{us:List Value},Vals (ks.map kV) us->ItemsAre (mixKind P w) ks us
 |[],_,r=>by rw[V8]at r;cases r;exact .nil
 |k::ks,_,r=>by
  rw[Vz]at r;cases r with
  |cons h t=>exact .cons (kV_is h) (pA t)
abbrev KT(H:Hp):List (List Key×V)->List (List Key×Addr×Value)->Prop:=Paired fun p q=>p.1=q.1/\H q.2.1=some (.tup (p.1.map kV))/\RelV p.2 q.2.2
variable{H:Hp}{kvs:List (List Key×V)}{xs:List (List Key×Addr×Value)}
theorem KT.val(r:KT H kvs xs)(k:List Key):RelO (px kvs k) ((atKey xs k).map (·.2)):=by
 induction r with
 |nil=>exact True.intro
 | @cons p q ps qs h t ih=>
  obtain⟨h1,_,h2⟩:=h;by_cases e:p.1=k
  ·have e':q.1=k:=h1.symm.trans e;have b:atKey (q::qs) k=some q.2:=by simp[atKey,XR,e']
   rw[ny e,b];exact h2
  ·have e':¬ q.1=k:=fun z=>e (h1.trans z)
   have b:atKey (q::qs) k=atKey qs k:=by simp[atKey,XR,e']
   rw[nE e,b];exact ih
theorem KT.repl(r:KT H kvs xs)(k:List Key)(ry:RelV y u):
  KT H (kvs.map fun kv=>if kv.1=k then(kv.1,y) else kv) (xs.map (putAt k u)):=by
 induction r with
 |nil=>exact .nil
 | @cons p q ps qs h t ih=>
  rw[Vz,Vz];refine .cons ?_ ih;obtain⟨h1,h2,h3⟩:=h;unfold putAt;by_cases e:p.1=k
  ·rw[Vn e,Vn (h1.symm.trans e)];exact⟨h1,h2,ry⟩
  ·rw[Vt e,Vt (fun z=>e (h1.trans z))];exact⟨h1,h2,h3⟩
variable{b:Addr}
theorem KT.put(r:KT H kvs xs)(k:List Key)(hb:H b=some (.tup (k.map kV)))(ry:RelV y u):
  KT H (kr kvs k y) (storedH xs k b u):=by
 have e:(kvs.any fun kv=>decide (kv.1=k))=(atKey xs k).isSome:=by
  rw[rW,(r.val k).isSome_eq,Y6]
 unfold kr storedH;rw[e];by_cases q:(atKey xs k).isSome=true
 ·rw[Vn q,Vn q];exact r.repl k ry
 ·rw[Vt q,Vt q];exact Paired.snoc r ⟨rfl,hb,ry⟩
variable{H':Hp}
theorem KT.keeps(r:KT H kvs xs)(ht:∀b ys,H b=some (.tup ys)->H' b=some (.tup ys)):KT H' kvs xs:=
 Paired.mapP r fun _ _ z=>⟨z.1,ht _ _ z.2.1,z.2.2⟩
variable{a:Addr}
section
variable{h:Heap}
theorem DA{u:HO}(ok:HOk P w H h)(e:Rd H a u):ObjOk P w H h a u:=e.ok ok
theorem uo{kvs:List (Key×V)}(ok:HOk P w H h)(e:Rd H a (.dK kvs)):kvs.length<=sizeLine/\(a==sysModules)=false/\∃vs,KV kvs vs/\h.DictOf (mixKind P w) a vs:=
 show ObjOk P w H h a (.dK kvs) from DA ok e
theorem DB{kvs:List (Key×V)}(ok:HOk P w H h)(e:H a=some (.dK kvs)):kvs.length<=sizeLine/\(a==sysModules)=false/\∃vs,KV kvs vs/\h.DictOf (mixKind P w) a vs:=uo ok (.inl e)
theorem mw{ks:List Key}(ok:HOk P w H h)(e:H a=some (.tup (ks.map kV))):(tupleKind (mixKind P w)).is h ks a:=by
 obtain⟨_,IS,r,o,h1,h2,⟨n,h3⟩,_⟩:=(show ObjOk P w H h a (.tup (ks.map kV)) from ok a _ e)
 exact⟨o,IS.toArray,n,h1,h2,h3,by simpa using pA r⟩
theorem vO(ok:HOk P w H h)(e:Rd H a (.dT kvs)):kvs.length<=sizeLine/\(a==sysModules)=false/\
  ∃xs,KT H kvs xs/\h.DictOfH (tupleKind (mixKind P w)) a xs:=by
 obtain⟨z,y,xs,r,o,es,ep,h1,h2,h3,h4,h5⟩:=(show ObjOk P w H h a (.dT kvs) from DA ok e)
 refine⟨z,y,xs,r,o,es,ep,h1,h2,h3,h4,fun x hx=>?_,h5⟩;have all:∀{l:List (List Key×V)}{m:List (List Key×Addr×Value)},KT H l m->∀x∈m,(tupleKind (mixKind P w)).is h x.1 x.2.1:=by
  intro l m q;induction q with
  |nil=>intro x hx;exact nomatch hx
  | @cons p q ps qs hq t ih=>
   intro x hx;rcases Vo.mp hx with e|hx
   ·subst e;exact mw ok (by rw[<-hq.1];exact hq.2.1)
   ·exact ih x hx
 exact all r x hx
theorem Gf(ok:HOk P w H h)(e:H a=some (.dT kvs)):kvs.length<=sizeLine/\(a==sysModules)=false/\
  ∃xs,KT H kvs xs/\h.DictOfH (tupleKind (mixKind P w)) a xs:=vO ok (.inl e)
end
def DGet(H:Hp)(a:Addr)(y:V)(r:Option V):Prop:=
 (∃kvs k,Rd H a (.dK kvs)/\y=kV k/\r=px kvs k)\/∃kvs k b,Rd H a (.dT kvs)/\y=.ref b/\H b=some (.tup (k.map kV))/\r=px kvs k
def DPut(H:Hp)(a:Addr)(y v:V)(H':Hp):Prop:=
 (∃kvs k,H a=some (.dK kvs)/\y=kV k/\kvs.length<sizeLine/\H'=upd H a (.dK (kr kvs k v)))\/
 ∃kvs k b,H a=some (.dT kvs)/\y=.ref b/\H b=some (.tup (k.map kV))/\kvs.length<sizeLine/\H'=upd H a (.dT (kr kvs k v))
theorem DGet.k{H:Hp}{a:Addr}{kvs:List (Key×V)}{k:Key}(e:H a=some (.dK kvs)):DGet H a (kV k) (px kvs k):=.inl ⟨kvs,k,.inl e,rfl,rfl⟩
theorem DGet.t{k:List Key}(e:H a=some (.dT kvs))(eb:H b=some (.tup (k.map kV))):DGet H a (.ref b) (px kvs k):=.inr ⟨kvs,k,b,.inl e,rfl,eb,rfl⟩
theorem DPut.k{H:Hp}{a:Addr}{kvs:List (Key×V)}{k:Key}{v:V}(e:H a=some (.dK kvs))(hl:kvs.length<sizeLine):DPut H a (kV k) v (upd H a (.dK (kr kvs k v))):=.inl ⟨kvs,k,e,rfl,hl,rfl⟩
theorem DPut.t{k:List Key}{v:V}(e:H a=some (.dT kvs))(eb:H b=some (.tup (k.map kV)))(hl:kvs.length<sizeLine):
  DPut H a (.ref b) v (upd H a (.dT (kr kvs k v))):=.inr ⟨kvs,k,b,e,rfl,eb,hl,rfl⟩
variable{X:Cx}{pr:List (Addr×Obj)}{σ:St}{s:Shared}{A:Around}{E Q:Value->Shared->Prop}{h':Heap}
section
variable{v:V}{r:Value}
theorem Inv.big(I:Inv X pr σ H s):sysModules<s.heap.objs.size:=by
 have h:mainGlobals<s.heap.objs.size:=(I.mod.glob.keeps I.bk).lt;exact Nat.lt_trans (by decide) h
theorem vP(hu:A.units+1<cLine)(I:Inv X pr σ H s)(g:DGet H a y (some v))(ry:RelV y u)(h:∀w' s',Inv X pr σ H s'->RelV v w'->Q w' s'):
  wpAny (model X.prog X.w) A (getItem (.ref a) u) Q E s:=by
 rcases g with⟨kvs,k,e,ey,l⟩|⟨kvs,k,b,e,ey,eb,l⟩
 ·subst ey;obtain⟨z,hd,vs,rel,dd⟩:=uo I.hok e;obtain⟨w',hw,MO⟩:=RelO.some_of (v:=v) (o:=valueAt vs k) (by rw[l];exact rel.val k);exact wpAny_getItem_of (kV_is ry) dd.mapOf hw (h w' _ (I.tok _) MO)
 ·subst ey;cases(show u=Value.ref b from ry);obtain⟨z,hd,xs,rel,dd⟩:=vO I.hok e;obtain⟨w',hw,MO⟩:=RelO.some_of (v:=v) (o:=(atKey xs k).map (·.2)) (by rw[l];exact rel.val k);obtain⟨p,hp,Ro⟩:=VW.mp hw;refine wpAny_getItem_heap (Yh hu) (mw I.hok eb) dd hp ?_;rw[Ro];exact h w' _ (I.tok _) MO
theorem Io(hu:A.units+1<cLine)(I:Inv X pr σ H s)(g:DGet H a y o)(ry:RelV y u)(h:∀s',Inv X pr σ H s'->Q (.bool o.isSome) s'):
  wpAny (model X.prog X.w) A (compareOp .In u (.ref a)) Q E s:=by
 rcases g with⟨kvs,k,e,ey,l⟩|⟨kvs,k,b,e,ey,eb,l⟩
 ·subst ey;obtain⟨z,hd,vs,rel,dd⟩:=uo I.hok e;refine wpAny_in_of (kV_is ry) hd dd.mapOf ?_;rw[<-(rel.val k).isSome_eq,<-l];exact h _ (I.tok _)
 ·subst ey;cases(show u=Value.ref b from ry);obtain⟨z,hd,xs,rel,dd⟩:=vO I.hok e;refine wpAny_in_heap (Yh hu) (mw I.hok eb) hd dd ?_;have q:=(rel.val k).isSome_eq;rw[Y6]at q;rw[<-q,<-l];exact h _ (I.tok _)
theorem AQ(hu:A.units+1<cLine)(I:Inv X pr σ H s)(g:DGet H a y o)(ry:RelV y u)(h:∀s',Inv X pr σ H s'->Q (.bool (!o.isSome)) s'):
  wpAny (model X.prog X.w) A (compareOp .NotIn u (.ref a)) Q E s:=by
 rcases g with⟨kvs,k,e,ey,l⟩|⟨kvs,k,b,e,ey,eb,l⟩
 ·subst ey;obtain⟨z,hd,vs,rel,dd⟩:=uo I.hok e;refine wpAny_notIn_of (kV_is ry) hd dd.mapOf ?_;rw[<-(rel.val k).isSome_eq,<-l];exact h _ (I.tok _)
 ·subst ey;cases(show u=Value.ref b from ry);obtain⟨z,hd,xs,rel,dd⟩:=vO I.hok e;refine wpAny_notIn_heap (Yh hu) (mw I.hok eb) hd dd ?_;have q:=(rel.val k).isSome_eq;rw[Y6]at q;rw[<-q,<-l];exact h _ (I.tok _)
theorem qN{t':Nat}{ob:HO}(I:Inv X pr σ H s)(mu:Q2 (H a))(hs:Heap.SameBut a s.heap h')(he:∃q,h'.get? a=some q)(new:ObjOk X.prog X.w (upd H a ob) h' a ob):
  Inv X pr σ (upd H a ob) {s with heap:=h',toks:=t'}:=
 I.write (x:=a) (e:=a) mu (.inl rfl) (fun b q hb z=>(hs.2 b hb).trans z) he new
theorem zu{kvs:List (Key×V)}{vs:List (Key×Value)}(z:kvs.length<=sizeLine)(hd:(a==sysModules)=false)(rel:KV kvs vs)(dd:h'.DictOf (mixKind P w) a vs):
  ObjOk P w H' h' a (.dK kvs):=⟨z,hd,vs,rel,dd⟩
theorem vQ{Q:Unit->Shared->Prop}(hu:A.units+1<cLine)(I:Inv X pr σ H s)(g:DPut H a y v H')(ry:RelV y u)(rv:RelV v r)(h:∀s',Inv X pr σ H' s'->Q () s'):
  wpAny (model X.prog X.w) A (setItem (.ref a) u r) Q E s:=by
 rcases g with⟨kvs,k,e,ey,l,eH⟩|⟨kvs,k,b,e,ey,eb,l,eH⟩
 ·subst ey eH;obtain⟨z,hd,vs,rel,dd⟩:=DB I.hok e;have hz:vs.length<=sizeLine:=by rw[<-rel.length];exact z
  have hl:(kr kvs k v).length<=sizeLine:=by have:=iS kvs k v;lia
  refine wpAny_setItem_pairs (hsz:=hz) (kV_is ry) dd fun h' Oe hs=>h _ ?_
  have he:∃q,h'.get? a=some q:=let⟨q,_,_,hq,_⟩:=Oe;⟨q,hq⟩
  exact qN I (by rw[e];exact True.intro) hs he (zu hl hd (rel.put k rv) Oe)
 ·subst ey eH;cases(show u=Value.ref b from ry);obtain⟨z,hd,xs,rel,dd⟩:=Gf I.hok e;have hz:xs.length<=sizeLine:=by rw[<-YD rel];exact z
  have hl:(kr kvs k v).length<=sizeLine:=by have:=iS kvs k v;lia
  refine wpAny_setItem_heap (hsz:=hz) (Yh hu) (mw I.hok eb) dd fun h' Oe hs=>h _ ?_
  obtain⟨q,es,ep,hq,h2,h3,h4,_,h5⟩:=Oe;refine qN I (by rw[e];exact True.intro) hs ⟨q,hq⟩ ⟨hl,hd,_,(rel.put k eb rv).keeps fun c ys ec=>?_,q,es,ep,hq,h2,h3,h4,h5⟩;rw[aF (FA ec e (fun z=>nomatch z))];exact ec
end
section
variable{kvs:List (Key×V)}{k:Key}
end
def NoSl(i:Expr):Prop:=∀ov iv,subscripted i false ov iv=operate [ov,iv] (getItem ov iv)
variable{pos:Pos}
theorem AR{prog:Program}{env:Env}{value slice:Expr}{T id:String}
  (hl:typeLookup (.type T) "__getitem__" = pure (some (.builtin id))) (hs:NoSl slice)
  (h:wpAny (model prog w) A (eval value env) (fun o s₁=>wpAny (model prog w) A (eval slice env) (fun i s₂=>s₂.TypeIs o T/\wpAny (model prog w) A (getItem o i) Q E s₂) E s₁) E s):
  wpAny (model prog w) A (eval (.Subscript value slice pos) env) Q E s:=by
 refine Subscript_ (Yb h (fun o s₁ h₁=>Yb h₁ (fun i s₂ h₂=>?_) fun _ _ x=>x) fun _ _ x=>x);obtain⟨hT,h₂⟩:=h₂;unfold subscriptTail;refine U8 ?_;rw[getitemInPython_of_ne hT.not_modules];refine U8 (wpAny_specialOf hT hl ?_);have fin:wpAny (model prog w) A (subscripted slice false o i) (fun r s₃=>wpAny (model prog w) A (letTemporaryGo value o r >>= fun _=>pure r) Q E s₃) E s₂:=by
  rw[hs o i];exact wpAny_operating (Yb h₂ (fun r s₃ h₃=>U8 (wpAny_letTemporaryGo (Vf h₃))) fun _ _ x=>x)
 first
  |exact Vf (U8 fin)
  |exact U8 (Vf (U8 fin))
  |exact U8 fin
theorem qO(I:Inv X pr σ H s)(g:DGet H a y o):s.TypeIs (.ref a) "dict":=by
 rcases g with⟨kvs,k,e,_,_⟩|⟨kvs,k,b,e,_,_,_⟩
 ·obtain⟨_,_,vs,_,dd⟩:=uo I.hok e;exact dd.typeIs
 ·obtain⟨_,_,xs,_,dd⟩:=vO I.hok e;exact dd.typeIs
def Gg(td ty:TE):TE:=fun σ H Q=>td σ H fun x H1=>ty σ H1 fun y H2=>∃a v,x=.ref a/\DGet H2 a y (some v)/\Q v H2
def Gh(td ty tv:TE):TS:=fun D σ H=>tv σ H fun v H1=>td σ H1 fun x H2=>ty σ H2 fun y H3=>∃a H4,x=.ref a/\DPut H3 a y v H4/\D.nx σ H4
section
variable{o i e value:Expr}{pos' Pt:Pos}{td ty tv:TE}
theorem AS(hu:X.A.units+1<cLine)(ho:PE X o td)(hi:PE X i ty)(hs:NoSl i):PE X (.Subscript o i pos) (Gg td ty):=by
 intro pr s σ H Q I h;refine AR PySem.F.slot_dict_getitem.lookup hs (Ji (ho pr s σ H _ I h) fun u s1 ⟨x,H1,I1,rx,q1⟩=>Ji (hi pr s1 σ H1 _ I1 q1) fun iv s2 Jk=>?_);obtain⟨y,H2,I2,ry,a,v,ex,g,q2⟩:=Jk;subst ex;obtain rfl:u=Value.ref a:=rx;exact⟨qO I2 g,vP hu I2 g ry fun w' s3 I3 MO=>⟨v,H2,I3,MO,q2⟩⟩
theorem AU(hu:X.A.units+1<cLine)(ho:PE X o td)(hi:PE X i ty)(hv:PE X value tv)(hs:swapsWith value (some (.Subscript o i pos')) pos.line X.env=pure false):
  PS X (.Assign [.Subscript o i pos'] value pos) (Gh td ty tv):=by
 intro pr s σ H D I h;refine wpAny_Assign_Subscript (Ji (hv pr s σ H _ I h) fun r s1 ⟨v,H1,I1,rv,q1⟩=>Ji (ho pr s1 σ H1 _ I1 q1) fun u s2 ⟨x,H2,I2,rx,q2⟩=>Ji (hi pr s2 σ H2 _ I2 q2) fun iv s3 ⟨y,H3,I3,ry,a,H4,ex,g,q3⟩=>?_) hs;subst ex;obtain rfl:u=Value.ref a:=rx;exact vQ hu I3 g ry rv fun s4 I4=>⟨σ,H4,I4,q3⟩
end
theorem dk_empty(h:Heap)(hb:sysModules<h.objs.size):ObjOk P w H (h.push {cls:=.type "dict",data:=.dict #[]}) h.objs.size (.dK []):=
 ⟨V0 _,Wf.mpr (W7 (VI hb)),[],.nil,Heap.DictOf.new h⟩
section
end
def tPairs:List (TE×TE)->St->Hp->(List (V×V)->Hp->Prop)->Prop
 |[],_,H,Q=>Q [] H
 |(tk,tv)::r,σ,H,Q=>tk σ H fun x H1=>tv σ H1 fun y H2=>tPairs r σ H2 fun ps H3=>Q ((x,y)::ps) H3
abbrev VV:List (V×V)->List (Value×Value)->Prop:=Paired fun p q=>RelV p.1 q.1/\RelV p.2 q.2
def Sv(X:Cx)(pos:Pos)(keys:List (Option Expr))(values:List Expr)(Of:List (TE×TE)):Prop:=
 ∀(pr:List (Addr×Obj)) (s:Shared) (σ:St) (H:Hp) (Q:List (V×V)->Hp->Prop),Inv X pr σ H s->tPairs Of σ H Q->
  wpAny (model X.prog X.w) X.A (evalPairs (pairTrees keys values X.env pos)) (fun vs s'=>∃ps H',Inv X pr σ H' s'/\VV ps vs/\Q ps H') X.xe s
theorem AV:Sv X pos [] [] []:=fun pr s σ H Q I h=>pairTrees_nil_walk ⟨[],H,I,.nil,h⟩
variable{Of:List (TE×TE)}
theorem yn{k v:Expr}{ks:List (Option Expr)}{vs:List Expr}{tk tv:TE}(hk:PE X k tk)(hv:PE X v tv)(hr:Sv X pos ks vs Of):
  Sv X pos (some k::ks) (v::vs) ((tk,tv)::Of):=fun pr s σ H Q I h=>
 pairTrees_cons_walk (Ji (hk pr s σ H _ I h) fun u s1 ⟨x,H1,I1,rx,q1⟩=>Ji (hv pr s1 σ H1 _ I1 q1) fun w2 s2 ⟨y,H2,I2,ry,q2⟩=>
  Ji (hr pr s2 σ H2 _ I2 q2) fun ws s3 ⟨ps,H3,I3,rel,q3⟩=>⟨(x,y)::ps,H3,I3,.cons ⟨rx,ry⟩ rel,q3⟩)
def pB(kvs more:List (Key×V)):List (Key×V):=more.foldl (fun acc kv=>kr acc kv.1 kv.2) kvs
theorem KV.merge:∀{more:List (Key×V)}{rs:List (Key×Value)}{kvs:List (Key×V)}{vs:List (Key×Value)},KV more rs->KV kvs vs->KV (pB kvs more) (merged vs rs):=by
 intro more rs kvs vs r;unfold KV at r;induction r generalizing kvs vs with
 |nil=>intro q;exact q
 | @cons p q ps qs h t ih=>
  intro r0;have e:KV (kr kvs p.1 p.2) (stored vs q.1 q.2):=by
   have:=r0.put p.1 h.2;rw[<-h.1];exact this
  exact ih e
theorem jg:∀(more kvs:List (Key×V)),(pB kvs more).length<=kvs.length+more.length
 |[],kvs=>by show kvs.length<=kvs.length+0;lia
 |p::r,kvs=>by
  have h1:=jg r (kr kvs p.1 p.2);have h2:=iS kvs p.1 p.2;show(pB (kr kvs p.1 p.2) r).length<=_;rw[Vm];lia
theorem mx{P:Program}{w:World}:∀{kvs:List (Key×V)}{ws:List (Value×Value)},VV (kvs.map fun kv=>(kV kv.1,kv.2)) ws->∃rs,Carries (mixKind P w) ws rs/\KV kvs rs
 |[],_,r=>by rw[V8]at r;cases r;exact⟨[],True.intro,.nil⟩
 |p::kvs,_,r=>by
  rw[Vz]at r;cases r with
  | @cons a b as bs h t=>
   obtain⟨rs,c,q⟩:=mx (P:=P) (w:=w) t;obtain⟨b1,b2⟩:=b;exact⟨(p.1,b2)::rs,⟨kV_is h.1,rfl,c⟩,.cons ⟨rfl,h.2⟩ q⟩
def Gi(Of:List (TE×TE)):TE:=fun σ H Q=>∀p,H p=none->tPairs Of σ (upd H p (.dK [])) fun ps H2=>H2 p=some (.dK [])/\∃kvs:List (Key×V),ps=kvs.map (fun kv=>(kV kv.1,kv.2))/\kvs.length<=15/\Q (.ref p) (upd H2 p (.dK (pB [] kvs)))
theorem AW{keys:List (Option Expr)}{values:List Expr}(h:Sv X pos keys values Of)(Kq:keys.all (·.isSome)=true)(hl:keys.length=values.length)(h0:keys≠[])
  (h15:keys.length<=15):PE X (.Dict keys values pos) (Gi Of):=by
 intro pr s σ H Q I q;have hn:=I.hok.fresh (Vl s.heap.objs.size);have I1:=I.laid (a:=s.heap.objs.size) (o:=.dK []) (h':=s.heap.push {cls:=.type "dict",data:=.dict #[]}) (t':=s.toks) (fun _ _ q=>Vc _ q) (Vl _) (dk_empty s.heap I.big);refine wpAny_Dict_walk (knd:=mixKind X.prog X.w) Kq hl h0 h15 (Ji (h pr _ σ _ _ I1 (q _ hn)) fun ws s2 Jk=>?_);obtain⟨ps,H2,I2,rel,e,kvs,ep,lk,q2⟩:=Jk;subst ep;obtain⟨rs,c,rk⟩:=mx (P:=X.prog) (w:=X.w) rel;obtain⟨z,hd,vs0,r0,dd⟩:=DB I2.hok e;cases r0;refine⟨rs,c,dd,fun h' Oe hs=>⟨.ref s.heap.objs.size,_,?_,rfl,q2⟩⟩;have hz:(pB [] kvs).length<=sizeLine:=by
  have h1:=jg kvs [];rw[Wl]at h1;rw[Wr];lia
 have he:∃q,h'.get? s.heap.objs.size=some q:=let⟨q,_,_,hq,_⟩:=Oe;⟨q,hq⟩
 exact qN I2 (by rw[e];exact True.intro) hs he (zu hz hd (rk.merge .nil) Oe)
section
variable{d:V}{r:Value}
end
section
variable{o e f:Expr}{apos Jj:Pos}{td ty tx:TE}
end
section
variable{kvs:List (Key×V)}
end
section
end
section
variable[DecidableEq κ]
end
end L2
namespace NX
open PySem PySem.Spec PyProof.Rows L2
def RawD(h:Heap)(d:Addr)(es:Array DictEntry)(ep:Nat):Prop:=∃o,h.get? d=some o/\o.ExactDict/\o.data=.dict es ep
theorem RawD.at{h h':Heap}{d:Addr}{es:Array DictEntry}{ep:Nat}(x:RawD h d es ep)(e:∀o,h.get? d=some o->h'.get? d=some o):RawD h' d es ep:=by
 obtain⟨o,g,r⟩:=x;exact⟨o,e o g,r⟩
section
variable{prog:Program}{w:World}{A:Around}{E:Value->Shared->Prop}{s:Shared}{d it:Addr}{es:Array DictEntry}{ep i:Nat}
theorem yo(x:RawD s.heap d es ep):s.TypeIs (.ref d) "dict":=by
 obtain⟨o,g,ex,_⟩:=x;exact⟨o,g,ex.1⟩
end
end NX
namespace NX
open PySem PySem.W PySem.Spec PyProof.Rows L2
section
variable{prog:Program}{w:World}{A:Around}{E:Value->Shared->Prop}{s:Shared}
end
section
variable{X:Cx}{pr:List (Addr×Obj)}{σ:L2.St}{H:Hp}{s:Shared}
end
end NX
namespace NX
open PySem PySem.Spec PyProof.Rows L2
section
open PySem.SeqAt
open PySem.AutoSeq1 (wpAny_loadPart')
open PySem.MeetsSeq PySem.MeetsSeq2 PySem.MeetsSeq3
end
section
variable{X:Cx}
end
section
variable{prog:Program}{w:World}{A:Around}{E:Value->Shared->Prop}{s:Shared}
end
section
variable{X:Cx}{pr:List (Addr×Obj)}{σ:L2.St}{H:Hp}{s:Shared}{scope:Scope}{N:List Str}{ix:List (Option Nat)}{fp:List Addr}
end
section
variable{X:Cx}{scope:Scope}{N:List Str}{ix:List (Option Nat)}{tg iter elt:Expr}{ifs:List Expr}{pos:Pos}{wi:TI}{g:TG}{tc:TT}{te:TE}
end
noncomputable def CXC(P:Program)(w:World)(base:Heap)(C:Addr):CXT:=fun outer H s E e s'=>
 ∃(a t:Addr) (B:Heap) (H':Hp),e=.ref a/\s'.os=s.os/\AllBare s'.gens/\Un (Mu outer) [] H H' s.heap s'.heap/\HOk P w H' s'.heap/\Heap.FlyingW B outer a (.ref C) (.ref t) s'.heap/\
  (∀b u,s'.heap.get? b=some u->(H' b≠none\/∃o,s.heap.get? b=some o)->b∉Mu outer->B.get? b=some u)/\E (.ref C) none H'
section
variable{X:Cx}{st:Stmt}{cN:List Stmt}{t:TS}{u u':L2.St->Hp->Prop}{e:Expr}{es:List Expr}{x:Str}{C:Addr}{Ww:Hp->Prop}{np Jj pos:Pos}
end
def XP(X:Cx)(pr:List (Addr×Obj))(σ:L2.St)(C:Addr)(Ww:Hp->Prop)(e:Value)(s':Shared):Prop:=∃(s1:Shared) (H1:Hp),Inv X pr σ H1 s1/\CXC X.prog X.w X.base C X.stack H1 s1 (fun _ _ H'=>Ww H') e s'
abbrev TX:=L2.St->Hp->(Hp->Prop)->Prop
section
variable{X:Cx}{st:Stmt}{cN:List Stmt}{tx:TX}{e a b:Expr}{es:List Expr}{x:Str}{C:Addr}{k:Nat}{sp:Sp}{p pos:Pos}
end
open PySem.Builtin.ObjectAttr PySem.Builtin.Getset_descriptor
section
variable{prog:Program}{w:World}{A:Around}{E:Value->Shared->Prop}{s:Shared}{K:W.Frag}{x D:Addr}
end
section
variable{X:Cx}{pr:List (Addr×Obj)}{σ:L2.St}{H:Hp}{s:Shared}{a:Addr}{o:Obj}
end
end NX
namespace NX
open PySem PySem.W PySem.Spec PyProof.Rows L2
section
variable{prog:Program}{w:World}{A:Around}{E:Value->Shared->Prop}{s:Shared}
end
section
variable{X:Cx}
end
end NX
namespace NX
open PySem PySem.Spec PyProof.Rows L2
section
variable{X:Cx}{es:List Expr}{kt:Nat}{pt:Pos}
end
end NX
namespace NX
open PySem
namespace ST
noncomputable def M6(m:Nat)(p:SetTable.Probe):SetTable.Probe:=if p.more>0 then{p with j:=p.j+1,more:=p.more-1} else
 {p with j:=(SetTable.leap m p.i p.perturb).1,more:=SetTable.runEnd m (SetTable.leap m p.i p.perturb).1-(SetTable.leap m p.i p.perturb).1,i:=(SetTable.leap m p.i p.perturb).1,perturb:=(SetTable.leap m p.i p.perturb).2}
theorem uq(t:SetTable)(p:SetTable.Probe):t.advance p=M6 t.mask p:=rfl
def Jr(m:Nat):Nat->SetTable.Probe->SetTable.Probe
 | 0,p=>p
 |k+1,p=>Jr m k (M6 m p)
theorem kQ(m:Nat):∀(a b:Nat) (p:SetTable.Probe),Jr m (a+b) p=Jr m b (Jr m a p)
 | 0,b,p=>by rw[Xw];rfl
 |a+1,b,p=>by
  rw[show a+1+b=(a+b)+1 by lia,Jr,kQ m a b];rfl
def fr(m:Nat)(x:Nat×Nat)(d:Option Nat):SetTable.Probe:={j:=x.1,more:=SetTable.runEnd m x.1-x.1,i:=x.1,perturb:=x.2,dummy:=d}
theorem yp(t:SetTable)(h:Int):t.probeStart h=fr t.mask (SetTable.bits h%(t.mask+1),SetTable.bits h) none:=rfl
theorem qP(m:Nat):∀(r:Nat) (q:SetTable.Probe),q.more=r->Jr m (r+1) q=fr m (SetTable.leap m q.i q.perturb) q.dummy
 | 0,q,h=>by
  show M6 m q=_;unfold M6;rw[Vt (by lia)];rfl
 |r+1,q,h=>by
  rw[Jr];have e:M6 m q={q with j:=q.j+1,more:=q.more-1}:=by
   unfold M6;rw[Vn (by lia)]
  rw[e,qP m r _ (by show q.more-1=r;lia)]
theorem run_in(m:Nat):∀(k:Nat) (q:SetTable.Probe),k<=q.more->Jr m k q={q with j:=q.j+k,more:=q.more-k}
 | 0,q,h=>rfl
 |k+1,q,h=>by
  rw[Jr];have e:M6 m q={q with j:=q.j+1,more:=q.more-1}:=by
   unfold M6;rw[Vn (by lia)]
  rw[e,run_in m k _ (by show k<=q.more-1;lia)];show({q with j:=q.j+1+k,more:=q.more-1-k}:SetTable.Probe)=_;rw[show q.j+1+k=q.j+(k+1) by lia,show q.more-1-k=q.more-(k+1) by lia]
def lp(m:Nat):Nat->Nat×Nat->Nat×Nat
 | 0,x=>x
 |l+1,x=>lp m l (SetTable.leap m x.1 x.2)
theorem zv(m:Nat):∀(a b:Nat) (x:Nat×Nat),lp m (a+b) x=lp m b (lp m a x)
 | 0,b,x=>by rw[Xw];rfl
 |a+1,b,x=>by
  rw[show a+1+b=(a+b)+1 by lia,lp,zv m a b];rfl
theorem AX(m i:Nat):SetTable.runEnd m i-i<=9:=by
 unfold SetTable.runEnd;split <;> lia
theorem vR(m:Nat):∀(l:Nat) (x:Nat×Nat) (d:Option Nat),∃k,k<=10*l/\Jr m k (fr m x d)=fr m (lp m l x) d
 | 0,x,d=>⟨0,Vl _,rfl⟩
 |l+1,x,d=>by
  obtain⟨k,hk,e⟩:=vR m l (SetTable.leap m x.1 x.2) d;have h1:=qP m (SetTable.runEnd m x.1-x.1) (fr m x d) rfl;have h2:=AX m x.1;refine⟨(SetTable.runEnd m x.1-x.1+1)+k,by lia,?_⟩;rw[kQ,h1];exact e
theorem zw(m:Nat):∀(l:Nat) (x:Nat×Nat),(lp m l x).2=x.2 / 32 ^ l
 | 0,x=>(Nat.div_one _).symm
 |l+1,x=>by
  rw[lp,zw m l];show x.2 / 32 / 32 ^ l=_;rw[Nat.div_div_eq_div_mul,Nat.pow_succ,Nat.mul_comm]
def cy(m:Nat):Nat->Nat->Nat
 | 0,i=>i
 |l+1,i=>cy m l ((i*5+1)%(m+1))
theorem rX(m:Nat):∀(a b i:Nat),cy m (a+b) i=cy m b (cy m a i)
 | 0,b,i=>by rw[Xw];rfl
 |a+1,b,i=>by
  rw[show a+1+b=(a+b)+1 by lia,cy,rX m a b];rfl
theorem DD(m:Nat):∀(l i:Nat),lp m l (i,0)=(cy m l i,0)
 | 0,i=>rfl
 |l+1,i=>by
  show lp m l ((i*5+1+0 / 32)%(m+1),0 / 32)=_;rw[Nat.zero_div,aau,DD m l];rfl
def M7(m:Nat):Prop:=m=7\/m=31\/m=127
def DE(m:Nat):Bool:=(List.range (m+1)).all fun s=>(List.range (m+1)).any fun a=>cy m a 0==s
theorem vS{m:Nat}(h:M7 m):∀s,s<=m->∃a,a<=m/\cy m a 0=s:=by
 have key:DE m=true:=by
  rcases h with rfl|rfl|rfl <;> decide +kernel
 intro s hs;unfold DE at key;rw[VO]at key;obtain⟨a,ha,e⟩:=Wa.mp (key s (VD.mpr (by lia)));exact⟨a,by have:=VD.mp ha;lia,V5.mp e⟩
theorem AY{m:Nat}(h:M7 m):cy m (m+1) 0=0:=by
 rcases h with rfl|rfl|rfl <;> decide +kernel
theorem DF{m:Nat}(h:M7 m){i s:Nat}(hi:i<=m)(hs:s<=m):∃l,l<=m/\cy m l i=s:=by
 obtain⟨a,ha,rfl⟩:=vS h i hi;obtain⟨b,hb,rfl⟩:=vS h s hs;by_cases NS:a<=b
 ·refine⟨b-a,by lia,?_⟩;rw[<-rX,show a+(b-a)=b by lia]
 ·refine⟨m+1-a+b,by lia,?_⟩;rw[<-rX,show a+(m+1-a+b)=(m+1)+b by lia,rX,AY h]
theorem zx(m:Nat):∀(l:Nat) (x:Nat×Nat),0<l->(lp m l x).1<=m
 | 1,x,_=>by
  show(x.1*5+1+x.2 / 32)%(m+1)<=m;have:=Nat.mod_lt (x.1*5+1+x.2 / 32) (show 0<m+1 by lia);lia
 |l+2,x,_=>zx m (l+1) _ (by lia)
theorem DG{m:Nat}(h:M7 m){x:Nat×Nat}(hx:x.2<2 ^ 64){s:Nat}(hs:s<=m):∃l,l<=13+m/\(lp m l x).1=s:=by
 have h0:(lp m 13 x).2=0:=by
  rw[zw];exact Nat.div_eq_of_lt (Vv hx (by decide))
 obtain⟨l,hl,e⟩:=DF h (zx m 13 x (by decide)) hs;refine⟨13+l,by lia,?_⟩;rw[zv,show lp m 13 x=((lp m 13 x).1,0) by rw[<-h0],DD];exact e
theorem yq{m:Nat}(h:M7 m){x:Nat×Nat}(hx:x.2<2 ^ 64)(d:Option Nat){s:Nat}(hs:s<=m):∃k,k<10*(m+15)/\(Jr m k (fr m x d)).j=s:=by
 obtain⟨l,hl,e⟩:=DG h hx hs;obtain⟨k,hk,e2⟩:=vR m l x d;exact⟨k,by lia,by rw[e2];exact e⟩
theorem vT(h:Int):SetTable.bits h<2 ^ 64:=by
 unfold SetTable.bits;have h1:=Int.emod_nonneg h (show((2:Int) ^ 64)≠0 by decide);have h2:=Int.emod_lt_of_pos h (show(0:Int)<2 ^ 64 by decide);have:(2:Int) ^ 64=((2 ^ 64:Nat):Int):=by decide
 lia
theorem rY{P:Nat->Bool}:∀(k:Nat),P k=true->∃n,n<=k/\P n=true/\∀i<n,P i=false
 |k,h=>by
  cases e:(List.range k).find? P with
  |none=>
   refine⟨k,Vl _,h,fun i hi=>?_⟩;have:=Xj.mp e i (VD.mpr hi);simpa using this
  |some a=>
   have ha:=VD.mp (WQ e);have hp:=Yi e;obtain⟨n,hn,h1,h2⟩:=rY a hp;exact⟨n,by lia,h1,h2⟩
termination_by k=>k
theorem pC{m:Nat}{L:List Nat}(hL:L.length<=m):∃s,s<=m/\s∉L:=by
 have:∀(l k:List Nat),l.Nodup->(∀x∈l,x∈k)->l.length<=k.length:=by
  intro l;induction l with
  |nil=>exact fun k _ _=>V0 _
  |cons a l ih=>
   intro k nd h;rw[VN]at nd;have ha:=h a Va;have:=ih (k.erase a) nd.2 fun x hx=>(ZN (fun e=>nd.1 (by rw[<-e];exact hx))).mpr (h x (Vb _ hx))
   have h2:=Yd ha;have h3:=XI ha;rw[Vm];lia
 refine WR fun hn=>?_
 have:=this (List.range (m+1)) L List.nodup_range fun x hx=>WR fun hx2=>hn ⟨x,by have:=VD.mp hx;lia,hx2⟩
 rw[VG]at this;lia
theorem vU{m:Nat}(h:M7 m){L:List Nat}(hL:L.length<=m){x:Nat×Nat}(hx:x.2<2 ^ 64)(d:Option Nat):∃n,n<10*(m+15)/\(Jr m n (fr m x d)).j∉L/\∀i<n,(Jr m i (fr m x d)).j∈L:=by
 obtain⟨s,hs,hn⟩:=pC hL;obtain⟨k,hk,e⟩:=yq h hx d hs;obtain⟨n,h1,h2,h3⟩:=rY (P:=fun k=>!decide ((Jr m k (fr m x d)).j∈L)) k (by rw[e,VM hn];rfl);refine⟨n,by lia,by simpa using h2,fun i hi=>by simpa using h3 i hi⟩
end ST
end NX
namespace NX
open PySem
namespace ST
def Up(l:List Nat):Prop:=l.Pairwise (·< ·)
theorem Up.lt{xs:Array Nat}(h:Up xs.toList){a b u v:Nat}(NS:a<b)(hu:xs[a]?=some u)(hv:xs[b]?=some v):u<v:=by
 unfold Up at h;rw[YY]at h;obtain⟨h1,e1⟩:=WH.mp hu;obtain⟨h2,e2⟩:=WH.mp hv;have:=h a b (by rw[Vp];exact h1) (by rw[Vp];exact h2) NS;rw[Wh,Wh,e1,e2]at this;exact this
structure Bel(xs:Array Nat)(j r:Nat):Prop where
 le:r<=xs.size
 lo:∀k<r,∀v,xs[k]?=some v->v<j
 hi:∀k,r<=k->∀v,xs[k]?=some v->j<=v
theorem qQ{xs:Array Nat}(hs:Up xs.toList)(j:Nat):∀(gI lo hi:Nat),lo<=hi->hi<=xs.size->hi-lo<=gI->(∀k<lo,∀v,xs[k]?=some v->v<j)->(∀k,hi<=k->∀v,xs[k]?=some v->j<=v)->Bel xs j (SetTable.below.go xs j gI lo hi)
 | 0,lo,hi,h1,h2,h3,h4,h5=>by
  unfold SetTable.below.go;exact⟨by lia,h4,fun k hk=>h5 k (by lia)⟩
 |gI+1,lo,hi,h1,h2,h3,h4,h5=>by
  unfold SetTable.below.go;split
  ·rename_i Jv;have hm:(lo+hi) / 2<xs.size:=by lia
   have hg:xs[(lo+hi) / 2]?=some xs[(lo+hi) / 2]:=V2 hm;have hd:xs.getD ((lo+hi) / 2) j=xs[(lo+hi) / 2]:=by
    rw[VX,hg];rfl
   dsimp only;rw[hd];split
   ·rename_i hw;refine qQ hs j gI _ _ (by lia) h2 (by lia) (fun k hk v hv=>?_) h5;by_cases MR:k=(lo+hi) / 2
    ·rw[MR,hg]at hv;cases hv;exact hw
    ·have:=hs.lt (show k<(lo+hi) / 2 by lia) hv hg;lia
   ·rename_i hw;refine qQ hs j gI _ _ (by lia) (by lia) (by lia) h4 (fun k hk v hv=>?_);by_cases MR:k=(lo+hi) / 2
    ·rw[MR,hg]at hv;cases hv;lia
    ·have:=hs.lt (show(lo+hi) / 2<k by lia) hg hv;lia
  ·exact⟨by lia,h4,fun k hk=>h5 k (by lia)⟩
theorem my{xs:Array Nat}(hs:Up xs.toList)(j:Nat):Bel xs j (SetTable.below xs j):=
 qQ hs j xs.size 0 xs.size (V0 _) (Vl _) (by lia) (fun k hk=>absurd hk (by lia)) (fun k hk v hv=>by
  have:=(WH.mp hv).1;lia)
theorem yr{xs:Array Nat}(hs:Up xs.toList){j:Nat}(h:j∈xs.toList):xs[SetTable.below xs j]?=some j:=by
 have B:=my hs j;obtain⟨k,hk,e⟩:=Xo.mp h;rw[Vp]at hk;rw[Wh]at e;have hg:xs[k]?=some j:=by rw[V2 hk,e]
 have h1:SetTable.below xs j<=k:=WR fun hn=>by
  have:=B.lo k (by lia) j hg;lia
 by_cases h2:SetTable.below xs j=k
 ·rw[h2,hg]
 ·have Jv:SetTable.below xs j<xs.size:=by lia
  have M8:xs[SetTable.below xs j]?=some xs[SetTable.below xs j]:=V2 Jv;have h3:=hs.lt (show SetTable.below xs j<k by lia) M8 hg;have h4:=B.hi _ (Vl _) _ M8;lia
theorem vV(j:Nat):SetTable.has #[] j=false:=rfl
theorem vW{t:SetTable}(hs:Up t.place.toList){j:Nat}(h:j∈t.place.toList):∃i,t.slot j=.live i/\t.place[i]?=some j:=by
 have e:=yr hs h;refine⟨_,?_,e⟩;unfold SetTable.slot;dsimp only;rw[e,Vn (by simp)]
theorem yt{t:SetTable}(hd:t.dummies = #[]){j:Nat}(h:j∉t.place.toList):t.slot j=.empty:=by
 unfold SetTable.slot;dsimp only;rw[Vt,hd,vV,Vt Vg];intro e;have e:t.place[SetTable.below t.place j]?=some j:=by simpa using e
 exact h (by rw[X1];exact Zx e)
theorem kG{xs:Array Nat}(hs:Up xs.toList){a b j:Nat}(ha:xs[a]?=some j)(hb:xs[b]?=some j):a=b:=by
 rcases Nat.lt_trichotomy a b with h|h|h
 ·have:=hs.lt h ha hb;lia
 ·exact h
 ·have:=hs.lt h hb ha;lia
theorem kR(m:Nat):∀(k:Nat) (p:SetTable.Probe),(Jr m k p).dummy=p.dummy
 | 0,p=>rfl
 |k+1,p=>by
  rw[Jr,kR m k];unfold M6;split <;> rfl
theorem rZ{t:SetTable}{m:Nat}(hm:t.mask=m)(hs:Up t.place.toList)(hd:t.dummies = #[])(hashAt:Nat->Int)(h:Int):∀(n gI:Nat) (p:SetTable.Probe),p.dummy=none->n<gI->(∀i<n,(Jr m i p).j∈t.place.toList)->(Jr m n p).j∉t.place.toList->
  (SetTable.probe.go t hashAt h gI p=some (.empty (Jr m n p).j none)/\∀i<n,∀c,t.place[c]?=some (Jr m i p).j->hashAt c≠h)\/
  ∃i c,i<n/\t.place[c]?=some (Jr m i p).j/\hashAt c=h/\SetTable.probe.go t hashAt h gI p=some (.candidate (Jr m i p).j c (Jr m (i+1) p))/\∀i'<i,∀c',t.place[c']?=some (Jr m i' p).j->hashAt c'≠h
 | 0,gI+1,p,hp,_,_,hn=>by
  left;unfold SetTable.probe.go;have e:t.slot p.j=.empty:=yt hd hn;rw[e];dsimp only;rw[hp];exact⟨rfl,fun i hi=>absurd hi (by lia)⟩
 |n+1,gI+1,p,hp,hf,hi,hn=>by
  obtain⟨c,e,hc⟩:=vW hs (hi 0 (by lia));have e:t.slot p.j=.live c:=e;have ea:t.advance p=M6 m p:=by rw[uq,hm]
  unfold SetTable.probe.go;rw[e];dsimp only;by_cases hh:hashAt c=h
  ·right;refine⟨0,c,by lia,hc,hh,?_,fun i' L9=>absurd L9 (by lia)⟩;rw[Vn (V5.mpr hh),ea];rfl
  ·rw[Vt (fun z=>hh (V5.mp z)),ea];rcases rZ hm hs hd hashAt h n gI (M6 m p) (by have:=kR m 1 p;exact this.trans hp) (by lia) (fun i Sw=>hi (i+1) (by lia)) hn with⟨h1,h2⟩|⟨i,c',h1,h2,h3,h4,h5⟩
   ·left;refine⟨h1,fun i Sw c' N1=>?_⟩;cases i with
    |zero=>
     rw[kG hs N1 hc];exact hh
    |succ i=>exact h2 i (by lia) c' N1
   ·right;refine⟨i+1,c',by lia,h2,h3,h4,fun i' L9 c'' Rp=>?_⟩;cases i' with
    |zero=>
     rw[kG hs Rp hc];exact hh
    |succ i'=>exact h5 i' (by lia) c'' Rp
def J2(m:Nat)(h:Int):SetTable.Probe:=fr m (SetTable.bits h%(m+1),SetTable.bits h) none
structure Tb(t:SetTable)(es:List (Int×Value))(m:Nat):Prop where
 ms:t.mask=m
 msk:M7 m
 dm:t.dummies = #[]
 sz:t.place.size=es.length
 le:es.length<=m
 up:Up t.place.toList
 bd:∀j∈t.place.toList,j<=m
 rc:∀z∈t.place.toList.zip es,∃k,(Jr m k (J2 m z.2.1)).j=z.1/\∀i<k,(Jr m i (J2 m z.2.1)).j∈t.place.toList
theorem yu(m:Nat)(h:Int):(SetTable.bits h%(m+1),SetTable.bits h).2<2 ^ 64:=vT h
theorem Tb.free{t:SetTable}{es:List (Int×Value)}{m:Nat}(T:Tb t es m)(h:Int):∃n,n<10*(m+15)/\(Jr m n (J2 m h)).j∉t.place.toList/\∀i<n,(Jr m i (J2 m h)).j∈t.place.toList:=
 vU T.msk (by rw[Vp,T.sz];exact T.le) (yu m h) none
theorem vX{l:List Nat}{xs:Array Nat}(he:xs.toList=l)(hs:Up l){j:Nat}(hj:j∉l):Up (l.take (SetTable.below xs j)++j::l.drop (SetTable.below xs j)):=by
 subst he;have B:=my hs j;have h1:∀a∈xs.toList.take (SetTable.below xs j),a<j:=fun a ha=>by
  obtain⟨k,hk,e⟩:=Xo.mp ha;rw[VZ,Vp]at hk;rw[List.getElem_take,Wh]at e;exact B.lo k (by lia) a (by rw[V2 (by lia),e])
 have h2:∀a∈xs.toList.drop (SetTable.below xs j),j<a:=fun a ha=>by
  obtain⟨k,hk,e⟩:=Xo.mp ha;rw[WY,Vp]at hk;rw[List.getElem_drop,Wh]at e;have h3:=B.hi (SetTable.below xs j+k) (by lia) a (by rw[V2 (by lia),e]);have h4:a≠j:=fun z=>hj (by rw[<-z];exact YC ha)
  lia
 have hp:(xs.toList.take (SetTable.below xs j)++xs.toList.drop (SetTable.below xs j)).Pairwise (·< ·):=by
  rw[Zy];exact hs
 rw[ZO]at hp;unfold Up;rw[ZO,WX];refine⟨hp.1,⟨h2,hp.2.1⟩,fun a ha b hb=>?_⟩;rcases Vo.mp hb with rfl|hb
 ·exact h1 a ha
 ·exact hp.2.2 a ha b hb
theorem ur{α β:Type}{a:List α}{b:List β}(h:a.length=b.length)(p:Nat)(x:α)(y:β):(a.take p++x::a.drop p).zip (b.take p++y::b.drop p)=(a.zip b).take p++(x,y)::(a.zip b).drop p:=by
 rw[List.zip_append (by rw[VZ,VZ,h]),XJ,show(a.zip b).take p=(a.take p).zip (b.take p) from List.take_zipWith,show(a.zip b).drop p=(a.drop p).zip (b.drop p) from List.drop_zipWith]
theorem iu{α:Type}{l:List α}{p:Nat}{x z:α}:z∈l.take p++x::l.drop p<->z=x\/z∈l:=by
 rw[VS,Vo];constructor
 ·rintro(h|h|h)
  ·exact .inr (X2 h)
  ·exact .inl h
  ·exact .inr (YC h)
 ·rintro(h|h)
  ·exact .inr (.inl h)
  ·rw[<-Zy p l,VS]at h;rcases h with h|h
   ·exact .inl h
   ·exact .inr (.inr h)
theorem Tb.put{t:SetTable}{es:Array (Int×Value)}{m:Nat}(T:Tb t es.toList m)(h:Int)(x:Value){n:Nat}(hn:(Jr m n (J2 m h)).j∉t.place.toList)(hi:∀i<n,(Jr m i (J2 m h)).j∈t.place.toList)(hj:(Jr m n (J2 m h)).j<=m)(hle:es.size+1<=m):
  Tb (t.put (Jr m n (J2 m h)).j).1 (SetTable.insertAt es (t.put (Jr m n (J2 m h)).j).2 (h,x)).toList m:=by
 have sz:=T.sz;rw[Vp]at sz;generalize hjj:(Jr m n (J2 m h)).j=j at hn hj;have JS:(t.put j).1.place.toList=t.place.toList.take (SetTable.below t.place j)++j::t.place.toList.drop (SetTable.below t.place j):=Y7 _ _ _;have Rq:(SetTable.insertAt es (t.put j).2 (h,x)).toList=es.toList.take (SetTable.below t.place j)++(h,x)::es.toList.drop (SetTable.below t.place j):=Y7 _ _ _;have hl:∀{α:Type}(l:List α) (p:Nat) (y:α),(l.take p++y::l.drop p).length=l.length+1:=fun l p y=>by
  rw[VJ,Vm,VZ,WY];lia
 refine⟨T.ms,T.msk,?_,?_,?_,?_,?_,?_⟩
 ·show(if SetTable.has t.dummies j then _ else t.dummies) = #[];rw[T.dm,vV,Vt Vg]
 ·rw[<-Vp,JS,Rq,hl,hl,Vp,Vp,sz]
 ·rw[Rq,hl,Vp];exact hle
 ·rw[JS];exact vX rfl T.up hn
 ·intro a ha;rw[JS,iu]at ha;rcases ha with rfl|ha
  ·exact hj
  ·exact T.bd a ha
 ·intro z hz;rw[JS,Rq,ur (by rw[Vp,Vp,sz]),iu]at hz;rcases hz with rfl|hz
  ·exact⟨n,hjj,fun i JO=>by rw[JS,iu];exact .inr (hi i JO)⟩
  ·obtain⟨k,h1,h2⟩:=T.rc z hz;exact⟨k,h1,fun i hik=>by rw[JS,iu];exact .inr (h2 i hik)⟩
end ST
end NX
namespace NX
open PySem
namespace ST
theorem pD{m i:Nat}(h:i<=m):SetTable.runEnd m i<=m:=by
 unfold SetTable.runEnd;split <;> lia
theorem zy(m:Nat):∀(k:Nat) (p:SetTable.Probe),p.j+p.more<=m->(Jr m k p).j<=m
 | 0,p,h=>VR (Zi _ _) h
 |k+1,p,h=>by
  rw[Jr];refine zy m k _ ?_;unfold M6;split
  ·show p.j+1+(p.more-1)<=m;lia
  ·have h1:(SetTable.leap m p.i p.perturb).1<=m:=by
    show(p.i*5+1+p.perturb / 32)%(m+1)<=m;have:=Nat.mod_lt (p.i*5+1+p.perturb / 32) (show 0<m+1 by lia);lia
   have h2:=pD h1;show(SetTable.leap m p.i p.perturb).1+(SetTable.runEnd m (SetTable.leap m p.i p.perturb).1-(SetTable.leap m p.i p.perturb).1)<=m;lia
theorem qR(m k:Nat)(h:Int):(Jr m k (J2 m h)).j<=m:=by
 have h1:SetTable.bits h%(m+1)<=m:=by
  have:=Nat.mod_lt (SetTable.bits h) (show 0<m+1 by lia);lia
 have h2:=pD h1;refine zy m k _ ?_;show SetTable.bits h%(m+1)+(SetTable.runEnd m (SetTable.bits h%(m+1))-SetTable.bits h%(m+1))<=m;lia
def gu(o:Array (Option Nat))(j:Nat):Bool:=(o.getD j (some 0)).isNone
theorem pE(m:Nat)(o:Array (Option Nat)):∀(gI i q:Nat),(∃l,l<gI/\gu o (lp m l (i,q)).1=true)->∃j,SetTable.layClean.free m o gI i q=some j/\gu o j=true/\∃k,(Jr m k (fr m (i,q) none)).j=j/\∀k'<k,gu o (Jr m k' (fr m (i,q) none)).j=false
 | 0,i,q,⟨l,hl,_⟩=>absurd hl (by lia)
 |gI+1,i,q,⟨l,hl,hf⟩=>by
  unfold SetTable.layClean.free;have hre:i<=SetTable.runEnd m i:=by
   unfold SetTable.runEnd;split <;> lia
  have JO:∀k,k<=SetTable.runEnd m i-i->(Jr m k (fr m (i,q) none)).j=i+k:=fun k hk=>by
   rw[run_in m k (fr m (i,q) none) hk];rfl
  cases e:(List.range (SetTable.runEnd m i+1-i)).find? fun k=>(o.getD (i+k) (some 0)).isNone with
  |some k=>
   obtain⟨h1,h2,h3⟩:=List.find?_range_eq_some.mp e;have h2:=VD.mp h2;refine⟨i+k,rfl,h1,k,JO k (by lia),fun k' Ln=>?_⟩;rw[JO k' (by lia)];have:=h3 k' Ln;simpa[gu] using this
  |none=>
   have hn:∀k,k<=SetTable.runEnd m i-i->gu o (i+k)=false:=fun k hk=>by
    have:=Xj.mp e k (VD.mpr (by lia));exact Xs.mpr this
   have hl0:l≠0:=fun z=>by
    subst z;have:=hn 0 (by lia);rw[aau]at this;have hf:gu o i=true:=hf;rw[this]at hf;cases hf
   obtain⟨l',rfl⟩:∃l',l=l'+1:=⟨l-1,by lia⟩
   obtain⟨j,h1,h2,k,h3,h4⟩:=pE m o gI (SetTable.leap m i q).1 (SetTable.leap m i q).2 ⟨l',by lia,hf⟩;have Rr:=qP m (SetTable.runEnd m i-i) (fr m (i,q) none) rfl;refine⟨j,h1,h2,(SetTable.runEnd m i-i+1)+k,?_,fun k' Ln=>?_⟩
   ·rw[kQ,Rr];exact h3
   ·by_cases MR:k'<=SetTable.runEnd m i-i
    ·rw[JO k' MR];exact hn k' MR
    ·rw[show k'=(SetTable.runEnd m i-i+1)+(k'-(SetTable.runEnd m i-i+1)) by lia,kQ,Rr];exact h4 _ (by lia)
def own(o:Array (Option Nat))(l:List Nat):List (Nat×Nat):=l.filterMap fun j=>(o.getD j none).map (j,·)
theorem nF(o:Array (Option Nat)):∀l:List Nat,(own o l).map (·.1)=l.filter fun j=>(o.getD j none).isSome
 |[]=>rfl
 |j::l=>by
  have ih:=nF o l;unfold own at ih ⊢;cases e:o.getD j none with
  |none=>
   rw[WA (by rw[e];rfl),ih,Zb (by rw[e];exact Vg)]
  |some c=>
   rw[Wi (b:=(j,c)) (by rw[e];rfl),Vz,ih,Zc (by rw[e];rfl)]
theorem vY{o:Array (Option Nat)}{l:List Nat}{j c:Nat}:(j,c)∈own o l<->j∈l/\o.getD j none=some c:=by
 unfold own;rw[Yf];constructor
 ·rintro⟨a,ha,e⟩;obtain⟨c',hc,e2⟩:=VW.mp e;cases e2;exact⟨ha,hc⟩
 ·rintro⟨h1,h2⟩;exact⟨j,h1,by rw[h2];rfl⟩
theorem nG{o o':Array (Option Nat)}:∀{l:List Nat},(∀j∈l,o'.getD j none=o.getD j none)->own o' l=own o l
 |[],_=>rfl
 |j::l,h=>by
  have ih:=nG fun x hx=>h x (Vb j hx)
  unfold own at ih ⊢;rw[Xz,Xz,ih,h j Va]
theorem AZ{o o':Array (Option Nat)}{l:List Nat}(nd:l.Nodup){j k:Nat}(hj:j∈l)(h0:o.getD j none=none)(h1:o'.getD j none=some k)(h2:∀i,i≠j->o'.getD i none=o.getD i none):(own o' l).Perm ((j,k)::own o l):=by
 obtain⟨a,b,rfl⟩:=List.append_of_mem hj;rw[VE,VN]at nd;obtain⟨_,⟨nb,_⟩,nab⟩:=nd;have ea:own o' a=own o a:=nG fun i hi=>h2 i fun z=>nab i hi j Va z
 have eb:own o' b=own o b:=nG fun i hi=>h2 i fun z=>nb (by rw[<-z];exact hi)
 have e1:own o' (a++j::b)=own o' a++(j,k)::own o' b:=by
  unfold own;rw[Yv,Wi (b:=(j,k)) (by rw[h1];rfl)]
 have e2:own o (a++j::b)=own o a++own o b:=by
  unfold own;rw[Yv,WA (by rw[h0];rfl)]
 rw[e1,e2,ea,eb];exact List.perm_middle
structure Ly(m:Nat)(P:List Int)(o:Array (Option Nat)):Prop where
 sz:o.size=m+1
 pm:((own o (List.range (m+1))).map (·.2)).Perm (List.range P.length)
 rc:∀j c,o.getD j none=some c->∃h,P[c]?=some h/\∃k,(Jr m k (J2 m h)).j=j/\∀i<k,∃c',o.getD (Jr m i (J2 m h)).j none=some c'
theorem nH{o:Array (Option Nat)}{j:Nat}(hs:j<o.size):gu o j = !(o.getD j none).isSome:=by
 unfold gu;rw[VX,VX,V2 hs];cases o[j] <;> rfl
theorem A5{o:Array (Option Nat)}{j:Nat}(h:gu o j=true):j<o.size:=WR fun hn=>by
 unfold gu at h;rw[VX,Array.getElem?_eq_none (by lia)]at h;cases h
theorem Ly.len{m:Nat}{P:List Int}{o:Array (Option Nat)}(L:Ly m P o):(own o (List.range (m+1))).length=P.length:=by
 have:=L.pm.length_eq;rw[Ve,VG]at this;exact this
theorem A6{m:Nat}(hm:M7 m){P:List Int}{o:Array (Option Nat)}(L:Ly m P o)(hl:P.length<=m)(h:Int):∃j,SetTable.layClean.free m o (SetTable.turns m) (SetTable.bits h%(m+1)) (SetTable.bits h)=some j/\Ly m (P++[h]) (o.setIfInBounds j (some P.length)):=by
 obtain⟨s,hs,hn⟩:=pC (m:=m) (L:=(own o (List.range (m+1))).map (·.1)) (by rw[Ve,L.len];exact hl);have hsf:gu o s=true:=by
  rw[nH (by rw[L.sz];lia)];rw[nF,V7]at hn;cases e:(o.getD s none).isSome with
  |false=>rfl
  |true=>exact absurd ⟨VD.mpr (by lia),e⟩ hn
 obtain⟨l,NU,el⟩:=DG hm (x:=(SetTable.bits h%(m+1),SetTable.bits h)) (vT h) hs;obtain⟨j,h1,h2,k,h3,h4⟩:=pE m o (SetTable.turns m) (SetTable.bits h%(m+1)) (SetTable.bits h) ⟨l,by unfold SetTable.turns;lia,by rw[el];exact hsf⟩;have Ts:=A5 h2;have hjm:j<m+1:=by rw[<-L.sz];exact Ts
 have h0:o.getD j none=none:=by
  rw[nH Ts]at h2;cases e:o.getD j none with
  |none=>rfl
  |some c=>rw[e]at h2;cases h2
 have g1:(o.setIfInBounds j (some P.length)).getD j none=some P.length:=by
  rw[VX,Array.getElem?_setIfInBounds_self_of_lt Ts];rfl
 have g2:∀i,i≠j->(o.setIfInBounds j (some P.length)).getD i none=o.getD i none:=fun i hi=>by
  rw[VX,VX,Array.getElem?_setIfInBounds_ne (W7 hi)]
 have mono:∀i,(∃c',o.getD i none=some c')->∃c',(o.setIfInBounds j (some P.length)).getD i none=some c':=fun i Jc=>by
  obtain⟨c',hc⟩:=Jc;by_cases e:i=j
  ·exact⟨_,by rw[e];exact g1⟩
  ·exact⟨c',by rw[g2 i e];exact hc⟩
 refine⟨j,h1,by rw[Array.size_setIfInBounds];exact L.sz,?_,fun i c hc=>?_⟩
 ·have p:=(AZ List.nodup_range (VD.mpr hjm) h0 g1 g2).map (·.2);rw[Vz]at p;refine p.trans ((L.pm.cons _).trans ?_);rw[VJ,VC,Zt];exact(YR _ _).symm
 ·by_cases e:i=j
  ·subst e;rw[g1]at hc;cases hc;refine⟨h,by rw[Wq (Vl _),ZA];rfl,k,h3,fun i' L9=>mono _ ?_⟩;have PJ:=h4 i' L9;have Jv:(Jr m i' (J2 m h)).j<o.size:=by
    have:=qR m i' h;rw[L.sz];lia
   have PJ:gu o (Jr m i' (J2 m h)).j=false:=PJ;rw[nH Jv]at PJ;cases e2:o.getD (Jr m i' (J2 m h)).j none with
   |none=>rw[e2]at PJ;cases PJ
   |some c=>exact⟨c,rfl⟩
  ·rw[g2 i e]at hc;obtain⟨h',hp,k',Rt,MR⟩:=L.rc i c hc;have K0:=(Vk.mp hp).1;exact⟨h',by rw[V1 K0];exact hp,k',Rt,fun i' L9=>mono _ (MR i' L9)⟩
theorem r6{m:Nat}(hm:M7 m):∀(r P:List Int) (o:Array (Option Nat)),Ly m P o->P.length+r.length<=m+1->∃o',Ly m (P++r) o'/\r.foldl (fun acc h=>do
  let(owner,k) <-acc;let j <-SetTable.layClean.free m owner (SetTable.turns m) (SetTable.bits h%(m+1)) (SetTable.bits h)
  pure (owner.setIfInBounds j (some k),k+1)) (some (o,P.length))=some (o',(P++r).length)
 |[],P,o,L,_=>⟨o,by rw[VH];exact L,by rw[VH];rfl⟩
 |h::r,P,o,L,hl=>by
  rw[Vm]at hl;obtain⟨j,h1,h2⟩:=A6 hm L (by lia) h;obtain⟨o',h3,h4⟩:=r6 hm r (P++[h]) _ h2 (by rw[VJ,VC];lia);rw[Wd]at h3 h4;refine⟨o',h3,?_⟩;rw[XN];rw[VJ,VC]at h4;have e:(do
   let(owner,k) <-some (o,P.length);let j <-SetTable.layClean.free m owner (SetTable.turns m) (SetTable.bits h%(m+1)) (SetTable.bits h)
   pure (owner.setIfInBounds j (some k),k+1))=some (o.setIfInBounds j (some P.length),P.length+1):=by
   show(SetTable.layClean.free m o (SetTable.turns m) (SetTable.bits h%(m+1)) (SetTable.bits h)).bind _=_;rw[h1];rfl
  rw[e];exact h4
theorem A7(m:Nat):Ly m [] (Array.replicate (m+1) none):=by
 have h:∀j:Nat,(Array.replicate (m+1) (none:Option Nat)).getD j none=none:=fun j=>by
  rw[VX];cases e:(Array.replicate (m+1) (none:Option Nat))[j]? with
  |none=>rfl
  |some x=>
   obtain⟨h1,h2⟩:=WH.mp e;rw[Array.getElem_replicate]at h2;rw[<-h2];rfl
 refine⟨Array.size_replicate,?_,fun j c hc=>by rw[h j]at hc;cases hc⟩;have:own (Array.replicate (m+1) none) (List.range (m+1))=[]:=by
  unfold own;refine List.filterMap_eq_nil_iff.mpr fun a _=>?_
  rw[h a];rfl
 rw[this];exact .refl _
theorem A8{m:Nat}(hm:M7 m)(fg mv:Nat)(led pl:Bool)(es:Array (Int×Value))(hl:es.size<=m):∃t order,SetTable.laid m fg mv led pl (es.map (·.1))=some (t,order)/\Tb t (order.filterMap (es[·]?)).toList m/\(order.filterMap (es[·]?)).toList.Perm es.toList/\t.led=led/\t.moves=mv:=by
 have Tu:(es.map (·.1)).toList.length=es.size:=by rw[Vp,Array.size_map]
 obtain⟨o,L,e⟩:=r6 hm (es.map (·.1)).toList [] _ (A7 m) (by
  rw[Tu];show 0+_<=_;lia)
 rw[Xt]at L e;have Sy:(es.map (·.1)).toList=es.toList.map (·.1):=Array.toList_map;have Rg:SetTable.layClean m (es.map (·.1))=some o:=by
  unfold SetTable.layClean;rw[<-Array.foldl_toList];have e:List.foldl _ (some (Array.replicate (m+1) none,0)) (es.map (·.1)).toList=some (o,_):=e;exact WM (Option.map (·.1)) e
 have hlen:=L.len;rw[Tu]at hlen;have hc:∀z∈own o (List.range (m+1)),∃y,es[z.2]?=some y/\∃k,(Jr m k (J2 m y.1)).j=z.1/\∀i<k,(Jr m i (J2 m y.1)).j∈(own o (List.range (m+1))).map (·.1):=by
  rintro⟨j,c⟩ hz;obtain⟨h1,h2⟩:=vY.mp hz;obtain⟨h,hp,k,Rt,MR⟩:=L.rc j c h2;rw[Sy,Vs,VW]at hp;obtain⟨y,hy,rfl⟩:=hp;refine⟨y,by rw[<-Yw];exact hy,k,Rt,fun i hi=>?_⟩;obtain⟨c',N1⟩:=MR i hi;exact Wz.mpr ⟨(_,c'),vY.mpr ⟨VD.mpr (by have:=qR m i y.1;lia),N1⟩,rfl⟩
 have hzip:∀(F:List (Nat×Nat)),(∀z∈F,∃y,es[z.2]?=some y)->((F.map (·.2)).filterMap (es[·]?)).length=F.length/\∀w∈(F.map (·.1)).zip ((F.map (·.2)).filterMap (es[·]?)),∃z∈F,w.1=z.1/\es[z.2]?=some w.2:=by
  intro F;induction F with
  |nil=>exact fun _=>⟨rfl,fun w hw=>nomatch hw⟩
  |cons z F ih=>
   intro h;obtain⟨h1,h2⟩:=ih fun x hx=>h x (Vb _ hx)
   obtain⟨y,hy⟩:=h z Va;have e:((z::F).map (·.2)).filterMap (es[·]?)=y::(F.map (·.2)).filterMap (es[·]?):=by
    rw[Vz,Wi (b:=y) hy]
   rw[e,Vm,h1,Vm,Vz,XJ];refine⟨rfl,fun w hw=>?_⟩;rcases Vo.mp hw with rfl|hw
   ·exact⟨z,Va,rfl,hy⟩
   ·obtain⟨x,hx,g1,g2⟩:=h2 w hw;exact⟨x,Vb _ hx,g1,g2⟩
 obtain⟨Sz,Og⟩:=hzip (own o (List.range (m+1))) fun z hz=>by
  obtain⟨y,hy,_⟩:=hc z hz;exact⟨y,hy⟩
 have Us:((((own o (List.range (m+1))).map (·.2)).toArray).filterMap (es[·]?)).toList=((own o (List.range (m+1))).map (·.2)).filterMap (es[·]?):=by
  rw[Array.toList_filterMap]
 refine⟨{mask:=m,place:=((own o (List.range (m+1))).map (·.1)).toArray,dummies:=#[],finger:=fg,led:=led,moves:=mv,plain:=pl},((own o (List.range (m+1))).map (·.2)).toArray,?_,?_,?_,rfl,rfl⟩
 ·unfold SetTable.laid;rw[Rg];rfl
 ·rw[Us];refine⟨rfl,hm,rfl,?_,?_,?_,?_,?_⟩
  ·show((own o (List.range (m+1))).map (·.1)).toArray.size=_;rw[Vh,Ve,Sz]
  ·rw[Sz,hlen];exact hl
  ·show Up ((own o (List.range (m+1))).map (·.1));rw[nF];exact List.Pairwise.filter _ List.pairwise_lt_range
  ·intro j hj;have hj:j∈(own o (List.range (m+1))).map (·.1):=hj;rw[nF]at hj;have:=VD.mp (V7.mp hj).1;lia
  ·intro w hw;obtain⟨z,hz,g1,g2⟩:=Og w hw;obtain⟨y,hy,k,Rt,MR⟩:=hc z hz;rw[g2]at hy;cases hy;exact⟨k,by rw[Rt,g1],MR⟩
 ·rw[Us];refine(L.pm.filterMap _).trans ?_;rw[Tu,filterMap_getElem?_range]
end ST
end NX
namespace NX
open PySem
namespace ST
section
variable{prog:Program}{w:World}{K:Type}[DecidableEq K]{knd:KeyKind prog w K}{A:Around}{E:Value->Shared->Prop}{s:Shared}
theorem jh{ks:List K}{a:Addr}{Q:Bool->Shared->Prop}(hk:IsTupleKey knd s.heap ks a)(h:Q false s):wpAny (model prog w) A (ofAClassStatement 8 (.ref a)) Q E s:=by
 have hT:=hk.typeIs;obtain⟨o,items,n,ho,hc,hd,hi⟩:=hk;have hv:=hi.byValue;unfold ofAClassStatement;refine U8 (XM hT ?_);dsimp only;refine U8 ?_;refine Vf ?_;simp only[V4,VL,WW];refine U8 (Wm ho hd ?_);refine U8 ?_;show wpAny _ _ (forIn items _ _) _ _ s;rw[<-Array.forIn_toList];refine Yz _ (fun cN r s'=>r.1=none/\s'=s/\∀v∈cN,carriedByValue v=true) _ ?_ ?_ _ _ ⟨rfl,rfl,hv⟩
 ·rintro v cN r s' ⟨hr,rfl,Kq⟩;have e:ofAClassStatement 7 v=pure false:=by
   have:=Kq v Va;cases v with
   |ref b=>cases this
   |_=>first|rfl|(unfold ofAClassStatement;rfl)
  rw[e];refine U8 (Vf ?_);simp only[VL,WW];exact Vf ⟨rfl,rfl,fun u Oh=>Kq u (Vb _ Oh)⟩
 ·rintro⟨r1,r2⟩ s' ⟨hr,rfl,_⟩;simp only at hr;subst hr;exact Vf h
theorem pF{ks:List K}{a:Addr}{Q:Bool->Shared->Prop}(hk:IsTupleKey knd s.heap ks a)(h:∀b,Q b s):wpAny (model prog w) A (hashByValue 8 (.ref a)) Q E s:=by
 have hT:=hk.typeIs;obtain⟨o,items,n,ho,hc,hd,hi⟩:=hk;have hv:=hi.byValue;unfold hashByValue;refine U8 (wpAny_specialOf hT F.slot_tuple_hash.lookup ?_);dsimp only;refine U8 (Wm ho hd ?_);refine U8 ?_;show wpAny _ _ (forIn items _ _) _ _ s;rw[<-Array.forIn_toList];refine Yz _ (fun cN r s'=>s'=s/\∀v∈cN,carriedByValue v=true) _ ?_ ?_ _ _ ⟨rfl,hv⟩
 ·rintro v cN r s' ⟨rfl,Kq⟩;obtain⟨b,e⟩:∃b,hashByValue 7 v=pure b:=by
   have:=Kq v Va;cases v with
   |ref b=>cases this
   |_=>exact⟨_,rfl⟩
  rw[e];refine U8 (Vf ?_);cases b with
  |false=>
   simp only[We,XA];exact Vf (Vf (h _))
  |true=>
   simp only[V4,VL,WW];exact Vf ⟨rfl,fun u Oh=>Kq u (Vb _ Oh)⟩
 ·rintro⟨r1,r2⟩ s' ⟨rfl,_⟩;cases r1 <;> exact Vf (h _)
end
end ST
end NX
namespace NX
open PySem
namespace ST
section
variable{prog:Program}{w:World}{K:Type}[DecidableEq K]{knd:KeyKind prog w K}{A:Around}{E:Value->Shared->Prop}{s:Shared}
def Ent(knd:KeyKind prog w K)(h:Heap)(e:Int×Value)(k:List K):Prop:=∃b,e.2=.ref b/\IsTupleKey knd h k b/\e.1=tupleKeyHash knd k
theorem A9{k:List K}{b:Addr}{l:List Value}{Q:Bool->Shared->Prop}(hk:IsTupleKey knd s.heap k b)(hl:∀y∈l,∃c k',y=.ref c/\IsTupleKey knd s.heap k' c)(h:Q false s):wpAny (model prog w) A (searchCouldBeSeen (.ref b) l) Q E s:=by
 unfold searchCouldBeSeen;refine U8 ?_;refine Yz _ (fun cN r s'=>r.1=none/\s'=s/\∀y∈cN,∃c k',y=.ref c/\IsTupleKey knd s.heap k' c) _ ?_ ?_ _ _ ⟨rfl,rfl,hl⟩
 ·rintro v cN r s' ⟨hr,rfl,Kq⟩;obtain⟨c,k',rfl,Ln⟩:=Kq v Va;have Pc:∀y∈cN,∃c k',y=.ref c/\IsTupleKey knd s'.heap k' c:=fun u Oh=>Kq u (Vb _ Oh)
  dsimp only;split
  ·exact Vf ⟨rfl,rfl,Pc⟩
  ·refine U8 (wpAny_eqIsQuiet_tuple hk ?_);simp only[V4,VL,WW];refine U8 (wpAny_eqIsQuiet_tuple Ln ?_);simp only[V4,VL,WW];refine U8 (jh hk ?_);simp only[VL,WW];refine U8 (jh Ln ?_);simp only[VL,WW];exact Vf ⟨rfl,rfl,Pc⟩
 ·rintro⟨r1,r2⟩ s' ⟨hr,rfl,_⟩;simp only at hr;subst hr;exact Vf h
theorem Tb.fits{t:SetTable}{es:Array (Int×Value)}{m:Nat}(T:Tb t es.toList m):t.fits es.size=true:=by
 have h1:=T.sz;have h2:=T.le;rw[Vp]at h1 h2;unfold SetTable.fits SetTable.fill;rw[T.dm,T.ms,h1,Vu];exact⟨V6 _,VB (by show es.size+0<=m;lia)⟩
theorem Tb.stands{t:SetTable}{es:Array (Int×Value)}{m:Nat}(T:Tb t es.toList m):t.gaveWay=false:=by
 unfold SetTable.gaveWay;rw[T.ms];rcases T.msk with rfl|rfl|rfl <;> rfl
theorem vZ(hu:A.units<cLine){a b:Addr}{o:Obj}{es:Array (Int×Value)}{ep:Nat}{t:SetTable}{m:Nat}{k:List K}(ho:s.heap.get? a=some o)(hd:o.data=.set es ep t)(T:Tb t es.toList m)(PL:∀e∈es.toList,∃k',Ent knd s.heap e k')(hk:IsTupleKey knd s.heap k b)
  {N:Nat}(hN:N<10*(m+15)) (Ob:(Jr m N (J2 m (tupleKeyHash knd k))).j∉t.place.toList) (JO:∀i<N,(Jr m i (J2 m (tupleKeyHash knd k))).j∈t.place.toList) {Q:SetFound->Shared->Prop}:
  ∀(r st F:Nat) (sd:Option SetTable.Probe),st+r=N->r<F->sd.getD (t.probeStart (tupleKeyHash knd k))=Jr m st (J2 m (tupleKeyHash knd k))->
  (∀(i c:Nat) (e:Int×Value),st<=i->i<N->t.place[c]?=some (Jr m i (J2 m (tupleKeyHash knd k))).j->es[c]?=some e->Ent knd s.heap e k->Q (.there none) s)->
  ((∀(i c:Nat) (e:Int×Value),st<=i->i<N->t.place[c]?=some (Jr m i (J2 m (tupleKeyHash knd k))).j->es[c]?=some e->¬ Ent knd s.heap e k)->Q (.free (Jr m N (J2 m (tupleKeyHash knd k))).j false) s)->
  wpAny (model prog w) A (setSearchFrom a (.ref b) (tupleKeyHash knd k) true F sd) Q E s:=by
 intro r;induction r using Nat.strongRecOn with
 |ind r ih=>
  intro st F sd Mx hF Ru h1 h2;obtain⟨F,rfl⟩:∃F',F=F'+1:=⟨F-1,by lia⟩
  have Tv:t.place.size=es.size:=by have:=T.sz;rwa [Vp]at this
  have Mf:∀i,Jr m i (Jr m st (J2 m (tupleKeyHash knd k)))=Jr m (st+i) (J2 m (tupleKeyHash knd k)):=fun i=>(kQ m st i _).symm
  unfold setSearchFrom;refine U8 (XX ho hd T.fits ?_);dsimp only;rw[T.stands];simp only[VL,WW];rw[Ru];have hent':∀e∈es.toList,e.1=tupleKeyHash knd k->∃k',Ent knd s.heap e k':=fun e he _=>PL e he
  have Rv:∀{Q':Bool->Shared->Prop},Q' false s->wpAny (model prog w) A (searchCouldBeSeen (.ref b) (List.map (fun x=>x.2) (Array.filter (fun x=>x.1==tupleKeyHash knd k) es).toList)) Q' E s:=fun{Q'} hq=>A9 hk (fun y hy=>by
   obtain⟨e,he,rfl⟩:=Wz.mp hy;rw[Array.toList_filter]at he;obtain⟨k',c,e1,e2,_⟩:=PL e (V7.mp he).1;exact⟨c,k',e1,e2⟩) hq
  have Ut:∀e,Ent knd s.heap e k->e.1=tupleKeyHash knd k:=fun e ⟨_,_,_,h⟩=>h
  generalize hgH:tupleKeyHash knd k=H at *;have hP:SetTable.probe t (fun i=>(es[i]?.map (·.1)).getD 0) H (Jr m st (J2 m H))=SetTable.probe.go t (fun i=>(es[i]?.map (·.1)).getD 0) H (10*SetTable.turns m) (Jr m st (J2 m H)):=by
   unfold SetTable.probe;rw[T.ms]
  have Rq:∀{c j:Nat},t.place[c]?=some j->∃e,es[c]?=some e/\e∈es.toList:=fun{c j} hc=>by
   have Jv:=(WH.mp hc).1;rw[Tv]at Jv;exact⟨es[c],V2 Jv,by rw[X1];exact Array.getElem_mem Jv⟩
  rcases rZ T.ms T.up T.dm (fun i=>(es[i]?.map (·.1)).getD 0) H r (10*SetTable.turns m) (Jr m st (J2 m H)) (by rw[kR];rfl) (by unfold SetTable.turns;lia) (fun i hi=>by rw[Mf];exact JO _ (by lia)) (by rw[Mf,Mx];exact Ob) with⟨p1,p2⟩|⟨i,c,p1,p2,p3,p4,p5⟩
  ·rw[Mf,Mx]at p1;rw[p1]at hP;erw [hP];dsimp only;refine Vf (h2 fun i c e hi1 Sw hc he hE=>?_);have:=p2 (i-st) (by lia) c (by rw[Mf,show st+(i-st)=i by lia];exact hc);rw[he]at this;exact this (Ut e hE)
  ·rw[Mf]at p2 p4;rw[Mf]at p4;rw[p4]at hP;erw [hP];dsimp only;obtain⟨e,he,hem⟩:=Rq p2;rw[he]at p3;have p3:e.1=H:=p3;obtain⟨k',y,ey,Ln,eh⟩:=PL e hem;have tail:wpAny (model prog w) A (do
     let equal <-holding [.ref y] (eqBool (.ref y) (.ref b));let __x <-setState a
     if(true&&equal)=true then pure (SetFound.there none)
      else
       match __x.2.2.sameMemory t.moves t.mask with
       |some same=>
        match if same=true then __x.2.2.slot (Jr m (st+i) (J2 m H)).j else SetTable.Slot.empty with
        |SetTable.Slot.live i'=>
         match __x.1[i']? with
         |some (_,y')=>do
          let same <-isSame y' (.ref y);let still <-pure (if same=true then some i' else none);match still with
           |none=>do
            rule "set.search.anew"
            setSearchFrom a (Value.ref b) H true F none
           |some i'=>
            if equal=true then pure (SetFound.there (some i'))
            else setSearchFrom a (Value.ref b) H true F (some (Jr m (st+(i+1)) (J2 m H)))
         |none=>do
          let still <-pure none;match still with
           |none=>do
            rule "set.search.anew"
            setSearchFrom a (Value.ref b) H true F none
           |some i'=>
            if equal=true then pure (SetFound.there (some i'))
            else setSearchFrom a (Value.ref b) H true F (some (Jr m (st+(i+1)) (J2 m H)))
        |x=>do
         let still <-pure none;match still with
          |none=>do
           rule "set.search.anew"
           setSearchFrom a (Value.ref b) H true F none
          |some i'=>
           if equal=true then pure (SetFound.there (some i'))
           else setSearchFrom a (Value.ref b) H true F (some (Jr m (st+(i+1)) (J2 m H)))
       |x=>unsupported "set.changed-during-lookup:is-the-new-block-at-the-old-address") Q E s:=by
    refine U8 (WN (wpAny_eqBool_tuple hu Ln hk ?_));refine U8 (XX ho hd T.fits ?_);by_cases Nm:k'=k
    ·subst Nm;rw[VB rfl];simp only[Wx,XA];exact Vf (h1 (st+i) c e (by lia) (by lia) p2 he ⟨y,ey,Ln,by rw[p3,<-hgH]⟩)
    ·rw[VM Nm];have e1:t.sameMemory t.moves t.mask=some true:=by
      unfold SetTable.sameMemory;rw[Vn (by exact V6 _)]
     obtain⟨c',e2,e3⟩:=vW T.up (JO (st+i) (by lia));have ec:c'=c:=kG T.up e3 p2;subst ec;simp only[X5,VL,WW,e1,XA,e2,he];obtain⟨Uu,ev⟩:=e;have ey:ev=.ref y:=ey;subst ey;dsimp only;have K2:isSame (.ref y) (.ref y)=pure true:=by
      unfold isSame;dsimp only;rw[Vn (by exact V6 _)]
     rw[K2];refine U8 (Vf (U8 (Vf ?_)));simp only[XA];refine ih (r-(i+1)) (by lia) (st+(i+1)) F _ (by lia) (by lia) rfl (fun i' c' e' a1 a2=>h1 i' c' e' (by lia) a2) (fun O7=>h2 fun i' c' e' a1 a2 a3 a4=>?_);by_cases L9:st+(i+1)<=i'
     ·exact O7 i' c' e' L9 a2 a3 a4
     ·intro hE;by_cases Sw:i'=st+i
      ·subst Sw;rw[kG T.up a3 p2,he]at a4;cases a4;obtain⟨y2,g1,g2,_⟩:=hE;cases g1;exact Nm (Ln.inj g2)
      ·have:=p5 (i'-st) (by lia) c' (by rw[Mf,show st+(i'-st)=i' by lia];exact a3);rw[a4]at this;exact this (Ut e' hE)
   cases hld:t.led with
   |true=>
    simp only[V4,VL,WW,he];obtain⟨Uu,ev⟩:=e;have ey:ev=.ref y:=ey;subst ey;exact tail
   |false=>
    simp only[We,XA];refine U8 (Rv ?_);simp only[VL,WW,he];obtain⟨Uu,ev⟩:=e;have ey:ev=.ref y:=ey;subst ey;exact tail
end
end ST
end NX
namespace NX
open PySem
namespace ST
section
variable{prog:Program}{w:World}{K:Type}[DecidableEq K]{knd:KeyKind prog w K}{A:Around}{E:Value->Shared->Prop}{s:Shared}
structure SetT(knd:KeyKind prog w K)(h:Heap)(a:Addr)(L:List (List K))(o:Obj)(es:Array (Int×Value))(ep:Nat)(t:SetTable)(m:Nat):Prop where
 ho:h.get? a=some o
 ex:o.ExactSet
 hd:o.data=.set es ep t
 T:Tb t es.toList m
 few:es.size*5<m*3
 e1:∀e∈es.toList,∃k∈L,Ent knd h e k
 e2:∀k∈L,∃e∈es.toList,Ent knd h e k
 sz:es.size=L.length
 nd:L.Nodup
def IsSetT(knd:KeyKind prog w K)(h:Heap)(a:Addr)(L:List (List K)):Prop:=∃o es ep t m,SetT knd h a L o es ep t m
theorem pG{h h':Heap}{a b:Addr}{o:Obj}{es:Array (Int×Value)}{ep:Nat}{t:SetTable}{k:List K}(x:IsTupleKey knd h k b)(ho:h.get? a=some o)(hd:o.data=.set es ep t)(hs:Heap.SameBut a h h'):IsTupleKey knd h' k b:=by
 obtain⟨o',items,n,Mv,hc,Mw,hi⟩:=x;have KH:b≠a:=by
  rintro rfl;obtain rfl:o'=o:=VQ (Mv.symm.trans ho);rw[hd]at Mw;exact nomatch Mw
 exact⟨o',items,n,(hs.2 b KH).trans Mv,hc,Mw,hi⟩
theorem Ent.keeps{h h':Heap}{a:Addr}{o:Obj}{es:Array (Int×Value)}{ep:Nat}{t:SetTable}{e:Int×Value}{k:List K}(x:Ent knd h e k)(ho:h.get? a=some o)(hd:o.data=.set es ep t)(hs:Heap.SameBut a h h'):Ent knd h' e k:=by
 obtain⟨b,h1,h2,h3⟩:=x;exact⟨b,h1,pG h2 ho hd hs,h3⟩
theorem Ent.inj{h:Heap}{e:Int×Value}{k k':List K}(x:Ent knd h e k)(y:Ent knd h e k'):k=k':=by
 obtain⟨b,h1,h2,_⟩:=x;obtain⟨c,g1,g2,_⟩:=y;rw[h1]at g1;cases g1;exact h2.inj g2
theorem Tb.plain{t:SetTable}{es:List (Int×Value)}{m:Nat}(T:Tb t es m)(p:Bool):Tb {t with plain:=p} es m:=⟨T.ms,T.msk,T.dm,T.sz,T.le,T.up,T.bd,T.rc⟩
theorem yv{a:Addr}{L:List (List K)}{o:Obj}{es:Array (Int×Value)}{ep:Nat}{t:SetTable}{m m' wanted:Nat}{Q:Unit->Shared->Prop}(ho:s.heap.get? a=some o)(ex:o.ExactSet)(hd:o.data=.set es ep t)(T:Tb t es.toList m)(e1:∀e∈es.toList,∃k∈L,Ent knd s.heap e k)(e2:∀k∈L,∃e∈es.toList,Ent knd s.heap e k)(sz:es.size=L.length)(nd:L.Nodup)
  (hw:SetTable.sizeAbove wanted=m'+1) (SA:M7 m') (few:es.size*5<m'*3) (h:∀h',Heap.SameBut a s.heap h'->IsSetT knd h' a L->Q () {s with heap:=h'}):wpAny (model prog w) A (setRelay a wanted) Q E s:=by
 obtain⟨t',order,l1,l2,l3,_,_⟩:=A8 SA t.finger (t.movedTo m') t.led t.plain es (by lia);have hsz:(order.filterMap (es[·]?)).size=es.size:=by rw[<-Vp,l3.length_eq,Vp]
 have Tw:t.relaid (es.map (·.1)) wanted=some (t',order):=by
  unfold SetTable.relaid;rw[hw,show m'+1-1=m' by lia];exact l1
 have Rw:m'<=127:=by rcases SA with rfl|rfl|rfl <;> lia
 have Tx:¬ SetTable.sizeAbove wanted>sizeLine:=by
  rw[hw,Wr];lia
 unfold setRelay;refine U8 (XX ho hd T.fits ?_);dsimp only;rw[Vt Tx,Tw];refine U8 ?_;show wpAny (model prog w) A (if(order.filterMap (es[·]?)).size != es.size then(unsupported "internal:set-table-lost-an-element" >>= fun _=>pure (order.filterMap (es[·]?),t')) else pure (order.filterMap (es[·]?),t')) _ E s;rw[Vt (by rw[hsz,Yp];exact Vg)];refine Vf ?_;dsimp only;have S:∀m0,es.size*5<m0*3->True:=fun _ _=>trivial
 refine wpAny_storeSet_of ho hd ?_ (by rw[hsz,Wr];lia);have hg:(s.heap.update a (Obj.putSet (order.filterMap (es[·]?)) t')).get? a=some {o with data:=.set (order.filterMap (es[·]?)) (ep+1) t'}:=by
  have:=WS (Obj.putSet (order.filterMap (es[·]?)) t') ho (by rw[putSet_of _ t' hd];rfl);rw[putSet_of _ t' hd]at this;exact this
 have M9:=Ya s.heap a (Obj.putSet (order.filterMap (es[·]?)) t');refine h _ M9 ⟨_,_,_,t',m',hg,ex,rfl,l2,by rw[hsz];exact few,fun e he=>?_,fun k hk=>?_,by rw[hsz];exact sz,nd⟩
 ·obtain⟨k,hk,hE⟩:=e1 e (l3.mem_iff.mp he);exact⟨k,hk,hE.keeps ho hd M9⟩
 ·obtain⟨e,he,hE⟩:=e2 k hk;exact⟨e,l3.mem_iff.mpr he,hE.keeps ho hd M9⟩
theorem Ba{a:Addr}{L L':List (List K)}{o:Obj}{es K2:Array (Int×Value)}{ep:Nat}{t t2:SetTable}{m:Nat}{Q:Bool->Shared->Prop}(S:SetT knd s.heap a L o es ep t m)(T2:Tb t2 K2.toList m)(Pd:K2.size=es.size+1)(hL:L.length<76)(e1:∀e∈K2.toList,∃k∈L',Ent knd s.heap e k)(e2:∀k∈L',∃e∈K2.toList,Ent knd s.heap e k)(sz:K2.size=L'.length)(nd:L'.Nodup)
  (h:∀h',Heap.SameBut a s.heap h'->IsSetT knd h' a L'->Q true {s with heap:=h'}):
  wpAny (model prog w) A (storeSet a K2 t2 >>= fun _=>if(!false&&t2.tooFull)=true then(setRelay a (SetTable.grown (es.size+1)) >>= fun _=>pure true) else pure true) Q E s:=by
 have KR:=S.few;have Uv:=S.T.msk;have hsz:=S.sz;have Pe:t2.fill=es.size+1:=by
  have:=T2.sz;rw[Vp]at this;unfold SetTable.fill;rw[T2.dm,this,Pd];rfl
 have Rw:m<=127:=by rcases Uv with rfl|rfl|rfl <;> lia
 refine U8 (wpAny_storeSet_of S.ho S.hd ?_ (by rw[Pd,Wr];lia));have hg:(s.heap.update a (Obj.putSet K2 t2)).get? a=some {o with data:=.set K2 (ep+1) t2}:=by
  have:=WS (Obj.putSet K2 t2) S.ho (by rw[putSet_of _ t2 S.hd];rfl);rw[putSet_of _ t2 S.hd]at this;exact this
 have M9:=Ya s.heap a (Obj.putSet K2 t2);have PH:∀e∈K2.toList,∃k∈L',Ent knd (s.heap.update a (Obj.putSet K2 t2)) e k:=fun e he=>let⟨k,hk,hE⟩:=e1 e he;⟨k,hk,hE.keeps S.ho S.hd M9⟩
 have Pb:∀k∈L',∃e∈K2.toList,Ent knd (s.heap.update a (Obj.putSet K2 t2)) e k:=fun k hk=>let⟨e,he,hE⟩:=e2 k hk;⟨e,he,hE.keeps S.ho S.hd M9⟩
 by_cases hf:t2.tooFull=true
 ·rw[hf];simp only[We,Wx,XA];unfold SetTable.tooFull at hf;rw[Vq,Pe,T2.ms]at hf;obtain⟨m',SA,hw,Rx⟩:∃m',M7 m'/\SetTable.sizeAbove (SetTable.grown (es.size+1))=m'+1/\(es.size+1)*5<m'*3:=by
   rcases Uv with rfl|rfl|rfl
   ·have:es.size=4:=by lia
    rw[this];exact⟨31,.inr (.inl rfl),by decide,by decide⟩
   ·have:es.size=18:=by lia
    rw[this];exact⟨127,.inr (.inr rfl),by decide,by decide⟩
   ·lia
  refine U8 (yv hg S.ex rfl T2 PH Pb sz nd hw SA (by rw[Pd];exact Rx) fun h' hsb' Pf=>Vf (h h' (M9.trans hsb') Pf))
 ·rw[Xs.mpr hf];simp only[We,X5,VL,WW];unfold SetTable.tooFull at hf;rw[Vq,Pe,T2.ms]at hf;exact Vf (h _ M9 ⟨_,_,_,t2,m,hg,S.ex,rfl,T2,by rw[Pd];lia,PH,Pb,sz,nd⟩)
theorem DH(hu:A.units<cLine){a b:Addr}{L:List (List K)}{k:List K}{Q:Bool->Shared->Prop}(hS:IsSetT knd s.heap a L)(hk:IsTupleKey knd s.heap k b)(hL:L.length<76)
  (h:∀h',Heap.SameBut a s.heap h'->IsSetT knd h' a (if k∈L then L else k::L)->Q (!decide (k∈L)) {s with heap:=h'}):wpAny (model prog w) A (setAddHashed a (.ref b) (tupleKeyHash knd k)) Q E s:=by
 obtain⟨o,es,ep,t,m,S⟩:=hS;obtain⟨N,hN,Ob,JO⟩:=S.T.free (tupleKeyHash knd k);unfold setAddHashed setAddHashedIn;refine WN (U8 (XX S.ho S.hd S.T.fits ?_));dsimp only;have hbs:byScan (.ref b) es=false:=rfl;rw[hbs];simp only[VL,WW];unfold setSearch;refine U8 (vZ hu S.ho S.hd S.T (fun e he=>let⟨k',_,hE⟩:=S.e1 e he;⟨k',hE⟩) hk hN Ob JO N 0 100000 none (by lia) ?_ ?_ ?_ ?_)
 ·rcases S.T.msk with rfl|rfl|rfl <;> lia
 ·show t.probeStart _=_;rw[yp,S.T.ms];rfl
 ·intro i c e _ hi hc he hE;have hm:e∈es.toList:=by rw[X1];exact Zx he
  obtain⟨k',Ln,hE'⟩:=S.e1 e hm;have Pg:k∈L:=by rw[hE.inj hE'];exact Ln
  dsimp only;have:=h s.heap (Heap.SameBut.refl a s.heap) (by rw[Vn Pg];exact⟨o,es,ep,t,m,S⟩);rw[VB Pg]at this;exact Vf this
 ·intro O7;have Tv:t.place.size=es.size:=by have:=S.T.sz;rwa [Vp]at this
  have Pg:k∉L:=fun Pg=>by
   obtain⟨e,he,hE⟩:=S.e2 k Pg;obtain⟨c,hc,ec⟩:=Xo.mp he;rw[Vp]at hc;rw[Wh]at ec;have My:c<t.place.size:=by rw[Tv];exact hc
   have hz:(t.place[c],e)∈t.place.toList.zip es.toList:=by
    rw[Xo];refine⟨c,by rw[XS,Vp,Vp];lia,?_⟩;rw[List.getElem_zip,Wh,Wh,ec]
   obtain⟨kk,h1,h2⟩:=S.T.rc _ hz;have hh:e.1=tupleKeyHash knd k:=by
    obtain⟨_,_,_,hh⟩:=hE;exact hh
   dsimp only at h1 h2;rw[hh]at h1 h2;have hkN:kk<N:=WR fun hn=>by
    by_cases hq:kk=N
    ·rw[hq]at h1;exact Ob (by rw[h1,X1];exact Array.getElem_mem My)
    ·exact Ob (h2 N (by lia))
   exact O7 kk c e (by lia) hkN (by rw[h1];exact V2 My) (by rw[V2 hc,ec]) hE
  rw[Vt Pg,VM Pg]at h;dsimp only;refine U8 (XX S.ho S.hd S.T.fits ?_);dsimp only;have hle:es.size+1<=m:=by
   have:=S.few;have:=S.T.msk;rcases this with rfl|rfl|rfl <;> lia
  have hp:=S.T.put (tupleKeyHash knd k) (.ref b) Ob JO (qR m N _) hle;have Oi:(SetTable.insertAt es (t.put (Jr m N (J2 m (tupleKeyHash knd k))).j).2 (tupleKeyHash knd k,Value.ref b)).toList.Perm ((tupleKeyHash knd k,Value.ref b)::es.toList):=by
   refine(SetTable.insertAt_perm _ _ _).trans ?_;rw[Array.toList_push];exact YR _ _
  generalize hj:(Jr m N (J2 m (tupleKeyHash knd k))).j=j at *;generalize SetTable.insertAt es (t.put j).2 (tupleKeyHash knd k,Value.ref b)=K2 at *;generalize (t.put j).1=t1 at *;have Pd:K2.size=es.size+1:=by rw[<-Vp,Oi.length_eq,Vm,Vp]
  have Uw:Ent knd s.heap (tupleKeyHash knd k,Value.ref b) k:=⟨b,rfl,hk,rfl⟩
  have fin:∀t2,Tb t2 K2.toList m->wpAny (model prog w) A (storeSet a K2 t2 >>= fun _=>if(!false&&t2.tooFull)=true then(setRelay a (SetTable.grown (es.size+1)) >>= fun _=>pure true) else pure true) Q E s:=fun t2 T2=>Ba (L':=k::L) S T2 Pd hL (fun e he=>by
   rcases Vo.mp (Oi.mem_iff.mp he) with rfl|he
   ·exact⟨k,Va,Uw⟩
   ·obtain⟨k',Ln,hE⟩:=S.e1 e he;exact⟨k',Vb _ Ln,hE⟩) (fun k' Ln=>by
   rcases Vo.mp Ln with rfl|Ln
   ·exact⟨_,Oi.mem_iff.mpr Va,Uw⟩
   ·obtain⟨e,he,hE⟩:=S.e2 k' Ln;exact⟨e,Oi.mem_iff.mpr (Vb _ he),hE⟩) (by rw[Pd,Vm,S.sz]) (VN.mpr ⟨Pg,S.nd⟩) h
  split
  ·refine U8 (pF hk fun bv=>?_);cases bv with
   |true=>exact fin t1 hp
   |false=>exact fin _ (hp.plain false)
  ·refine U8 (Vf ?_);exact fin t1 hp
end
end ST
end NX
namespace NX
open PySem
namespace ST
section
variable{prog:Program}{w:World}{K:Type}[DecidableEq K]{knd:KeyKind prog w K}{A:Around}
def met(kf:Nat->List K):Nat->List (List K)
 | 0=>[]
 |i+1=>if kf i∈met kf i then met kf i else kf i::met kf i
theorem qS(kf:Nat->List K):∀i,(met kf i).length<=i
 | 0=>Vl _
 |i+1=>by
  have:=qS kf i;rw[met];split
  ·lia
  ·rw[Vm];lia
theorem pH{h h':Heap}{a:Addr}{L:List (List K)}(x:IsSetT knd h a L)(e:∀o,h.get? a=some o->h'.get? a=some o)(ek:∀k b,IsTupleKey knd h k b->IsTupleKey knd h' k b):IsSetT knd h' a L:=by
 obtain⟨o,es,ep,t,m,S⟩:=x;have up:∀{z k},Ent knd h z k->Ent knd h' z k:=fun⟨b,h1,h2,h3⟩=>⟨b,h1,ek _ b h2,h3⟩
 exact⟨o,es,ep,t,m,e o S.ho,S.ex,S.hd,S.T,S.few,fun z hz=>let⟨k,hk,hE⟩:=S.e1 z hz;⟨k,hk,up hE⟩,fun k hk=>let⟨z,hz,hE⟩:=S.e2 k hk;⟨z,hz,up hE⟩,S.sz,S.nd⟩
theorem iH{h h':Heap}{fp:List Addr}(hm:∀b o,b∉fp->h.get? b=some o->h'.get? b=some o)(O7:∀b∈fp,∀k,¬ IsTupleKey knd h k b){k:List K}{b:Addr}(x:IsTupleKey knd h k b):IsTupleKey knd h' k b:=by
 have hb:b∉fp:=fun hb=>O7 b hb k x
 obtain⟨o,items,n,ho,cN⟩:=x;exact⟨o,items,n,hm b o hb ho,cN⟩
theorem IsSetT.not{h:Heap}{a:Addr}{L:List (List K)}(x:IsSetT knd h a L)(k:List K):¬ IsTupleKey knd h k a:=fun Jc=>by
 obtain⟨o',_,_,Mv,_,Mw,_⟩:=Jc;obtain⟨o,es,ep,t,m,S⟩:=x;obtain rfl:o'=o:=VQ (Mv.symm.trans S.ho);rw[S.hd]at Mw;cases Mw
variable{R:Result->Shared->Prop}{I:Addr}{fp wr:List Addr}{G:Array GenState->Array GenState->Prop}{n:Nat}{P:Nat->Value->Prop}{St:Nat->Shared->Prop}
theorem Gj(W:WalksS prog w A.in1 I fp wr G n P St)(hu:A.in1.units<cLine){S:Addr}(Ux:S∉fp)(hw:∀i s,St i s->∀b∈wr,∀k,¬ IsTupleKey knd s.heap k b)(kf:Nat->List K)(hn:n<=76):
  ∀(left i:Nat) (s:Shared),n-i=left->i<=n->St i s->IsSetT knd s.heap S (met kf i)->(∀j v,P j v->∃b,v=.ref b/\IsTupleKey knd s.heap (kf j) b)->
  (∀s',Moved (S::wr) G s s'->IsSetT knd s'.heap S (met kf n)->R (.ok (.ret .none)) s')->codeAny (model prog w) A (.builtin "set.update.loop" ⟨[.ref S,.ref I],[]⟩) R s:=by
 have sw:S∉wr:=fun z=>Ux (W.sub _ z)
 have more:∀b∈wr,b∈S::wr:=fun b z=>.tail _ z
 intro left;induction left with
 |zero=>
  intro i s e0 e1 st hS hP hR;obtain rfl:i=n:=by lia
  refine XQ X6 (Xn W2 _▸?_);refine U8 (m:=pyNext (.ref I)) (W.done s _ _ st fun s' hm=>?_);refine Vf (hR s' (hm.mono more) (pH hS (fun o e=>hm.heap S o sw e) fun k b x=>iH hm.heap (hw i s st) x))
 |succ left ih=>
  intro i s e0 e1 st hS hP hR;refine XQ X6 (Xn W2 _▸?_);refine U8 (m:=pyNext (.ref I)) (W.item i s _ _ (by lia) st fun v s' pv KD hm=>?_);obtain⟨b,rfl,hb⟩:=hP i v pv;have kp:∀k b,IsTupleKey knd s.heap k b->IsTupleKey knd s'.heap k b:=fun k b x=>iH hm.heap (hw i s st) x
  have Pf:=pH hS (fun o e=>hm.heap S o sw e) kp;have Uy:=kp _ _ hb;refine U8 (m:=holding [Value.ref b] (setAdd S (.ref b))) (WN ?_);unfold setAdd;refine WN (U8 (wpAny_pyHash_tuple hu Uy ?_));have hlen:=qS kf i;refine DH (s:={s' with toks:=s'.toks+((kf i).length+1)}) hu Pf Uy (by lia) fun h' M9 Tz=>?_
  have Tz:IsSetT knd h' S (met kf (i+1)):=by rw[met];exact Tz
  obtain⟨o,es,ep,t,m,SS⟩:=Pf;have kp2:∀k b,IsTupleKey knd s'.heap k b->IsTupleKey knd h' k b:=fun k b x=>pG x SS.ho SS.hd M9
  refine Vf ⟨YE W2 _,ih (i+1) _ (by lia) (by lia) (W.frame _ s' _ _ KD (by lia) fun b hb o e=>?_) Tz (fun j v pj=>?_) fun s2 Nn hS3=>?_⟩
  ·exact(M9.2 b fun z=>Ux (z▸hb)).trans e
  ·obtain⟨b,e,x⟩:=hP j v pj;exact⟨b,e,kp2 _ _ (kp _ _ x)⟩
  ·refine hR s2 (Moved.trans W.gtrans ((hm.mono more).then_heap (by lia) fun b o hb e=>?_) Nn) hS3;exact(M9.2 b fun z=>hb (z▸.head _)).trans e
end
end ST
end NX
namespace NX
open PySem
namespace ST
section
variable{prog:Program}{w:World}{K:Type}[DecidableEq K]{knd:KeyKind prog w K}{A:Around}{E:Value->Shared->Prop}{s:Shared}
abbrev yw(led:Bool):Obj:={cls:=.type "set",dict:=none,data:=.set #[] 0 (.fresh 0 0 led)}
theorem uu(led:Bool){h:Heap}{a:Addr}(e:h.get? a=some (yw led)):IsSetT knd h a []:=
 ⟨_,#[],0,.fresh 0 0 led,7,e,⟨rfl,rfl,rfl⟩,rfl,⟨rfl,.inl rfl,rfl,rfl,V0 _,List.Pairwise.nil,(fun _ h=>nomatch h),(fun _ h=>nomatch h)⟩,by decide,(fun _ h=>nomatch h),(fun _ h=>nomatch h),rfl,.nil⟩
set_option maxRecDepth 100000 in
set_option maxHeartbeats 8000000 in
theorem Gk{l:Addr}{items:Array Value}{kf:Nat->List K}{Q:Value->Shared->Prop}(hh:A.handled=none)(hu:A.units+8<cLine)(hl:s.heap.IsList l items)(hi:∀i v,items[i]?=some v->∃b,v=.ref b/\IsTupleKey knd s.heap (kf i) b)(hb:items.size<=76)
  (h:∀(h':Heap) (tk:Nat),IsSetT knd h' s.heap.objs.size (met kf items.size)->(∀b o,s.heap.get? b=some o->h'.get? b=some o)->Q (.ref s.heap.objs.size) {s with heap:=h',toks:=tk}):wpAny (model prog w) A (call (.type "set") [.ref l]) Q E s:=by
 have ft:=F.called_set;obtain⟨c,tl,hmro⟩:=ft.mro;have g1:=ft.made;have g2:=ft.sub;have g3:=ft.notType;have g4:=ft.canCreate;have g5:=F.typeCall_set_1 (.ref l);refine wpAny_call (codeAny_of_tree ?_);show wpAny _ _ (callAny (.type "set") _) _ _ _;refine Vf ⟨Code.quiet_builtin _ (by decide +kernel),XQ F.entry_type_call ?_⟩;rw[Around.under_plain (weight_type_call_type "set" [.ref l] []) rfl];repeat (any_goals (first|assumption|wp_step))
 refine YT (code_set_new_1 (.ref l) (E:=E) (Q₁:=fun v s1=>∃led:Bool,v=.ref s.heap.objs.size/\s1={s with heap:=s.heap.push (yw led)}) fun led=>⟨led,rfl,rfl⟩) fun r s1 hr=>?_
 match r,hr with
 | .error e,hr=>exact hr
 | .ok (.ret v),hr=>
  obtain⟨led,rfl,rfl⟩:=hr;have gS:(s.heap.push (yw led)).get? s.heap.objs.size=some (yw led):=Vy _ rfl;have tS:Shared.TypeIs {s with heap:=s.heap.push (yw led)} (.ref s.heap.objs.size) "set":=⟨_,gS,rfl⟩
  have g6:=ft.init.lookup;have g7:=ft.init.bind (.ref s.heap.objs.size);repeat (any_goals (first|assumption|wp_step))
  refine YT (codeAny_call_builtin (R:=wants (fun r s2=>r=.none/\∃h' tk,s2={s with heap:=h',toks:=tk}/\IsSetT knd h' s.heap.objs.size (met kf items.size)/\∀b o,s.heap.get? b=some o->h'.get? b=some o) E) ft.init.plain F.entry_set_init (check_set_init_1 tS ?_)) fun r2 s2 Ry=>?_
  ·have hl0:=hl;obtain⟨⟨oc,od,odt,M5⟩,ho,hc,nl,hd⟩:=hl;dsimp only at hc hd;subst hc hd;have go:(s.heap.push (yw led)).get? l=some {cls:=.type "list",dict:=od,data:=.seq items nl,slots:=M5}:=Vc _ ho;have b1:=F.sub_list_set;have b2:=F.sub_list_frozenset;have b3:(Value.type "list" == Value.type "dict")=false:=by decide
   have Uz:(s.heap.push (yw led)).IsList l items:=⟨_,go,rfl,nl,rfl⟩
   have llt:=Vr ho;unfold Builtin.«set.__init__» noKeywords Builtin.Frozenset.updateFrom;generalize hPI:pyIter=PI
   wp_walk
   subst hPI;refine W5 Uz (U8 (wpAny_runValue ?_));have nI:l≠(s.heap.push (yw led)).objs.size:=by rw[WO];lia
   have nS:s.heap.objs.size∉[(s.heap.push (yw led)).objs.size,l]:=by
    rw[WO];intro z;rcases Vo.mp z with z|z
    ·lia
    ·have:=Vx.mp z;lia
   refine Gj (knd:=knd) ((Walks.list (A:=A.in1.in1.in1) (by exact hh) _ l nI items).toS) (by show A.units+1+1+1<cLine;lia) nS (fun i s st b hb k x=>?_) kf hb (items.size-0) 0 _ rfl (V0 _) ⟨⟨_,Vy _ rfl,rfl,rfl⟩,Uz.push _⟩ (uu led (Vc _ gS)) (fun j v pj=>?_) fun s' hm Pf=>?_
   ·obtain rfl:=Vx.mp hb;obtain⟨o1,_,_,q1,q2,_⟩:=x;obtain⟨⟨o2,r1,r2,_⟩,_⟩:=st;rw[r1]at q1;cases q1;rw[r2]at q2;exact absurd q2 (by decide)
   ·obtain⟨b,e,o1,IS,n1,q1,q2⟩:=hi j v pj;exact⟨b,e,o1,IS,n1,Vc _ (Vc _ q1),q2⟩
   ·obtain⟨h',g',d',Tj,Sl⟩:=s';obtain rfl:g'=s.gens:=hm.gens;obtain rfl:d'=s.drawn:=hm.drawn;obtain rfl:Sl=s.os:=hm.os;refine Vf (Vf ⟨rfl,h',Tj,rfl,Pf,fun b o e=>hm.heap b o (fun z=>?_) (Vc _ (Vc _ e))⟩);have blt:=Vr e;rcases Vo.mp z with z|z
    ·lia
    ·have:=Vx.mp z;rw[WO]at this;lia
  ·match r2,Ry with
   | .error e,Ry=>exact Ry
   | .ok (.ret r),Ry=>
    obtain⟨rfl,h',tk,rfl,Pf,Ln⟩:=Ry;repeat (any_goals (first|assumption|wp_step))
    exact h _ _ Pf Ln
end
end ST
end NX
namespace NX
open PySem PySem.Spec PyProof.Rows L2
namespace ST
section
variable{X:Cx}{e:Expr}{ta:TA}{p p2 pos JD:Pos}
noncomputable def Gm(K:W.Frag)(ta:TA):TE:=fun σ H Q=>ta σ H fun vs H1=>∃(a:Addr) (xs:List V) (kf:Nat->List Key),vs=[.ref a]/\SqL K H1 a xs/\xs.length<=76/\(∀i x,xs[i]?=some x->∃b,x=.ref b/\H1 b=some (.tup ((kf i).map kV)))/\Q (.int ((met kf xs.length).length:Nat)) H1
theorem pe_lenS(hc:X.calm=true)(hu:X.A.units+8<cLine)(hg:Gl X "len")(hm:X.mg "len" = none)(M8:Gl X "set")(Nn:X.mg "set" = none)(ha:PA X [e] ta)
  (he:backTo pos (starEach [.Call (.Name "set" p2) [e] [] JD] X.env)=[(false,eval (.Call (.Name "set" p2) [e] [] JD) X.env)]:=by rfl)
  (Oj:starEach [e] X.env=(false,eval e X.env)::starEach [] X.env:=by rfl) (Mg:(backTo JD (starEach [] X.env)).any (·.1)=false:=by rfl):
  PE X (.Call (.Name "len" p) [.Call (.Name "set" p2) [e] [] JD] [] pos) (Gm X.K ta):=by
 intro pr s σ H Q I h;refine Ws (gJ I hg hm (by decide +kernel:bootBuiltins "len" = some (.builtin "len")) ?_ (by decide) (by decide));rw[he];refine XH rfl (X0 (YS ?_));refine Ws (gJ I M8 Nn (by decide +kernel:bootBuiltins "set" = some (.type "set")) ?_ (by decide) (by decide));refine Wj (Ji (ha JD pr s σ H _ I h) fun us s1 ⟨vs,H1,I1,r1,a,xs,kf,ev,sq,UA,hk,q⟩=>?_) Oj Mg;subst ev;obtain⟨u,rfl,ra⟩:=fV r1;cases ra;obtain⟨IS,r',pl,hz⟩:=I1.list sq;have hl:=pl.isList;have hlen:=r'.length;have hsz:IS.toArray.size=xs.length:=by rw[Vh];exact hlen.symm
 refine Gk (knd:=mixKind X.prog X.w) (kf:=kf) (I1.ok.hd hc) hu hl (fun i v hv=>?_) (by rw[hsz];exact UA) fun h' tk hS kp=>?_
 ·rw[ZD]at hv;have hi:i<xs.length:=by
   have:=(Vk.mp hv).1;lia
  obtain⟨b,hb,gb⟩:=hk i xs[i] (U9 hi);obtain⟨u,Lo,ru⟩:=r'.get (U9 hi);rw[hv]at Lo;cases Lo;rw[hb]at ru;cases ru;exact⟨b,rfl,mw I1.hok gb⟩
 ·refine Y0 ?_;obtain⟨o,es,ep,t,m,S⟩:=hS;have hn:=S.sz;rw[hsz]at hn;refine call_len_set (s:={s1 with heap:=h',toks:=tk}) S.ho S.ex S.hd S.T.fits (by have:=qS kf xs.length;lia) ?_;refine⟨.int ((met kf xs.length).length:Nat),H1,(I1.kept (t':=tk) kp).tok _,⟨_,by rw[hn]⟩,q⟩
end
end ST
end NX
namespace NX
open PySem PySem.Spec PyProof.Rows L2
namespace ST
section
variable{X:Cx}{e:Expr}{ta:TA}{p p2 pos JD:Pos}
inductive LenI(K:W.Frag)(Q:V->Hp->Prop)(vs:List V)(H1:Hp):Prop
 |mk (a:Addr) (ns:List Int):vs=[.ref a]->SqL K H1 a (ns.map V.int)->ns.length<=4000->Q (.int ((ns.foldl step_dedup []).length:Nat)) H1->LenI K Q vs H1
theorem yx:∀{ns:List Int}{us:List Value},Vals (ns.map V.int) us->PyProof.Rows.IntsAre us ns:=by
 intro ns;induction ns with
 |nil=>
  intro us h;cases h;exact .nil
 |cons n ns ih=>
  intro us h;cases h with
  |cons h1 h2=>
   obtain⟨t,rfl⟩:=h1;exact .cons n t (ih h2)
theorem v5(ns:List Int):firstMet (fun i=>ns.getD i 0) ns.length=ns.foldl step_dedup []:=by
 unfold firstMet;congr 1
 refine List.ext_getElem (by rw[Ve,VG]) fun i h1 h2=>?_
 rw[Yy,Yj,Vi,U9 h2];rfl
def Gn(K:W.Frag)(ta:TA):TE:=fun σ H Q=>ta σ H fun vs H1=>LenI K Q vs H1
theorem pe_lenI(hc:X.calm=true)(hg:Gl X "len")(hm:X.mg "len" = none)(M8:Gl X "set")(Nn:X.mg "set" = none)(ha:PA X [e] ta)
  (he:backTo pos (starEach [.Call (.Name "set" p2) [e] [] JD] X.env)=[(false,eval (.Call (.Name "set" p2) [e] [] JD) X.env)]:=by rfl)
  (Oj:starEach [e] X.env=(false,eval e X.env)::starEach [] X.env:=by rfl) (Mg:(backTo JD (starEach [] X.env)).any (·.1)=false:=by rfl):
  PE X (.Call (.Name "len" p) [.Call (.Name "set" p2) [e] [] JD] [] pos) (Gn X.K ta):=by
 intro pr s σ H Q I h;refine Ws (gJ I hg hm (by decide +kernel:bootBuiltins "len" = some (.builtin "len")) ?_ (by decide) (by decide));rw[he];refine XH rfl (X0 (YS ?_));refine Ws (gJ I M8 Nn (by decide +kernel:bootBuiltins "set" = some (.type "set")) ?_ (by decide) (by decide));refine Wj (Ji (ha JD pr s σ H _ I h) fun us s1 ⟨vs,H1,I1,r1,a,ns,ev,sq,h4,q⟩=>?_) Oj Mg;subst ev;obtain⟨u,rfl,ra⟩:=fV r1;cases ra;obtain⟨IS,r',pl,hz⟩:=I1.list sq;have hl:=pl.isList;have hlen:=r'.length;rw[Ve]at hlen;have hsz:IS.toArray.size=ns.length:=by rw[Vh];exact hlen.symm
 refine PySem.call_set_list (ns:=ns) (I1.ok.hd hc) hl (yx r') (by rw[hsz];show ns.length+1<4096;lia) fun h' tk hS kp=>?_
 refine Y0 ?_;rw[hsz,v5]at hS;obtain⟨o,es,ep,t,g1,g2,g3,_,_,g4,g5,g6⟩:=hS;have g4:es.size<4096:=g4;refine call_len_set (s:={s1 with heap:=h',toks:=tk}) g1 g2 g3 g5 (by lia) ?_;refine⟨.int ((ns.foldl step_dedup []).length:Nat),H1,(I1.kept (t':=tk) fun b o e=>kp b o (Vr e) e).tok _,⟨_,by rw[g6]⟩,q⟩
end
end ST
end NX
namespace PV
open PySem L2 NX
inductive D where
 |non|bl (b:Bool)|int (i:Int)|str (l:List Nat)|tup (ds:List D)|lst (ds:List D)|dct (tk:Bool) (ks vs:List D)
inductive O where
 |f|l (c:O)|t (cs:List O)|d|pin (p:Addr) (c:O)
abbrev R:=O×D
abbrev Env:=List (Option R)
inductive Res(α:Type) where
 |ok (a:α)|exc (c:List Nat)|bad
def kD:Key->D
 | .inl i=>.int i
 | .inr x=>.str x.cps.toList
def isM:HO->Bool
 | .lst _=>true
 | .dK _=>true
 | .dT _=>true
 |_=>false
def isT:HO->Bool
 | .tup _=>true
 | .frz _ (.tup _)=>true
 |_=>false
def uv:Key->Prop
 | .inl _=>True
 | .inr x=>x.cps.toList.length<=sizeLine
def DictO(o:HO)(tk:Bool)(ks:List D)(xs:List V):Prop:=match tk with
 |true=>∃kvs:List (List Key×V),o=.dT kvs/\ks=kvs.map (fun kv=>D.tup (kv.1.map kD))/\xs=kvs.map (·.2)/\∀kv∈kvs,∀k∈kv.1,uv k
 |false=>∃kvs:List (Key×V),o=.dK kvs/\ks=kvs.map (fun kv=>kD kv.1)/\xs=kvs.map (·.2)/\∀kv∈kvs,uv kv.1
mutual
noncomputable def Rep(K:W.Frag)(G:Hp):D->V->Prop
 | .non,v=>v=.non
 | .bl b,v=>v=.bl b
 | .int i,v=>v=.int i
 | .str l,v=>v=.str (S l)/\l.length<=sizeLine
 | .tup ds,v=>∃p xs,v=.ref p/\G p=some (.tup xs)/\Reps K G ds xs
 | .lst ds,v=>∃p xs,v=.ref p/\SqL K G p xs/\Reps K G ds xs
 | .dct tk ks vs,v=>∃p xs o,v=.ref p/\Rd G p o/\DictO o tk ks xs/\Reps K G vs xs
noncomputable def Reps(K:W.Frag)(G:Hp):List D->List V->Prop
 |[],xs=>xs=[]
 |d::ds,xs=>∃y ys,xs=y::ys/\Rep K G d y/\Reps K G ds ys
end
def AllO(P:D->V->List Addr->Prop):List D->List V->List Addr->Prop
 |[],xs,fp=>xs=[]/\fp=[]
 |d::ds,xs,fp=>∃y ys a b,xs=y::ys/\fp=a++b/\P d y a/\AllO P ds ys b
mutual
noncomputable def RepO(K:W.Frag)(G H:Hp):O->D->V->List Addr->Prop
 | .f,d,v,fp=>Rep K G d v/\fp=[]
 | .l c,.lst ds,v,fp=>∃p xs IV,v=.ref p/\H p=some (.lst xs)/\fp=p::IV/\AllO (RepO K G H c) ds xs IV
 | .t cs,.tup ds,v,fp=>∃p xs,v=.ref p/\G p=some (.tup xs)/\RepT K G H cs ds xs fp
 | .d,.dct tk ks vs,v,fp=>∃p xs o,v=.ref p/\H p=some o/\DictO o tk ks xs/\fp=[p]/\Reps K G vs xs
 | .pin p c,d,v,fp=>v=.ref p/\RepO K G H c d v fp
 |_,_,_,_=>False
noncomputable def RepT(K:W.Frag)(G H:Hp):List O->List D->List V->List Addr->Prop
 |[],[],xs,fp=>xs=[]/\fp=[]
 |c::cs,d::ds,xs,fp=>∃y ys a b,xs=y::ys/\fp=a++b/\RepO K G H c d y a/\RepT K G H cs ds ys b
 |_,_,_,_=>False
end
variable{K:W.Frag}{p:Addr}{u:HO}{xs:List V}{fp:List Addr}{es:Env}{vs:List (Option V)}{r:R}{v:V}
section
variable{G G' H H':Hp}
theorem Rd.mono(h:Same G G')(r:Rd G p u):Rd G' p u:=by
 rcases r with r|⟨o,r⟩
 ·exact .inl (h _ _ r)
 ·exact .inr ⟨o,h _ _ r⟩
theorem iw(h:Same G G')(r:SqL K G p xs):SqL K G' p xs:=r.elim (fun r=>.inl (Rd.mono h r)) .inr
theorem bW(h:Same G G')(r:SqT K G p xs):SqT K G' p xs:=r.elim (fun r=>.inl (Rd.mono h r)) .inr
mutual
theorem Rep.mono(h:Same G G'):∀{d:D}{v:V},Rep K G d v->Rep K G' d v
 | .non,_,r=>by simpa only[Rep] using r
 | .bl _,_,r=>by simpa only[Rep] using r
 | .int _,_,r=>by simpa only[Rep] using r
 | .str _,_,r=>by simpa only[Rep] using r
 | .tup ds,_,r=>by
  simp only[Rep]at r ⊢;obtain⟨p,xs,e,q,rs⟩:=r;exact⟨p,xs,e,h _ _ q,Reps.mono h rs⟩
 | .lst ds,_,r=>by
  simp only[Rep]at r ⊢;obtain⟨p,xs,e,q,rs⟩:=r;exact⟨p,xs,e,iw h q,Reps.mono h rs⟩
 | .dct tk ks vs,_,r=>by
  simp only[Rep]at r ⊢;obtain⟨p,xs,o,e,q,dd,rs⟩:=r;exact⟨p,xs,o,e,Rd.mono h q,dd,Reps.mono h rs⟩
theorem Reps.mono(h:Same G G'):∀{ds:List D}{xs:List V},Reps K G ds xs->Reps K G' ds xs
 |[],_,r=>by simpa only[Reps] using r
 |d::ds,_,r=>by
  simp only[Reps]at r ⊢;obtain⟨y,ys,e,r1,r2⟩:=r;exact⟨y,ys,e,Rep.mono h r1,Reps.mono h r2⟩
end
theorem AllO.imp{P P':D->V->List Addr->Prop}:∀{ds:List D}{xs:List V}{fp:List Addr},(∀d v a,(∀p∈a,p∈fp)->P d v a->P' d v a)->AllO P ds xs fp->AllO P' ds xs fp
 |[],_,_,_,r=>r
 |d::ds,xs,fp,h,r=>by
  obtain⟨y,ys,a,b,e1,e2,p,q⟩:=r;subst e2;exact⟨y,ys,a,b,e1,rfl,h _ _ _ (fun p hp=>Vj _ hp) p,AllO.imp (fun d v c hc=>h d v c fun p hp=>Vd _ (hc p hp)) q⟩
mutual
theorem RepO.step(h:Same G G'):∀{o:O}{d:D}{v:V}{fp:List Addr},(∀p∈fp,H' p=H p)->RepO K G H o d v fp->RepO K G' H' o d v fp
 | .f,d,v,fp,hk,r=>by
  simp only[RepO]at r ⊢;exact⟨Rep.mono h r.1,r.2⟩
 | .pin p c,d,v,fp,hk,r=>by
  simp only[RepO]at r ⊢;exact⟨r.1,RepO.step h hk r.2⟩
 | .l c,.lst ds,v,fp,hk,r=>by
  simp only[RepO]at r ⊢;obtain⟨p,xs,IV,e,q,e2,a⟩:=r;subst e2;exact⟨p,xs,IV,e,(hk p Va).trans q,rfl,AllO.imp (fun d v c hc=>RepO.step h fun z hz=>hk z (Vb _ (hc z hz))) a⟩
 | .t cs,.tup ds,v,fp,hk,r=>by
  simp only[RepO]at r ⊢;obtain⟨p,xs,e,q,a⟩:=r;exact⟨p,xs,e,h _ _ q,RepT.step h hk a⟩
 | .d,.dct tk ks vs,v,fp,hk,r=>by
  simp only[RepO]at r ⊢;obtain⟨p,xs,o,e,q,dd,e2,rs⟩:=r;subst e2;exact⟨p,xs,o,e,(hk p Va).trans q,dd,rfl,Reps.mono h rs⟩
 | .l _,.non,_,_,_,r | .l _,.bl _,_,_,_,r | .l _,.int _,_,_,_,r | .l _,.str _,_,_,_,r | .l _,.tup _,_,_,_,r | .l _,.dct _ _ _,_,_,_,r=>by simp only[RepO]at r
 | .t _,.non,_,_,_,r | .t _,.bl _,_,_,_,r | .t _,.int _,_,_,_,r | .t _,.str _,_,_,_,r | .t _,.lst _,_,_,_,r | .t _,.dct _ _ _,_,_,_,r=>by simp only[RepO]at r
 | .d,.non,_,_,_,r | .d,.bl _,_,_,_,r | .d,.int _,_,_,_,r | .d,.str _,_,_,_,r | .d,.tup _,_,_,_,r | .d,.lst _,_,_,_,r=>by simp only[RepO]at r
theorem RepT.step(h:Same G G'):∀{cs:List O}{ds:List D}{xs:List V}{fp:List Addr},(∀p∈fp,H' p=H p)->RepT K G H cs ds xs fp->RepT K G' H' cs ds xs fp
 |[],[],_,_,_,r=>by simpa only[RepT] using r
 |c::cs,d::ds,xs,fp,hk,r=>by
  simp only[RepT]at r ⊢;obtain⟨y,ys,a,b,e1,e2,r1,r2⟩:=r;subst e2;exact⟨y,ys,a,b,e1,rfl,RepO.step h (fun p hp=>hk p (Vj _ hp)) r1,RepT.step h (fun p hp=>hk p (Vd _ hp)) r2⟩
 |[],_::_,_,_,_,r=>by simp only[RepT]at r
 |_::_,[],_,_,_,r=>by simp only[RepT]at r
end
theorem AllO.frozen{P:D->V->List Addr->Prop}:∀{ds:List D}{xs:List V}{fp:List Addr},(∀d v a,(∀p∈a,p∈fp)->P d v a->Rep K G' d v)->AllO P ds xs fp->Reps K G' ds xs
 |[],_,_,_,r=>by simp only[Reps];exact r.1
 |d::ds,xs,fp,h,r=>by
  obtain⟨y,ys,a,b,e1,e2,p,q⟩:=r;subst e2;simp only[Reps];exact⟨y,ys,e1,h _ _ _ (fun p hp=>Vj _ hp) p,AllO.frozen (fun d v c hc=>h d v c fun p hp=>Vd _ (hc p hp)) q⟩
mutual
theorem RepO.frozen(h:Same G G'):∀{o:O}{d:D}{v:V}{fp:List Addr},(∀p∈fp,∀u,H p=some u->G' p=some u)->RepO K G H o d v fp->Rep K G' d v
 | .f,d,v,fp,hk,r=>by
  simp only[RepO]at r;exact Rep.mono h r.1
 | .pin p c,d,v,fp,hk,r=>by
  simp only[RepO]at r;exact RepO.frozen h hk r.2
 | .l c,.lst ds,v,fp,hk,r=>by
  simp only[RepO]at r;simp only[Rep];obtain⟨p,xs,IV,e,q,e2,a⟩:=r;subst e2;exact⟨p,xs,e,SqL.of (hk p Va _ q),AllO.frozen (fun d v c hc=>RepO.frozen h fun z hz=>hk z (Vb _ (hc z hz))) a⟩
 | .t cs,.tup ds,v,fp,hk,r=>by
  simp only[RepO]at r;simp only[Rep];obtain⟨p,xs,e,q,a⟩:=r;exact⟨p,xs,e,h _ _ q,RepT.frozen h hk a⟩
 | .d,.dct tk ks vs,v,fp,hk,r=>by
  simp only[RepO]at r;simp only[Rep];obtain⟨p,xs,o,e,q,dd,e2,rs⟩:=r;subst e2;exact⟨p,xs,o,e,.inl (hk p Va _ q),dd,Reps.mono h rs⟩
 | .l _,.non,_,_,_,r | .l _,.bl _,_,_,_,r | .l _,.int _,_,_,_,r | .l _,.str _,_,_,_,r | .l _,.tup _,_,_,_,r | .l _,.dct _ _ _,_,_,_,r=>by simp only[RepO]at r
 | .t _,.non,_,_,_,r | .t _,.bl _,_,_,_,r | .t _,.int _,_,_,_,r | .t _,.str _,_,_,_,r | .t _,.lst _,_,_,_,r | .t _,.dct _ _ _,_,_,_,r=>by simp only[RepO]at r
 | .d,.non,_,_,_,r | .d,.bl _,_,_,_,r | .d,.int _,_,_,_,r | .d,.str _,_,_,_,r | .d,.tup _,_,_,_,r | .d,.lst _,_,_,_,r=>by simp only[RepO]at r
theorem RepT.frozen(h:Same G G'):∀{cs:List O}{ds:List D}{xs:List V}{fp:List Addr},(∀p∈fp,∀u,H p=some u->G' p=some u)->RepT K G H cs ds xs fp->Reps K G' ds xs
 |[],[],_,_,_,r=>by simp only[RepT]at r;simp only[Reps];exact r.1
 |c::cs,d::ds,xs,fp,hk,r=>by
  simp only[RepT]at r;simp only[Reps];obtain⟨y,ys,a,b,e1,e2,r1,r2⟩:=r;subst e2;exact⟨y,ys,e1,RepO.frozen h (fun p hp=>hk p (Vj _ hp)) r1,RepT.frozen h (fun p hp=>hk p (Vd _ hp)) r2⟩
 |[],_::_,_,_,_,r=>by simp only[RepT]at r
 |_::_,[],_,_,_,r=>by simp only[RepT]at r
end
theorem AllO.live{P:D->V->List Addr->Prop}:∀{ds:List D}{xs:List V}{fp:List Addr},(∀d v a,P d v a->∀p∈a,∃u,H p=some u)->AllO P ds xs fp->∀p∈fp,∃u,H p=some u
 |[],_,_,_,r=>by rw[r.2];intro p hp;cases hp
 |d::ds,xs,fp,h,r=>by
  obtain⟨y,ys,a,b,e1,e2,p,q⟩:=r;subst e2;intro z hz;rcases VS.mp hz with hz|hz
  ·exact h _ _ _ p z hz
  ·exact AllO.live h q z hz
mutual
theorem RepO.live:∀{o:O}{d:D}{v:V}{fp:List Addr},RepO K G H o d v fp->∀p∈fp,∃u,H p=some u
 | .f,d,v,fp,r=>by
  simp only[RepO]at r;rw[r.2];intro p hp;cases hp
 | .pin p c,d,v,fp,r=>by
  simp only[RepO]at r;exact RepO.live r.2
 | .l c,.lst ds,v,fp,r=>by
  simp only[RepO]at r;obtain⟨p,xs,IV,e,q,e2,a⟩:=r;subst e2;intro z hz;rcases Vo.mp hz with rfl|hz
  ·exact⟨_,q⟩
  ·exact AllO.live (fun d v a=>RepO.live) a z hz
 | .t cs,.tup ds,v,fp,r=>by
  simp only[RepO]at r;obtain⟨p,xs,e,q,a⟩:=r;exact RepT.live a
 | .d,.dct tk ks vs,v,fp,r=>by
  simp only[RepO]at r;obtain⟨p,xs,o,e,q,dd,e2,rs⟩:=r;subst e2;intro z hz;rw[Vx]at hz;exact⟨_,hz▸q⟩
 | .l _,.non,_,_,r | .l _,.bl _,_,_,r | .l _,.int _,_,_,r | .l _,.str _,_,_,r | .l _,.tup _,_,_,r | .l _,.dct _ _ _,_,_,r=>by simp only[RepO]at r
 | .t _,.non,_,_,r | .t _,.bl _,_,_,r | .t _,.int _,_,_,r | .t _,.str _,_,_,r | .t _,.lst _,_,_,r | .t _,.dct _ _ _,_,_,r=>by simp only[RepO]at r
 | .d,.non,_,_,r | .d,.bl _,_,_,r | .d,.int _,_,_,r | .d,.str _,_,_,r | .d,.tup _,_,_,r | .d,.lst _,_,_,r=>by simp only[RepO]at r
theorem RepT.live:∀{cs:List O}{ds:List D}{xs:List V}{fp:List Addr},RepT K G H cs ds xs fp->∀p∈fp,∃u,H p=some u
 |[],[],_,_,r=>by
  simp only[RepT]at r;rw[r.2];intro p hp;cases hp
 |c::cs,d::ds,xs,fp,r=>by
  simp only[RepT]at r;obtain⟨y,ys,a,b,e1,e2,r1,r2⟩:=r;subst e2;intro z hz;rcases VS.mp hz with hz|hz
  ·exact RepO.live r1 z hz
  ·exact RepT.live r2 z hz
 |[],_::_,_,_,r=>by simp only[RepT]at r
 |_::_,[],_,_,r=>by simp only[RepT]at r
end
theorem DictO.isM{o:HO}{tk:Bool}{ks:List D}{xs:List V}(h:DictO o tk ks xs):PV.isM o=true:=by
 cases tk with
 |true=>
  obtain⟨kvs,e,_⟩:=h;rw[e];rfl
 |false=>
  obtain⟨kvs,e,_⟩:=h;rw[e];rfl
theorem AllO.mut{P:D->V->List Addr->Prop}:∀{ds:List D}{xs:List V}{fp:List Addr},(∀d v a,P d v a->∀p∈a,∃u,H p=some u/\isM u=true)->AllO P ds xs fp->∀p∈fp,∃u,H p=some u/\isM u=true
 |[],_,_,_,r=>by rw[r.2];intro p hp;cases hp
 |d::ds,xs,fp,h,r=>by
  obtain⟨y,ys,a,b,e1,e2,p,q⟩:=r;subst e2;intro z hz;rcases VS.mp hz with hz|hz
  ·exact h _ _ _ p z hz
  ·exact AllO.mut h q z hz
mutual
theorem RepO.mut:∀{o:O}{d:D}{v:V}{fp:List Addr},RepO K G H o d v fp->∀p∈fp,∃u,H p=some u/\isM u=true
 | .f,d,v,fp,r=>by
  simp only[RepO]at r;rw[r.2];intro p hp;cases hp
 | .pin p c,d,v,fp,r=>by
  simp only[RepO]at r;exact RepO.mut r.2
 | .l c,.lst ds,v,fp,r=>by
  simp only[RepO]at r;obtain⟨p,xs,IV,e,q,e2,a⟩:=r;subst e2;intro z hz;rcases Vo.mp hz with rfl|hz
  ·exact⟨_,q,rfl⟩
  ·exact AllO.mut (fun d v a=>RepO.mut) a z hz
 | .t cs,.tup ds,v,fp,r=>by
  simp only[RepO]at r;obtain⟨p,xs,e,q,a⟩:=r;exact RepT.mut a
 | .d,.dct tk ks vs,v,fp,r=>by
  simp only[RepO]at r;obtain⟨p,xs,o,e,q,dd,e2,rs⟩:=r;subst e2;intro z hz;rw[Vx]at hz;exact⟨_,hz▸q,dd.isM⟩
 | .l _,.non,_,_,r | .l _,.bl _,_,_,r | .l _,.int _,_,_,r | .l _,.str _,_,_,r | .l _,.tup _,_,_,r | .l _,.dct _ _ _,_,_,r=>by simp only[RepO]at r
 | .t _,.non,_,_,r | .t _,.bl _,_,_,r | .t _,.int _,_,_,r | .t _,.str _,_,_,r | .t _,.lst _,_,_,r | .t _,.dct _ _ _,_,_,r=>by simp only[RepO]at r
 | .d,.non,_,_,r | .d,.bl _,_,_,r | .d,.int _,_,_,r | .d,.str _,_,_,r | .d,.tup _,_,_,r | .d,.lst _,_,_,r=>by simp only[RepO]at r
theorem RepT.mut:∀{cs:List O}{ds:List D}{xs:List V}{fp:List Addr},RepT K G H cs ds xs fp->∀p∈fp,∃u,H p=some u/\isM u=true
 |[],[],_,_,r=>by
  simp only[RepT]at r;rw[r.2];intro p hp;cases hp
 |c::cs,d::ds,xs,fp,r=>by
  simp only[RepT]at r;obtain⟨y,ys,a,b,e1,e2,r1,r2⟩:=r;subst e2;intro z hz;rcases VS.mp hz with hz|hz
  ·exact RepO.mut r1 z hz
  ·exact RepT.mut r2 z hz
 |[],_::_,_,_,r=>by simp only[RepT]at r
 |_::_,[],_,_,r=>by simp only[RepT]at r
end
noncomputable def RepE(K:W.Frag)(G H:Hp):Env->List (Option V)->List Addr->Prop
 |[],vs,fp=>vs=[]/\fp=[]
 |e::es,vs,fp=>∃y ys,vs=y::ys/\match e with
  |none=>RepE K G H es ys fp
  |some r=>∃v a b,y=some v/\fp=a++b/\RepO K G H r.1 r.2 v a/\RepE K G H es ys b
theorem RepE.step(h:Same G G'):∀{es:Env}{vs:List (Option V)}{fp:List Addr},(∀p∈fp,H' p=H p)->RepE K G H es vs fp->RepE K G' H' es vs fp
 |[],_,_,_,r=>r
 |none::es,vs,fp,hk,r=>by
  obtain⟨y,ys,e,r⟩:=r;exact⟨y,ys,e,RepE.step h hk r⟩
 |some r::es,vs,fp,hk,q=>by
  obtain⟨y,ys,e,v,a,b,e1,e2,r1,r2⟩:=q;subst e2;exact⟨y,ys,e,v,a,b,e1,rfl,RepO.step h (fun p hp=>hk p (Vj _ hp)) r1,RepE.step h (fun p hp=>hk p (Vd _ hp)) r2⟩
theorem RepE.live:∀{es:Env}{vs:List (Option V)}{fp:List Addr},RepE K G H es vs fp->∀p∈fp,∃u,H p=some u
 |[],_,_,r=>by
  rw[r.2];intro p hp;cases hp
 |none::es,vs,fp,r=>by
  obtain⟨y,ys,e,r⟩:=r;exact RepE.live r
 |some r::es,vs,fp,q=>by
  obtain⟨y,ys,e,v,a,b,e1,e2,r1,r2⟩:=q;subst e2;intro z hz;rcases VS.mp hz with hz|hz
  ·exact r1.live z hz
  ·exact RepE.live r2 z hz
theorem RepE.mut:∀{es:Env}{vs:List (Option V)}{fp:List Addr},RepE K G H es vs fp->∀p∈fp,∃u,H p=some u/\isM u=true
 |[],_,_,r=>by
  rw[r.2];intro p hp;cases hp
 |none::es,vs,fp,r=>by
  obtain⟨y,ys,e,r⟩:=r;exact RepE.mut r
 |some r::es,vs,fp,q=>by
  obtain⟨y,ys,e,v,a,b,e1,e2,r1,r2⟩:=q;subst e2;intro z hz;rcases VS.mp hz with hz|hz
  ·exact r1.mut z hz
  ·exact RepE.mut r2 z hz
theorem RepE.length:∀{es:Env}{vs:List (Option V)}{fp:List Addr},RepE K G H es vs fp->vs.length=es.length
 |[],_,_,r=>by rw[r.1];rfl
 |none::es,vs,fp,r=>by
  obtain⟨y,ys,e,r⟩:=r;rw[e,Vm,Vm,RepE.length r]
 |some r::es,vs,fp,q=>by
  obtain⟨y,ys,e,v,a,b,e1,e2,r1,r2⟩:=q;rw[e,Vm,Vm,RepE.length r2]
theorem RepE.take:∀{es:Env}{vs:List (Option V)}{fp:List Addr}{i:Nat}{r:R},RepE K G H es vs fp->es[i]?=some (some r)->
  ∃v a b,vs[i]?=some (some v)/\RepO K G H r.1 r.2 v a/\RepE K G H (es.set i none) vs b/\fp.Perm (a++b)
 |[],_,_,_,_,_,e=>by simp at e
 |none::es,vs,fp,0,r,q,e=>by simp at e
 |some r'::es,vs,fp,0,r,q,e=>by
  obtain⟨y,ys,e0,v,a,b,e1,e2,r1,r2⟩:=q;simp at e;subst e;subst e0;subst e1;exact⟨v,a,b,rfl,r1,⟨some v,ys,rfl,r2⟩,by rw[e2]⟩
 |none::es,vs,fp,i+1,r,q,e=>by
  obtain⟨y,ys,e0,q⟩:=q;obtain⟨v,a,b,g1,g2,g3,g4⟩:=RepE.take q (i:=i) (r:=r) (by simpa using e);subst e0;exact⟨v,a,b,by simpa using g1,g2,⟨y,ys,rfl,g3⟩,g4⟩
 |some r'::es,vs,fp,i+1,r,q,e=>by
  obtain⟨y,ys,e0,v',a',b',e1,e2,r1,r2⟩:=q;obtain⟨v,a,b,g1,g2,g3,g4⟩:=RepE.take r2 (i:=i) (r:=r) (by simpa using e);subst e0;refine⟨v,a,a'++b,by simpa using g1,g2,⟨y,ys,rfl,v',a',b,e1,rfl,r1,g3⟩,?_⟩;rw[e2];refine(ZE a' g4).trans ?_;rw[<-Wd,<-Wd];exact Zo b ZF
theorem RepE.put:∀{es:Env}{vs:List (Option V)}{b:List Addr}{i:Nat}{r:R}{v:V}{a:List Addr},RepE K G H es vs b->es[i]?=some none->RepO K G H r.1 r.2 v a->
  ∃fp,RepE K G H (es.set i (some r)) (vs.set i (some v)) fp/\fp.Perm (a++b)
 |[],_,_,_,_,_,_,_,e,_=>by simp at e
 |none::es,vs,b,0,r,v,a,q,e,ro=>by
  obtain⟨y,ys,e0,q⟩:=q;subst e0;exact⟨a++b,⟨some v,ys,rfl,v,a,b,rfl,rfl,ro,q⟩,.refl _⟩
 |some r'::es,vs,b,0,r,v,a,q,e,ro=>by simp at e
 |none::es,vs,b,i+1,r,v,a,q,e,ro=>by
  obtain⟨y,ys,e0,q⟩:=q;obtain⟨fp,g1,g2⟩:=RepE.put q (i:=i) (r:=r) (by simpa using e) ro;subst e0;exact⟨fp,⟨y,_,rfl,g1⟩,g2⟩
 |some r'::es,vs,b,i+1,r,v,a,q,e,ro=>by
  obtain⟨y,ys,e0,v',a',b',e1,e2,r1,r2⟩:=q;obtain⟨fp,g1,g2⟩:=RepE.put r2 (i:=i) (r:=r) (by simpa using e) ro;subst e0;refine⟨a'++fp,⟨y,_,rfl,v',a',fp,e1,rfl,r1,g1⟩,?_⟩;rw[e2];refine(ZE a' g2).trans ?_;rw[<-Wd,<-Wd];exact Zo b' ZF
structure Rel(K:W.Frag)(G H:Hp)(es:Env)(vs:List (Option V))(fp:List Addr):Prop where
 rep:RepE K G H es vs fp
 nd:fp.Nodup
 gn:∀p∈fp,G p=none
 gh:Same G H
structure Step(G H:Hp)(fp:List Addr)(G' H':Hp)(IV:List Addr):Prop where
 gg:Same G G'
 keep:∀q u,H q=some u->q∉fp->H' q=some u
 fpn:∀q∈IV,q∈fp\/H q=none
 gnew:∀q u,G' q=some u->G q=some u\/q∈fp\/H q=none\/isT u=true/\H q=some u
 there:∀q u,H q=some u->∃u',H' q=some u'
theorem Step.refl{fp:List Addr}:Step G H fp G H fp:=⟨.refl _,fun _ _ h _=>h,fun _ h=>.inl h,fun _ _ h=>.inl h,fun _ u h=>⟨u,h⟩⟩
theorem Step.trans{G1 H1 G2 H2:Hp}{fp Jl Jx:List Addr}(a:Step G H fp G1 H1 Jl)(b:Step G1 H1 Jl G2 H2 Jx):Step G H fp G2 H2 Jx:=by
 refine⟨a.gg.trans b.gg,fun q u h n=>?_,fun q hq=>?_,fun q u hq=>?_,fun q u h=>?_⟩
 ·refine b.keep q u (a.keep q u h n) fun hq=>?_
  rcases a.fpn q hq with z|z
  ·exact n z
  ·rw[z]at h;cases h
 ·rcases b.fpn q hq with z|z
  ·exact a.fpn q z
  ·cases e:H q with
   |none=>exact .inr rfl
   |some u=>
    obtain⟨u',e'⟩:=a.there q u e;rw[z]at e';cases e'
 ·rcases b.gnew q u hq with z|z|z|⟨t,z⟩
  ·exact a.gnew q u z
  ·exact .inr ((a.fpn q z).imp_right .inl)
  ·cases e:H q with
   |none=>exact .inr (.inr (.inl rfl))
   |some u=>
    obtain⟨u',e'⟩:=a.there q u e;rw[z]at e';cases e'
  ·cases e:H q with
   |none=>exact .inr (.inr (.inl rfl))
   |some u2=>
    by_cases hf:q∈fp
    ·exact .inr (.inl hf)
    ·rw[a.keep q u2 e hf]at z;cases z;exact .inr (.inr (.inr ⟨t,rfl⟩))
 ·obtain⟨u',h'⟩:=a.there q u h;exact b.there q u' h'
theorem Step.perm{fq IV Rz:List Addr}(a:Step G H fp G' H' IV)(h:∀q,q∈fp<->q∈fq)(h':∀q∈Rz,q∈IV):Step G H fq G' H' Rz:=
 ⟨a.gg,fun q u e n=>a.keep q u e fun z=>n ((h q).mp z),fun q hq=>(a.fpn q (h' q hq)).imp_left (h q).mp,fun q u e=>(a.gnew q u e).imp_right (Or.imp_left (h q).mp),a.there⟩
theorem Step.wide{fq IV Rz:List Addr}(a:Step G H fp G' H' IV)(h:∀q∈fp,q∈fq)(h':∀q∈Rz,q∈IV\/q∈fq):Step G H fq G' H' Rz:=
 ⟨a.gg,fun q u e n=>a.keep q u e fun z=>n (h q z),fun q hq=>(h' q hq).elim (fun z=>(a.fpn q z).imp_left (h q)) .inl,fun q u e=>(a.gnew q u e).imp_right (Or.imp_left (h q)),a.there⟩
theorem Rel.perm{fq:List Addr}(r:RepE K G H es vs fq)(nd:fp.Nodup)(gn:∀p∈fp,G p=none)(gh:Same G H)(h:fp.Perm fq):Rel K G H es vs fq:=
 ⟨r,h.nodup_iff.mp nd,fun p hp=>gn p (h.mem_iff.mpr hp),gh⟩
theorem Rel.frame(q:Rel K G H (some r::es) (some v::vs) fp):
  ∃a b,fp=a++b/\RepO K G H r.1 r.2 v a/\Rel K G H es vs b/\∀(G' H':Hp) (LQ:Env) (Lz:List (Option V)) (b':List Addr),Step G H b G' H' b'->Rel K G' H' LQ Lz b'->
   Rel K G' H' (some r::LQ) (some v::Lz) (a++b')/\Step G H (a++b) G' H' (a++b'):=by
 obtain⟨y,ys,e,v',a,b,e1,e2,r1,r2⟩:=q.rep;cases e;cases e1;subst e2;have nd:=VE.mp q.nd;refine⟨a,b,rfl,r1,⟨r2,nd.2.1,fun p hp=>q.gn p (Vd _ hp),q.gh⟩,fun G' H' LQ Lz b' st k=>?_⟩;have nb:∀p∈a,p∉b:=fun p hp hb=>nd.2.2 p hp p hb rfl
 have same:∀p∈a,H' p=H p:=fun p hp=>by
  obtain⟨u,hu⟩:=r1.live p hp;rw[hu];exact st.keep p u hu (nb p hp)
 refine⟨⟨⟨some v,Lz,rfl,v,a,b',rfl,rfl,r1.step st.gg same,k.rep⟩,?_,fun p hp=>?_,k.gh⟩,st.wide (fun p hp=>Vd _ hp) fun p hp=>?_⟩
 ·rw[VE];refine⟨nd.1,k.nd,fun p hp z hz e=>?_⟩;subst e;obtain⟨u,hu⟩:=r1.live p hp;rcases st.fpn p hz with z|z
  ·exact nb p hp z
  ·rw[z]at hu;cases hu
 ·rcases VS.mp hp with hp|hp
  ·cases e:G' p with
   |none=>rfl
   |some u=>
    exfalso;obtain⟨u',hu⟩:=r1.live p hp;rcases st.gnew p u e with z|z|z|⟨t,z⟩
    ·rw[q.gn p (Vj _ hp)]at z;cases z
    ·exact nb p hp z
    ·rw[z]at hu;cases hu
    ·obtain⟨u2,h2,hm⟩:=r1.mut p hp;rw[z]at h2;cases h2;cases u with
     |tup _=>cases hm
     |frz _ _=>cases hm
     |_=>cases t
  ·exact k.gn p hp
 ·rcases VS.mp hp with hp|hp
  ·exact .inr (Vj _ hp)
  ·exact .inl hp
theorem Rel.freeze(q:Rel K G H (some r::es) (some v::vs) fp):
  ∃G' b,Rep K G' r.2 v/\Rel K G' H es vs b/\Step G H fp G' H b:=by
 obtain⟨y,ys,e,v',a,b,e1,e2,r1,r2⟩:=q.rep;cases e;cases e1;subst e2;have nd:=VE.mp q.nd;have nb:∀p∈a,p∉b:=fun p hp hb=>nd.2.2 p hp p hb rfl
 have hg:Same G (fun p=>if p∈a then H p else G p):=fun p u e=>by
  show(if p∈a then H p else G p)=some u;by_cases hp:p∈a
  ·rw[Vn hp];exact q.gh p u e
  ·rw[Vt hp];exact e
 refine⟨fun p=>if p∈a then H p else G p,b,r1.frozen hg fun p hp u e=>?_,⟨r2.step hg fun _ _=>rfl,nd.2.1,fun p hp=>?_,fun p u e=>?_⟩,⟨hg,fun _ _ e _=>e,fun p hp=>.inl (Vd _ hp),fun p u e=>?_,fun _ u e=>⟨u,e⟩⟩⟩
 ·show(if p∈a then H p else G p)=some u;rw[Vn hp];exact e
 ·show(if p∈a then H p else G p)=none;rw[Vt (fun z=>nb p z hp)];exact q.gn p (Vd _ hp)
 ·have e:(if p∈a then H p else G p)=some u:=e;by_cases hp:p∈a
  ·rw[Vn hp]at e;exact e
  ·rw[Vt hp]at e;exact q.gh p u e
 ·have e:(if p∈a then H p else G p)=some u:=e;by_cases hp:p∈a
  ·exact .inr (.inl (Vj _ hp))
  ·rw[Vt hp]at e;exact .inl e
end
variable{d:D}{a:List Addr}{ds:List D}{i:Nat}
section
variable{G G' H H':Hp}
theorem r9:∀{ds:List D}{xs:List V}{fp:List Addr},AllO (RepO K G H .f) ds xs fp<->Reps K G ds xs/\fp=[]
 |[],xs,fp=>by simp only[AllO,Reps]
 |d::ds,xs,fp=>by
  simp only[AllO,Reps,RepO];constructor
  ·rintro⟨y,ys,a,b,e1,e2,⟨r,e3⟩,q⟩;obtain⟨q1,q2⟩:=r9.mp q;subst e3;subst q2;exact⟨⟨y,ys,e1,r,q1⟩,e2⟩
  ·rintro⟨⟨y,ys,e1,r,q1⟩,e⟩;exact⟨y,ys,[],[],e1,e,⟨r,rfl⟩,r9.mpr ⟨q1,rfl⟩⟩
theorem gL:RepO K G H .f d v a<->Rep K G d v/\a=[]:=by simp only[RepO]
theorem kS:RepO K G H (.l .f) (.lst ds) v a<->∃p xs,v=.ref p/\H p=some (.lst xs)/\a=[p]/\Reps K G ds xs:=by
 rw[RepO];constructor
 ·rintro⟨p,xs,b,e,q,e2,r⟩;obtain⟨r',eb⟩:=r9.mp r;subst eb;exact⟨p,xs,e,q,e2,r'⟩
 ·rintro⟨p,xs,e,q,e2,r⟩;exact⟨p,xs,[],e,q,e2,r9.mpr ⟨r,rfl⟩⟩
theorem Reps.length:∀{ds:List D}{xs:List V},Reps K G ds xs->xs.length=ds.length
 |[],xs,r=>by simp only[Reps]at r;rw[r];rfl
 |d::ds,xs,r=>by
  simp only[Reps]at r;obtain⟨y,ys,e,_,q⟩:=r;rw[e,Vm,Vm,Reps.length q]
theorem Reps.get:∀{ds:List D}{xs:List V}{i:Nat}{d:D},Reps K G ds xs->ds[i]?=some d->∃v,xs[i]?=some v/\Rep K G d v
 |[],_,_,_,_,e=>by simp at e
 |d'::ds,xs,0,d,r,e=>by
  simp only[Reps]at r;obtain⟨y,ys,e1,q,_⟩:=r;simp at e;subst e;exact⟨y,by rw[e1];rfl,q⟩
 |d'::ds,xs,i+1,d,r,e=>by
  simp only[Reps]at r;obtain⟨y,ys,e1,_,q⟩:=r;obtain⟨v,a,b⟩:=Reps.get q (i:=i) (d:=d) (by simpa using e);exact⟨v,by rw[e1];simpa using a,b⟩
theorem Reps.getV:∀{ds:List D}{xs:List V}{i:Nat}{v:V},Reps K G ds xs->xs[i]?=some v->∃d,ds[i]?=some d/\Rep K G d v:=fun{ds xs i v} r e=>by
 have hl:=r.length;have hi:i<ds.length:=by have:=(Vk.mp e).1;lia
 obtain⟨v',h1,h2⟩:=r.get (U9 hi);rw[e]at h1;cases h1;exact⟨_,U9 hi,h2⟩
theorem Reps.app:∀{ds es:List D}{xs ys:List V},Reps K G ds xs->Reps K G es ys->Reps K G (ds++es) (xs++ys)
 |[],_,_,_,r,q=>by simp only[Reps]at r;rw[r];exact q
 |d::ds,es,xs,ys,r,q=>by
  simp only[Reps]at r;obtain⟨z,zs,e,r1,r2⟩:=r;rw[e];simp only[Wy,Reps];exact⟨z,_,rfl,r1,r2.app q⟩
theorem Reps.one(r:Rep K G d v):Reps K G [d] [v]:=by
 simp only[Reps];exact⟨v,[],rfl,r,rfl⟩
theorem Reps.nil:Reps K G [] []:=by simp only[Reps]
theorem Reps.cons(r:Rep K G d v)(q:Reps K G ds xs):Reps K G (d::ds) (v::xs):=by
 simp only[Reps];exact⟨v,xs,rfl,r,q⟩
theorem Reps.cons_iff:Reps K G (d::ds) (v::xs)<->Rep K G d v/\Reps K G ds xs:=by
 simp only[Reps];constructor
 ·rintro⟨y,ys,e,r,q⟩;cases e;exact⟨r,q⟩
 ·rintro⟨r,q⟩;exact⟨v,xs,rfl,r,q⟩
theorem Reps.take:∀{ds:List D}{xs:List V}(n:Nat),Reps K G ds xs->Reps K G (ds.take n) (xs.take n)
 |_,_,0,_=>by rw[Yu,Yu];exact Reps.nil
 |[],xs,n+1,r=>by simp only[Reps]at r;rw[r];exact Reps.nil
 |d::ds,xs,n+1,r=>by
  simp only[Reps]at r;obtain⟨y,ys,e,r1,r2⟩:=r;rw[e,ZW,ZW];exact .cons r1 (r2.take n)
theorem Reps.drop:∀{ds:List D}{xs:List V}(n:Nat),Reps K G ds xs->Reps K G (ds.drop n) (xs.drop n)
 |_,_,0,r=>r
 |[],xs,n+1,r=>by simp only[Reps]at r;rw[r];exact Reps.nil
 |d::ds,xs,n+1,r=>by
  simp only[Reps]at r;obtain⟨y,ys,e,r1,r2⟩:=r;rw[e,ZX,ZX];exact r2.drop n
theorem Reps.set:∀{ds:List D}{xs:List V}(n:Nat) {d:D}{v:V},Reps K G ds xs->Rep K G d v->Reps K G (ds.set n d) (xs.set n v)
 |[],xs,n,d,v,r,q=>by simp only[Reps]at r;rw[r];exact Reps.nil
 |d'::ds,xs,0,d,v,r,q=>by
  simp only[Reps]at r;obtain⟨y,ys,e,r1,r2⟩:=r;rw[e];exact .cons q r2
 |d'::ds,xs,n+1,d,v,r,q=>by
  simp only[Reps]at r;obtain⟨y,ys,e,r1,r2⟩:=r;rw[e];exact .cons r1 (r2.set n q)
theorem Reps.ofAll(hl:xs.length=ds.length)(h:∀(i:Nat) (d:D) (v:V),ds[i]?=some d->xs[i]?=some v->Rep K G d v):Reps K G ds xs:=by
 induction ds generalizing xs with
 |nil=>simp only[Reps];exact Wg hl
 |cons d ds ih=>
  cases xs with
  |nil=>simp at hl
  |cons v xs=>exact .cons (h 0 d v rfl rfl) (ih (by simpa using hl) fun i d v a b=>h (i+1) d v (by simpa using a) (by simpa using b))
theorem Step.cut{fq:List Addr}(h:∀q∈fq,q∈fp):Step G H fp G H fq:=⟨.refl _,fun _ _ e _=>e,fun q hq=>.inl (h q hq),fun _ _ e=>.inl e,fun _ u e=>⟨u,e⟩⟩
theorem Rel.drop{y:Option V}(q:Rel K G H (some r::es) (y::vs) fp):∃b,Rel K G H es vs b/\Step G H fp G H b:=by
 obtain⟨y,ys,e,v',a,b,e1,e2,r1,r2⟩:=q.rep;cases e;cases e1;subst e2;have nd:=VE.mp q.nd;exact⟨b,⟨r2,nd.2.1,fun p hp=>q.gn p (Vd _ hp),q.gh⟩,Step.cut fun p hp=>Vd _ hp⟩
theorem Rel.top(q:Rel K G H (some r::es) (some v::vs) fp):Rep K H r.2 v:=by
 obtain⟨y,ys,e,v',a,b,e1,e2,r1,r2⟩:=q.rep;cases e;cases e1;exact r1.frozen q.gh fun p hp u e=>e
theorem Rel.out(q:Rel K G H es vs fp)(e:es[i]?=some (some r)):∃v fq,vs[i]?=some (some v)/\Rel K G H (some r::es.set i none) (some v::vs) fq/\Step G H fp G H fq/\Step G H fq G H fp:=by
 obtain⟨v,a,b,e1,r1,r2,pm⟩:=q.rep.take e;exact⟨v,a++b,e1,Rel.perm ⟨some v,vs,rfl,v,a,b,rfl,rfl,r1,r2⟩ q.nd q.gn q.gh pm,Step.cut fun p hp=>pm.mem_iff.mpr hp,Step.cut fun p hp=>pm.mem_iff.mp hp⟩
theorem Rel.view(q:Rel K G H es vs fp)(e:es[i]?=some (some r)):∃v,vs[i]?=some (some v)/\Rep K H r.2 v:=by
 obtain⟨v,fq,e1,r1,_⟩:=q.out e;exact⟨v,e1,r1.top⟩
theorem nJ{α:Type}{l:List α}{x:α}(h:l[i]?=some x):l.set i x=l:=by
 apply Yr;intro j;by_cases e:i=j
 ·subst e;rw[Wt (Vk.mp h).1,h]
 ·rw[YA e]
theorem Rel.store(q:Rel K G H (some r::es) (some v::vs) fp)(hi:i<es.length):∃fq,Rel K G H (es.set i (some r)) (vs.set i (some v)) fq/\Step G H fp G H fq:=by
 obtain⟨y,ys,e,v',a,b,e1,e2,r1,r2⟩:=q.rep;cases e;cases e1;subst e2;obtain⟨c,hc⟩:∃c,es[i]?=some c:=⟨_,U9 hi⟩
 have nd:=VE.mp q.nd;have key:∃b',RepE K G H (es.set i none) vs b'/\(∀p∈b',p∈b)/\b'.Nodup:=by
  cases c with
  |none=>exact⟨b,by rw[nJ hc];exact r2,fun _ h=>h,nd.2.1⟩
  |some r'=>
   obtain⟨v2,a2,b2,_,_,g,pm⟩:=r2.take hc;refine⟨b2,g,fun p hp=>pm.mem_iff.mpr (Vd _ hp),?_⟩;exact(VE.mp (pm.nodup_iff.mp nd.2.1)).2.1
 obtain⟨b',g,sub,ndb⟩:=key;obtain⟨fq,g2,pm⟩:=g.put (i:=i) (r:=r) (v:=v) (by rw[Wt hi]) r1;rw[Xk]at g2;have PM:(a++b').Nodup:=by
  rw[VE];exact⟨nd.1,ndb,fun p hp z hz=>nd.2.2 p hp z (sub z hz)⟩
 refine⟨fq,Rel.perm g2 PM (fun p hp=>?_) q.gh pm.symm,Step.cut fun p hp=>?_⟩
 ·refine q.gn p ?_;rcases VS.mp hp with hp|hp
  ·exact Vj _ hp
  ·exact Vd _ (sub p hp)
 ·rcases VS.mp (pm.mem_iff.mp hp) with hp|hp
  ·exact Vj _ hp
  ·exact Vd _ (sub p hp)
theorem Rel.back(q:Rel K G H (some r::es) (some v::vs) fp)(hi:i<es.length)(hv:vs[i]?=some (some v)):∃fq,Rel K G H (es.set i (some r)) vs fq/\Step G H fp G H fq:=by
 obtain⟨fq,g,st⟩:=q.store hi;rw[nJ hv]at g;exact⟨fq,g,st⟩
theorem Rel.freezeAt(q:Rel K G H es vs fp)(e:es[i]?=some (some r)):∃v G' fq,vs[i]?=some (some v)/\Rep K G' r.2 v/\Rel K G' H (es.set i (some (.f,r.2))) vs fq/\Step G H fp G' H fq:=by
 obtain⟨v,fq,ev,g,st,_⟩:=q.out e;obtain⟨G',b,rv,g2,I0⟩:=g.freeze;have g3:Rel K G' H (some (.f,r.2)::es.set i none) (some v::vs) b:=by
  refine⟨⟨some v,vs,rfl,v,[],b,rfl,rfl,?_,g2.rep⟩,g2.nd,g2.gn,g2.gh⟩;exact gL.mpr ⟨rv,rfl⟩
 obtain⟨fz,g4,JW⟩:=g3.back (i:=i) (by rw[Wc];exact(Vk.mp e).1) ev;rw[Xk]at g4;exact⟨v,G',fz,ev,rv,g4,st.trans (I0.trans JW)⟩
theorem Rel.push(q:Rel K G H es vs fp)(r:Rep K G d v):Rel K G H (some (.f,d)::es) (some v::vs) fp:=by
 refine⟨⟨some v,vs,rfl,v,[],fp,rfl,rfl,?_,q.rep⟩,q.nd,q.gn,q.gh⟩;exact gL.mpr ⟨r,rfl⟩
theorem Rel.newF(q:Rel K G H es vs fp)(hp:H p=none):Rel K (upd G p u) (upd H p u) es vs fp/\Step G H fp (upd G p u) (upd H p u) fp:=by
 have gp:G p=none:=by
  cases e:G p with
  |none=>rfl
  |some o=>rw[q.gh p o e]at hp;cases hp
 have np:p∉fp:=fun z=>by
  obtain⟨u,e⟩:=q.rep.live p z;rw[hp]at e;cases e
 have sg:Same G (upd G p u):=fun b o e=>by rw[aF (bq e gp)];exact e
 have sh:Same H (upd H p u):=fun b o e=>by rw[aF (bq e hp)];exact e
 refine⟨⟨q.rep.step sg fun z hz=>aF fun e=>np (e▸hz),q.nd,fun z hz=>?_,fun b o e=>?_⟩,⟨sg,fun b o e _=>sh b o e,fun _ h=>.inl h,fun b o e=>?_,fun b o e=>⟨o,sh b o e⟩⟩⟩
 ·have:z≠p:=fun e=>np (e▸hz)
  rw[aF this];exact q.gn z hz
 ·by_cases hb:b=p
  ·subst hb;rw[bc]at e ⊢;exact e
  ·rw[aF hb]at e ⊢;exact q.gh b o e
 ·by_cases hb:b=p
  ·subst hb;exact .inr (.inr (.inl hp))
  ·rw[aF hb]at e;exact .inl e
theorem Rel.newL(q:Rel K G H es vs fp)(hp:H p=none)(r:Reps K G ds xs):
  Rel K G (upd H p (.lst xs)) (some (.l .f,.lst ds)::es) (some (.ref p)::vs) (p::fp)/\Step G H fp G (upd H p (.lst xs)) (p::fp):=by
 have gp:G p=none:=by
  cases e:G p with
  |none=>rfl
  |some o=>rw[q.gh p o e]at hp;cases hp
 have np:p∉fp:=fun z=>by
  obtain⟨u,e⟩:=q.rep.live p z;rw[hp]at e;cases e
 have sh:Same H (upd H p (.lst xs)):=fun b o e=>by rw[aF (bq e hp)];exact e
 refine⟨⟨⟨some (.ref p),vs,rfl,.ref p,[p],fp,rfl,rfl,kS.mpr ⟨p,xs,rfl,bc,rfl,r⟩,q.rep.step (.refl _) fun z hz=>aF fun e=>np (e▸hz)⟩,VN.mpr ⟨np,q.nd⟩,fun z hz=>?_,fun b o e=>?_⟩,
  ⟨.refl _,fun b o e _=>sh b o e,fun b hb=>?_,fun b o e=>.inl e,fun b o e=>⟨o,sh b o e⟩⟩⟩
 ·rcases Vo.mp hz with rfl|hz
  ·exact gp
  ·exact q.gn z hz
 ·exact sh b o (q.gh b o e)
 ·rcases Vo.mp hb with rfl|hb
  ·exact .inr hp
  ·exact .inl hb
theorem Rel.chg{ds':List D}(q:Rel K G H es vs fp)(e:es[i]?=some (some (.l .f,.lst ds))):∃p xs,vs[i]?=some (some (.ref p))/\H p=some (.lst xs)/\Reps K G ds xs/\
  ∀J8,Reps K G ds' J8->∃fq,Rel K G (upd H p (.lst J8)) (es.set i (some (.l .f,.lst ds'))) vs fq/\Step G H fp G (upd H p (.lst J8)) fq:=by
 obtain⟨v,fq,ev,g,st,KD⟩:=q.out e;obtain⟨y,ys,e0,v',a,b,e1,e2,r1,r2⟩:=g.rep;cases e0;cases e1;obtain⟨p,xs,e3,hp,e4,rs⟩:=kS.mp r1;subst e3;subst e4;subst e2;have nd:=VN.mp (show(p::b).Nodup from g.nd);refine⟨p,xs,ev,hp,rs,fun J8 KS=>?_⟩;have g2:Rel K G (upd H p (.lst J8)) (some (.l .f,.lst ds')::es.set i none) (some (.ref p)::vs) (p::b):=by
  refine⟨⟨some (.ref p),vs,rfl,.ref p,[p],b,rfl,rfl,kS.mpr ⟨p,J8,rfl,bc,rfl,KS⟩,r2.step (.refl _) fun z hz=>aF fun e=>nd.1 (e▸hz)⟩,g.nd,g.gn,fun z o ez=>?_⟩;have:z≠p:=fun w=>by
   subst w;rw[g.gn z Va]at ez;cases ez
  rw[aF this];exact g.gh z o ez
 have TB:Step G H (p::b) G (upd H p (.lst J8)) (p::b):=by
  refine⟨.refl _,fun z o ez nz=>?_,fun z hz=>.inl hz,fun z o ez=>.inl ez,fun z o ez=>?_⟩
  ·have:z≠p:=fun w=>nz (by rw[w];exact Va)
   rw[aF this];exact ez
  ·by_cases w:z=p
   ·subst w;exact⟨_,bc⟩
   ·exact⟨o,by rw[aF w];exact ez⟩
 obtain⟨fz,g3,Jt⟩:=g2.back (i:=i) (by rw[Wc];exact(Vk.mp e).1) ev;rw[Xk]at g3;exact⟨fz,g3,st.trans (TB.trans Jt)⟩
end
mutual
noncomputable def cw:D->Bool
 | .tup ds=>flatDs ds
 | .lst _=>false
 | .dct _ _ _=>false
 |_=>true
noncomputable def flatDs:List D->Bool
 |[]=>true
 |d::ds=>cw d&&flatDs ds
end
mutual
noncomputable def aS:O->D->Bool
 | .f,d=>cw d
 | .l c,.lst ds=>ds.all (aS c)
 | .t cs,.tup ds=>pI cs ds
 | .d,.dct _ _ vs=>flatDs vs
 | .pin _ c,d=>aS c d
 |_,_=>false
noncomputable def pI:List O->List D->Bool
 |[],[]=>true
 |c::cs,d::ds=>aS c d&&pI cs ds
 |_,_=>false
end
def frz:Option R->Option R:=Option.map fun r=>(.f,r.2)
theorem cP:∀ds,flatDs ds=ds.all cw
 |[]=>rfl
 |d::ds=>by rw[flatDs,XY,cP ds]
section
variable{G G' G2 G3 H H' H2:Hp}
mutual
theorem Rep.flat(h:∀p u,isT u=true->G2 p=some u->G3 p=some u):∀{d:D}{v:V},cw d=true->Rep K G2 d v->Rep K G3 d v
 | .non,_,_,r=>by simpa only[Rep] using r
 | .bl _,_,_,r=>by simpa only[Rep] using r
 | .int _,_,_,r=>by simpa only[Rep] using r
 | .str _,_,_,r=>by simpa only[Rep] using r
 | .tup ds,_,e,r=>by
  simp only[Rep]at r ⊢;simp only[cw]at e;obtain⟨p,xs,ev,q,rs⟩:=r;exact⟨p,xs,ev,h _ _ rfl q,Reps.flat h e rs⟩
 | .lst ds,_,e,r=>by simp only[cw]at e;cases e
 | .dct _ _ _,_,e,r=>by simp only[cw]at e;cases e
theorem Reps.flat(h:∀p u,isT u=true->G2 p=some u->G3 p=some u):∀{ds:List D}{xs:List V},flatDs ds=true->Reps K G2 ds xs->Reps K G3 ds xs
 |[],_,_,r=>by simpa only[Reps] using r
 |d::ds,_,e,r=>by
  simp only[Reps]at r ⊢;simp only[flatDs,Vu]at e;obtain⟨y,ys,ev,r1,r2⟩:=r;exact⟨y,ys,ev,Rep.flat h e.1 r1,Reps.flat h e.2 r2⟩
end
theorem AllO.clean{P P':D->V->List Addr->Prop}{c:D->Bool}:∀{ds:List D}{xs:List V}{fp:List Addr},(∀d v a,c d=true->P d v a->P' d v a)->ds.all c=true->AllO P ds xs fp->AllO P' ds xs fp
 |[],_,_,_,_,r=>r
 |d::ds,xs,fp,h,e,r=>by
  obtain⟨y,ys,a,b,e1,e2,p,q⟩:=r;rw[XY,Vu]at e;exact⟨y,ys,a,b,e1,e2,h _ _ _ e.1 p,AllO.clean h e.2 q⟩
mutual
theorem RepO.clean(h:∀p u,isT u=true->G2 p=some u->G3 p=some u):∀{o:O}{d:D}{v:V}{fp:List Addr},aS o d=true->RepO K G2 H o d v fp->RepO K G3 H o d v fp
 | .f,d,v,fp,e,r=>by
  simp only[RepO]at r ⊢;simp only[aS]at e;exact⟨r.1.flat h e,r.2⟩
 | .pin p c,d,v,fp,e,r=>by
  simp only[RepO]at r ⊢;simp only[aS]at e;exact⟨r.1,RepO.clean h e r.2⟩
 | .l c,.lst ds,v,fp,e,r=>by
  rw[RepO]at r ⊢;rw[aS]at e;obtain⟨p,xs,IV,ev,q,e2,a⟩:=r;exact⟨p,xs,IV,ev,q,e2,AllO.clean (fun d v a=>RepO.clean h) e a⟩
 | .t cs,.tup ds,v,fp,e,r=>by
  rw[RepO]at r ⊢;rw[aS]at e;obtain⟨p,xs,ev,q,a⟩:=r;exact⟨p,xs,ev,h _ _ rfl q,RepT.clean h e a⟩
 | .d,.dct tk ks vs,v,fp,e,r=>by
  rw[RepO]at r ⊢;rw[aS]at e;obtain⟨p,xs,o,ev,q,dd,e2,rs⟩:=r;exact⟨p,xs,o,ev,q,dd,e2,rs.flat h e⟩
 | .l _,.non,_,_,_,r | .l _,.bl _,_,_,_,r | .l _,.int _,_,_,_,r | .l _,.str _,_,_,_,r | .l _,.tup _,_,_,_,r | .l _,.dct _ _ _,_,_,_,r=>by simp only[RepO]at r
 | .t _,.non,_,_,_,r | .t _,.bl _,_,_,_,r | .t _,.int _,_,_,_,r | .t _,.str _,_,_,_,r | .t _,.lst _,_,_,_,r | .t _,.dct _ _ _,_,_,_,r=>by simp only[RepO]at r
 | .d,.non,_,_,_,r | .d,.bl _,_,_,_,r | .d,.int _,_,_,_,r | .d,.str _,_,_,_,r | .d,.tup _,_,_,_,r | .d,.lst _,_,_,_,r=>by simp only[RepO]at r
theorem RepT.clean(h:∀p u,isT u=true->G2 p=some u->G3 p=some u):∀{cs:List O}{ds:List D}{xs:List V}{fp:List Addr},pI cs ds=true->RepT K G2 H cs ds xs fp->RepT K G3 H cs ds xs fp
 |[],[],_,_,_,r=>by simpa only[RepT] using r
 |c::cs,d::ds,xs,fp,e,r=>by
  rw[RepT]at r ⊢;rw[pI,Vu]at e;obtain⟨y,ys,a,b,e1,e2,r1,r2⟩:=r;exact⟨y,ys,a,b,e1,e2,RepO.clean h e.1 r1,RepT.clean h e.2 r2⟩
 |[],_::_,_,_,_,r=>by simp only[RepT]at r
 |_::_,[],_,_,_,r=>by simp only[RepT]at r
end
theorem RepE.frz(h:Same G G'):∀{es:Env}{vs:List (Option V)}{fp:List Addr},(∀p∈fp,∀u,H p=some u->G' p=some u)->RepE K G H es vs fp->RepE K G' H' (es.map PV.frz) vs []
 |[],_,_,_,r=>⟨r.1,rfl⟩
 |none::es,vs,fp,hk,r=>by
  obtain⟨y,ys,e,r⟩:=r;exact⟨y,ys,e,RepE.frz h hk r⟩
 |some r::es,vs,fp,hk,q=>by
  obtain⟨y,ys,e,v,a,b,e1,e2,r1,r2⟩:=q;subst e2;exact⟨y,ys,e,v,[],[],e1,rfl,gL.mpr ⟨r1.frozen h (fun p hp=>hk p (Vj _ hp)),rfl⟩,RepE.frz h (fun p hp=>hk p (Vd _ hp)) r2⟩
theorem RepE.rep(h:Same G G'):∀{es:Env}{vs:List (Option V)}{fp:List Addr}{i:Nat}{r:R}{v:V},(∀p∈fp,∀u,H p=some u->G' p=some u)->RepE K G H es vs fp->es[i]?=some (some r)->vs[i]?=some (some v)->Rep K G' r.2 v:=fun{es vs fp i r v} hk q e ev=>by
 obtain⟨v',a,b,e1,r1,_,pm⟩:=q.take e;rw[ev]at e1;cases e1;exact r1.frozen h fun p hp=>hk p (pm.mem_iff.mpr (Vj _ hp))
theorem Rel.lend(q:Rel K G H es vs fp):∃G1,Same G G1/\Same G1 H/\(∀(i:Nat) (r:R) (v:V),es[i]?=some (some r)->vs[i]?=some (some v)->Rep K G1 r.2 v)/\
  RepE K G1 H (es.map PV.frz) vs []/\
  ∀(H2 G2:Hp) (Jx:List Addr) (r:R) (v:V),Step G1 H [] G2 H2 Jx->Rel K G2 H2 [some r] [some v] Jx->
   (aS r.1 r.2=true->∃G3 J3,Step G H fp G3 H2 J3/\Rel K G3 H2 (some r::es) (some v::vs) J3)/\
   ∃G3 J3,Step G H fp G3 H2 J3/\Rel K G3 H2 (some r::es.map PV.frz) (some v::vs) J3:=by
 have hg:Same G (fun p=>if p∈fp then H p else G p):=fun p u e=>by
  show(if p∈fp then H p else G p)=some u;by_cases hp:p∈fp
  ·rw[Vn hp];exact q.gh p u e
  ·rw[Vt hp];exact e
 have hh:Same (fun p=>if p∈fp then H p else G p) H:=fun p u e=>by
  have e:(if p∈fp then H p else G p)=some u:=e;by_cases hp:p∈fp
  ·rw[Vn hp]at e;exact e
  ·rw[Vt hp]at e;exact q.gh p u e
 have hk:∀p∈fp,∀u,H p=some u->(fun p=>if p∈fp then H p else G p) p=some u:=fun p hp u e=>by
  show(if p∈fp then H p else G p)=some u;rw[Vn hp];exact e
 refine⟨fun p=>if p∈fp then H p else G p,hg,hh,fun i r v e ev=>q.rep.rep hg hk e ev,q.rep.frz hg hk,fun H2 G2 Jx r v st k=>?_⟩;obtain⟨y,ys,e0,v',a,b,e1,e2,r1,r2⟩:=k.rep;cases e0;cases e1;obtain⟨_,e3⟩:=r2;subst e3;rw[VH]at e2;subst e2;have fresh:∀p∈Jx,H p=none:=fun p hp=>by
  rcases st.fpn p hp with z|z
  ·cases z
  ·exact z
 have kept:∀p∈fp,H2 p=H p:=fun p hp=>by
  obtain⟨u,hu⟩:=q.rep.live p hp;rw[hu];exact st.keep p u hu (by simp)
 refine⟨fun cl=>?_,⟨G2,Jx,⟨hg.trans st.gg,fun p u e n=>st.keep p u e (by simp),fun p hp=>.inr (fresh p hp),fun p u e=>?_,st.there⟩,?_⟩⟩
 ·have apart:∀p∈Jx,p∉fp:=fun p hp hf=>by
   obtain⟨u,hu⟩:=q.rep.live p hf;rw[fresh p hp]at hu;cases hu
  have g3:Same G (fun p=>if p∈fp then none else G2 p):=fun p u e=>by
   show(if p∈fp then none else G2 p)=some u;rw[Vt (fun z=>by rw[q.gn p z]at e;cases e)];exact st.gg p u (hg p u e)
  refine⟨fun p=>if p∈fp then none else G2 p,Jx++fp,⟨g3,fun p u e n=>st.keep p u e (by simp),fun p hp=>?_,fun p u e=>?_,st.there⟩,⟨⟨some v,vs,rfl,v,Jx,fp,rfl,rfl,r1.clean (fun p u t e=>?_) cl,q.rep.step g3 kept⟩,?_,fun p hp=>?_,fun p u e=>?_⟩⟩
  ·rcases VS.mp hp with hp|hp
   ·exact .inr (fresh p hp)
   ·exact .inl hp
  ·have e:(if p∈fp then none else G2 p)=some u:=e;by_cases hp:p∈fp
   ·rw[Vn hp]at e;cases e
   ·rw[Vt hp]at e;rcases st.gnew p u e with z|z|z
    ·have z:(if p∈fp then H p else G p)=some u:=z;rw[Vt hp]at z;exact .inl z
    ·cases z
    ·exact .inr (.inr z)
  ·show(if p∈fp then none else G2 p)=some u;by_cases hp:p∈fp
   ·exfalso;obtain⟨u',hu,hm⟩:=q.rep.mut p hp;have:=st.gg p u' (hk p hp u' hu);rw[e]at this;cases this;cases u with
    |lst _=>cases t
    |dK _=>cases t
    |dT _=>cases t
    |_=>cases hm
   ·rw[Vt hp];exact e
  ·rw[VE];exact⟨k.nd,q.nd,fun p hp z hz e=>apart p hp (e▸hz)⟩
  ·show(if p∈fp then none else G2 p)=none;by_cases hf:p∈fp
   ·rw[Vn hf]
   ·rw[Vt hf];rcases VS.mp hp with hp|hp
    ·exact k.gn p hp
    ·exact absurd hp hf
  ·have e:(if p∈fp then none else G2 p)=some u:=e;by_cases hp:p∈fp
   ·rw[Vn hp]at e;cases e
   ·rw[Vt hp]at e;exact k.gh p u e
 ·rcases st.gnew p u e with z|z|z
  ·have z:(if p∈fp then H p else G p)=some u:=z;by_cases hp:p∈fp
   ·exact .inr (.inl hp)
   ·rw[Vt hp]at z;exact .inl z
  ·cases z
  ·exact .inr (.inr z)
 ·refine⟨⟨some v,vs,rfl,v,Jx,[],rfl,(VH _).symm,r1,q.rep.frz (hg.trans st.gg) fun p hp u e=>st.gg p u (hk p hp u e)⟩,k.nd,k.gn,k.gh⟩
end
end PV
open PySem PySem.Spec PyProof.Rows L2 NX
namespace PV
def Res.bind{α β:Type}:Res α->(α->Res β)->Res β
 | .ok a,f=>f a
 | .exc c,_=>.exc c
 | .bad,_=>.bad
inductive BindOk{α β:Type}(x:Res α)(f:α->Res β)(b:β):Prop
 |mk (a:α) (h:x=.ok a) (k:f a=.ok b):BindOk x f b
variable{α:Type}
theorem ar{β:Type}{x:Res α}{f:α->Res β}{b:β}(h:x.bind f=.ok b):BindOk x f b:=by
 cases x with
 |ok a=>exact⟨a,rfl,h⟩
 |exc c=>cases h
 |bad=>cases h
inductive Opd where
 |val (d:D)|var (i:Nat)
def OpdOk(K:W.Frag)(G:Hp)(σ:L2.St):Opd->V->Prop
 | .val d,v=>Rep K G d v
 | .var i,v=>σ[i]?=some (some v)
theorem OpdOk.mono{K:W.Frag}{G G':Hp}{σ:L2.St}{o:Opd}{v:V}(h:Same G G')(r:OpdOk K G σ o v):OpdOk K G' σ o v:=by
 cases o with
 |val d=>exact Rep.mono h r
 |var i=>exact r
def mz(K:W.Frag)(G:Hp)(σ:L2.St):List Opd->List V->Prop
 |[],vs=>vs=[]
 |o::os,vs=>∃y ys,vs=y::ys/\OpdOk K G σ o y/\mz K G σ os ys
def shal:O->Bool
 | .f=>true
 | .l .f=>true
 | .d=>true
 | .pin _ .f=>true
 | .pin _ (.l .f)=>true
 | .pin _ .d=>true
 |_=>false
def JY(env:PV.Env):Opd->Res D
 | .val d=>.ok d
 | .var i=>match env[i]? with
  |some (some r)=>if shal r.1 then .ok r.2 else .bad
  |_=>.bad
def uw(env:PV.Env):Opd->Res D
 | .val d=>.ok d
 | .var i=>match env[i]? with
  |some (some r)=>.ok r.2
  |_=>.bad
def pJ(env:PV.Env):List Opd->Res (List D)
 |[]=>.ok []
 |o::os=>(JY env o).bind fun d=>(pJ env os).bind fun ds=>.ok (d::ds)
def ji(env:PV.Env):List Opd->Res (List D)
 |[]=>.ok []
 |o::os=>(uw env o).bind fun d=>(ji env os).bind fun ds=>.ok (d::ds)
def Vw(K:W.Frag)(G H:Hp):D->V->Prop
 | .lst ds,v=>∃p xs,v=.ref p/\SqL K H p xs/\Reps K G ds xs
 | .dct tk ks vs,v=>∃p xs o,v=.ref p/\Rd H p o/\DictO o tk ks xs/\Reps K G vs xs
 |d,v=>Rep K G d v
def Ph(K:W.Frag)(G H:Hp):List D->List V->Prop
 |[],vs=>vs=[]
 |d::ds,vs=>∃y ys,vs=y::ys/\Vw K G H d y/\Ph K G H ds ys
variable{K:W.Frag}{G H:Hp}{σ:L2.St}{a fp:List Addr}{d:D}{v:V}
section
variable{G' H':Hp}{es:PV.Env}
theorem Vw.of(gh:Same G H)(r:Rep K G d v):Vw K G H d v:=by
 cases d with
 |lst ds=>
  rw[Rep]at r;obtain⟨p,xs,e,q,rs⟩:=r;exact⟨p,xs,e,iw gh q,rs⟩
 |dct tk ks vs=>
  rw[Rep]at r;obtain⟨p,xs,o,e,q,dd,rs⟩:=r;exact⟨p,xs,o,e,PV.Rd.mono gh q,dd,rs⟩
 |_=>exact r
theorem Vw.rep(gh:Same G H)(r:Vw K G H d v):Rep K H d v:=by
 cases d with
 |lst ds=>
  obtain⟨p,xs,e,q,rs⟩:=r;rw[Rep];exact⟨p,xs,e,q,rs.mono gh⟩
 |dct tk ks vs=>
  obtain⟨p,xs,o,e,q,dd,rs⟩:=r;rw[Rep];exact⟨p,xs,o,e,q,dd,rs.mono gh⟩
 |non=>exact Rep.mono gh r
 |bl b=>exact Rep.mono gh r
 |int i=>exact Rep.mono gh r
 |str l=>exact Rep.mono gh r
 |tup ds=>exact Rep.mono gh r
theorem RepO.vw0{o:O}(gh:Same G H)(hs:o=.f\/o=.l .f\/o=.d)(r:RepO K G H o d v a):Vw K G H d v:=by
 rcases hs with rfl|rfl|rfl
 ·exact Vw.of gh (gL.mp r).1
 ·cases d with
  |lst ds=>
   obtain⟨p,xs,e,q,_,rs⟩:=kS.mp r;exact⟨p,xs,e,SqL.of q,rs⟩
  |_=>simp only[RepO]at r
 ·cases d with
  |dct tk ks vs=>
   rw[RepO]at r;obtain⟨p,xs,o,e,q,dd,_,rs⟩:=r;exact⟨p,xs,o,e,.inl q,dd,rs⟩
  |_=>simp only[RepO]at r
theorem RepO.vw{o:O}(gh:Same G H)(hs:shal o=true)(r:RepO K G H o d v a):Vw K G H d v:=by
 unfold shal at hs;split at hs
 ·exact r.vw0 gh (.inl rfl)
 ·exact r.vw0 gh (.inr (.inl rfl))
 ·exact r.vw0 gh (.inr (.inr rfl))
 ·rw[RepO]at r;exact r.2.vw0 gh (.inl rfl)
 ·rw[RepO]at r;exact r.2.vw0 gh (.inr (.inl rfl))
 ·rw[RepO]at r;exact r.2.vw0 gh (.inr (.inr rfl))
 ·cases hs
theorem Rel.vw{o:Opd}{v:V}{d:D}(q:Rel K G H es σ fp)(k:OpdOk K G σ o v)(e:JY es o=.ok d):Vw K G H d v:=by
 cases o with
 |val d'=>
  cases e;exact Vw.of q.gh k
 |var i=>
  unfold JY at e;dsimp only at e;split at e
  ·rename_i r hr;split at e
   ·rename_i hs;cases e;obtain⟨v',a,b,ev,r1,_⟩:=q.rep.take hr;have k:σ[i]?=some (some v):=k;rw[k]at ev;cases ev;exact r1.vw q.gh hs
   ·cases e
  ·cases e
theorem Rel.vwA{o:Opd}(q:Rel K G H es σ fp)(k:OpdOk K G σ o v)(e:uw es o=.ok d):Rep K H d v:=by
 cases o with
 |val d'=>
  cases e;exact Rep.mono q.gh k
 |var i=>
  unfold uw at e;dsimp only at e;split at e
  ·rename_i r hr;cases e;obtain⟨v',ev,r1⟩:=q.view hr;have k:σ[i]?=some (some v):=k;rw[k]at ev;cases ev;exact r1
  ·cases e
theorem Rel.vws(q:Rel K G H es σ fp):∀{os:List Opd}{vs:List V}{ds:List D},mz K G σ os vs->pJ es os=.ok ds->Ph K G H ds vs
 |[],_,_,k,e=>by
  cases e;exact k
 |o::os,_,_,⟨y,ys,e0,k1,k2⟩,e=>by
  unfold pJ at e;obtain⟨d,e1,e⟩:=ar e;obtain⟨ds,e2,e⟩:=ar e;cases e;exact⟨y,ys,e0,q.vw k1 e1,Rel.vws q k2 e2⟩
theorem jj{G1:Hp}(gg:Same G G1)(ht:∀(i:Nat) (r:R) (v:V),es[i]?=some (some r)->σ[i]?=some (some v)->Rep K G1 r.2 v):∀{os:List Opd}{vs:List V}{ds:List D},mz K G σ os vs->ji es os=.ok ds->Reps K G1 ds vs
 |[],_,_,k,e=>by
  cases e;have k:_=_:=k;rw[k];exact Reps.nil
 |o::os,_,_,⟨y,ys,e0,k1,k2⟩,e=>by
  unfold ji at e;obtain⟨d,e1,e⟩:=ar e;obtain⟨ds,e2,e⟩:=ar e;cases e;rw[e0];refine .cons ?_ (jj gg ht k2 e2);cases o with
  |val d'=>
   cases e1;exact Rep.mono gg k1
  |var i=>
   unfold uw at e1;dsimp only at e1;split at e1
   ·rename_i r hr;cases e1;exact ht i r y hr k1
   ·cases e1
end
abbrev FX:=PV.Env->Res (R×PV.Env)
abbrev FO:=PV.Env->Res (Opd×PV.Env)
abbrev FOs:=PV.Env->Res (List Opd×PV.Env)
abbrev FT:=PV.Env->Res (Bool×PV.Env)
inductive Out where
 |nx (env:PV.Env)|rt (r:R)|bk (env:PV.Env)|ct (env:PV.Env)
abbrev FS:=PV.Env->Res Out
inductive tQ(K:W.Frag)(f:FX)(σ:L2.St)(H:Hp)(Q:VK):Prop
 |mk:∀G env fp r env',Rel K G H env σ fp->f env=.ok (r,env')->(∀v H' G' IV,Step G H fp G' H' IV->Rel K G' H' (some r::env') (some v::σ) IV->Q v H')->tQ K f σ H Q
inductive tO(K:W.Frag)(f:FO)(σ:L2.St)(H:Hp)(Q:VK):Prop
 |mk:∀G env fp o env',Rel K G H env σ fp->f env=.ok (o,env')->(∀v H' G' IV,Step G H fp G' H' IV->Rel K G' H' env' σ IV->OpdOk K G' σ o v->Q v H')->tO K f σ H Q
inductive tOs(K:W.Frag)(f:FOs)(σ:L2.St)(H:Hp)(Q:List V->Hp->Prop):Prop
 |mk:∀G env fp o env',Rel K G H env σ fp->f env=.ok (o,env')->(∀v H' G' IV,Step G H fp G' H' IV->Rel K G' H' env' σ IV->mz K G' σ o v->Q v H')->tOs K f σ H Q
inductive tQT(K:W.Frag)(f:FT)(σ:L2.St)(H:Hp)(Q:Bool->Hp->Prop):Prop
 |mk:∀G env fp b env',Rel K G H env σ fp->f env=.ok (b,env')->(∀H' G' IV,Step G H fp G' H' IV->Rel K G' H' env' σ IV->Q b H')->tQT K f σ H Q
inductive Mode where
 |plain|mut
def Ht(md:Mode)(K:W.Frag)(G H:Hp)(r:R)(v:V)(fp:List Addr):Prop:=match md with
 | .plain=>Rel K G H [some r] [some v] fp
 | .mut=>∃o d p c d0,r=(.t [o,.pin p c],.tup [d,d0])/\Rel K G H [some (o,d),some (.pin p c,d0)] [some v,some (.ref p)] fp
noncomputable def OutOk{md:Mode}(K:W.Frag)(G H:Hp)(fp:List Addr)(Dd:Ends):Res Out->Prop
 | .ok (.nx env')=>∀σ' H' G' IV,Step G H fp G' H' IV->Rel K G' H' env' σ' IV->Dd.nx σ' H'
 | .ok (.bk env')=>∀σ' H' G' IV,Step G H fp G' H' IV->Rel K G' H' env' σ' IV->Dd.bk σ' H'
 | .ok (.ct env')=>∀σ' H' G' IV,Step G H fp G' H' IV->Rel K G' H' env' σ' IV->Dd.ct σ' H'
 | .ok (.rt r)=>∀v H' G' IV,Step G H fp G' H' IV->Ht md K G' H' r v IV->Dd.rt v H'
 |_=>False
inductive tQS{md:Mode}(K:W.Frag)(g:FS)(Dd:Ends)(σ:L2.St)(H:Hp):Prop
 |mk:∀G env fp,Rel K G H env σ fp->OutOk (md:=md) K G H fp Dd (g env)->tQS (md:=md) K g Dd σ H
def QE(X:Cx)(e:Expr)(f:FX):Prop:=PE X e (tQ X.K f)
def QO(X:Cx)(e:Expr)(f:FO):Prop:=PE X e (tO X.K f)
def Ma(X:Cx)(es:List Expr)(f:FOs):Prop:=PA X es (tOs X.K f)
def QT(X:Cx)(e:Expr)(f:FT):Prop:=PT X e (tQT X.K f)
def QW(X:Cx)(e:Expr)(f:FT):Prop:=PW X e (tQT X.K f)
def QS{md:Mode}(X:Cx)(st:Stmt)(g:FS):Prop:=PS X st (tQS (md:=md) X.K g)
def MS{md:Mode}(X:Cx)(st:List Stmt)(g:FS):Prop:=PSs X st (tQS (md:=md) X.K g)
variable{X:Cx}{e:Expr}
theorem bI{t t':TE}(h:PE X e t)(k:∀σ H Q,t' σ H Q->t σ H Q):PE X e t':=fun pr s σ H Q I w=>h pr s σ H Q I (k σ H Q w)
theorem sf{t t':TT}(h:PT X e t)(k:∀σ H Q,t' σ H Q->t σ H Q):PT X e t':=fun pr s σ H Q I w=>h pr s σ H Q I (k σ H Q w)
theorem zH{t t':TT}(h:PW X e t)(k:∀σ H Q,t' σ H Q->t σ H Q):PW X e t':=fun wh pr s σ H Q I w=>h wh pr s σ H Q I (k σ H Q w)
theorem si{e:List Expr}{t t':TA}(h:PA X e t)(k:∀σ H Q,t' σ H Q->t σ H Q):PA X e t':=fun pos pr s σ H Q I w=>h pos pr s σ H Q I (k σ H Q w)
theorem fM{e:Stmt}{t t':TS}(h:PS X e t)(k:∀D σ H,t' D σ H->t D σ H):PS X e t':=fun pr s σ H D I w=>h pr s σ H D I (k D σ H w)
theorem wa{e:List Stmt}{t t':TS}(h:PSs X e t)(k:∀D σ H,t' D σ H->t D σ H):PSs X e t':=fun pr s σ H D I w=>h pr s σ H D I (k D σ H w)
variable{md:Mode}
theorem OutOk.imp{K:W.Frag}{G1 H1:Hp}{Jl:List Addr}{Dd RA:Ends}{r:Res Out}(st:Step G H fp G1 H1 Jl)(h:OutOk (md:=md) K G H fp Dd r)(n:∀σ H,Dd.nx σ H->RA.nx σ H)(b:∀σ H,Dd.bk σ H->RA.bk σ H)(c:∀σ H,Dd.ct σ H->RA.ct σ H)(t:∀v H,Dd.rt v H->RA.rt v H):OutOk (md:=md) K G1 H1 Jl RA r:=by
 match r,h with
 | .ok (.nx env'),h=>exact fun σ' H' G' IV s q=>n _ _ (h σ' H' G' IV (st.trans s) q)
 | .ok (.bk env'),h=>exact fun σ' H' G' IV s q=>b _ _ (h σ' H' G' IV (st.trans s) q)
 | .ok (.ct env'),h=>exact fun σ' H' G' IV s q=>c _ _ (h σ' H' G' IV (st.trans s) q)
 | .ok (.rt r),h=>exact fun v H' G' IV s q=>t _ _ (h v H' G' IV (st.trans s) q)
theorem OutOk.after{K:W.Frag}{G1 H1:Hp}{Jl:List Addr}{Dd:Ends}{r:Res Out}(st:Step G H fp G1 H1 Jl)(h:OutOk (md:=md) K G H fp Dd r):OutOk (md:=md) K G1 H1 Jl Dd r:=h.imp st (fun _ _ z=>z) (fun _ _ z=>z) (fun _ _ z=>z) fun _ _ z=>z
def aD(d:D):FX:=fun env=>.ok ((.f,d),env)
def fz:O->O
 | .pin p .f=>.pin p .f
 |_=>.f
def aJ(i:Nat):FX:=fun env=>match env[i]? with
 |some (some r)=>.ok ((.f,r.2),env.set i (some (fz r.1,r.2)))
 |_=>.bad
def kU(i:Nat):FX:=fun env=>match env[i]? with
 |some (some r)=>.ok (r,env.set i none)
 |_=>.bad
def aj(f:FX):FO:=fun env=>(f env).bind fun p=>.ok (.val p.1.2,p.2)
def ao(i:Nat):FO:=fun env=>match env[i]? with
 |some (some _)=>.ok (.var i,env)
 |_=>.bad
def aB:FOs:=fun env=>.ok ([],env)
def ag(f:FO)(g:FOs):FOs:=fun env=>(f env).bind fun p=>(g p.2).bind fun q=>.ok (p.1::q.1,q.2)
variable{es:List Expr}{l:List Nat}{i:Nat}{f:FX}{b:Expr}{fa:FO}{pos:Pos}{Q:VK}{gg:List D->Res R}{x:Str}{T:String}
section
theorem sj(h:PE X e (tC v))(r:∀G,Rep X.K G d v):QE X e (aD d):=bI h fun σ H Q Jc=>by
 obtain⟨G,env,fp,rr,env',rel,e,k⟩:=Jc;cases e;exact k v H G fp .refl (rel.push (r G))
theorem ai{i j pos}:QE X (.Constant (.int i) j pos) (aD (.int i)):=sj CP fun G=>by rw[Rep]
theorem ux{i j pos}:QE X (.Constant (.bool i) j pos) (aD (.bl i)):=sj FC fun G=>by rw[Rep]
theorem dq{j pos}:QE X (.Constant .none j pos) (aD .non):=sj CQ fun G=>by rw[Rep]
theorem eE{x j pos}(h:x=S l)(hl:l.length<=1000):QE X (.Constant (.str x) j pos) (aD (.str l)):=sj CS fun G=>by
 rw[Rep,h];exact⟨rfl,by rw[line_eq];lia⟩
theorem aA(h:PE X e (xM i)):QE X e (aJ i):=bI h fun σ H Q Jc=>by
 obtain⟨G,env,fp,rr,env',rel,e,k⟩:=Jc;unfold aJ at e;split at e
 ·rename_i r hr;cases e;by_cases hf:fz r.1=.f
  ·obtain⟨v,G',fq,ev,rv,Ju,st⟩:=rel.freezeAt hr;rw[hf]at k;exact⟨v,ev,k v H G' fq st (Ju.push rv)⟩
  ·have hp:∃p,r.1=.pin p .f:=by
    unfold fz at hf;split at hf
    ·rename_i p hp;exact⟨p,hp⟩
    ·exact absurd rfl hf
   obtain⟨p,hp⟩:=hp;obtain⟨v,a,b,ev,r1,_,_⟩:=rel.rep.take hr;rw[hp,RepO]at r1;have es:env.set i (some (fz r.1,r.2))=env:=by
    refine nJ ?_;rw[hr,hp];show some (some r)=some (some (.pin p .f,r.2));rw[<-hp]
   rw[es]at k;exact⟨v,ev,k v H G fp .refl (rel.push (gL.mp r1.2).1)⟩
 ·cases e
theorem gM(h:PE X e (xM i)):QE X e (kU i):=bI h fun σ H Q Jc=>by
 obtain⟨G,env,fp,rr,env',rel,e,k⟩:=Jc;unfold kU at e;split at e
 ·rename_i r hr;cases e;obtain⟨v,fq,ev,Ju,st,_⟩:=rel.out hr;exact⟨v,ev,k v H G fq st Ju⟩
 ·cases e
theorem aa(h:QE X e f):QO X e (aj f):=bI h fun σ H Q Jc=>by
 obtain⟨G,env,fp,o,env',rel,e,k⟩:=Jc;obtain⟨⟨r,IM⟩,e1,e⟩:=ar e;cases e;refine⟨G,env,fp,r,IM,rel,e1,fun v H' G' IV st Ju=>?_⟩;obtain⟨G2,b,rv,IP,I0⟩:=Ju.freeze;exact k v H' G2 b (st.trans I0) IP rv
theorem ae(h:PE X e (xM i)):QO X e (ao i):=bI h fun σ H Q Jc=>by
 obtain⟨G,env,fp,o,env',rel,e,k⟩:=Jc;unfold ao at e;split at e
 ·rename_i r hr;cases e;obtain⟨v,ev,_⟩:=rel.view hr;exact⟨v,ev,k v H G fp .refl rel ev⟩
 ·cases e
theorem au:Ma X [] aB:=si oW fun σ H Q Jc=>by
 obtain⟨G,env,fp,o,env',rel,e,k⟩:=Jc;cases e;exact k [] H G fp .refl rel rfl
theorem af{f:FO}{g:FOs}(h:QO X e f)(hs:Ma X es g)(Mx:starEach (e::es) X.env=(false,eval e X.env)::starEach es X.env:=by rfl):Ma X (e::es) (ag f g):=
 si (gK h hs Mx) fun σ H Q Jc=>by
  obtain⟨G,env,fp,o,env',rel,e,k⟩:=Jc;obtain⟨⟨o1,IM⟩,e1,e⟩:=ar e;obtain⟨⟨os,IX⟩,e2,e⟩:=ar e;cases e;exact⟨G,env,fp,o1,IM,rel,e1,fun v H1 G1 Jl Jg IQ J4=>⟨G1,IM,Jl,os,IX,IQ,e2,fun vs H2 G2 Jx I0 IP MT=>k _ H2 G2 Jx (Jg.trans I0) IP ⟨v,vs,rfl,J4.mono I0.gg,MT⟩⟩⟩
def az(g:D->D->Res R)(fa fb:FO):FX:=fun env=>(fa env).bind fun p=>(fb p.2).bind fun q=>(JY q.2 p.1).bind fun a=>(JY q.2 q.1).bind fun b=>(g a b).bind fun r=>.ok (r,q.2)
def aN(g:D->D->Res R)(fa fb:FO):FX:=fun env=>(fa env).bind fun p=>(fb p.2).bind fun q=>(uw q.2 p.1).bind fun a=>(uw q.2 q.1).bind fun b=>(g a b).bind fun r=>.ok (r,q.2)
structure Goes(K:W.Frag)(H:Hp)(G:Hp)(fp:List Addr)(es:PV.Env)(vs:L2.St)(r:R)(Q:VK):Prop where
 rel:Rel K G H es vs fp
 jN:∀v H' G' IV,Step G H fp G' H' IV->Rel K G' H' (some r::es) (some v::vs) IV->Q v H'
inductive rG(K:W.Frag)(g:D->D->Res R)(x:V)(y:V)(H:Hp)(Q:VK):Prop
 |mk:∀G fp es vs a b r,Goes K H G fp es vs r Q->Vw K G H a x->Vw K G H b y->g a b=.ok r->rG K g x y H Q
inductive rGA(K:W.Frag)(g:D->D->Res R)(x:V)(y:V)(H:Hp)(Q:VK):Prop
 |mk:∀G fp es vs a b r,Goes K H G fp es vs r Q->Rep K H a x->Rep K H b y->g a b=.ok r->rGA K g x y H Q
variable{a c:Expr}{fb fc:FO}{g g':D->D->Res R}
theorem sk(h:tQ X.K (az g fa fb) σ H Q):QJ (rG X.K g) (tO X.K fa) (tO X.K fb) σ H Q:=by
 obtain⟨G,env,fp,r,env',rel,e,k⟩:=h;obtain⟨⟨oa,e1⟩,ha,e⟩:=ar e;obtain⟨⟨ob,e2⟩,hb,e⟩:=ar e;obtain⟨da,Ol,e⟩:=ar e;obtain⟨db,KQ,e⟩:=ar e;obtain⟨r',hr,e⟩:=ar e;cases e;exact⟨G,env,fp,oa,e1,rel,ha,fun x H1 G1 Jl Jg IQ J4=>⟨G1,e1,Jl,ob,e2,IQ,hb,fun y H2 G2 Jx I0 IP MT=>
  ⟨G2,Jx,e2,σ,da,db,r,⟨IP,fun v H' G' IV st Ju=>k v H' G' IV (Jg.trans (I0.trans st)) Ju⟩,IP.vw (J4.mono I0.gg) Ol,IP.vw MT KQ,hr⟩⟩⟩
theorem wb(h:tQ X.K (aN g fa fb) σ H Q):QJ (rGA X.K g) (tO X.K fa) (tO X.K fb) σ H Q:=by
 obtain⟨G,env,fp,r,env',rel,e,k⟩:=h;obtain⟨⟨oa,e1⟩,ha,e⟩:=ar e;obtain⟨⟨ob,e2⟩,hb,e⟩:=ar e;obtain⟨da,Ol,e⟩:=ar e;obtain⟨db,KQ,e⟩:=ar e;obtain⟨r',hr,e⟩:=ar e;cases e;exact⟨G,env,fp,oa,e1,rel,ha,fun x H1 G1 Jl Jg IQ J4=>⟨G1,e1,Jl,ob,e2,IQ,hb,fun y H2 G2 Jx I0 IP MT=>
  ⟨G2,Jx,e2,σ,da,db,r,⟨IP,fun v H' G' IV st Ju=>k v H' G' IV (Jg.trans (I0.trans st)) Ju⟩,IP.vwA (J4.mono I0.gg) Ol,IP.vwA MT KQ,hr⟩⟩⟩
theorem aK{op:Operator}(ho:JG X (binaryOp op) (rG X.K g))(ha:QO X a fa)(hb:QO X b fb):QE X (.BinOp a op b pos) (az g fa fb):=bI (FY ho ha hb) fun _ _ _=>sk
theorem wc{op:CmpOp}(ho:JG X (compareOp op) (rG X.K g))(ha:QO X a fa)(hb:QO X b fb)(hm:behindInMarks op b=false):QE X (.Compare a [op] [b] pos) (az g fa fb):=bI (vf ho ha hb hm) fun _ _ _=>sk
theorem fE{op:CmpOp}(ho:JG X (compareOp op) (rGA X.K g))(ha:QO X a fa)(hb:QO X b fb)(hm:behindInMarks op b=false):QE X (.Compare a [op] [b] pos) (aN g fa fb):=bI (vf ho ha hb hm) fun _ _ _=>wb
def Jf(f:FX):FT:=fun env=>(f env).bind fun p=>match p.1.2 with
 | .bl k=>.ok (k,p.2)
 |_=>.bad
theorem Bb{Q:Bool->Hp->Prop}(h:tQT X.K (Jf f) σ H Q):tQ X.K f σ H fun x H'=>∃k,x=.bl k/\Q k H':=by
 obtain⟨G,env,fp,k,env',rel,e,q⟩:=h;obtain⟨⟨⟨o,d⟩,IM⟩,e1,e⟩:=ar e;dsimp only at e;split at e
 ·cases e;refine⟨G,env,fp,_,_,rel,e1,fun v H' G' IV st Ju=>?_⟩;have hv:=Ju.top;rw[show((o,D.bl k):R).2=D.bl k from rfl,Rep]at hv;obtain⟨b,IP,I0⟩:=Ju.drop;exact⟨k,hv,q H' G' b (st.trans I0) IP⟩
 ·cases e
theorem mB(h:QE X e f)(he:∀whole,isTrue e X.env whole=(do let v <-whole;standAt e.pos;holding [v] (truthy v)):=by intro _;rfl):QT X e (Jf f):=sf (CT h he) fun _ _ _=>Bb
theorem kW{op:CmpOp}(ho:JG X (compareOp op) (rG X.K g))(ha:QO X a fa)(hb:QO X b fb)(hm:behindInMarks op b=false):QT X (.Compare a [op] [b] pos) (Jf (az g fa fb)):=
 sf (vg ho ha hb hm) fun _ _ _ h=>sk (Bb h)
theorem aM{op:CmpOp}(ho:JG X (compareOp op) (rGA X.K g))(ha:QO X a fa)(hb:QO X b fb)(hm:behindInMarks op b=false):QT X (.Compare a [op] [b] pos) (Jf (aN g fa fb)):=
 sf (vg ho ha hb hm) fun _ _ _ h=>wb (Bb h)
def yy(f g:FT):FT:=fun env=>(f env).bind fun p=>if p.1 then g p.2 else .ok (false,p.2)
def LU(f g:FT):FT:=fun env=>(f env).bind fun p=>if p.1 then .ok (true,p.2) else g p.2
def we(f:FT):FT:=fun env=>(f env).bind fun p=>.ok (!p.1,p.2)
variable{ga gb:FT}{cN:List Expr}
theorem jS(h:QT X a ga):QW X (.BoolOp .And [a] pos) ga:=Ad h
theorem kX(h:QT X a ga):QW X (.BoolOp .Or [a] pos) ga:=CU h
theorem kY(h:QT X a ga)(h2:QW X (.BoolOp .And (b::cN) pos) gb):QW X (.BoolOp .And (a::b::cN) pos) (yy ga gb):=zH (CV h h2) fun σ H Q Jc=>by
 obtain⟨G,env,fp,k,env',rel,e,q⟩:=Jc;obtain⟨⟨k1,IM⟩,e1,e⟩:=ar e;refine⟨G,env,fp,k1,IM,rel,e1,fun H1 G1 Jl Jg IQ=>?_⟩;dsimp only at e;cases k1 with
 |true=>exact⟨G1,IM,Jl,k,env',IQ,e,fun H2 G2 Jx I0 IP=>q H2 G2 Jx (Jg.trans I0) IP⟩
 |false=>
  cases e;exact q H1 G1 Jl Jg IQ
theorem kZ(h:QT X a ga)(h2:QW X (.BoolOp .Or (b::cN) pos) gb):QW X (.BoolOp .Or (a::b::cN) pos) (LU ga gb):=zH (FE h h2) fun σ H Q Jc=>by
 obtain⟨G,env,fp,k,env',rel,e,q⟩:=Jc;obtain⟨⟨k1,IM⟩,e1,e⟩:=ar e;refine⟨G,env,fp,k1,IM,rel,e1,fun H1 G1 Jl Jg IQ=>?_⟩;dsimp only at e;cases k1 with
 |false=>exact⟨G1,IM,Jl,k,env',IQ,e,fun H2 G2 Jx I0 IP=>q H2 G2 Jx (Jg.trans I0) IP⟩
 |true=>
  cases e;exact q H1 G1 Jl Jg IQ
theorem QW.qt{f:FT}(h:QW X e f):QT X e f:=h.pt
theorem mC(h:QT X a ga):QT X (.UnaryOp .Not a pos) (we ga):=sf (CW h) fun σ H Q Jc=>by
 obtain⟨G,env,fp,k,env',rel,e,q⟩:=Jc;obtain⟨⟨k1,IM⟩,e1,e⟩:=ar e;cases e;exact⟨G,env,fp,k1,IM,rel,e1,fun H1 G1 Jl Jg IQ=>q H1 G1 Jl Jg IQ⟩
def nK(f g:FX):FX:=fun env=>(f env).bind fun p=>match p.1.2 with
 | .bl true=>g p.2
 | .bl false=>.ok ((.f,.bl false),p.2)
 |_=>.bad
def eOr(f g:FX):FX:=fun env=>(f env).bind fun p=>match p.1.2 with
 | .bl true=>.ok ((.f,.bl true),p.2)
 | .bl false=>g p.2
 |_=>.bad
def IH(f:FX):FX:=fun env=>(f env).bind fun p=>match p.1.2 with
 | .bl k=>.ok ((.f,.bl (!k)),p.2)
 |_=>.bad
def eIf(c:FT)(f g:FX):FX:=fun env=>(c env).bind fun p=>if p.1 then f p.2 else g p.2
variable{ea eb:FX}
theorem mD{op}(h:QE X a ea):QE X (.BoolOp op [a] pos) ea:=CY h
theorem dr(k:Bool):Rep K G (.bl k) (.bl k):=by rw[Rep]
theorem bJ(k:Int):Rep K G (.int k) (.int k):=by rw[Rep]
theorem qT:Rep K G .non .non:=by rw[Rep]
theorem k4(h:l.length<=sizeLine):Rep K G (.str l) (.str (S l)):=by
 rw[Rep];exact⟨rfl,h⟩
theorem dt{k:Bool}(h:Rep K G (.bl k) v):v=.bl k:=by rw[Rep]at h;exact h
theorem bM{k:Int}(h:Rep K G (.int k) v):v=.int k:=by rw[Rep]at h;exact h
theorem cB(h:Rep K G .non v):v=.non:=by rw[Rep]at h;exact h
theorem bF(h:Rep K G (.str l) v):v=.str (S l)/\l.length<=sizeLine:=by rw[Rep]at h;exact h
inductive OfT(K:W.Frag)(G:Hp)(l:List D)(v:V):Prop
 |mk (p:Addr) (xs:List V) (e:v=.ref p) (q:SqT K G p xs) (r:Reps K G l xs):OfT K G l v
inductive OfL(K:W.Frag)(G:Hp)(l:List D)(v:V):Prop
 |mk (p:Addr) (xs:List V) (e:v=.ref p) (q:SqL K G p xs) (r:Reps K G l xs):OfL K G l v
theorem bD{l:List D}(h:Rep K G (.tup l) v):OfT K G l v:=by
 rw[Rep]at h;obtain⟨p,xs,e,q,r⟩:=h;exact⟨p,xs,e,SqT.of q,r⟩
theorem wg{l:List D}(h:Rep K G (.tup l) v):∃p xs,v=.ref p/\G p=some (.tup xs)/\Reps K G l xs:=by rw[Rep]at h;exact h
theorem bK{l:List D}(h:Rep K G (.lst l) v):OfL K G l v:=by
 rw[Rep]at h;obtain⟨p,xs,e,q,r⟩:=h;exact⟨p,xs,e,q,r⟩
theorem bV{k:Int}(h:Vw K G H (.int k) v):v=.int k:=bM (K:=K) (G:=G) h
theorem jk(h:Vw K G H (.str l) v):v=.str (S l)/\l.length<=sizeLine:=bF (K:=K) (G:=G) h
theorem iI{l:List D}(h:Vw K G H (.tup l) v):OfT K G l v:=bD (K:=K) (G:=G) h
theorem k7(h:QE X a ea)(h2:QE X (.BoolOp .And (b::cN) pos) eb):QE X (.BoolOp .And (a::b::cN) pos) (nK ea eb):=bI (CZ h h2) fun σ H Q Jc=>by
 obtain⟨G,env,fp,r,env',rel,e,q⟩:=Jc;obtain⟨⟨⟨o,d⟩,IM⟩,e1,e⟩:=ar e;refine⟨G,env,fp,_,IM,rel,e1,fun v H1 G1 Jl Jg IQ=>?_⟩;have hv:=IQ.top;obtain⟨b',IP,I0⟩:=IQ.drop;dsimp only at e hv;split at e
 ·exact⟨true,dt hv,Fv ⟨G1,IM,b',r,env',IP,e,fun v H2 G2 Jx Jt Js=>q v H2 G2 Jx (Jg.trans (I0.trans Jt)) Js⟩⟩
 ·cases e;exact⟨false,dt hv,iteF (q _ H1 G1 b' (Jg.trans I0) (IP.push (dr _)))⟩
 ·cases e
noncomputable def Hu(g g':D->D->Res R)(fa fb fc:FO):FX:=fun env=>(fa env).bind fun p=>(fb p.2).bind fun q=>(JY q.2 p.1).bind fun a=>(JY q.2 q.1).bind fun b=>(g a b).bind fun r=>match r with
 |(.f,.bl true)=>(fc q.2).bind fun t=>(JY t.2 q.1).bind fun b=>(JY t.2 t.1).bind fun c=>(g' b c).bind fun r=>.ok (r,t.2)
 |(.f,.bl false)=>.ok ((.f,.bl false),q.2)
 |_=>.bad
inductive rC(K:W.Frag)(g:List D->Res R)(xs:List V)(H:Hp)(Q:VK):Prop
 |mk:∀G fp es vs ds r,Goes K H G fp es vs r Q->Ph K G H ds xs->g ds=.ok r->rC K g xs H Q
def aY(g:List D->Res R)(fs:FOs):FX:=fun env=>(fs env).bind fun p=>(pJ p.2 p.1).bind fun ds=>(g ds).bind fun r=>.ok (r,p.2)
theorem nL{fs:FOs}(h:tQ X.K (aY gg fs) σ H Q):S7 (rC X.K gg) (tOs X.K fs) σ H Q:=by
 obtain⟨G,env,fp,r,env',rel,e,k⟩:=h;obtain⟨⟨os,e1⟩,ha,e⟩:=ar e;obtain⟨ds,hd,e⟩:=ar e;obtain⟨r',hr,e⟩:=ar e;cases e;exact⟨G,env,fp,os,e1,rel,ha,fun vs H1 G1 Jl Jg IQ J4=>⟨G1,Jl,e1,σ,ds,r,⟨IQ,fun v H' G' IV st Ju=>k v H' G' IV (Jg.trans st) Ju⟩,IQ.vws J4 hd,hr⟩⟩
variable{p:Pos}{fs:FOs}{id:String}
theorem aU(hc:dX X (.builtin id) (rC X.K gg))(hg:Gl X x)(hm:X.mg x=none)(hv:bootBuiltins x=some (.builtin id))(ha:Ma X (e::es) fs)(hn:x≠"__name__":=by decide)(KQ:(x==("__debug__" : Str))=false:=by decide)
  (he:starEach (e::es) X.env=(false,eval e X.env)::starEach es X.env:=by rfl) (JS:(backTo pos (starEach es X.env)).any (·.1)=false:=by rfl):QE X (.Call (.Name x p) (e::es) [] pos) (aY gg fs):=
 bI (rO hc hg hm hv ha hn KQ he JS) fun _ _ _=>nL
theorem cD(hc:dX X (.type T) (rC X.K gg))(hg:Gl X x)(hm:X.mg x=none)(hv:bootBuiltins x=some (.type T))(ha:Ma X (e::es) fs)(hn:x≠"__name__":=by decide)(KQ:(x==("__debug__" : Str))=false:=by decide)
  (he:starEach (e::es) X.env=(false,eval e X.env)::starEach es X.env:=by rfl) (JS:(backTo pos (starEach es X.env)).any (·.1)=false:=by rfl):QE X (.Call (.Name x p) (e::es) [] pos) (aY gg fs):=
 bI (vn hc hg hm hv ha hn KQ he JS) fun _ _ _=>nL
inductive spF(K:W.Frag)(F:List D->Res R)(vs:List V)(H:Hp)(Q:VK)(zz:XK):Prop
 |mk:∀G ds r,Same G H->Reps K G ds vs->F ds=.ok r->(∀v H' G' IV,Step G H [] G' H' IV->Rel K G' H' [some r] [some v] IV->Q v H')->spF K F vs H Q zz
def cX(F:List D->Res R)(fs:FOs):FX:=fun env=>(fs env).bind fun p=>(ji p.2 p.1).bind fun ds=>(F ds).bind fun r=>.ok (r,if aS r.1 r.2 then p.2 else p.2.map frz)
theorem bg{F:List D->Res R}{k:Nat}(C:Ct X.prog X.w X.K X.mg X.base x k (spF X.K F))(hr:Room k X.A)(hg:Gl X x)(ha:Ma X (e::es) fs)(KQ:(x==("__debug__" : Str))=false:=by decide)
  (he:starEach (e::es) X.env=(false,eval e X.env)::starEach es X.env:=by rfl) (JS:(backTo pos (starEach es X.env)).any (·.1)=false:=by rfl):QE X (.Call (.Name x p) (e::es) [] pos) (cX F fs):=
 bI (Ay C hr hg ha KQ he JS) fun σ H Q Jc=>by
  obtain⟨G,env,fp,r,env',rel,e,k⟩:=Jc;obtain⟨⟨os,e1⟩,ha,e⟩:=ar e;obtain⟨ds,hd,e⟩:=ar e;obtain⟨r',hr,e⟩:=ar e;refine⟨G,env,fp,os,e1,rel,ha,fun vs H1 G1 Jl Jg IQ J4=>?_⟩;show spF X.K F (vs++[]) H1 Q _;rw[VH];obtain⟨G2,Om,PN,Ld,_,K3⟩:=IQ.lend;refine⟨G2,ds,r',PN,jj Om Ld J4 hd,hr,fun v H' G' IV st Ju=>?_⟩;obtain⟨k1,k2⟩:=K3 H' G' IV r' v st Ju;by_cases hc:aS r'.1 r'.2=true
  ·rw[Vn hc]at e;cases e;obtain⟨G3,J3,Jt,Js⟩:=k1 hc;exact k v H' G3 J3 (Jg.trans Jt) Js
  ·rw[Vt hc]at e;cases e;obtain⟨G3,J3,Jt,Js⟩:=k2;exact k v H' G3 J3 (Jg.trans Jt) Js
end
def sSeq(g1 g2:FS):FS:=fun env=>(g1 env).bind fun o=>match o with
 | .nx e=>g2 e
 |o=>.ok o
def bL:FS:=fun env=>.ok (.nx env)
def zI:FS:=fun _=>.bad
def bH(i:Nat)(f:FX):FS:=fun env=>(f env).bind fun p=>if i<p.2.length then .ok (.nx (p.2.set i (some p.1))) else .bad
def jl(f:FX):FS:=fun env=>(f env).bind fun p=>.ok (.nx p.2)
def de(f:FX):FS:=fun env=>(f env).bind fun p=>.ok (.rt p.1)
def JC(c:FT)(g h:FS):FS:=fun env=>(c env).bind fun p=>if p.1 then g p.2 else h p.2
variable{st:Stmt}{c:FT}{env:PV.Env}{vs:L2.St}{ct tg:Expr}{MU:List Expr}{xs:List V}{ds:List D}{p:Addr}
section
variable{TC:List Stmt}{g h:FS}
theorem aV:MS (md:=md) X [] bL:=wa Ae fun D σ H ⟨G,env,fp,rel,k⟩=>k σ H G fp .refl rel
theorem aw(a:QS (md:=md) X st g):MS (md:=md) X [st] g:=Af a
theorem ah(a:QS (md:=md) X st g)(b:MS (md:=md) X TC h):MS (md:=md) X (st::TC) (sSeq g h):=wa (xX a b) fun D σ H Jc=>by
 obtain⟨G,env,fp,rel,k⟩:=Jc;refine⟨G,env,fp,rel,?_⟩;have k:OutOk X.K G H fp D ((g env).bind fun o=>match o with | .nx e=>h e|o=>.ok o):=k;match q:g env,k with
 | .ok (.nx IM),k=>exact fun σ1 H1 G1 Jl Jg IQ=>⟨G1,IM,Jl,IQ,OutOk.after Jg k⟩
 | .ok (.bk IM),k=>exact k
 | .ok (.ct IM),k=>exact k
 | .ok (.rt r),k=>exact k
theorem yz:QS (md:=md) X st zI:=fM xY fun D σ H ⟨G,env,fp,rel,k⟩=>k
theorem wj{D:Ends}{i:Nat}(rel:Rel K G H env σ fp)(k:OutOk (md:=md) K G H fp D (bH i f env)):tQ K f σ H fun v H'=>D.nx (σ.set i (some v)) H':=by
 unfold bH at k;match q:f env,k with
 | .ok (r,IM),k=>
  have k:OutOk K G H fp D (if i<IM.length then .ok (.nx (IM.set i (some r))) else .bad):=k;by_cases hi:i<IM.length
  ·rw[Vn hi]at k;refine⟨G,env,fp,r,IM,rel,q,fun v H1 G1 Jl Jg IQ=>?_⟩;obtain⟨fq,IP,I0⟩:=IQ.store hi;exact k _ H1 G1 fq (Jg.trans I0) IP
  ·rw[Vt hi]at k;exact k.elim
theorem aG{pos':Pos}(hN:X.N.Nodup)(hi:X.N[i]?=some x)(hx:Loc X.env.scope x)(he:QE X e f)(hs:swapsWith e (some (.Name x pos')) pos.line X.env=pure false:=by rfl)(hf:X.fn x=true\/X.env.scope.names.lookup x=some .local:=by first|exact .inl rfl|exact .inr rfl|assumption):
  QS (md:=md) X (.Assign [.Name x pos'] e pos) (bH i f):=fM (C4 (i:=i) hN hi hx he hs hf) fun D σ H ⟨G,env,fp,rel,k⟩=>wj rel k
theorem eF(he:QE X e f)(hs:swapsWith e none pos.line X.env=pure false:=by rfl):QS (md:=md) X (.Expr e pos) (jl f):=fM (Ag he hs) fun D σ H Jc=>by
 obtain⟨G,env,fp,rel,k⟩:=Jc;unfold jl at k;match q:f env,k with
 | .ok (r,IM),k=>
  refine⟨G,env,fp,r,IM,rel,q,fun v H1 G1 Jl Jg IQ=>?_⟩;obtain⟨b,IP,I0⟩:=IQ.drop;exact k _ H1 G1 b (Jg.trans I0) IP
theorem Rel.only{r:R}{es:PV.Env}(q:Rel K G H (some r::es) (some v::vs) fp):∃a,Rel K G H [some r] [some v] a/\Step G H fp G H a:=by
 obtain⟨y,ys,e,v',a,b,e1,e2,r1,r2⟩:=q.rep;cases e;cases e1;subst e2;have nd:=VE.mp q.nd;exact⟨a,⟨⟨some v,[],rfl,v,a,[],rfl,(VH _).symm,r1,rfl,rfl⟩,nd.1,fun p hp=>q.gn p (Vj _ hp),q.gh⟩,Step.cut fun p hp=>Vj _ hp⟩
theorem aX(he:QE X e f):QS (md:=.plain) X (.Return (some e) pos) (de f):=fM (zh he) fun D σ H Jc=>by
 obtain⟨G,env,fp,rel,k⟩:=Jc;unfold de at k;match q:f env,k with
 | .ok (r,IM),k=>
  refine⟨G,env,fp,r,IM,rel,q,fun v H1 G1 Jl Jg IQ=>?_⟩;obtain⟨b,IP,I0⟩:=IQ.only;exact k _ H1 G1 b (Jg.trans I0) IP
theorem Rel.nilF{es:PV.Env}(q:Rel K G H es vs fp):Rel K G H [] [] []:=⟨⟨rfl,rfl⟩,Wu,(fun _ h=>nomatch h),q.gh⟩
theorem b9{a b:List Stmt}(hc:QT X ct c)(ha:MS (md:=md) X a g)(hb:MS (md:=md) X b h):QS (md:=md) X (.If ct a b pos) (JC c g h):=fM (FN hc ha hb) fun D σ H Jc=>by
 obtain⟨G,env,fp,rel,k⟩:=Jc;unfold JC at k;match q:c env,k with
 | .ok (true,IM),k=>exact⟨G,env,fp,true,IM,rel,q,fun H1 G1 Jl Jg IQ=>Fv ⟨G1,IM,Jl,IQ,OutOk.after Jg k⟩⟩
 | .ok (false,IM),k=>exact⟨G,env,fp,false,IM,rel,q,fun H1 G1 Jl Jg IQ=>iteF ⟨G1,IM,Jl,IQ,OutOk.after Jg k⟩⟩
def cT(c:FT)(g:FS):Nat->FS
 | 0,_=>.bad
 |n+1,env=>(c env).bind fun p=>if p.1 then(g p.2).bind fun o=>match o with
  | .nx e=>cT c g n e
  | .ct e=>cT c g n e
  | .bk e=>.ok (.nx e)
  | .rt r=>.ok (.rt r)
  else .ok (.nx p.2)
theorem nM{body:List Stmt}(n:Nat)(hp:PassesOwn (model X.prog X.w) X.A X.env X.xe)(hc:QT X ct c)(hb:MS (md:=md) X body g):QS (md:=md) X (.While ct body [] pos) (cT c g n):=
 fM (x3 hp hc hb) fun D σ H Jc=>by
  obtain⟨G,env,fp,rel,k⟩:=Jc;refine⟨fun m σ' H'=>∃G' env' IV,Rel X.K G' H' env' σ' IV/\OutOk X.K G' H' IV D (cT c g m env'),⟨n,G,env,fp,rel,k⟩,?_⟩;rintro m σ1 H1 ⟨G1,IM,Jl,IQ,k1⟩;cases m with
  |zero=>exact k1.elim
  |succ m=>
   unfold cT at k1;match q:c IM,k1 with
   | .ok (false,IX),k1=>exact⟨G1,IM,Jl,false,IX,IQ,q,fun H2 G2 Jx I0 IP=>iteF (k1 _ H2 G2 Jx I0 IP)⟩
   | .ok (true,IX),k1=>
    refine⟨G1,IM,Jl,true,IX,IQ,q,fun H2 G2 Jx I0 IP=>Fv ?_⟩;refine⟨fun σ' H'=>∃G' env' IV,Rel X.K G' H' env' σ' IV/\OutOk X.K G' H' IV D (cT c g m env'),fun σ' H' z=>⟨m,XF _,z⟩,G2,IX,Jx,IP,?_⟩;have k2:OutOk X.K G1 H1 Jl D ((g IX).bind fun o=>match o with | .nx e=>cT c g m e | .ct e=>cT c g m e | .bk e=>.ok (.nx e) | .rt r=>.ok (.rt r)):=k1;match q2:g IX,k2 with
    | .ok (.nx e),k2=>exact fun σ' H' G' IV st rel=>⟨G',e,IV,rel,OutOk.after (I0.trans st) k2⟩
    | .ok (.ct e),k2=>exact fun σ' H' G' IV st rel=>⟨G',e,IV,rel,OutOk.after (I0.trans st) k2⟩
    | .ok (.bk e),k2=>exact fun σ' H' G' IV st rel=>k2 σ' H' G' IV (I0.trans st) rel
    | .ok (.rt r),k2=>exact fun v H' G' IV st rel=>k2 v H' G' IV (I0.trans st) rel
def Walk(K:W.Frag)(G:Hp)(J:It)(ds:List D):Prop:=∀G' H' es vs fp,Same G G'->Rel K G' H' es vs fp->∀i:Nat,
 (∀d,ds[i]?=some d->J.go i H'/\∀x H2,J.yld i H' x H2->∃G2,Rep K G2 d x/\Rel K G2 H2 es vs fp/\Step G' H' fp G2 H2 fp)/\(i=ds.length->J.stop i H')
abbrev FI:=PV.Env->Res (List D×PV.Env)
inductive tQI(K:W.Frag)(f:FI)(σ:L2.St)(H:Hp)(R:It->Hp->Prop):Prop
 |mk:∀G env fp ds env',Rel K G H env σ fp->f env=.ok (ds,env')->(∀J H' G' IV,Step G H fp G' H' IV->Rel K G' H' env' σ IV->Walk K G' J ds->R J H')->tQI K f σ H R
def QI(X:Cx)(tg e:Expr)(f:FI):Prop:=PI X tg e (tQI X.K f)
theorem k8{t t':TI}(h:PI X tg e t)(k:∀σ H R,t' σ H R->t σ H R):PI X tg e t':=fun pr s σ H R I w=>h pr s σ H R I (k σ H R w)
abbrev FG:=D->PV.Env->Res PV.Env
inductive tQG(K:W.Frag)(a:FG)(v:V)(σ:L2.St)(H:Hp)(Q:L2.St->Hp->Prop):Prop
 |mk:∀G env fp d env',Rel K G H env σ fp->Rep K G d v->a d env=.ok env'->(∀σ' G' IV,Step G H fp G' H IV->Rel K G' H env' σ' IV->Q σ' H)->tQG K a v σ H Q
def QG(X:Cx)(tg:Expr)(a:FG):Prop:=PG X tg (tQG X.K a)
def ay(i:Nat):FG:=fun d env=>if i<env.length then .ok (env.set i (some (.f,d))) else .bad
theorem zJ{t t':TG}(h:PG X tg t)(k:∀v σ H Q,t' v σ H Q->t v σ H Q):PG X tg t':=fun pr s σ H v u Q I r w=>h pr s σ H v u Q I r (k v σ H Q w)
theorem wm{tg:List Expr}{t t':O5}(h:Pq X tg t)(k:∀v σ H Q,t' v σ H Q->t v σ H Q):Pq X tg t':=fun pr s σ H v u Q I r w=>h pr s σ H v u Q I r (k v σ H Q w)
theorem aE(hN:X.N.Nodup)(hi:X.N[i]?=some x)(hx:Loc X.env.scope x)(hf:X.fn x=true\/X.env.scope.names.lookup x=some .local:=by first|exact .inl rfl|exact .inr rfl|assumption):QG X (.Name x pos) (ay i):=
 zJ (Ah (i:=i) hN hi hx hf) fun v σ H Q Jc=>by
  obtain⟨G,env,fp,d,env',rel,r,e,k⟩:=Jc;unfold ay at e;split at e
  ·rename_i hl;cases e;obtain⟨fq,IP,I0⟩:=(rel.push r).store hl;exact k _ G fq I0 IP
  ·cases e
abbrev Oo:=List D->PV.Env->Res PV.Env
inductive tQGs(K:W.Frag)(a:Oo)(vs:List V)(σ:L2.St)(H:Hp)(Q:L2.St->Hp->Prop):Prop
 |mk:∀G env fp ds env',Rel K G H env σ fp->Reps K G ds vs->a ds env=.ok env'->(∀σ' G' IV,Step G H fp G' H IV->Rel K G' H env' σ' IV->Q σ' H)->tQGs K a vs σ H Q
def SD(X:Cx)(tg:List Expr)(a:Oo):Prop:=Pq X tg (tQGs X.K a)
def df:Oo:=fun ds env=>match ds with
 |[]=>.ok env
 |_=>.bad
def aH(a:FG)(b:Oo):Oo:=fun ds env=>match ds with
 |d::ds=>(a d env).bind fun e=>b ds e
 |_=>.bad
theorem du:SD X [] df:=wm Ai fun vs σ H Q Jc=>by
 obtain⟨G,env,fp,ds,env',rel,r,e,k⟩:=Jc;cases ds with
 |nil=>
  cases e;rw[Reps]at r;exact⟨r,k σ G fp .refl rel⟩
 |cons d ds=>cases e
theorem aO{a:FG}{b:Oo}(h1:QG X tg a)(h2:SD X MU b)(hs:(assignEach (tg::MU) X.env).map (·.2)=assign tg X.env::(assignEach MU X.env).map (·.2):=by rfl):SD X (tg::MU) (aH a b):=
 wm (xZ h1 h2 hs) fun vs σ H Q Jc=>by
  obtain⟨G,env,fp,ds,env',rel,r,e,k⟩:=Jc;cases ds with
  |nil=>cases e
  |cons d ds=>
   rw[Reps]at r;obtain⟨y,ys,ev,r1,r2⟩:=r;obtain⟨IM,e1,e2⟩:=ar e;exact⟨y,ys,ev,G,env,fp,d,IM,rel,r1,e1,fun σ1 G1 Jl Jg IQ=>⟨G1,IM,Jl,ds,env',IQ,r2.mono Jg.gg,e2,fun σ2 G2 Jx I0 IP=>k σ2 G2 Jx (Jg.trans I0) IP⟩⟩
def iJ(n:Nat)(a:Oo):FG:=fun d env=>match d with
 | .tup ds=>if ds.length=n then a ds env else .bad
 |_=>.bad
theorem e7{k n:Nat}{a:Oo}(hc:X.calm=true)(h:SD X MU a)(hn:(assignEach MU X.env).length=n:=by rfl)(Mx:(assignEach MU X.env).findIdx? (·.1)=none:=by rfl):QG X (.Tuple MU k pos) (iJ n a):=
 zJ (C2 hc h hn Mx) fun v σ H Q Jc=>by
  obtain⟨G,env,fp,d,env',rel,r,e,k⟩:=Jc;unfold iJ at e;split at e
  ·rename_i ds;split at e
   ·rename_i hl;obtain⟨p,xs,ev,sq,rs⟩:=bD r;exact⟨p,xs,ev,bW rel.gh sq,rs.length.trans hl,G,env,fp,ds,env',rel,rs,e,k⟩
   ·cases e
  ·cases e
def eW(a:FG)(g:FS):List D->FS
 |[],env=>.ok (.nx env)
 |d::ds,env=>(a d env).bind fun e=>(g e).bind fun o=>match o with
  | .nx e=>eW a g ds e
  | .ct e=>eW a g ds e
  | .bk e=>.ok (.nx e)
  | .rt r=>.ok (.rt r)
def nN(f:FI)(a:FG)(g:FS):FS:=fun env=>(f env).bind fun p=>eW a g p.1 p.2
theorem eB{iter:Expr}{body:List Stmt}{fi:FI}{a:FG}(hp:PassesOwn (model X.prog X.w) X.A X.env X.xe)(hc:X.calm=true)(hi:QI X tg iter fi)(hg:QG X tg a)(hb:MS (md:=md) X body g)(hs:∀x,foldedSetIterable iter X.env x=pure x:=by intro _;rfl):QS (md:=md) X (.For tg iter body [] pos) (nN fi a g):=
 fM (zi hp hc hi hg hb hs) fun D σ H Jc=>by
  obtain⟨G,env,fp,rel,k⟩:=Jc;unfold nN at k;match q:fi env,k with
  | .ok (ds,IM),k=>
   refine⟨G,env,fp,ds,IM,rel,q,fun J H1 G1 Jl Jg IQ wk=>?_⟩;have k:OutOk X.K G H fp D (eW a g ds IM):=k;refine⟨fun i m σ' H'=>m=ds.length-i/\i<=ds.length/\∃G' env' IV,Same G1 G'/\Rel X.K G' H' env' σ' IV/\OutOk X.K G' H' IV D (eW a g (ds.drop i) env'),⟨_,rfl,V0 _,G1,IM,Jl,.refl _,IQ,OutOk.after Jg k⟩,?_⟩;rintro i m σ2 H2 ⟨rfl,hi,G2,IX,Jx,gg,IP,k2⟩;obtain⟨w1,w2⟩:=wk G2 H2 _ _ _ gg IP i;by_cases Jv:i<ds.length
   ·have hd:ds[i]?=some ds[i]:=U9 Jv;obtain⟨go,yl⟩:=w1 _ hd;rw[X7 Jv]at k2;refine .inr ⟨go,fun σ' H'=>∃G' env' IV,Same G1 G'/\Rel X.K G' H' env' σ' IV/\OutOk X.K G' H' IV D (eW a g (ds.drop (i+1)) env'),fun σ' H' z=>⟨ds.length-(i+1),by lia,rfl,Jv,z⟩,fun x H3 y=>?_⟩;obtain⟨G3,rx,Js,Jt⟩:=yl x H3 y;unfold eW at k2;match q3:a ds[i] IX,k2 with
    | .ok JA,k2=>
     refine⟨G3,IX,Jx,ds[i],JA,Js,rx,q3,fun σ4 G4 PQ JW JK=>⟨G4,JA,PQ,JK,?_⟩⟩;have k3:OutOk X.K G2 H2 Jx D ((g JA).bind fun o=>match o with | .nx e=>eW a g (ds.drop (i+1)) e | .ct e=>eW a g (ds.drop (i+1)) e | .bk e=>.ok (.nx e) | .rt r=>.ok (.rt r)):=k2;match q4:g JA,k3 with
     | .ok (.nx e),k3=>exact fun σ' H' G' IV st rel=>⟨G',e,IV,gg.trans (Jt.gg.trans (JW.gg.trans st.gg)),rel,OutOk.after (Jt.trans (JW.trans st)) k3⟩
     | .ok (.ct e),k3=>exact fun σ' H' G' IV st rel=>⟨G',e,IV,gg.trans (Jt.gg.trans (JW.gg.trans st.gg)),rel,OutOk.after (Jt.trans (JW.trans st)) k3⟩
     | .ok (.bk e),k3=>exact fun σ' H' G' IV st rel=>k3 σ' H' G' IV (Jt.trans (JW.trans st)) rel
     | .ok (.rt r),k3=>exact fun v H' G' IV st rel=>k3 v H' G' IV (Jt.trans (JW.trans st)) rel
   ·have e:i=ds.length:=by lia
    subst e;rw[Zj]at k2;exact .inl ⟨w2 rfl,k2 σ2 H2 G2 Jx .refl IP⟩
def DI(f:FX):FI:=fun env=>(f env).bind fun p=>match p.1.2 with
 | .lst ds=>.ok (ds,p.2)
 |_=>.bad
def eC(f:FX):FI:=fun env=>(f env).bind fun p=>match p.1.2 with
 | .tup ds=>.ok (ds,p.2)
 |_=>.bad
variable{l:Expr}
theorem pK{a:Addr}(sq:SqL K G a xs)(rs:Reps K G ds xs):Walk K G (QF K a) ds:=by
 intro G' H' es vs fp gg rel i;have Kd:SqL K H' a xs:=iw rel.gh (iw gg sq);refine⟨fun d hd=>?_,fun e=>⟨xs,Kd,by rw[rs.length];lia⟩⟩;obtain⟨x,hx,rx⟩:=rs.get hd;refine⟨⟨xs,x,Kd,hx⟩,fun y H2 ⟨e,hy⟩=>?_⟩;subst e;have:=hy xs Kd;rw[hx]at this;cases this;exact⟨G',Rep.mono gg rx,rel,.refl⟩
theorem yA{a:Addr}(sq:SqT K G a xs)(rs:Reps K G ds xs):Walk K G (S1 K a) ds:=by
 intro G' H' es vs fp gg rel i;have Kd:SqT K H' a xs:=bW rel.gh (bW gg sq);refine⟨fun d hd=>?_,fun e=>⟨xs,Kd,by rw[rs.length];lia⟩⟩;obtain⟨x,hx,rx⟩:=rs.get hd;refine⟨⟨xs,x,Kd,hx⟩,fun y H2 ⟨e,hy⟩=>?_⟩;subst e;have:=hy xs Kd;rw[hx]at this;cases this;exact⟨G',Rep.mono gg rx,rel,.refl⟩
theorem Bc(h:QE X l f):QI X tg l (DI f):=k8 (uV h) fun σ H R Jc=>by
 obtain⟨G,env,fp,ds,env',rel,e,k⟩:=Jc;obtain⟨⟨⟨o,d⟩,IM⟩,e1,e⟩:=ar e;dsimp only at e;split at e
 ·cases e;refine⟨G,env,fp,_,_,rel,e1,fun v H1 G1 Jl Jg IQ=>?_⟩;obtain⟨G2,b,rv,IP,I0⟩:=IQ.freeze;obtain⟨p,xs,ev,sq,rs⟩:=bK rv;exact⟨p,ev,⟨xs,iw IP.gh sq⟩,k _ H1 G2 b (Jg.trans I0) IP (pK sq rs)⟩
 ·cases e
theorem gN(h:QE X l f):QI X tg l (eC f):=k8 (C6 h) fun σ H R Jc=>by
 obtain⟨G,env,fp,ds,env',rel,e,k⟩:=Jc;obtain⟨⟨⟨o,d⟩,IM⟩,e1,e⟩:=ar e;dsimp only at e;split at e
 ·cases e;refine⟨G,env,fp,_,_,rel,e1,fun v H1 G1 Jl Jg IQ=>?_⟩;obtain⟨G2,b,rv,IP,I0⟩:=IQ.freeze;obtain⟨p,xs,ev,sq,rs⟩:=bD rv;exact⟨p,ev,⟨xs,bW IP.gh sq⟩,k _ H1 G2 b (Jg.trans I0) IP (yA sq rs)⟩
 ·cases e
def fF(f:FO):FI:=fun env=>(f env).bind fun p=>(JY p.2 p.1).bind fun d=>match d with
 | .int j=>if -4611686018427387904<=j/\j<4611686018427387904 then .ok ((List.range j.toNat).map fun(k:Nat)=>D.int (k:Int),p.2) else .bad
 |_=>.bad
theorem mE(lo:Int)(n:Nat):Walk K G (Q5 lo n) ((List.range n).map fun(k:Nat)=>D.int (lo+(k:Int))):=by
 intro G' H' es vs fp gg rel i;refine⟨fun d hd=>?_,fun e=>?_⟩
 ·rw[Vs]at hd;cases hc:(List.range n)[i]? with
  |none=>rw[hc]at hd;cases hd
  |some c=>
   rw[hc]at hd;cases hd;obtain⟨h1,h2⟩:=Vk.mp hc;rw[VG]at h1;rw[Yj]at h2;subst h2;refine⟨h1,fun x H2 ⟨e1,e2⟩=>?_⟩;subst e1;exact⟨G',by rw[e2];exact bJ _,rel,.refl⟩
 ·rw[Ve,VG]at e;exact Nat.le_of_eq e.symm
theorem fN{a:Expr}{p pos:Pos}(hg:Gl X "range")(hm:X.mg "range" = none)(ha:QO X a fa)(hs:starEach [a] X.env=[(false,eval a X.env)]:=by rfl):QI X tg (.Call (.Name "range" p) [a] [] pos) (fF fa):=
 k8 (uW hg hm (af ha au hs) hs) fun σ H R Jc=>by
  obtain⟨G,env,fp,ds,env',rel,e,k⟩:=Jc;obtain⟨⟨o,IM⟩,e1,e⟩:=ar e;obtain⟨d,e2,e⟩:=ar e;dsimp only at e;split at e
  ·rename_i j;split at e
   ·rename_i hj;cases e;refine⟨G,env,fp,[o],_,rel,by show(fa env).bind _=_;rw[e1];rfl,fun vs H1 G1 Jl Jg IQ J4=>?_⟩;obtain⟨y,ys,ev,k1,k2⟩:=J4;have k2:ys=[]:=k2;subst k2;have hv:=bV (IQ.vw k1 e2);subst hv;refine⟨j,ev,by lia,by lia,k _ H1 G1 Jl Jg IQ ?_⟩;have w:=mE (K:=X.K) (G:=G1) 0 j.toNat
    simpa using w
   ·cases e
  ·cases e
noncomputable def qU(fs:FOs):FI:=fun env=>(fs env).bind fun p=>(pJ p.2 p.1).bind fun d=>match d with
 |[.int i,.int j]=>if(-4611686018427387904<=i/\i<4611686018427387904)/\-4611686018427387904<=j/\j<4611686018427387904 then .ok ((List.range (j-i).toNat).map fun(k:Nat)=>D.int (i+(k:Int)),p.2) else .bad
 |_=>.bad
theorem wo{a:Expr}{fs:FOs}{p pos:Pos}(hg:Gl X "range")(hm:X.mg "range" = none)(ha:Ma X [a,b] fs)(hs:starEach [a,b] X.env=[(false,eval a X.env),(false,eval b X.env)]:=by rfl)(QH:starEach [b] X.env=[(false,eval b X.env)]:=by rfl):
  QI X tg (.Call (.Name "range" p) [a,b] [] pos) (qU fs):=
 k8 (uX hg hm ha hs QH) fun σ H R Jc=>by
  obtain⟨G,env,fp,ds,env',rel,e,k⟩:=Jc;obtain⟨⟨o,IM⟩,e1,e⟩:=ar e;obtain⟨d,e2,e⟩:=ar e;dsimp only at e;split at e
  ·rename_i i j;split at e
   ·rename_i hj;cases e;refine⟨G,env,fp,o,_,rel,e1,fun vs H1 G1 Jl Jg IQ J4=>?_⟩;obtain⟨y,ys,ev,v1,z,zs,TF,v2,e3⟩:=IQ.vws J4 e2;have e3:zs=[]:=e3;subst e3;have h1:=bV v1;have h2:=bV v2;subst h1;subst h2;subst TF;exact⟨i,j,ev,⟨by lia,by lia,by lia,by lia⟩,k _ H1 G1 Jl Jg IQ (mE i _)⟩
   ·cases e
  ·cases e
def jT(k:Bool):D->Res (List D)
 | .lst ds=>if k then .ok ds else .bad
 | .tup ds=>if k then .bad else .ok ds
 |_=>.bad
def uy(k1 k2:Bool)(fs:FOs):FI:=fun env=>(fs env).bind fun p=>match p.1 with
 |[.val d1,.val d2]=>(jT k1 d1).bind fun a=>(jT k2 d2).bind fun b=>.ok ((a.zip b).map fun z=>D.tup [z.1,z.2],p.2)
 |_=>.bad
theorem so{k:Bool}(e:jT k d=.ok ds)(r:Rep K G d v):∃p xs,v=.ref p/\(if k then SqL K G p xs else SqT K G p xs)/\Reps K G ds xs:=by
 cases d with
 |lst es=>
  cases k with
  |true=>
   cases e;obtain⟨p,xs,e1,q,rs⟩:=bK r;exact⟨p,xs,e1,q,rs⟩
  |false=>cases e
 |tup es=>
  cases k with
  |true=>cases e
  |false=>
   cases e;obtain⟨p,xs,e1,q,rs⟩:=bD r;exact⟨p,xs,e1,q,rs⟩
 |_=>cases e
theorem nO{G':Hp}{k:Bool}(h:Same G G')(r:if k then SqL K G p xs else SqT K G p xs):if k then SqL K G' p xs else SqT K G' p xs:=by
 cases k with
 |true=>exact iw h r
 |false=>exact bW h r
theorem yB{k1 k2:Bool}{p1 p2:Addr}{ys:List V}{as bs:List D}(s1:if k1 then SqL K G p1 xs else SqT K G p1 xs)(s2:if k2 then SqL K G p2 ys else SqT K G p2 ys)(r1:Reps K G as xs)(r2:Reps K G bs ys):
  Walk K G (Tn K k1 k2 p1 p2) ((as.zip bs).map fun z=>D.tup [z.1,z.2]):=by
 intro G' H' es vs fp gg rel i;have g1:=nO (gg.trans rel.gh) s1;have g2:=nO (gg.trans rel.gh) s2;refine⟨fun d hd=>?_,fun e=>⟨xs,ys,g1,g2,?_⟩⟩
 ·rw[Vs]at hd;cases hz:(as.zip bs)[i]? with
  |none=>rw[hz]at hd;cases hd
  |some z=>
   rw[hz]at hd;cases hd;obtain⟨h1,h2⟩:=X4.mp hz;obtain⟨x,hx,rx⟩:=r1.get h1;obtain⟨y,hy,ry⟩:=r2.get h2;refine⟨⟨xs,ys,x,y,g1,g2,hx,hy⟩,fun v H2 ⟨T,hT,ev,hh⟩=>?_⟩;have e2:=hh xs ys x y g1 g2 hx hy;subst e2;obtain⟨IP,I0⟩:=rel.newF (u:=.tup [x,y]) hT;refine⟨_,?_,IP,I0⟩;rw[Rep];exact⟨T,[x,y],ev,bc,.cons (Rep.mono (gg.trans I0.gg) rx) (.one (Rep.mono (gg.trans I0.gg) ry))⟩
 ·rw[Ve,XS]at e;rw[r1.length,r2.length];exact e
theorem sr(k1 k2:Bool){MU:List Expr}{kt:Nat}{pt:Pos}{e1 e2:Expr}{fs:FOs}{p pos:Pos}(hg:Gl X "zip")(hm:X.mg "zip" = none)(ha:Ma X [e1,e2] fs)(he:starEach [e1,e2] X.env=(false,eval e1 X.env)::starEach [e2] X.env:=by rfl)(JS:(backTo pos (starEach [e2] X.env)).any (·.1)=false:=by rfl):
  QI X (.Tuple MU kt pt) (.Call (.Name "zip" p) [e1,e2] [] pos) (uy k1 k2 fs):=
 k8 (Dy k1 k2 hg hm ha he JS) fun σ H R Jc=>by
  obtain⟨G,env,fp,ds,env',rel,e,k⟩:=Jc;obtain⟨⟨o,IM⟩,e1,e⟩:=ar e;dsimp only at e;split at e
  ·rename_i d1 d2;obtain⟨a,ea,e⟩:=ar e;obtain⟨b,eb,e⟩:=ar e;cases e;refine⟨G,env,fp,_,_,rel,e1,fun vs H1 G1 Jl Jg IQ J4=>?_⟩;obtain⟨y,ys,ev,v1,z,zs,TF,v2,e3⟩:=J4;have e3:zs=[]:=e3;subst e3;obtain⟨p1,xs1,ep1,q1,r1⟩:=so ea v1;obtain⟨p2,QR,ep2,q2,r2⟩:=so eb v2;subst ep1;subst ep2;subst TF;exact⟨p1,p2,xs1,QR,ev,nO IQ.gh q1,nO IQ.gh q2,k _ H1 G1 Jl Jg IQ (yB q1 q2 r1 r2)⟩
  ·cases e
end
def fBody(np nn:Nat)(g:FS):List D->Res R:=fun ds=>if ds.length=np then(g (ds.map (fun d=>some (O.f,d))++List.replicate nn none)).bind fun o=>match o with
 | .rt r=>.ok r
 | .nx _=>.ok (.f,.non)
 |_=>.bad
 else .bad
theorem gO{K:W.Frag}{G H:Hp}(n:Nat):∀{ds:List D}{vs:List V},Reps K G ds vs->RepE K G H (ds.map (fun d=>some (O.f,d))++List.replicate n none) (vs.map some++List.replicate n none) []
 |[],vs,r=>by
  rw[Reps]at r;subst r;show RepE K G H (List.replicate n none) (List.replicate n none) [];induction n with
  |zero=>exact⟨rfl,rfl⟩
  |succ n ih=>exact⟨none,_,rfl,ih⟩
 |d::ds,vs,r=>by
  rw[Reps]at r;obtain⟨y,ys,e,r1,r2⟩:=r;subst e;exact⟨some y,_,rfl,y,[],[],rfl,rfl,gL.mpr ⟨r1,rfl⟩,gO n r2⟩
variable{N:List Str}
theorem d7{P:Program}{w:World}{mg:Str->Option Value}{base:Heap}{ps:List Str}{k:Nat}{g:FS}(Df:Def K mg x st)(sc:FnScope N ps (defScope st))
  (hb:∀(kV doc pm:Value) (an:Option Addr) (Jm ct:Value) (us:List Value),us.length=ps.length->bindArgs (PySem.W.fnOf x x (fC st) (c9 st) (defScope st) .none kV doc pm an Jm ct) ⟨us,[]⟩=pure (ps.zip us))
  (body:∀(f:Addr) (Jm:Value) (A:Around) (outer:List PySem.Env) (s:Shared) (H:Hp) (E:XK),Room k (A.deeper (envOfC x (defScope st) s.heap.objs.size f Jm))->MS (md:=.plain) (xN MP P w K mg base N x (defScope st) f Jm A outer s H E).nox (c9 st) g):
  Ct P w K mg base x (k+1) (spF K (fBody ps.length (N.length-ps.length) g)):=by
 obtain⟨f,fd,F,m⟩:=Df;refine⟨f,fd,ps,F.ok sc (fun vs H Q E h=>?_) (fun Jm A outer s H vs Q E hr h=>?_),m,F.kp,F.binds hb⟩
 ·obtain⟨G,ds,r,_,rs,e,_⟩:=h;unfold fBody at e;split at e
  ·rename_i hl;rw[rs.length,hl]
  ·cases e
 ·obtain⟨G,ds,r,gh,rs,e,q⟩:=h;unfold fBody at e;split at e
  ·rename_i hl;refine⟨_,body f Jm A outer s H E hr,G,ds.map (fun d=>some (O.f,d))++List.replicate (N.length-ps.length) none,[],⟨?_,Wu,(fun _ h=>nomatch h),gh⟩,?_⟩
   ·have:=gO (K:=K) (G:=G) (H:=H) (N.length-ps.length) rs;unfold L2.km;rw[rs.length,hl];exact this
   ·obtain⟨o,eo,e⟩:=ar e;rw[eo];cases o with
    |rt r'=>
     cases e;exact fun v H' G' IV st rel=>q v H' G' IV st rel
    |nx env'=>
     cases e;exact fun σ' H' G' IV st rel=>q .non H' G' [] (st.trans (Step.cut fun _ h=>nomatch h)) (rel.nilF.push qT)
    |bk env'=>cases e
    |ct env'=>cases e
  ·cases e
def eG(ix:List (Option Nat))(env:PV.Env):PV.Env:=ix.map fun j=>j.bind fun j=>match env[j]? with
 |some (some r)=>some (O.f,r.2)
 |_=>none
def fU:FT:=fun env=>.ok (true,env)
def cV(a:FG)(c:FT)(f:FX):List D->PV.Env->Res (List D)
 |[],_=>.ok []
 |d::ds,env=>(a d env).bind fun e=>(c e).bind fun p=>if p.1 then(f p.2).bind fun q=>(cV a c f ds q.2).bind fun rs=>.ok (q.1.2::rs) else cV a c f ds p.2
def cE(fi:FI)(ix:List (Option Nat))(a:FG)(c:FT)(f:FX):FX:=fun env=>(fi env).bind fun p=>(cV a c f p.1 (eG ix p.2)).bind fun ds=>if ds.length<=sizeLine then .ok ((.l .f,.lst ds),if flatDs ds then p.2 else p.2.map frz) else .bad
theorem nP:∀ds,ds.all (aS .f)=flatDs ds
 |[]=>rfl
 |d::ds=>by rw[XY,flatDs,nP ds,aS]
theorem gP{K:W.Frag}{G1 H:Hp}{es:PV.Env}{σ:L2.St}(ht:∀(i:Nat) (r:R) (v:V),es[i]?=some (some r)->σ[i]?=some (some v)->Rep K G1 r.2 v)(hv:∀(i:Nat) (r:R),es[i]?=some (some r)->∃v,σ[i]?=some (some v)):
  ∀ix:List (Option Nat),RepE K G1 H (eG ix es) (mq ix σ) []
 |[]=>⟨rfl,rfl⟩
 |none::ix=>⟨none,_,rfl,gP ht hv ix⟩
 |some j::ix=>by
  show RepE K G1 H ((match es[j]? with|some (some r)=>some (O.f,r.2)|_=>none)::eG ix es) ((σ[j]?).bind id::mq ix σ) [];cases e:es[j]? with
  |none=>exact⟨_,_,rfl,gP ht hv ix⟩
  |some r=>
   cases r with
   |none=>exact⟨_,_,rfl,gP ht hv ix⟩
   |some r=>
    obtain⟨v,ev⟩:=hv j r e;refine⟨_,_,rfl,v,[],[],?_,rfl,gL.mpr ⟨ht j r v e ev,rfl⟩,gP ht hv ix⟩;rw[ev];rfl
variable{fi:FI}
section
variable{scope:Scope}{iter elt:Expr}{ifs:List Expr}{a:FG}
def SE(X:Cx)(ifs:List Expr)(c:FT):Prop:=QN X ifs (tQT X.K c)
theorem cx:SE X [] fU:=fun pr s σ H Q I Jc=>by
 obtain⟨G,env,fp,b,env',rel,e,k⟩:=Jc;cases e;exact AB pr s σ H Q I (k H G fp .refl rel)
theorem k9{t:Expr}(h:QT X t c):SE X [t] c:=AD h
end
section
inductive rCatS(K:W.Frag)(x:V)(y:V)(H:Hp)(Q:VK):Prop
 |mk:∀l b xs zs,x=.ref l->y=.ref b->SqL K H l xs->SqL K H b zs->xs.length+zs.length<=sizeLine->(∀p,H p=none->Q (.ref p) (upd H p (.lst (xs++zs))))->rCatS K x y H Q
theorem Be:JG X (binaryOp .Add) (rCatS X.K):=by
 intro pr s σ H x y v u Q I rx ry h;obtain⟨l,b,xs,zs,rfl,rfl,hH,hB,hz,q⟩:=h;cases rx;cases ry;obtain⟨IS,r1,p1,_⟩:=I.list hH;obtain⟨Ni,r2,p2,_⟩:=I.list hB;have l1:=r1.length;have l2:=r2.length;obtain⟨⟨cls,dd,data,sl⟩,ho,hc,n,hd⟩:=id p1.isList;obtain⟨⟨Q9,QK,data2,QL⟩,KG,My,n2,hd2⟩:=id p2.isList;simp only at hc hd My hd2;subst hc hd My hd2;have e:IS.toArray++Ni.toArray=(IS++Ni).toArray:=by simp
 refine Zs ⟨_,ho,rfl⟩ ⟨_,KG,rfl⟩ noFill_list_add seq_list_add PySem.F.slot_list_add PySem.F.entry_list_add (PySem.F.args_list_add_2 _ _) (list_addW l b IS.toArray Ni.toArray n n2 dd QK sl QL (by rw[Vh,Vh];lia)) ⟨ho,KG,?_⟩;rw[e];exact⟨.ref _,_,I.lnew (t':=s.toks) (r1.append r2) (by rw[VJ];lia),rfl,q _ I.fresh⟩
end
noncomputable def addD:D->D->Res R
 | .int i,.int j=>.ok (.f,.int (i+j))
 | .str a,.str b=>if a.length+b.length<=sizeLine then .ok (.f,.str (a++b)) else .bad
 | .lst a,.lst b=>if a.length+b.length<=sizeLine then .ok (.l .f,.lst (a++b)) else .bad
 | .tup a,.tup b=>if a≠[]/\a.length+b.length<=sizeLine then .ok (.f,.tup (a++b)) else .bad
 |_,_=>.bad
section
theorem nQ{es:PV.Env}(rel:Rel K G H es vs fp)(hp:H p=none)(r:Reps K G ds xs):
  ∃G',Rel K G' (upd H p (.tup xs)) (some (.f,.tup ds)::es) (some (.ref p)::vs) fp/\Step G H fp G' (upd H p (.tup xs)) fp:=by
 obtain⟨IP,I0⟩:=rel.newF (u:=.tup xs) hp;refine⟨_,IP.push ?_,I0⟩;rw[Rep];exact⟨p,xs,rfl,bc,r.mono I0.gg⟩
theorem DJ:JG X (binaryOp .Add) (rG X.K addD):=by
 rintro pr s σ H x y v u Q I rx ry ⟨G,fp,es,vs,a,b,r,⟨rel,k⟩,va,vb,e⟩;unfold addD at e;split at e
 ·rename_i i j;cases e;cases bV va;cases bV vb;exact C7 pr s σ H _ _ v u Q I rx ry ⟨i,j,rfl,rfl,k _ H G fp .refl (rel.push (bJ _))⟩
 ·rename_i i j;split at e
  ·rename_i hl;cases e;obtain⟨e1,h1⟩:=jk va;obtain⟨e2,h2⟩:=jk vb;subst e1;subst e2;refine uc pr s σ H _ _ v u Q I rx ry ⟨_,_,rfl,rfl,by rw[pg,pg];exact hl,?_⟩;rw[Ga];exact k _ H G fp .refl (rel.push (k4 (by rw[VJ];exact hl)))
  ·cases e
 ·rename_i i j;split at e
  ·rename_i hl;cases e;obtain⟨p,xs,e1,h1,r1⟩:=va;obtain⟨p2,QR,e2,h2,r2⟩:=vb;subst e1;subst e2;refine Be pr s σ H _ _ v u Q I rx ry ⟨p,p2,xs,QR,rfl,rfl,h1,h2,by rw[r1.length,r2.length];exact hl,fun q hq=>?_⟩;obtain⟨IP,I0⟩:=rel.newL hq (r1.app r2);exact k _ _ G _ I0 IP
  ·cases e
 ·rename_i i j;split at e
  ·rename_i hl;cases e;obtain⟨p,xs,e1,h1,r1⟩:=iI va;obtain⟨p2,QR,e2,h2,r2⟩:=iI vb;subst e1;subst e2;have hx:xs≠[]:=fun z=>hl.1 (Wg (by rw[<-r1.length,z];rfl))
   refine Aq pr s σ H _ _ v u Q I rx ry ⟨p,p2,xs,QR,rfl,rfl,bW rel.gh h1,bW rel.gh h2,hx,by rw[r1.length,r2.length];exact hl.2,fun z=>?_,fun z q hq=>?_⟩
   ·have:j=[]:=Wg (by rw[<-r2.length,z];rfl);subst this;rw[VH]at k;exact k _ H G fp .refl (rel.push va)
   ·obtain⟨G',IP,I0⟩:=nQ rel hq (r1.app r2);exact k _ _ G' _ I0 IP
  ·cases e
 ·cases e
def xP:D->D->Res R
 | .int i,.int j=>.ok (.f,.int (i-j))
 |_,_=>.bad
theorem mF:JG X (binaryOp .Sub) (rG X.K xP):=by
 rintro pr s σ H x y v u Q I rx ry ⟨G,fp,es,vs,a,b,r,⟨rel,k⟩,va,vb,e⟩;unfold xP at e;split at e
 ·rename_i i j;cases e;cases bV va;cases bV vb;exact C8 pr s σ H _ _ v u Q I rx ry ⟨i,j,rfl,rfl,k _ H G fp .refl (rel.push (bJ _))⟩
 ·cases e
def gv(i:Int):Bool:=decide (-(2 ^ 64)<i/\i<2 ^ 64)
def Gp:D->D->Res R
 | .int i,.int j=>if gv i||gv j then .ok (.f,.int (i*j)) else .bad
 |_,_=>.bad
theorem DK:JG X (binaryOp .Mult) (rG X.K Gp):=by
 rintro pr s σ H x y v u Q I rx ry ⟨G,fp,es,vs,a,b,r,⟨rel,k⟩,va,vb,e⟩;unfold Gp at e;split at e
 ·rename_i i j;split at e
  ·rename_i hc;cases e;cases bV va;cases bV vb;have hc:CMul i j:=by
    rw[Zv]at hc;exact hc.imp XW XW
   exact C9 pr s σ H _ _ v u Q I rx ry ⟨i,j,rfl,rfl,hc,k _ H G fp .refl (rel.push (bJ _))⟩
  ·cases e
 ·cases e
def eI:D->D->Res R
 | .int i,.int j=>if 0<j/\j<1073741824 then .ok (.f,.int (i / j)) else .bad
 |_,_=>.bad
theorem cF:JG X (binaryOp .FloorDiv) (rG X.K eI):=by
 rintro pr s σ H x y v u Q I rx ry ⟨G,fp,es,vs,a,b,r,⟨rel,k⟩,va,vb,e⟩;unfold eI at e;split at e
 ·rename_i i j;split at e
  ·rename_i hc;cases e;cases bV va;cases bV vb;exact Aj pr s σ H _ _ v u Q I rx ry ⟨i,j,rfl,rfl,hc,k _ H G fp .refl (rel.push (bJ _))⟩
  ·cases e
 ·cases e
def gG:D->D->Res R
 | .int i,.int j=>if 0<j then .ok (.f,.int (i%j)) else .bad
 |_,_=>.bad
theorem bO:JG X (binaryOp .Mod) (rG X.K gG):=by
 rintro pr s σ H x y v u Q I rx ry ⟨G,fp,es,vs,a,b,r,⟨rel,k⟩,va,vb,e⟩;unfold gG at e;split at e
 ·rename_i i j;split at e
  ·rename_i hc;cases e;cases bV va;cases bV vb;exact Dc pr s σ H _ _ v u Q I rx ry ⟨i,j,rfl,rfl,hc,k _ H G fp .refl (rel.push (bJ _))⟩
  ·cases e
 ·cases e
def CF:D->D->Res R
 | .int i,.int j=>if 0<=j/\j<=1000000/\i.natAbs<2 ^ 64 then .ok (.f,.int (i ^ j.toNat)) else .bad
 |_,_=>.bad
theorem DL:JG X (binaryOp .Pow) (rG X.K CF):=by
 rintro pr s σ H x y v u Q I rx ry ⟨G,fp,es,vs,a,b,r,⟨rel,k⟩,va,vb,e⟩;unfold CF at e;split at e
 ·rename_i i j;split at e
  ·rename_i hc;cases e;cases bV va;cases bV vb;exact De pr s σ H _ _ v u Q I rx ry ⟨i,j,rfl,rfl,hc,k _ H G fp .refl (rel.push (bJ _))⟩
  ·cases e
 ·cases e
def QQ:D->D->Res R
 | .int i,.int j=>.ok (.f,.bl (decide (i<j)))
 | .str a,.str b=>.ok (.f,.bl (decide (a<b)))
 |_,_=>.bad
theorem Gq:JG X (compareOp .Lt) (rG X.K QQ):=by
 rintro pr s σ H x y v u Q I rx ry ⟨G,fp,es,vs,a,b,r,⟨rel,k⟩,va,vb,e⟩;unfold QQ at e;split at e
 ·rename_i i j;cases e;cases bV va;cases bV vb;exact F0 pr s σ H _ _ v u Q I rx ry ⟨i,j,rfl,rfl,k _ H G fp .refl (rel.push (dr _))⟩
 ·rename_i i j;cases e;obtain⟨e1,h1⟩:=jk va;obtain⟨e2,h2⟩:=jk vb;subst e1;subst e2;refine u0 pr s σ H _ _ v u Q I rx ry ⟨_,_,rfl,rfl,?_⟩;rw[eZ,eZ];exact k _ H G fp .refl (rel.push (dr _))
 ·cases e
def leD:D->D->Res R
 | .int i,.int j=>.ok (.f,.bl (decide (i<=j)))
 | .str a,.str b=>.ok (.f,.bl (!decide (b<a)))
 |_,_=>.bad
def Pj:D->D->Res R
 | .int i,.int j=>.ok (.f,.bl (decide (j<i)))
 |_,_=>.bad
theorem Bf:JG X (compareOp .Gt) (rG X.K Pj):=by
 rintro pr s σ H x y v u Q I rx ry ⟨G,fp,es,vs,a,b,r,⟨rel,k⟩,va,vb,e⟩;unfold Pj at e;split at e
 ·rename_i i j;cases e;cases bV va;cases bV vb;exact F1 pr s σ H _ _ v u Q I rx ry ⟨i,j,rfl,rfl,k _ H G fp .refl (rel.push (dr _))⟩
 ·cases e
def TH:D->D->Res R
 | .int i,.int j=>.ok (.f,.bl (decide (j<=i)))
 |_,_=>.bad
theorem Gs:JG X (compareOp .GtE) (rG X.K TH):=by
 rintro pr s σ H x y v u Q I rx ry ⟨G,fp,es,vs,a,b,r,⟨rel,k⟩,va,vb,e⟩;unfold TH at e;split at e
 ·rename_i i j;cases e;cases bV va;cases bV vb;exact F2 pr s σ H _ _ v u Q I rx ry ⟨i,j,rfl,rfl,k _ H G fp .refl (rel.push (dr _))⟩
 ·cases e
end
abbrev FDs:=PV.Env->Res (List D×PV.Env)
inductive tDs(K:W.Frag)(f:FDs)(σ:L2.St)(H:Hp)(Q:List V->Hp->Prop):Prop
 |mk:∀G env fp ds env',Rel K G H env σ fp->f env=.ok (ds,env')->(∀vs H' G' IV,Step G H fp G' H' IV->Rel K G' H' env' σ IV->Reps K G' ds vs->Q vs H')->tDs K f σ H Q
def RB(X:Cx)(es:List Expr)(f:FDs):Prop:=PA X es (tDs X.K f)
def a7:FDs:=fun env=>.ok ([],env)
def ax(f:FX)(g:FDs):FDs:=fun env=>(f env).bind fun p=>(g p.2).bind fun q=>.ok (p.1.2::q.1,q.2)
section
theorem aI:RB X [] a7:=si oW fun σ H Q Jc=>by
 obtain⟨G,env,fp,o,env',rel,e,k⟩:=Jc;cases e;exact k [] H G fp .refl rel .nil
theorem aq{g:FDs}(h:QE X e f)(hs:RB X es g)(Mx:starEach (e::es) X.env=(false,eval e X.env)::starEach es X.env:=by rfl):RB X (e::es) (ax f g):=
 si (gK h hs Mx) fun σ H Q Jc=>by
  obtain⟨G,env,fp,o,env',rel,e,k⟩:=Jc;obtain⟨⟨r,IM⟩,e1,e⟩:=ar e;obtain⟨⟨ds,IX⟩,e2,e⟩:=ar e;cases e;refine⟨G,env,fp,r,IM,rel,e1,fun v H1 G1 Jl Jg IQ=>?_⟩;obtain⟨G2,b,rv,IP,I0⟩:=IQ.freeze;exact⟨G2,IM,b,ds,IX,IP,e2,fun vs H3 G3 J3 Jt Js rs=>k _ H3 G3 J3 (Jg.trans (I0.trans Jt)) Js (.cons (Rep.mono Jt.gg rv) rs)⟩
def fO(fs:FDs):FX:=fun env=>(fs env).bind fun p=>if p.1.length<=1000 then .ok ((.f,.tup p.1),p.2) else .bad
def ja(fs:FDs):FX:=fun env=>(fs env).bind fun p=>if p.1.length<=1000 then .ok ((.l .f,.lst p.1),p.2) else .bad
variable{fs:FDs}
theorem bN{x1}(h:RB X es fs):QE X (.Tuple es x1 pos) (fO fs):=bI (zj h) fun σ H Q Jc=>by
 obtain⟨G,env,fp,r,env',rel,e,k⟩:=Jc;obtain⟨⟨ds,IM⟩,e1,e⟩:=ar e;dsimp only at e;split at e
 ·rename_i hl;cases e;refine⟨G,env,fp,ds,env',rel,e1,fun vs H1 G1 Jl Jg IQ rs=>⟨by rw[rs.length,line_eq];lia,fun p hp=>?_⟩⟩;obtain⟨G2,IP,I0⟩:=nQ IQ hp rs;exact k _ _ G2 _ (Jg.trans I0) IP
 ·cases e
theorem cC(h:RB X es fs):QE X (.List es pos) (ja fs):=bI (Dg h) fun σ H Q Jc=>by
 obtain⟨G,env,fp,r,env',rel,e,k⟩:=Jc;obtain⟨⟨ds,IM⟩,e1,e⟩:=ar e;dsimp only at e;split at e
 ·rename_i hl;cases e;refine⟨G,env,fp,ds,env',rel,e1,fun vs H1 G1 Jl Jg IQ rs=>⟨by rw[rs.length,line_eq];lia,fun p hp=>?_⟩⟩;obtain⟨IP,I0⟩:=IQ.newL hp rs;exact k _ _ G1 _ (Jg.trans I0) IP
 ·cases e
noncomputable def IZ:D->D->Res R
 | .lst ds,.int i=>match JV ds i with
  |some d=>.ok (.f,d)
  |none=>.bad
 | .tup ds,.int i=>match JV ds i with
  |some d=>.ok (.f,d)
  |none=>.bad
 | .str l,.int i=>match JV l i with
  |some c=>.ok (.f,.str [c])
  |none=>.bad
 |_,_=>.bad
theorem su{i:Int}(r:Reps K G ds xs)(e:JV ds i=some d):∃v,JV xs i=some v/\Rep K G d v:=by
 unfold JV at e ⊢;rw[r.length];cases hn:ixN ds.length i with
 |none=>rw[hn]at e;cases e
 |some j=>
  rw[hn]at e;exact r.get e
theorem Gu:Rb X (rG X.K IZ):=by
 rintro value slice pr s σ H x y v u Q I rx ry ⟨G,fp,es,vs,a,b,r,⟨rel,k⟩,va,vb,e⟩ hs;unfold IZ at e;split at e
 ·rename_i ds i;split at e
  ·rename_i d hd;cases e;obtain⟨p,xs,ev,sq,rs⟩:=va;subst ev;cases bV vb;obtain⟨w',hw,MO⟩:=su rs hd;exact Ar value slice pr s σ H _ _ v u Q I rx ry ⟨p,xs,i,w',rfl,rfl,sq,hw,k _ H G fp .refl (rel.push MO)⟩ hs
  ·cases e
 ·rename_i ds i;split at e
  ·rename_i d hd;cases e;obtain⟨p,xs,ev,sq,rs⟩:=iI va;subst ev;cases bV vb;obtain⟨w',hw,MO⟩:=su rs hd;exact Dl value slice pr s σ H _ _ v u Q I rx ry ⟨p,xs,i,w',rfl,rfl,bW rel.gh sq,hw,k _ H G fp .refl (rel.push MO)⟩ hs
  ·cases e
 ·rename_i l i;split at e
  ·rename_i c hc;cases e;obtain⟨ev,hl⟩:=jk va;subst ev;cases bV vb;refine Dm value slice pr s σ H _ _ v u Q I rx ry ⟨_,i,c,rfl,rfl,by rw[pg];exact hl,by rw[eZ];exact hc,?_⟩ hs;exact k _ H G fp .refl (rel.push (k4 (l:=[c]) (by rw[line_eq];simp)))
  ·cases e
 ·cases e
variable{a:Expr}{fb:FO}
theorem aT(ha:QO X a fa)(hb:QO X b fb)(hs:vv b:=by exact fun _ _=>rfl):QE X (.Subscript a b pos) (az IZ fa fb):=bI (F7 Gu ha hb hs) fun _ _ _=>sk
abbrev FP:=PV.Env->Res (Option Int×PV.Env)
inductive tQP(K:W.Frag)(f:FP)(σ:L2.St)(H:Hp)(Q:Option Int->Hp->Prop):Prop
 |mk:∀G env fp i env',Rel K G H env σ fp->f env=.ok (i,env')->(∀H' G' IV,Step G H fp G' H' IV->Rel K G' H' env' σ IV->Q i H')->tQP K f σ H Q
def QP(X:Cx)(e:Option Expr)(f:FP):Prop:=PO X e (tQP X.K f)
def uz:FP:=fun env=>.ok (none,env)
def lb(f:FX):FP:=fun env=>(f env).bind fun p=>match p.1.2 with
 | .int i=>.ok (some i,p.2)
 |_=>.bad
theorem zL{e:Option Expr}{t t':TO}(h:PO X e t)(k:∀σ H Q,t' σ H Q->t σ H Q):PO X e t':=fun pr s σ H Q I w=>h pr s σ H Q I (k σ H Q w)
theorem nR:QP X none uz:=zL Ao fun σ H Q Jc=>by
 obtain⟨G,env,fp,i,env',rel,e,k⟩:=Jc;cases e;exact k H G fp .refl rel
theorem fX(h:QE X e f):QP X (some e) (lb f):=zL (Ap h) fun σ H Q Jc=>by
 obtain⟨G,env,fp,i,env',rel,e,k⟩:=Jc;obtain⟨⟨⟨o,d⟩,IM⟩,e1,e⟩:=ar e;dsimp only at e;split at e
 ·rename_i j;cases e;refine⟨G,env,fp,_,_,rel,e1,fun v H1 G1 Jl Jg IQ=>?_⟩;have hv:=IQ.top;obtain⟨b,IP,I0⟩:=IQ.drop;exact⟨j,bM hv,k H1 G1 b (Jg.trans I0) IP⟩
 ·cases e
def jm{α:Type}(xs:List α)(lo hi:Option Int):List α:=(xs.drop (HT.sIx xs.length 0 lo)).take (HT.sIx xs.length xs.length hi-HT.sIx xs.length 0 lo)
noncomputable def RC(k:D)(lo hi:Option Int):Res R:=match k with
 | .lst ds=>.ok (.l .f,.lst (jm ds lo hi))
 | .tup ds=>if ¬ (HT.sIx ds.length 0 lo=0/\HT.sIx ds.length ds.length hi=ds.length) then .ok (.f,.tup (jm ds lo hi)) else .bad
 | .str l=>.ok (.f,.str (jm l lo hi))
 |_=>.bad
def eSl(fa:FO)(lo hi:FP):FX:=fun env=>(fa env).bind fun p=>(lo p.2).bind fun q=>(hi q.2).bind fun t=>(JY t.2 p.1).bind fun d=>(RC d q.1 t.1).bind fun r=>.ok (r,t.2)
theorem sv{lo hi:Option Int}(r:Reps K G ds xs):Reps K G (jm ds lo hi) (zk xs lo hi):=by
 unfold jm zk;rw[r.length];exact(r.drop _).take _
theorem Bg(xs:List α)(lo hi:Option Int):(jm xs lo hi).length<=xs.length:=by
 unfold jm;rw[VZ,WY];lia
inductive rSl(K:W.Frag)(x:V)(lo:Option Int)(hi:Option Int)(H:Hp)(Q:VK):Prop
 |mk:∀G fp es vs d r,Goes K H G fp es vs r Q->Vw K G H d x->RC d lo hi=.ok r->rSl K x lo hi H Q
theorem DM:Pu X (rSl X.K):=by
 rintro pr s σ H x v vl vu lo hi sl Q I rx hs pl pu ⟨G,fp,es,vs,d,r,⟨rel,k⟩,vd,e⟩;unfold RC at e;split at e
 ·rename_i ds;cases e;obtain⟨p,xs,ev,sq,rs⟩:=vd;subst ev;refine As pr s σ H _ v vl vu lo hi sl Q I rx hs pl pu ⟨p,xs,rfl,sq,fun q hq=>?_⟩;obtain⟨IP,I0⟩:=rel.newL hq (sv (lo:=lo) (hi:=hi) rs);exact k _ _ G _ I0 IP
 ·rename_i ds;split at e
  ·rename_i hw;cases e;obtain⟨p,xs,ev,sq,rs⟩:=iI vd;subst ev;refine Dk pr s σ H _ v vl vu lo hi sl Q I rx hs pl pu ⟨p,xs,rfl,bW rel.gh sq,by rw[rs.length];exact hw,fun q hq=>?_⟩;obtain⟨G2,IP,I0⟩:=nQ rel hq (sv (lo:=lo) (hi:=hi) rs);exact k _ _ G2 _ I0 IP
  ·cases e
 ·rename_i l;cases e;obtain⟨ev,hl⟩:=jk vd;subst ev;exact Dt pr s σ H _ v vl vu lo hi sl Q I rx hs pl pu ⟨l,rfl,hl,k _ H G fp .refl (rel.push (k4 (l:=Ds l lo hi) (VR (Bg l lo hi) hl)))⟩
 ·cases e
def wq(env:PV.Env)(i:Nat):Bool:=match env[i]? with
 |some (some (_,.lst _))=>true
 |_=>false
theorem yC{es:PV.Env}(rel:Rel K G H es σ fp)(h:wq es i=true):∃v,σ[i]?=some (some v)/\Ta K "list" v H:=by
 unfold wq at h;split at h
 ·rename_i o ds hr;obtain⟨v,ev,rv⟩:=rel.view hr;obtain⟨p,xs,e,sq,_⟩:=bK rv;subst e;exact⟨_,ev,.inl ⟨rfl,xs,sq⟩⟩
 ·cases h
def sx(i:Nat)(f:FX):FX:=fun env=>if wq env i then(f env).bind fun p=>match p.2[i]? with
 |some (some (.l .f,.lst ds))=>if ds.length<sizeLine then .ok ((.f,.non),p.2.set i (some (.l .f,.lst (ds++[p.1.2])))) else .bad
 |_=>.bad
 else .bad
theorem cG{o:Expr}{apos Jj:Pos}(ho:PE X o (xM i))(he:QE X e f)
  (JZ:attributeBase o "append" X.env (eval o X.env)=eval o X.env:=by rfl)
  (KR:((backTo Jj (starEach [e] X.env)).all (fun x=>!x.1)&&(backToKw Jj (keywordEach [] X.env)).all (fun x=>x.1.isSome)&&decide ([e].length+([]:List Keyword).length+(if([]:List Keyword).isEmpty then 0 else 1)<30))=true:=by rfl)
  (J0:(apos.endLine==Jj.line)=true:=by rfl) (hs:starEach [e] X.env=(false,eval e X.env)::starEach [] X.env:=by rfl) (JI:(backTo Jj (starEach [] X.env)).any (·.1)=false:=by rfl):
  QE X (.Call (.Attribute o "append" apos) [e] [] Jj) (sx i f):=by
 refine bI (Au Zd PySem.F.slot_list_append PySem.F.type_list_append pb ho (aq he aI hs) JZ KR J0 hs JI) fun σ H Q Jk=>?_
 obtain⟨G,env,fp,r,env',rel,e,k⟩:=Jk;unfold sx at e;split at e
 ·rename_i RD;obtain⟨v,ev,ty⟩:=yC rel RD;obtain⟨⟨r1,IM⟩,e1,e⟩:=ar e;dsimp only at e;split at e
  ·rename_i ds N5;split at e
   ·rename_i hl;cases e;refine⟨v,ev,ty,G,env,fp,[r1.2],IM,rel,by show(f env).bind _=_;rw[e1];rfl,fun vs H1 G1 Jl Jg IQ rs=>?_⟩;rw[Reps]at rs;obtain⟨y,ys,eys,ry,rn⟩:=rs;rw[Reps]at rn;subst rn;obtain⟨p,xs,ep,hp,RE,cg⟩:=IQ.chg (ds':=ds++[r1.2]) N5;rw[ev]at ep;cases ep;obtain⟨fq,IP,I0⟩:=cg (xs++[y]) (RE.app (.one ry));exact⟨p,xs,y,rfl,eys,hp,by rw[RE.length];exact hl,k _ _ G1 fq (Jg.trans I0) (IP.push qT)⟩
   ·cases e
  ·cases e
 ·cases e
def Gv:List D->Res R
 |[.lst ds]=>.ok (.f,.int ds.length)
 |[.tup ds]=>.ok (.f,.int ds.length)
 |[.str l]=>.ok (.f,.int l.length)
 |_=>.bad
theorem nU(h:Ph K G H [d] xs):∃v,xs=[v]/\Vw K G H d v:=by
 obtain⟨y,ys,e,v1,e2⟩:=h;have e2:ys=[]:=e2;subst e2;exact⟨y,e,v1⟩
theorem Hv{d':D}(h:Ph K G H [d,d'] xs):∃v w,xs=[v,w]/\Vw K G H d v/\Vw K G H d' w:=by
 obtain⟨y,ys,e,v1,h2⟩:=h;obtain⟨z,e2,v2⟩:=nU h2;subst e2;exact⟨y,z,e,v1,v2⟩
theorem DN:dX X (.builtin "len") (rC X.K Gv):=by
 rintro pr s σ H xs us Q I rx ⟨G,fp,es,vs,ds,r,⟨rel,k⟩,vd,e⟩;unfold Gv at e;split at e
 ·rename_i ds;cases e;obtain⟨v,ev,p,ys,ep,sq,rs⟩:=nU vd;subst ev;subst ep;refine j4 pr s σ H _ us Q I rx ⟨p,ys,rfl,.inl sq,?_⟩;rw[rs.length];exact k _ H G fp .refl (rel.push (bJ _))
 ·rename_i ds;cases e;obtain⟨v,ev,vt⟩:=nU vd;obtain⟨p,ys,ep,sq,rs⟩:=iI vt;subst ev;subst ep;refine j4 pr s σ H _ us Q I rx ⟨p,ys,rfl,.inr (bW rel.gh sq),?_⟩;rw[rs.length];exact k _ H G fp .refl (rel.push (bJ _))
 ·rename_i l;cases e;obtain⟨v,ev,vt⟩:=nU vd;obtain⟨ep,hl⟩:=jk vt;subst ev;subst ep;refine o9 pr s σ H _ us Q I rx ⟨S l,rfl,by rw[pg];exact hl,?_⟩;rw[pg];exact k _ H G fp .refl (rel.push (bJ _))
 ·cases e
def Bh:List D->Res R
 |[.lst ds]=>.ok (.l .f,.lst ds)
 |[.tup ds]=>.ok (.l .f,.lst ds)
 |_=>.bad
theorem Bi:dX X (.type "list") (rC X.K Bh):=by
 rintro pr s σ H xs us Q I rx ⟨G,fp,es,vs,ds,r,⟨rel,k⟩,vd,e⟩;unfold Bh at e;split at e
 ·rename_i ds;cases e;obtain⟨v,ev,p,ys,ep,sq,rs⟩:=nU vd;subst ev;subst ep;refine j5 pr s σ H _ us Q I rx ⟨p,ys,rfl,.inl sq,fun q hq=>?_⟩;obtain⟨IP,I0⟩:=rel.newL hq rs;exact k _ _ G _ I0 IP
 ·rename_i ds;cases e;obtain⟨v,ev,vt⟩:=nU vd;obtain⟨p,ys,ep,sq,rs⟩:=iI vt;subst ev;subst ep;refine j5 pr s σ H _ us Q I rx ⟨p,ys,rfl,.inr (bW rel.gh sq),fun q hq=>?_⟩;obtain⟨IP,I0⟩:=rel.newL hq rs;exact k _ _ G _ I0 IP
 ·cases e
def eJ:List D->Res R
 |[.lst ds]=>.ok (.f,.tup ds)
 |[.tup ds]=>.ok (.f,.tup ds)
 |_=>.bad
theorem dW:dX X (.type "tuple") (rC X.K eJ):=by
 rintro pr s σ H xs us Q I rx ⟨G,fp,es,vs,ds,r,⟨rel,k⟩,vd,e⟩;unfold eJ at e;split at e
 ·rename_i ds;cases e;obtain⟨v,ev,p,ys,ep,sq,rs⟩:=nU vd;subst ev;subst ep;refine jd pr s σ H _ us Q I rx ⟨p,ys,rfl,.inl ⟨sq,fun q hq=>?_⟩⟩;obtain⟨G2,IP,I0⟩:=nQ rel hq rs;exact k _ _ G2 _ I0 IP
 ·rename_i ds;cases e;obtain⟨v,ev,vt⟩:=nU vd;obtain⟨p,ys,ep,sq,rs⟩:=iI vt;subst ev;subst ep;exact jd pr s σ H _ us Q I rx ⟨p,ys,rfl,.inr ⟨bW rel.gh sq,k _ H G fp .refl (rel.push vt)⟩⟩
 ·cases e
def pL:List D->Option (List Bool)
 |[]=>some []
 | .bl b::ds=>(pL ds).map (b:: ·)
 |_=>none
def dY:List D->Option (List Int)
 |[]=>some []
 | .int b::ds=>(dY ds).map (b:: ·)
 |_=>none
theorem mG{K:W.Frag}{G:Hp}:∀{ds:List D}{bs:List Bool}{xs:List V},pL ds=some bs->Reps K G ds xs->xs=bs.map V.bl
 |[],_,_,e,r=>by
  cases e;rw[Reps]at r;exact r
 | .bl b::ds,_,_,e,r=>by
  rw[pL,VW]at e;obtain⟨bs,e1,e2⟩:=e;subst e2;rw[Reps]at r;obtain⟨y,ys,e3,r1,r2⟩:=r;rw[e3,dt r1,mG e1 r2];rfl
 | .non::_,_,_,e,_ | .int _::_,_,_,e,_ | .str _::_,_,_,e,_ | .tup _::_,_,_,e,_ | .lst _::_,_,_,e,_ | .dct _ _ _::_,_,_,e,_=>by simp[pL]at e
theorem fY{K:W.Frag}{G:Hp}:∀{ds:List D}{bs:List Int}{xs:List V},dY ds=some bs->Reps K G ds xs->xs=bs.map V.int
 |[],_,_,e,r=>by
  cases e;rw[Reps]at r;exact r
 | .int b::ds,_,_,e,r=>by
  rw[dY,VW]at e;obtain⟨bs,e1,e2⟩:=e;subst e2;rw[Reps]at r;obtain⟨y,ys,e3,r1,r2⟩:=r;rw[e3,bM r1,fY e1 r2];rfl
 | .non::_,_,_,e,_ | .bl _::_,_,_,e,_ | .str _::_,_,_,e,_ | .tup _::_,_,_,e,_ | .lst _::_,_,_,e,_ | .dct _ _ _::_,_,_,e,_=>by simp[dY]at e
theorem mH(ns:List Int):dY (ns.map D.int)=some ns:=by
 induction ns with
 |nil=>rfl
 |cons n ns ih=>rw[Vz,dY,ih];rfl
theorem wt(ns:List Bool):pL (ns.map D.bl)=some ns:=by
 induction ns with
 |nil=>rfl
 |cons n ns ih=>rw[Vz,pL,ih];rfl
def pM:D->Option (List D)
 | .lst ds=>some ds
 | .tup ds=>some ds
 |_=>none
theorem wu(gh:Same G H)(e:pM d=some ds)(h:Vw K G H d v):∃p xs,v=.ref p/\(SqL K H p xs\/SqT K H p xs)/\Reps K G ds xs:=by
 cases d with
 |lst es=>
  cases e;obtain⟨p,xs,ev,sq,rs⟩:=h;exact⟨p,xs,ev,.inl sq,rs⟩
 |tup es=>
  cases e;obtain⟨p,xs,ev,sq,rs⟩:=bD h;exact⟨p,xs,ev,.inr (bW gh sq),rs⟩
 |_=>cases e
def DO:List D->Res R
 |[d]=>match(pM d).bind pL with
  |some bs=>.ok (.f,.bl (bs.all id))
  |none=>.bad
 |_=>.bad
theorem yD(bs:List Bool):(bs.map V.bl).all Gb=true:=by
 rw[WU,VO];intro b _;rfl
theorem Bj(bs:List Bool):(bs.map V.bl).all Dv=bs.all id:=by
 rw[WU];rfl
theorem DP(hc:X.calm=true):dX X (.builtin "all") (rC X.K DO):=by
 rintro pr s σ H xs us Q I rx ⟨G,fp,es,vs,ds,r,⟨rel,k⟩,vd,e⟩;unfold DO at e;split at e
 ·rename_i d;split at e
  ·rename_i bs hb;cases e;obtain⟨l,hl,hb⟩:=W0.mp hb;obtain⟨v,ev,vt⟩:=nU vd;obtain⟨p,ys,ep,sq,rs⟩:=wu rel.gh hl vt;have:=mG hb rs;subst this;subst ev;subst ep;refine yg hc pr s σ H _ us Q I rx ⟨p,_,rfl,sq,yD bs,?_⟩;rw[Bj];exact k _ H G fp .refl (rel.push (dr _))
  ·cases e
 ·cases e
def maxD:List D->Res R
 |[d]=>match(pM d).bind dY with
  |some (n::ns)=>.ok (.f,.int (maxOf (n::ns)))
  |_=>.bad
 |[.int i,.int j]=>.ok (.f,.int (if i<j then j else i))
 |_=>.bad
theorem lg{ns:List Int}(gh:Same G H)(hb:(pM d).bind dY=some ns)(vt:Vw K G H d v):∃p,v=.ref p/\(SqL K H p (ns.map V.int)\/SqT K H p (ns.map V.int)):=by
 obtain⟨l,hl,hb⟩:=W0.mp hb;obtain⟨p,ys,ep,sq,rs⟩:=wu gh hl vt;have:=fY hb rs;subst this;exact⟨p,ep,sq⟩
end
mutual
noncomputable def IU:D->D->Bool
 | .non,.non=>true
 | .bl a,.bl b=>a==b
 | .bl a,.int j=>(if a then 1 else 0)==j
 | .int i,.bl b=>i==(if b then 1 else 0)
 | .int i,.int j=>i==j
 | .str a,.str b=>a==b
 | .tup a,.tup b=>jU a b
 | .lst a,.lst b=>jU a b
 |_,_=>false
noncomputable def jU:List D->List D->Bool
 |[],[]=>true
 |a::as,b::bs=>IU a b&&jU as bs
 |_,_=>false
end
mutual
noncomputable def plainD:Nat->D->Bool
 |n+1,.tup ds=>plainDs n ds
 |n+1,.lst ds=>plainDs n ds
 | 0,.tup _=>false
 | 0,.lst _=>false
 |_,.dct _ _ _=>false
 |_,_=>true
noncomputable def plainDs:Nat->List D->Bool
 |_,[]=>true
 |n,d::ds=>plainD n d&&plainDs n ds
end
theorem plainDs_mem:∀{n:Nat}{ds:List D},plainDs n ds=true->∀{i:Nat}{d:D},ds[i]?=some d->plainD n d=true
 |_,[],_,_,_,e=>by simp at e
 |n,a::ds,h,0,d,e=>by
  rw[plainDs,Vu]at h;simp at e;rw[<-e];exact h.1
 |n,a::ds,h,i+1,d,e=>by
  rw[plainDs,Vu]at h;exact plainDs_mem h.2 (i:=i) (by simpa using e)
theorem jo:∀{a b:List D},a.length≠b.length->jU a b=false
 |[],[],h=>absurd rfl h
 |[],_::_,_=>by simp only[jU]
 |_::_,[],_=>by simp only[jU]
 |x::xs,y::ys,h=>by
  rw[jU,jo (fun e=>h (by simp[e])),X5]
theorem fP:∀{a b:List D},a.length=b.length->(List.range a.length).all (fun j=>IU (a.getD j .non) (b.getD j .non))=jU a b
 |[],[],_=>rfl
 |[],_::_,h=>by simp at h
 |_::_,[],h=>by simp at h
 |x::xs,y::ys,h=>by
  rw[jU,<-fP (a:=xs) (b:=ys) (by simpa using h),Vm,List.range_succ_eq_map,XY,WU];rfl
variable{pr:List (Addr×Obj)}{s:Shared}{tk:Bool}
section
theorem lh(I:Inv X pr σ H s){ys:List V}(h:SqL X.K H p xs)(h':SqT X.K H p ys):False:=by
 obtain⟨us,_,p1,_⟩:=I.list h;obtain⟨ws,_,p2,_⟩:=I.tuple h';exact SeqAt.ne_of_list_tuple p1.isList (show s.heap.IsTuple p ws.toArray from p2) rfl
mutual
theorem lj(I:Inv X pr σ H s):∀(d e:D) (x:V) (n:Nat),plainD n d=true->Rep X.K H d x->Rep X.K H e x->d=e
 | .non,e,x,n,_,r,q=>by
  cases cB r;cases e with
  |non=>rfl
  |bl b=>cases dt q
  |int i=>cases bM q
  |str l=>cases(bF q).1
  |tup l=>obtain⟨p,xs,ev,_⟩:=bD q;cases ev
  |lst l=>obtain⟨p,xs,ev,_⟩:=bK q;cases ev
  |dct tk ks vs=>rw[Rep]at q;obtain⟨p,xs,o,ev,_⟩:=q;cases ev
 | .bl b,e,x,n,_,r,q=>by
  cases dt r;cases e with
  |non=>cases cB q
  |bl b=>cases dt q;rfl
  |int i=>cases bM q
  |str l=>cases(bF q).1
  |tup l=>obtain⟨p,xs,ev,_⟩:=bD q;cases ev
  |lst l=>obtain⟨p,xs,ev,_⟩:=bK q;cases ev
  |dct tk ks vs=>rw[Rep]at q;obtain⟨p,xs,o,ev,_⟩:=q;cases ev
 | .int i,e,x,n,_,r,q=>by
  cases bM r;cases e with
  |non=>cases cB q
  |bl b=>cases dt q
  |int i=>cases bM q;rfl
  |str l=>cases(bF q).1
  |tup l=>obtain⟨p,xs,ev,_⟩:=bD q;cases ev
  |lst l=>obtain⟨p,xs,ev,_⟩:=bK q;cases ev
  |dct tk ks vs=>rw[Rep]at q;obtain⟨p,xs,o,ev,_⟩:=q;cases ev
 | .str l,e,x,n,_,r,q=>by
  have hr:=(bF r).1;subst hr;cases e with
  |non=>cases cB q
  |bl b=>cases dt q
  |int i=>cases bM q
  |str l'=>
   have hq:=(bF q).1;injection hq with hq;rw[S_inj hq]
  |tup l=>obtain⟨p,xs,ev,_⟩:=bD q;cases ev
  |lst l=>obtain⟨p,xs,ev,_⟩:=bK q;cases ev
  |dct tk ks vs=>rw[Rep]at q;obtain⟨p,xs,o,ev,_⟩:=q;cases ev
 | .tup l,e,x,n,h,r,q=>by
  obtain⟨p,xs,ev,sq,rs⟩:=bD r;subst ev;cases e with
  |non=>cases cB q
  |bl b=>cases dt q
  |int i=>cases bM q
  |str l=>cases(bF q).1
  |tup l'=>
   obtain⟨p',J8,Kz,Kd,KS⟩:=bD q;cases Kz;have:=I.tuple_inj sq Kd;subst this;cases n with
   |zero=>simp only[plainD]at h;cases h
   |succ n=>
    simp only[plainD]at h;rw[nV I l l' xs n h rs KS]
  |lst l'=>
   obtain⟨p',J8,Kz,Kd,KS⟩:=bK q;cases Kz;exact(lh I Kd sq).elim
  |dct tk ks vs=>
   exfalso;rw[Rep]at q;obtain⟨p',J8,o,Kz,rd,dd,_⟩:=q;cases Kz;obtain⟨IS,_,ip,_⟩:=I.tuple sq;obtain⟨ob,ho,hc,_⟩:=ip;have PR:=rd.ok I.hok;cases tk with
   |true=>
    obtain⟨kvs,eo,_⟩:=dd;subst eo;obtain⟨_,_,_,_,o2,_,_,KG,ex,_⟩:=PR;rw[ho]at KG;cases KG;rw[ex.1]at hc;exact absurd hc (by decide)
   |false=>
    obtain⟨kvs,eo,_⟩:=dd;subst eo;obtain⟨_,_,_,_,o2,_,_,KG,ex,_⟩:=PR;rw[ho]at KG;cases KG;rw[ex.1]at hc;exact absurd hc (by decide)
 | .lst l,e,x,n,h,r,q=>by
  obtain⟨p,xs,ev,sq,rs⟩:=bK r;subst ev;cases e with
  |non=>cases cB q
  |bl b=>cases dt q
  |int i=>cases bM q
  |str l=>cases(bF q).1
  |tup l'=>
   obtain⟨p',J8,Kz,Kd,KS⟩:=bD q;cases Kz;exact(lh I sq Kd).elim
  |lst l'=>
   obtain⟨p',J8,Kz,Kd,KS⟩:=bK q;cases Kz;have:=I.list_inj sq Kd;subst this;cases n with
   |zero=>simp only[plainD]at h;cases h
   |succ n=>
    simp only[plainD]at h;rw[nV I l l' xs n h rs KS]
  |dct tk ks vs=>
   exfalso;rw[Rep]at q;obtain⟨p',J8,o,Kz,rd,dd,_⟩:=q;cases Kz;obtain⟨IS,_,ip,_⟩:=I.list sq;obtain⟨ob,_,ho,hc,_⟩:=ip;have PR:=rd.ok I.hok;cases tk with
   |true=>
    obtain⟨kvs,eo,_⟩:=dd;subst eo;obtain⟨_,_,_,_,o2,_,_,KG,ex,_⟩:=PR;rw[ho]at KG;cases KG;rw[ex.1]at hc;exact absurd hc (by decide)
   |false=>
    obtain⟨kvs,eo,_⟩:=dd;subst eo;obtain⟨_,_,_,_,o2,_,_,KG,ex,_⟩:=PR;rw[ho]at KG;cases KG;rw[ex.1]at hc;exact absurd hc (by decide)
 | .dct _ _ _,_,_,n,h,_,_=>by cases n <;> (simp only[plainD]at h;cases h)
theorem nV(I:Inv X pr σ H s):∀(ds es:List D) (xs:List V) (n:Nat),plainDs n ds=true->Reps X.K H ds xs->Reps X.K H es xs->ds=es
 |[],es,xs,n,_,r,q=>by
  rw[Reps]at r;subst r;cases es with
  |nil=>rfl
  |cons e es=>
   rw[Reps]at q;obtain⟨y,ys,ev,_⟩:=q;cases ev
 |d::ds,es,xs,n,h,r,q=>by
  rw[Reps]at r;obtain⟨y,ys,ev,r1,r2⟩:=r;subst ev;rw[plainDs,Vu]at h;cases es with
  |nil=>
   rw[Reps]at q;cases q
  |cons e es=>
   rw[Reps]at q;obtain⟨y',ys',ev,q1,q2⟩:=q;cases ev;rw[lj I d e y n h.1 r1 q1,nV I ds es ys n h.2 r2 q2]
end
mutual
theorem jq:∀(d:D) (n:Nat),plainD n d=true->IU d d=true
 | .non,_,_=>by simp only[IU]
 | .bl _,_,_=>by simp only[IU,V6]
 | .int _,_,_=>by simp only[IU,V6]
 | .str _,_,_=>by simp only[IU,V6]
 | .tup ds,0,h=>by simp only[plainD]at h;cases h
 | .tup ds,n+1,h=>by simp only[plainD]at h;simp only[IU];exact ll ds n h
 | .lst ds,0,h=>by simp only[plainD]at h;cases h
 | .lst ds,n+1,h=>by simp only[plainD]at h;simp only[IU];exact ll ds n h
 | .dct _ _ _,n,h=>by cases n <;> (simp only[plainD]at h;cases h)
theorem ll:∀(ds:List D) (n:Nat),plainDs n ds=true->jU ds ds=true
 |[],_,_=>by simp only[jU]
 |d::ds,n,h=>by
  rw[plainDs,Vu]at h;rw[jU,jq d n h.1,ll ds n h.2];rfl
end
open PySem.SeqAt
theorem bP{n:Nat}{ks vs:List D}(h:plainD n (.dct tk ks vs)=true):False:=by cases n <;> (simp only[plainD]at h;cases h)
mutual
theorem Bk(I:Inv X pr σ H s):∀(d e:D) (x y:V) (v u:Value) (A:Around) (n:Nat),plainD n d=true->plainD n e=true->A.units+n<cLine->Rep X.K H d x->Rep X.K H e y->RelV x v->RelV y u->EqAt A s v u (IU d e)
 | .non,e,x,y,v,u,A,n,h,h',hu,r,q,rx,ry=>by
  cases cB r;cases rx;cases e with
  |non=>cases cB q;cases ry;simp only[IU];exact .same _
  |bl b=>cases dt q;cases ry;simp only[IU];exact .none_bool _
  |int i=>cases bM q;obtain⟨t,rfl⟩:=ry;simp only[IU];exact .none_int _ _
  |str l=>cases(bF q).1;obtain⟨t,rfl⟩:=ry;simp only[IU];exact .none_str _ _
  |tup l=>obtain⟨p,xs,rfl,sq,_⟩:=bD q;cases ry;obtain⟨IS,_,ip,_⟩:=I.tuple sq;simp only[IU];exact .none_tuple (show s.heap.IsTuple p IS.toArray from ip) (by lia)
  |lst l=>obtain⟨p,xs,rfl,sq,_⟩:=bK q;cases ry;obtain⟨IS,_,ip,_⟩:=I.list sq;simp only[IU];exact .none_list ip.isList (by lia)
  |dct tk ks vs=>exact(bP h').elim
 | .bl b,e,x,y,v,u,A,n,h,h',hu,r,q,rx,ry=>by
  cases dt r;cases rx;cases e with
  |non=>cases cB q;cases ry;simp only[IU];exact .bool_none _
  |bl b=>cases dt q;cases ry;simp only[IU];exact .bool_bool _ _
  |int i=>cases bM q;obtain⟨t,rfl⟩:=ry;simp only[IU];exact .bool_int _ _ _
  |str l=>cases(bF q).1;obtain⟨t,rfl⟩:=ry;simp only[IU];exact .bool_str _ _ _
  |tup l=>obtain⟨p,xs,rfl,sq,_⟩:=bD q;cases ry;obtain⟨IS,_,ip,_⟩:=I.tuple sq;simp only[IU];exact .bool_tuple _ (show s.heap.IsTuple p IS.toArray from ip) (by lia)
  |lst l=>obtain⟨p,xs,rfl,sq,_⟩:=bK q;cases ry;obtain⟨IS,_,ip,_⟩:=I.list sq;simp only[IU];exact .bool_list _ ip.isList (by lia)
  |dct tk ks vs=>exact(bP h').elim
 | .int b,e,x,y,v,u,A,n,h,h',hu,r,q,rx,ry=>by
  cases bM r;obtain⟨t0,rfl⟩:=rx;cases e with
  |non=>cases cB q;cases ry;simp only[IU];exact .int_none _ _
  |bl b=>cases dt q;cases ry;simp only[IU];exact .int_bool _ _ _
  |int i=>cases bM q;obtain⟨t,rfl⟩:=ry;simp only[IU];exact .int_int _ _ _ _
  |str l=>cases(bF q).1;obtain⟨t,rfl⟩:=ry;simp only[IU];exact .int_str _ _ _ _
  |tup l=>obtain⟨p,xs,rfl,sq,_⟩:=bD q;cases ry;obtain⟨IS,_,ip,_⟩:=I.tuple sq;simp only[IU];exact .int_tuple _ _ (show s.heap.IsTuple p IS.toArray from ip) (by lia)
  |lst l=>obtain⟨p,xs,rfl,sq,_⟩:=bK q;cases ry;obtain⟨IS,_,ip,_⟩:=I.list sq;simp only[IU];exact .int_list _ _ ip.isList (by lia)
  |dct tk ks vs=>exact(bP h').elim
 | .str b,e,x,y,v,u,A,n,h,h',hu,r,q,rx,ry=>by
  have hr:=(bF r).1;subst hr;obtain⟨t0,rfl⟩:=rx;cases e with
  |non=>cases cB q;cases ry;simp only[IU];exact .str_none _ _
  |bl b=>cases dt q;cases ry;simp only[IU];exact .str_bool _ _ _
  |int i=>cases bM q;obtain⟨t,rfl⟩:=ry;simp only[IU];exact .str_int _ _ _ _
  |str l=>
   have hq:=(bF q).1;subst hq;obtain⟨t,rfl⟩:=ry;have e1:(b==l)=(S b==S l):=by
    rw[VT,V5,V5];exact⟨fun z=>by rw[z],S_inj⟩
   simp only[IU,e1];exact .str_str _ _ _ _
  |tup l=>obtain⟨p,xs,rfl,sq,_⟩:=bD q;cases ry;obtain⟨IS,_,ip,_⟩:=I.tuple sq;simp only[IU];exact .str_tuple _ _ (show s.heap.IsTuple p IS.toArray from ip) (by lia)
  |lst l=>obtain⟨p,xs,rfl,sq,_⟩:=bK q;cases ry;obtain⟨IS,_,ip,_⟩:=I.list sq;simp only[IU];exact .str_list _ _ ip.isList (by lia)
  |dct tk ks vs=>exact(bP h').elim
 | .tup l,e,x,y,v,u,A,n,h,h',hu,r,q,rx,ry=>by
  have rr:=r;obtain⟨p,xs,ev,sq,rs⟩:=bD r;subst ev;cases rx;obtain⟨IS,vl,ip,_⟩:=I.tuple sq;have ip:s.heap.IsTuple p IS.toArray:=ip;cases e with
  |non=>cases cB q;cases ry;simp only[IU];exact .tuple_none ip (by lia)
  |bl b=>cases dt q;cases ry;simp only[IU];exact .tuple_bool _ ip (by lia)
  |int i=>cases bM q;obtain⟨t,rfl⟩:=ry;simp only[IU];exact .tuple_int _ _ ip (by lia)
  |str l=>cases(bF q).1;obtain⟨t,rfl⟩:=ry;simp only[IU];exact .tuple_str _ _ ip (by lia)
  |tup l'=>
   obtain⟨p',J8,Kz,Kd,KS⟩:=bD q;subst Kz;cases ry;by_cases hp:p=p'
   ·subst hp;have hz:=lj I _ _ _ n h rr q;rw[<-hz,jq _ n h];exact .same _
   ·obtain⟨its',Np,Ko,_⟩:=I.tuple Kd;have Ko:s.heap.IsTuple p' its'.toArray:=Ko;cases n with
    |zero=>simp only[plainD]at h;cases h
    |succ n=>
     simp only[plainD]at h h';have l1:=vl.length;have l2:=Np.length;have l3:=rs.length;have l4:=KS.length;have key:=RcAt.tuples (A:=A) (e:=fun j=>IU (l.getD j .non) (l'.getD j .non)) ip Ko (by lia) fun j h1 h2=>by
      simp only[Vh]at h1 h2;have g1:l[j]?=some (l[j]'(by lia)):=U9 _;have g2:l'[j]?=some (l'[j]'(by lia)):=U9 _;obtain⟨w1,Mh,Mi⟩:=rs.get g1;obtain⟨w2,Nq,Nr⟩:=KS.get g2;obtain⟨u1,K4,Mj⟩:=vl.get Mh;obtain⟨u2,Lo,Nu⟩:=Np.get Nq;have q1:IS.toArray[j]=u1:=by rw[U9 h1]at K4;simpa using K4
      have q2:its'.toArray[j]=u2:=by rw[U9 h2]at Lo;simpa using Lo
      rw[q1,q2,Vi,Vi,g1,g2];exact pN I l j _ g1 _ w1 w2 u1 u2 A.in1 n (plainDs_mem h g1) (plainDs_mem h' g2) (by show A.units+1+n<cLine;lia) Mi Nr Mj Nu
     simp only[IU];have fin:((List.range (min IS.toArray.size its'.toArray.size)).all (fun j=>IU (l.getD j .non) (l'.getD j .non))&&IS.toArray.size==its'.toArray.size)=jU l l':=by
      simp only[Vh];by_cases hl:l.length=l'.length
      ·rw[<-fP hl,show min IS.length its'.length=l.length by lia,show(IS.length==its'.length)=true by rw[V5];lia,YG]
      ·rw[jo hl,show(IS.length==its'.length)=false by rw[Wf];lia,X5]
     rw[<-fin];exact .of_refs hp key
  |lst l'=>obtain⟨p',J8,Kz,Kd,_⟩:=bK q;subst Kz;cases ry;obtain⟨its',_,Ko,_⟩:=I.list Kd;simp only[IU];exact .tuple_list ip Ko.isList (by lia)
  |dct tk ks vs=>exact(bP h').elim
 | .lst l,e,x,y,v,u,A,n,h,h',hu,r,q,rx,ry=>by
  have rr:=r;obtain⟨p,xs,ev,sq,rs⟩:=bK r;subst ev;cases rx;obtain⟨IS,vl,ip,_⟩:=I.list sq;have ip:=ip.isList;cases e with
  |non=>cases cB q;cases ry;simp only[IU];exact .list_none ip (by lia)
  |bl b=>cases dt q;cases ry;simp only[IU];exact .list_bool _ ip (by lia)
  |int i=>cases bM q;obtain⟨t,rfl⟩:=ry;simp only[IU];exact .list_int _ _ ip (by lia)
  |str l=>cases(bF q).1;obtain⟨t,rfl⟩:=ry;simp only[IU];exact .list_str _ _ ip (by lia)
  |lst l'=>
   obtain⟨p',J8,Kz,Kd,KS⟩:=bK q;subst Kz;cases ry;by_cases hp:p=p'
   ·subst hp;have hz:=lj I _ _ _ n h rr q;rw[<-hz,jq _ n h];exact .same _
   ·obtain⟨its',Np,Ko,_⟩:=I.list Kd;have Ko:=Ko.isList;cases n with
    |zero=>simp only[plainD]at h;cases h
    |succ n=>
     simp only[plainD]at h h';have l1:=vl.length;have l2:=Np.length;have l3:=rs.length;have l4:=KS.length;simp only[IU];by_cases hl:l.length=l'.length
     ·have key:=RcAt.lists (A:=A) (e:=fun j=>IU (l.getD j .non) (l'.getD j .non)) ip Ko (by simp only[Vh];lia) (by lia) fun j h1 h2=>by
       simp only[Vh]at h1 h2;have g1:l[j]?=some (l[j]'(by lia)):=U9 _;have g2:l'[j]?=some (l'[j]'(by lia)):=U9 _;obtain⟨w1,Mh,Mi⟩:=rs.get g1;obtain⟨w2,Nq,Nr⟩:=KS.get g2;obtain⟨u1,K4,Mj⟩:=vl.get Mh;obtain⟨u2,Lo,Nu⟩:=Np.get Nq;have q1:IS.toArray[j]=u1:=by rw[U9 h1]at K4;simpa using K4
       have q2:its'.toArray[j]=u2:=by rw[U9 h2]at Lo;simpa using Lo
       rw[q1,q2,Vi,Vi,g1,g2];exact pN I l j _ g1 _ w1 w2 u1 u2 A.in1 n (plainDs_mem h g1) (plainDs_mem h' g2) (by show A.units+1+n<cLine;lia) Mi Nr Mj Nu
      rw[<-fP hl,show l.length=IS.toArray.size by simp only[Vh];lia];exact .of_refs hp key
     ·rw[jo hl];exact .of_refs hp (RcAt.lists_lengths ip Ko (by simp only[Vh,bne_iff_ne];lia) (by lia))
  |tup l'=>obtain⟨p',J8,Kz,Kd,_⟩:=bD q;subst Kz;cases ry;obtain⟨its',_,Ko,_⟩:=I.tuple Kd;simp only[IU];exact .list_tuple ip (show s.heap.IsTuple p' its'.toArray from Ko) (by lia)
  |dct tk ks vs=>exact(bP h').elim
 | .dct _ _ _,_,_,_,_,_,_,n,h,_,_,_,_,_,_=>(bP h).elim
theorem pN(I:Inv X pr σ H s):∀(ds:List D) (j:Nat) (d:D),ds[j]?=some d->∀(e:D) (x y:V) (v u:Value) (A:Around) (n:Nat),plainD n d=true->plainD n e=true->A.units+n<cLine->Rep X.K H d x->Rep X.K H e y->RelV x v->RelV y u->EqAt A s v u (IU d e)
 |[],_,_,hj=>by simp at hj
 |d'::ds,0,d,hj=>by
  simp at hj;subst hj;exact Bk I d'
 |d'::ds,j+1,d,hj=>pN I ds j d (by simpa using hj)
end
end
variable{y:V}{A:Around}
section
def eqO(a b:D):Res R:=if plainD 40 a&&plainD 40 b then .ok (.f,.bl (IU a b)) else .bad
def Kr(a b:D):Res R:=if plainD 40 a&&plainD 40 b then .ok (.f,.bl (!IU a b)) else .bad
open PySem.SeqAt in
theorem DQ(I:Inv X pr σ H s){e:D}{x:V}{v u:Value}(h:plainD 40 d=true)(h':plainD 40 e=true)(hu:A.units+64<cLine)(r:Rep X.K H d x)(q:Rep X.K H e y)(rx:RelV x v)(ry:RelV y u):
  RcAt A s v u (IU d e)/\RcNeAt A s v u (!IU d e):=by
 cases d with
 |non=>
  cases cB r;cases rx;cases e with
  |non=>cases cB q;cases ry;simp only[IU];exact⟨.none_none,.none_none⟩
  |bl b=>cases dt q;cases ry;simp only[IU];exact⟨.none_bool _,.none_bool _⟩
  |int i=>cases bM q;obtain⟨t,rfl⟩:=ry;simp only[IU];exact⟨.none_int _ _,.none_int _ _⟩
  |str l=>cases(bF q).1;obtain⟨t,rfl⟩:=ry;simp only[IU];exact⟨.none_str _ _,.none_str _ _⟩
  |tup l=>obtain⟨p,xs,rfl,sq,_⟩:=bD q;cases ry;obtain⟨IS,_,ip,_⟩:=I.tuple sq;simp only[IU];exact⟨.none_tuple (show s.heap.IsTuple p IS.toArray from ip) (by lia),.none_tuple (show s.heap.IsTuple p IS.toArray from ip) (by lia)⟩
  |lst l=>obtain⟨p,xs,rfl,sq,_⟩:=bK q;cases ry;obtain⟨IS,_,ip,_⟩:=I.list sq;simp only[IU];exact⟨.none_list ip.isList (by lia),.none_list ip.isList (by lia)⟩
  |dct tk ks vs=>exact(bP h').elim
 |bl b=>
  cases dt r;cases rx;cases e with
  |non=>cases cB q;cases ry;simp only[IU];exact⟨.bool_none _,.bool_none _⟩
  |bl b=>cases dt q;cases ry;simp only[IU];exact⟨.bool_bool _ _,.bool_bool _ _⟩
  |int i=>cases bM q;obtain⟨t,rfl⟩:=ry;simp only[IU];exact⟨.bool_int _ _ _,.bool_int _ _ _⟩
  |str l=>cases(bF q).1;obtain⟨t,rfl⟩:=ry;simp only[IU];exact⟨.bool_str _ _ _,.bool_str _ _ _⟩
  |tup l=>obtain⟨p,xs,rfl,sq,_⟩:=bD q;cases ry;obtain⟨IS,_,ip,_⟩:=I.tuple sq;simp only[IU];exact⟨.bool_tuple _ (show s.heap.IsTuple p IS.toArray from ip) (by lia),.bool_tuple _ (show s.heap.IsTuple p IS.toArray from ip) (by lia)⟩
  |lst l=>obtain⟨p,xs,rfl,sq,_⟩:=bK q;cases ry;obtain⟨IS,_,ip,_⟩:=I.list sq;simp only[IU];exact⟨.bool_list _ ip.isList (by lia),.bool_list _ ip.isList (by lia)⟩
  |dct tk ks vs=>exact(bP h').elim
 |int b=>
  cases bM r;obtain⟨t0,rfl⟩:=rx;cases e with
  |non=>cases cB q;cases ry;simp only[IU];exact⟨.int_none _ _,.int_none _ _⟩
  |bl b=>cases dt q;cases ry;simp only[IU];exact⟨.int_bool _ _ _,.int_bool _ _ _⟩
  |int i=>cases bM q;obtain⟨t,rfl⟩:=ry;simp only[IU];exact⟨.int_int _ _ _ _,.int_int _ _ _ _⟩
  |str l=>cases(bF q).1;obtain⟨t,rfl⟩:=ry;simp only[IU];exact⟨.int_str _ _ _ _,.int_str _ _ _ _⟩
  |tup l=>obtain⟨p,xs,rfl,sq,_⟩:=bD q;cases ry;obtain⟨IS,_,ip,_⟩:=I.tuple sq;simp only[IU];exact⟨.int_tuple _ _ (show s.heap.IsTuple p IS.toArray from ip) (by lia),.int_tuple _ _ (show s.heap.IsTuple p IS.toArray from ip) (by lia)⟩
  |lst l=>obtain⟨p,xs,rfl,sq,_⟩:=bK q;cases ry;obtain⟨IS,_,ip,_⟩:=I.list sq;simp only[IU];exact⟨.int_list _ _ ip.isList (by lia),.int_list _ _ ip.isList (by lia)⟩
  |dct tk ks vs=>exact(bP h').elim
 |str b=>
  have hr:=(bF r).1;subst hr;obtain⟨t0,rfl⟩:=rx;cases e with
  |non=>cases cB q;cases ry;simp only[IU];exact⟨.str_none _ _,.str_none _ _⟩
  |bl b=>cases dt q;cases ry;simp only[IU];exact⟨.str_bool _ _ _,.str_bool _ _ _⟩
  |int i=>cases bM q;obtain⟨t,rfl⟩:=ry;simp only[IU];exact⟨.str_int _ _ _ _,.str_int _ _ _ _⟩
  |str l=>
   have hq:=(bF q).1;subst hq;obtain⟨t,rfl⟩:=ry;have e1:(b==l)=(S b==S l):=by
    rw[VT,V5,V5];exact⟨fun z=>by rw[z],S_inj⟩
   simp only[IU,e1];exact⟨.str_str _ _ _ _,.str_str _ _ _ _⟩
  |tup l=>obtain⟨p,xs,rfl,sq,_⟩:=bD q;cases ry;obtain⟨IS,_,ip,_⟩:=I.tuple sq;simp only[IU];exact⟨.str_tuple _ _ (show s.heap.IsTuple p IS.toArray from ip) (by lia),.str_tuple _ _ (show s.heap.IsTuple p IS.toArray from ip) (by lia)⟩
  |lst l=>obtain⟨p,xs,rfl,sq,_⟩:=bK q;cases ry;obtain⟨IS,_,ip,_⟩:=I.list sq;simp only[IU];exact⟨.str_list _ _ ip.isList (by lia),.str_list _ _ ip.isList (by lia)⟩
  |dct tk ks vs=>exact(bP h').elim
 |tup l=>
  obtain⟨p,xs,ev,sq,rs⟩:=bD r;subst ev;cases rx;obtain⟨IS,vl,ip,_⟩:=I.tuple sq;have ip:s.heap.IsTuple p IS.toArray:=ip;cases e with
  |non=>cases cB q;cases ry;simp only[IU];exact⟨.tuple_none ip (by lia),.tuple_none ip (by lia)⟩
  |bl b=>cases dt q;cases ry;simp only[IU];exact⟨.tuple_bool _ ip (by lia),.tuple_bool _ ip (by lia)⟩
  |int i=>cases bM q;obtain⟨t,rfl⟩:=ry;simp only[IU];exact⟨.tuple_int _ _ ip (by lia),.tuple_int _ _ ip (by lia)⟩
  |str l=>cases(bF q).1;obtain⟨t,rfl⟩:=ry;simp only[IU];exact⟨.tuple_str _ _ ip (by lia),.tuple_str _ _ ip (by lia)⟩
  |tup l'=>
   obtain⟨p',J8,Kz,Kd,KS⟩:=bD q;subst Kz;cases ry;obtain⟨its',Np,Ko,_⟩:=I.tuple Kd;have Ko:s.heap.IsTuple p' its'.toArray:=Ko;simp only[plainD]at h h';have l1:=vl.length;have l2:=Np.length;have l3:=rs.length;have l4:=KS.length;have el:∀j (h1:j<IS.toArray.size) (h2:j<its'.toArray.size),EqAt A.in1 s IS.toArray[j] its'.toArray[j] ((fun j=>IU (l.getD j .non) (l'.getD j .non)) j):=fun j h1 h2=>by
    simp only[Vh]at h1 h2;have g1:l[j]?=some (l[j]'(by lia)):=U9 _;have g2:l'[j]?=some (l'[j]'(by lia)):=U9 _;obtain⟨w1,Mh,Mi⟩:=rs.get g1;obtain⟨w2,Nq,Nr⟩:=KS.get g2;obtain⟨u1,K4,Mj⟩:=vl.get Mh;obtain⟨u2,Lo,Nu⟩:=Np.get Nq;have q1:IS.toArray[j]=u1:=by rw[U9 h1]at K4;simpa using K4
    have q2:its'.toArray[j]=u2:=by rw[U9 h2]at Lo;simpa using Lo
    dsimp only;rw[q1,q2,Vi,Vi,g1,g2];exact pN I l j _ g1 _ w1 w2 u1 u2 A.in1 39 (plainDs_mem h g1) (plainDs_mem h' g2) (by show A.units+1+39<cLine;lia) Mi Nr Mj Nu
   simp only[IU];have fin:((List.range (min IS.toArray.size its'.toArray.size)).all (fun j=>IU (l.getD j .non) (l'.getD j .non))&&IS.toArray.size==its'.toArray.size)=jU l l':=by
    simp only[Vh];by_cases hl:l.length=l'.length
    ·rw[<-fP hl,show min IS.length its'.length=l.length by lia,show(IS.length==its'.length)=true by rw[V5];lia,YG]
    ·rw[jo hl,show(IS.length==its'.length)=false by rw[Wf];lia,X5]
   rw[<-fin];exact⟨.tuples ip Ko (by lia) el,.tuples ip Ko (by lia) el⟩
  |lst l'=>obtain⟨p',J8,Kz,Kd,_⟩:=bK q;subst Kz;cases ry;obtain⟨its',_,Ko,_⟩:=I.list Kd;simp only[IU];exact⟨.tuple_list ip Ko.isList (by lia),.tuple_list ip Ko.isList (by lia)⟩
  |dct tk ks vs=>exact(bP h').elim
 |lst l=>
  obtain⟨p,xs,ev,sq,rs⟩:=bK r;subst ev;cases rx;obtain⟨IS,vl,ip,_⟩:=I.list sq;have ip:=ip.isList;cases e with
  |non=>cases cB q;cases ry;simp only[IU];exact⟨.list_none ip (by lia),.list_none ip (by lia)⟩
  |bl b=>cases dt q;cases ry;simp only[IU];exact⟨.list_bool _ ip (by lia),.list_bool _ ip (by lia)⟩
  |int i=>cases bM q;obtain⟨t,rfl⟩:=ry;simp only[IU];exact⟨.list_int _ _ ip (by lia),.list_int _ _ ip (by lia)⟩
  |str l=>cases(bF q).1;obtain⟨t,rfl⟩:=ry;simp only[IU];exact⟨.list_str _ _ ip (by lia),.list_str _ _ ip (by lia)⟩
  |lst l'=>
   obtain⟨p',J8,Kz,Kd,KS⟩:=bK q;subst Kz;cases ry;obtain⟨its',Np,Ko,_⟩:=I.list Kd;have Ko:=Ko.isList;simp only[plainD]at h h';have l1:=vl.length;have l2:=Np.length;have l3:=rs.length;have l4:=KS.length;simp only[IU];by_cases hl:l.length=l'.length
   ·have el:∀j (h1:j<IS.toArray.size) (h2:j<its'.toArray.size),EqAt A.in1 s IS.toArray[j] its'.toArray[j] ((fun j=>IU (l.getD j .non) (l'.getD j .non)) j):=fun j h1 h2=>by
     simp only[Vh]at h1 h2;have g1:l[j]?=some (l[j]'(by lia)):=U9 _;have g2:l'[j]?=some (l'[j]'(by lia)):=U9 _;obtain⟨w1,Mh,Mi⟩:=rs.get g1;obtain⟨w2,Nq,Nr⟩:=KS.get g2;obtain⟨u1,K4,Mj⟩:=vl.get Mh;obtain⟨u2,Lo,Nu⟩:=Np.get Nq;have q1:IS.toArray[j]=u1:=by rw[U9 h1]at K4;simpa using K4
     have q2:its'.toArray[j]=u2:=by rw[U9 h2]at Lo;simpa using Lo
     dsimp only;rw[q1,q2,Vi,Vi,g1,g2];exact pN I l j _ g1 _ w1 w2 u1 u2 A.in1 39 (plainDs_mem h g1) (plainDs_mem h' g2) (by show A.units+1+39<cLine;lia) Mi Nr Mj Nu
    rw[<-fP hl,show l.length=IS.toArray.size by simp only[Vh];lia];exact⟨.lists ip Ko (by simp only[Vh];lia) (by lia) el,.lists ip Ko (by simp only[Vh];lia) (by lia) el⟩
   ·rw[jo hl];exact⟨.lists_lengths ip Ko (by simp only[Vh,bne_iff_ne];lia) (by lia),.lists_lengths ip Ko (by simp only[Vh,bne_iff_ne];lia) (by lia)⟩
  |tup l'=>obtain⟨p',J8,Kz,Kd,_⟩:=bD q;subst Kz;cases ry;obtain⟨its',_,Ko,_⟩:=I.tuple Kd;simp only[IU];exact⟨.list_tuple ip (show s.heap.IsTuple p' its'.toArray from Ko) (by lia),.list_tuple ip (show s.heap.IsTuple p' its'.toArray from Ko) (by lia)⟩
  |dct tk ks vs=>exact(bP h').elim
 |dct tk ks vs=>exact(bP h).elim
theorem dZ(hu:X.A.units+64<cLine):JG X (compareOp .Eq) (rGA X.K eqO):=by
 rintro pr s σ H x y v u Q I rx ry ⟨G,fp,es,vs,a,b,r,⟨rel,k⟩,va,vb,e⟩;unfold eqO at e;split at e
 ·rename_i hp;cases e;rw[Vu]at hp;exact(DQ I hp.1 hp.2 hu va vb rx ry).1 _ _ _ _ ⟨.bl _,H,I,rfl,k _ H G fp .refl (rel.push (dr _))⟩
 ·cases e
theorem l7(hu:X.A.units+64<cLine):JG X (compareOp .NotEq) (rGA X.K Kr):=by
 rintro pr s σ H x y v u Q I rx ry ⟨G,fp,es,vs,a,b,r,⟨rel,k⟩,va,vb,e⟩;unfold Kr at e;split at e
 ·rename_i hp;cases e;rw[Vu]at hp;exact(DQ I hp.1 hp.2 hu va vb rx ry).2 _ _ _ _ ⟨.bl _,H,I,rfl,k _ H G fp .refl (rel.push (dr _))⟩
 ·cases e
def uQ(a:D)(ds:List D):Bool:=ds.any fun d=>IU d a
noncomputable def LV(a b:D):Res R:=match b with
 | .lst ds=>if plainD 40 a&&plainDs 40 ds then .ok (.f,.bl (uQ a ds)) else .bad
 | .tup ds=>if plainD 40 a&&plainDs 40 ds then .ok (.f,.bl (uQ a ds)) else .bad
 | .str l=>match a with
  | .str [c]=>.ok (.f,.bl (decide (c∈l)))
  |_=>.bad
 |_=>.bad
def sy(a b:D):Res R:=(LV a b).bind fun r=>match r.2 with
 | .bl k=>.ok (.f,.bl (!k))
 |_=>.bad
open PySem.SeqAt in
theorem sH(I:Inv X pr σ H s){a:D}{x:V}{v:Value}(h:plainD 40 a=true)(hu:A.units+64<cLine)(r:Rep X.K H a x)(rx:RelV x v):
  ∀(ds:List D) (xs:List V) (us:List Value),plainDs 40 ds=true->Reps X.K H ds xs->Vals xs us->∃e:Value->Bool,us.any e=uQ a ds/\∀u∈us,EqAt A s u v (e u):=by
 classical
 intro ds xs us hp rs vl;refine⟨fun u=>decide (∃(j:Nat) (d:D),ds[j]?=some d/\us[j]?=some u/\IU d a=true),?_,fun u Oh=>?_⟩
 ·rw[VT,Wa];unfold uQ;rw[Wa];constructor
  ·rintro⟨u,_,hd⟩;obtain⟨j,d,h1,_,h2⟩:=XW hd;exact⟨d,VF h1,h2⟩
  ·rintro⟨d,hd,h2⟩;obtain⟨j,hj⟩:=WT.mp hd;obtain⟨w1,Mh,Mi⟩:=rs.get hj;obtain⟨u1,K4,Mj⟩:=vl.get Mh;exact⟨u1,VF K4,VB ⟨j,d,hj,K4,h2⟩⟩
 ·obtain⟨j,hj⟩:=WT.mp Oh;have l1:=vl.length;have l2:=rs.length;have UB:=(Vk.mp hj).1;have g1:ds[j]?=some (ds[j]'(by lia)):=U9 _;obtain⟨w1,Mh,Mi⟩:=rs.get g1;obtain⟨u1,K4,Mj⟩:=vl.get Mh;rw[hj]at K4;cases K4;have z:=Bk I _ _ w1 x u v A 40 (plainDs_mem hp g1) h (by lia) Mi r Mj rx;have e:decide (∃(j:Nat) (d:D),ds[j]?=some d/\us[j]?=some u/\IU d a=true)=IU (ds[j]'(by lia)) a:=by
   rw[VT,Vq];constructor
   ·rintro⟨j2,d2,k1,k2,k3⟩;obtain⟨w2,Nq,Nr⟩:=rs.get k1;obtain⟨u2,Lo,Nu⟩:=vl.get Nq;rw[k2]at Lo;cases Lo;have:=Mj.inj Nu;subst this;rw[lj I _ _ _ 40 (plainDs_mem hp g1) Mi Nr];exact k3
   ·intro k3;exact⟨j,_,g1,hj,k3⟩
  show EqAt A s u v (decide (∃(j:Nat) (d:D),ds[j]?=some d/\us[j]?=some u/\IU d a=true));rw[e];exact z
theorem pO(l:List Nat)(c:Nat):(!(Builtin.Str.occurrences (S l) (S [c]) 0 (S l).length 1).isEmpty)=decide (c∈l):=by
 have h:=PySem.StrLaws.found_one (S l) c;rw[eZ]at h;exact h
theorem nW{e:Value->Bool}(us:List Value):us.toArray.any e=us.any e:=by simp
theorem Gw(hu:X.A.units+65<cLine):JG X (compareOp .In) (rGA X.K LV):=by
 rintro pr s σ H x y v u Q I rx ry ⟨G,fp,es,vs,a,b,r,⟨rel,k⟩,va,vb,e⟩;unfold LV at e;split at e
 ·rename_i ds;split at e
  ·rename_i hp;cases e;rw[Vu]at hp;obtain⟨p,xs,ev,sq,rs⟩:=bK vb;subst ev;cases ry;obtain⟨IS,vl,ip,_⟩:=I.list sq;obtain⟨ef,e1,e2⟩:=sH (A:=X.A.in1) I hp.1 (by show X.A.units+1+64<cLine;lia) va rx ds xs IS hp.2 rs vl;refine SeqAt.in_listAt ef ip.isList (fun z hz=>e2 z (by simpa using hz)) ?_;rw[nW,e1];exact⟨.bl _,H,I,rfl,k _ H G fp .refl (rel.push (dr _))⟩
  ·cases e
 ·rename_i ds;split at e
  ·rename_i hp;cases e;rw[Vu]at hp;obtain⟨p,xs,ev,sq,rs⟩:=bD vb;subst ev;cases ry;obtain⟨IS,vl,ip,_⟩:=I.tuple sq;obtain⟨ef,e1,e2⟩:=sH (A:=X.A.in1) I hp.1 (by show X.A.units+1+64<cLine;lia) va rx ds xs IS hp.2 rs vl;refine SeqAt.in_tupleAt ef (show s.heap.IsTuple p IS.toArray from ip) (fun z hz=>e2 z (by simpa using hz)) ?_;rw[nW,e1];exact⟨.bl _,H,I,rfl,k _ H G fp .refl (rel.push (dr _))⟩
  ·cases e
 ·rename_i l;split at e
  ·rename_i c;cases e;obtain⟨e1,h1⟩:=bF va;obtain⟨e2,h2⟩:=bF vb;subst e1;subst e2;refine ve pr s σ H _ _ v u Q I rx ry ⟨_,_,rfl,rfl,?_⟩;rw[pO];exact k _ H G fp .refl (rel.push (dr _))
  ·cases e
 ·cases e
theorem DR(hu:X.A.units+65<cLine):JG X (compareOp .NotIn) (rGA X.K sy):=by
 rintro pr s σ H x y v u Q I rx ry ⟨G,fp,es,vs,a,b,r,⟨rel,k⟩,va,vb,e⟩;unfold sy at e;obtain⟨r0,e0,e⟩:=ar e;unfold LV at e0;split at e0
 ·rename_i ds;split at e0
  ·rename_i hp;cases e0;cases e;rw[Vu]at hp;obtain⟨p,xs,ev,sq,rs⟩:=bK vb;subst ev;cases ry;obtain⟨IS,vl,ip,_⟩:=I.list sq;obtain⟨ef,e1,e2⟩:=sH (A:=X.A.in1) I hp.1 (by show X.A.units+1+64<cLine;lia) va rx ds xs IS hp.2 rs vl;refine SeqAt.notIn_listAt ef ip.isList (fun z hz=>e2 z (by simpa using hz)) ?_;rw[nW,e1];exact⟨.bl _,H,I,rfl,k _ H G fp .refl (rel.push (dr _))⟩
  ·cases e0
 ·rename_i ds;split at e0
  ·rename_i hp;cases e0;cases e;rw[Vu]at hp;obtain⟨p,xs,ev,sq,rs⟩:=bD vb;subst ev;cases ry;obtain⟨IS,vl,ip,_⟩:=I.tuple sq;obtain⟨ef,e1,e2⟩:=sH (A:=X.A.in1) I hp.1 (by show X.A.units+1+64<cLine;lia) va rx ds xs IS hp.2 rs vl;refine SeqAt.notIn_tupleAt ef (show s.heap.IsTuple p IS.toArray from ip) (fun z hz=>e2 z (by simpa using hz)) ?_;rw[nW,e1];exact⟨.bl _,H,I,rfl,k _ H G fp .refl (rel.push (dr _))⟩
  ·cases e0
 ·rename_i l;split at e0
  ·rename_i c;cases e0;cases e;obtain⟨e1,h1⟩:=bF va;obtain⟨e2,h2⟩:=bF vb;subst e1;subst e2;refine oV pr s σ H _ _ v u Q I rx ry ⟨_,_,rfl,rfl,?_⟩;rw[pO];exact k _ H G fp .refl (rel.push (dr _))
  ·cases e0
 ·cases e0
def Ml(a b:D):Res R:=match b with
 | .bl k=>.ok (.f,.bl (match a with | .bl j=>j==k|_=>false))
 | .non=>.ok (.f,.bl (match a with | .non=>true|_=>false))
 |_=>.bad
def isnO(a b:D):Res R:=(Ml a b).bind fun r=>match r.2 with
 | .bl k=>.ok (.f,.bl (!k))
 |_=>.bad
theorem sI{a b:D}{x:V}{v u:Value}{r:R}(va:Rep K H a x)(vb:Rep K H b y)(rx:RelV x v)(ry:RelV y u)(e:Ml a b=.ok r):plainIs v u=true/\r=(.f,.bl (v==u)):=by
 unfold Ml at e;split at e
 ·rename_i k;cases e;cases dt vb;cases ry;cases a with
  |non=>cases cB va;cases rx;exact⟨rfl,rfl⟩
  |bl j=>cases dt va;cases rx;refine⟨rfl,?_⟩;cases j <;> cases k <;> rfl
  |int i=>cases bM va;obtain⟨t,rfl⟩:=rx;exact⟨rfl,rfl⟩
  |str l=>cases(bF va).1;obtain⟨t,rfl⟩:=rx;exact⟨rfl,rfl⟩
  |tup l=>obtain⟨p,xs,rfl,_⟩:=bD va;cases rx;exact⟨rfl,rfl⟩
  |lst l=>obtain⟨p,xs,rfl,_⟩:=bK va;cases rx;exact⟨rfl,rfl⟩
  |dct tk ks vs=>rw[Rep]at va;obtain⟨p,xs,o,rfl,_⟩:=va;cases rx;exact⟨rfl,rfl⟩
 ·cases e;cases cB vb;cases ry;cases a with
  |non=>cases cB va;cases rx;exact⟨rfl,rfl⟩
  |bl j=>cases dt va;cases rx;exact⟨rfl,rfl⟩
  |int i=>cases bM va;obtain⟨t,rfl⟩:=rx;exact⟨rfl,rfl⟩
  |str l=>cases(bF va).1;obtain⟨t,rfl⟩:=rx;exact⟨rfl,rfl⟩
  |tup l=>obtain⟨p,xs,rfl,_⟩:=bD va;cases rx;exact⟨rfl,rfl⟩
  |lst l=>obtain⟨p,xs,rfl,_⟩:=bK va;cases rx;exact⟨rfl,rfl⟩
  |dct tk ks vs=>rw[Rep]at va;obtain⟨p,xs,o,rfl,_⟩:=va;cases rx;exact⟨rfl,rfl⟩
 ·cases e
theorem wx:JG X (compareOp .Is) (rGA X.K Ml):=by
 rintro pr s σ H x y v u Q I rx ry ⟨G,fp,es,vs,a,b,r,⟨rel,k⟩,va,vb,e⟩;obtain⟨h1,h2⟩:=sI va vb rx ry e;subst h2;exact wpAny_is_plain h1 ⟨.bl _,H,I,rfl,k _ H G fp .refl (rel.push (dr _))⟩
theorem j6:JG X (compareOp .IsNot) (rGA X.K isnO):=by
 rintro pr s σ H x y v u Q I rx ry ⟨G,fp,es,vs,a,b,r,⟨rel,k⟩,va,vb,e⟩;obtain⟨r0,e0,e⟩:=ar e;obtain⟨h1,h2⟩:=sI va vb rx ry e0;subst h2;cases e;exact wpAny_isNot_plain h1 ⟨.bl _,H,I,rfl,k _ H G fp .refl (rel.push (dr _))⟩
end
section
theorem lq(hc:X.calm=true):dX X (.builtin "max") (rC X.K maxD):=by
 rintro pr s σ H xs us Q I rx ⟨G,fp,es,vs,ds,r,⟨rel,k⟩,vd,e⟩;unfold maxD at e;split at e
 ·rename_i d;split at e
  ·rename_i n ns hb;cases e;obtain⟨v,ev,vt⟩:=nU vd;obtain⟨p,ep,sq⟩:=lg rel.gh hb vt;subst ev;subst ep;exact vH hc pr s σ H _ us Q I rx ⟨p,n::ns,rfl,sq,by simp,k _ H G fp .refl (rel.push (bJ _))⟩
  ·cases e
 ·rename_i i j;cases e;obtain⟨v,w',ev,v1,v2⟩:=Hv vd;subst ev;cases bV v1;cases bV v2;obtain⟨u,u',rfl,⟨t,rfl⟩,t',rfl⟩:=x5 rx;refine max_two_ints (I.ok.hd hc) fun h' tk kk=>?_
  have I2:Inv X pr σ H {s with heap:=h',toks:=tk}:=I.kept kk;refine⟨.int (if i<j then j else i),H,I2,?_,k _ H G fp .refl (rel.push (bJ _))⟩;by_cases NR:i<j
  ·rw[Vn NR,Vn (show j>i from NR)];exact⟨_,rfl⟩
  ·rw[Vt NR,Vt (show ¬ j>i from NR)];exact⟨_,rfl⟩
 ·cases e
def Bl(f g:FX):FX:=fun env=>(f env).bind fun p=>(g p.2).bind fun q=>match(pM p.1.2).bind dY,q.1.2 with
 |some ns,.int d=>.ok ((.f,.int (NX.maxD ns d)),q.2)
 |_,_=>.bad
theorem Bm{k:Expr}{g:FX}{p pos MN:Pos}(hc:X.calm=true)(hg:Gl X "max")(hm:X.mg "max" = none)(he:QE X e f)(hk:QE X k g)(hs:starEach [e] X.env=[(false,eval e X.env)]:=by rfl):
  QE X (.Call (.Name "max" p) [e] [⟨some "default",k,MN⟩] pos) (Bl f g):=bI (AH hc hg hm he hk hs) fun σ H Q Jc=>by
 obtain⟨G,env,fp,r,env',rel,e,k⟩:=Jc;obtain⟨⟨r1,IM⟩,e1,e⟩:=ar e;obtain⟨⟨r2,IX⟩,e2,e⟩:=ar e;dsimp only at e;split at e
 ·rename_i ns d O9 hd;cases e;refine⟨G,env,fp,r1,IM,rel,e1,fun v H1 G1 Jl Jg IQ=>?_⟩;obtain⟨G2,b,rv,IP,I0⟩:=IQ.freeze;refine⟨G2,IM,b,r2,_,IP,e2,fun w' H3 G3 J3 Jt Js=>?_⟩;have hw:=Js.top;obtain⟨b3,JK,JW⟩:=Js.drop;rw[hd]at hw;obtain⟨p',ep,sq⟩:=lg JK.gh O9 (Vw.of JK.gh (Rep.mono Jt.gg rv));subst ep;exact⟨p',ns,d,rfl,by rw[bM hw],sq,k _ H3 G3 b3 (Jg.trans (I0.trans (Jt.trans JW))) (JK.push (bJ _))⟩
 ·cases e
def II:List D->Res R
 |[.bl b]=>.ok (.f,.int (if b then 1 else 0))
 |[.int i]=>.ok (.f,.int i)
 |_=>.bad
def qV:D->String
 | .non=>"NoneType"
 | .bl _=>"bool"
 | .int _=>"int"
 | .str _=>"str"
 | .tup _=>"tuple"
 | .lst _=>"list"
 | .dct _ _ _=>"dict"
def sJ(T:String)(d:D):Bool:=qV d==T||(qV d == "bool" && T == "int")
def NV(T:String)(f:FO):FX:=fun env=>(f env).bind fun p=>(uw p.2 p.1).bind fun d=>.ok ((.f,.bl (sJ T d)),p.2)
theorem DS(K:W.Frag)(d:D)(hT:T = "int"\/T = "bool"\/T = "str"\/T = "list"\/T = "tuple"\/T = "dict"):PySem.W.kitOne K (.type (qV d)) (.type T)=some (sJ T d):=by
 rcases hT with rfl|rfl|rfl|rfl|rfl|rfl <;> cases d <;> (unfold PySem.W.kitOne PySem.W.kitCls PySem.W.subIn;kernel_rfl)
theorem yE:dX X (.builtin "isinstance") (fun xs H Q=>∃d x T,xs=[x,.ty T]/\Rep X.K H d x/\(T = "int"\/T = "bool"\/T = "str"\/T = "list"\/T = "tuple"\/T = "dict")/\Q (.bl (sJ T d)) H):=by
 intro pr s σ H xs us Q I r h;obtain⟨d,x,T,rfl,rd,hT,q⟩:=h;obtain⟨u,w',rfl,r1,r2⟩:=x5 r;cases(show w'=Value.type T from r2);have e:=DS X.K d hT;have fin:∀tk,EP X pr σ Q (.bool (sJ T d)) {s with toks:=tk}:=fun tk=>⟨.bl (sJ T d),H,I.tok tk,rfl,q⟩
 cases d with
 |non=>cases cB rd;cases(show u=Value.none from r1);exact Xc PySem.W.kitx_none I.kIn True.intro e (fun z=>nomatch z) fin
 |bl y=>cases dt rd;cases(show u=Value.bool y from r1);exact Xc PySem.W.kitx_bool I.kIn True.intro e (fun z=>nomatch z) fin
 |int i=>cases bM rd;obtain⟨t,z⟩:=(show ∃t,u=Value.int i t from r1);cases z;exact Xc PySem.W.kitx_int I.kIn True.intro e (fun z=>nomatch z) fin
 |str l=>
  have hr:=(bF rd).1;subst hr;obtain⟨t,z⟩:=(show ∃t,u=Value.str (S l) t from r1)
  cases z;exact Xc PySem.W.kitx_str I.kIn True.intro e (fun z=>nomatch z) fin
 |lst l=>
  obtain⟨p,xs,ev,sq,_⟩:=bK rd;subst ev;cases(show u=Value.ref p from r1);obtain⟨IS,_,ip,_⟩:=I.list sq;obtain⟨o,ho,hc,_⟩:=ip.isList;exact Xc PySem.W.kitx_list I.kIn ⟨o,ho,hc⟩ e (fun z=>nomatch z) fin
 |tup l=>
  obtain⟨p,xs,ev,sq,_⟩:=bD rd;subst ev;cases(show u=Value.ref p from r1);obtain⟨IS,_,ip,_⟩:=I.tuple sq;obtain⟨o,ho,hc,_⟩:=ip;exact Xc PySem.W.kitx_tuple I.kIn ⟨o,ho,hc⟩ e (fun z=>nomatch z) fin
 |dct tk ks vs=>
  rw[Rep]at rd;obtain⟨p,xs,o,ev,hr,dd,_⟩:=rd;subst ev;cases(show u=Value.ref p from r1);have ok:=hr.ok I.hok;cases tk with
  |true=>
   obtain⟨kvs,eo,_⟩:=dd;subst eo;obtain⟨_,_,_,_,o2,_,_,KG,ex,_⟩:=ok;exact Xc PySem.W.kitx_dict I.kIn ⟨o2,KG,ex.1⟩ e (fun z=>nomatch z) fin
  |false=>
   obtain⟨kvs,eo,_⟩:=dd;subst eo;obtain⟨_,_,_,_,o2,_,_,KG,ex,_⟩:=ok;exact Xc PySem.W.kitx_dict I.kIn ⟨o2,KG,ex.1⟩ e (fun z=>nomatch z) fin
theorem wy{f:FO}{p q pos:Pos}(hT:T = "int"\/T = "bool"\/T = "str"\/T = "list"\/T = "tuple"\/T = "dict")(he:QO X e f)(hg:Gl X "isinstance")(hm:X.mg "isinstance" = none)(M8:Gl X x)(Nn:X.mg x=none)(hv2:bootBuiltins x=some (.type T))(hn:x≠"__name__":=by decide)(KQ:(x==("__debug__" : Str))=false:=by decide)
  (hs:starEach [e,.Name x q] X.env=(false,eval e X.env)::starEach [.Name x q] X.env:=by rfl) (QH:starEach [.Name x q] X.env=(false,eval (.Name x q) X.env)::starEach [] X.env:=by rfl) (JS:(backTo pos (starEach [.Name x q] X.env)).any (·.1)=false:=by rfl):
  QE X (.Call (.Name "isinstance" p) [e,.Name x q] [] pos) (NV T f):=
 bI (rO yE hg hm m9 (gK he (gK (Ac (v:=.ty T) M8 Nn hv2 rfl hn KQ) oW QH) hs) (by decide) (by decide) hs JS) fun σ H Q Jc=>by
  obtain⟨G,env,fp,r,env',rel,e,k⟩:=Jc;obtain⟨⟨o,IM⟩,e1,e⟩:=ar e;obtain⟨d,e2,e⟩:=ar e;cases e;exact⟨G,env,fp,o,_,rel,e1,fun v H1 G1 Jl Jg IQ J4=>⟨d,v,T,rfl,IQ.vwA J4 e2,hT,k _ H1 G1 Jl Jg (IQ.push (dr _))⟩⟩
def Kn{α:Type}(f g:PV.Env->Res α):PV.Env->Res α:=fun env=>match f env with
 | .ok a=>.ok a
 |_=>g env
theorem zM{f g:PV.Env->Res α}{a:α}(h:Kn f g env=.ok a):f env=.ok a\/g env=.ok a:=by
 unfold Kn at h;split at h
 ·rename_i b hb;cases h;exact .inl hb
 ·exact .inr h
theorem yF{f g:FI}(h:QI X tg e f)(h2:QI X tg e g):QI X tg e (Kn f g):=fun pr s σ H R I Jc=>by
 obtain⟨G,env,fp,ds,env',rel,ee,k⟩:=Jc;rcases zM ee with z|z
 ·exact h pr s σ H R I ⟨G,env,fp,ds,env',rel,z,k⟩
 ·exact h2 pr s σ H R I ⟨G,env,fp,ds,env',rel,z,k⟩
end
section
def ins(lt:α->α->Bool)(x:α):List α->List α
 |[]=>[x]
 |y::ys=>if lt y x then y::ins lt x ys else x::y::ys
def isort(lt:α->α->Bool)(l:List α):List α:=l.foldr (ins lt) []
structure Ord(lt:α->α->Bool):Prop where
 irr:∀a,lt a a=false
 trans:∀a b c,lt a b=true->lt b c=true->lt a c=true
 tot:∀a b,lt a b=false->lt b a=false->a=b
theorem nX(lt:α->α->Bool)(x:α):∀l,(ins lt x l).Perm (x::l)
 |[]=>.refl _
 |y::ys=>by
  unfold ins;split
  ·exact(List.Perm.cons y (nX lt x ys)).trans (List.Perm.swap x y ys)
  ·exact .refl _
theorem dM(lt:α->α->Bool):∀l,(isort lt l).Perm l
 |[]=>.refl _
 |x::l=>(nX lt x _).trans (List.Perm.cons x (dM lt l))
theorem mI{lt:α->α->Bool}(o:Ord lt)(x:α):∀l:List α,l.Pairwise (fun a b=>lt b a=false)->(ins lt x l).Pairwise (fun a b=>lt b a=false)
 |[],_=>by simp[ins]
 |y::ys,h=>by
  rw[WX]at h;unfold ins;split
  ·rename_i hy;rw[WX];refine⟨fun z hz=>?_,mI o x ys h.2⟩;rcases Vo.mp ((nX lt x ys).mem_iff.mp hz) with rfl|hz
   ·cases e:lt z y with
    |false=>rfl
    |true=>
     have:=o.trans y z y hy e;rw[o.irr]at this;cases this
   ·exact h.1 z hz
  ·rename_i hy;have hy:lt y x=false:=by simpa using hy
   rw[WX,WX];refine⟨fun z hz=>?_,h⟩;rcases Vo.mp hz with rfl|Og
   ·exact hy
   ·cases e:lt z x with
    |false=>rfl
    |true=>
     exfalso;cases e2:lt x y with
     |true=>
      have:=o.trans z x y e e2;rw[h.1 z Og]at this;cases this
     |false=>
      have hxy:=o.tot x y e2 hy;rw[hxy,h.1 z Og]at e;cases e
theorem e8{lt:α->α->Bool}(o:Ord lt):∀l:List α,(isort lt l).Pairwise (fun a b=>lt b a=false)
 |[]=>.nil
 |x::l=>mI o x _ (e8 o l)
theorem pP{lt:α->α->Bool}(o:Ord lt):∀{a b:List α},a.Perm b->a.Pairwise (fun a b=>lt b a=false)->b.Pairwise (fun a b=>lt b a=false)->a=b
 |[],_,p,_,_=>p.nil_eq
 |x::xs,[],p,_,_=>absurd p.length_eq (by simp)
 |x::xs,y::ys,p,ha,hb=>by
  rw[WX]at ha hb;have hx:x∈y::ys:=p.mem_iff.mp Va;have hy:y∈x::xs:=p.mem_iff.mpr Va;have e:x=y:=by
   rcases Vo.mp hx with e|hx
   ·exact e
   ·rcases Vo.mp hy with e|hy
    ·exact e.symm
    ·exact o.tot x y (hb.1 x hx) (ha.1 y hy)
  subst e;rw[pP o p.cons_inv ha.2 hb.2]
theorem lr{lt:α->α->Bool}(o:Ord lt){l ms:List α}(p:ms.Perm l)(h:ms.Pairwise (fun a b=>lt b a=false)):ms=isort lt l:=pP o (p.trans (dM lt l).symm) h (e8 o l)
end
def ltI(a b:Int):Bool:=decide (a<b)
def MB(a b:List Nat):Bool:=decide (a<b)
theorem Bn:Ord ltI:=⟨fun a=>by simp[ltI],fun a b c=>by simp only[ltI,Vq];lia,fun a b=>by simp only[ltI,WC];lia⟩
theorem qW:Ord MB:=by
 refine⟨fun a=>?_,fun a b c h1 h2=>?_,fun a b h1 h2=>?_⟩
 ·unfold MB;rw[WC];exact List.lt_irrefl a
 ·unfold MB at *;rw[Vq] at *;exact List.lt_trans h1 h2
 ·unfold MB at *;rw[WC] at *;exact List.le_antisymm (Y9.mp h2) (Y9.mp h1)
theorem Bo:Ord jM:=⟨iR,iq,ir⟩
def gw:List D->Option (List (List Nat))
 |[]=>some []
 | .str b::ds=>(gw ds).map (b:: ·)
 |_=>none
def lu:D->Option Key
 | .int i=>some (.inl i)
 | .str l=>some (.inr (S l))
 |_=>none
def keysOfL:List D->Option (List Key)
 |[]=>some []
 |d::ds=>(lu d).bind fun k=>(keysOfL ds).map (k:: ·)
def dN:D->Option (List Key)
 | .tup ds=>keysOfL ds
 |_=>none
def lx:List D->Option (List (List Key))
 |[]=>some []
 |d::ds=>(dN d).bind fun k=>(lx ds).map (k:: ·)
def kT(k:List Key):D:=.tup (k.map kD)
section
theorem iT:∀{ds:List D}{bs:List (List Nat)}{xs:List V},gw ds=some bs->Reps K G ds xs->xs=bs.map (fun l=>V.str (S l))/\∀l∈bs,l.length<=sizeLine
 |[],_,_,e,r=>by
  cases e;rw[Reps]at r;exact⟨r,fun _ h=>nomatch h⟩
 |d::ds,_,_,e,r=>by
  cases d with
  |str b=>
   rw[gw,VW]at e;obtain⟨bs,e1,e2⟩:=e;subst e2;rw[Reps]at r;obtain⟨y,ys,e3,r1,r2⟩:=r;obtain⟨h1,h2⟩:=iT e1 r2;obtain⟨h3,h4⟩:=bF r1;subst h3;refine⟨by rw[e3,h1];rfl,fun l hl=>?_⟩;rcases Vo.mp hl with rfl|hl
   ·exact h4
   ·exact h2 l hl
  |_=>simp[gw]at e
theorem iy{k:Key}(e:lu d=some k)(r:Rep K G d v):v=kV k/\d=kD k:=by
 cases d with
 |int i=>
  cases e;exact⟨bM r,rfl⟩
 |str l=>
  cases e;refine⟨(bF r).1,?_⟩;show D.str l=D.str (S l).cps.toList;rw[eZ]
 |_=>cases e
theorem j7:∀{ds:List D}{ks:List Key}{xs:List V},keysOfL ds=some ks->Reps K G ds xs->xs=ks.map kV/\ds=ks.map kD
 |[],_,_,e,r=>by
  cases e;rw[Reps]at r;exact⟨r,rfl⟩
 |d::ds,_,_,e,r=>by
  rw[keysOfL,W0]at e;obtain⟨k,e1,e⟩:=e;rw[VW]at e;obtain⟨ks,e2,e3⟩:=e;subst e3;rw[Reps]at r;obtain⟨y,ys,e4,r1,r2⟩:=r;obtain⟨h1,h2⟩:=iy e1 r1;obtain⟨h3,h4⟩:=j7 e2 r2;rw[e4,h1,h2,h3,h4];exact⟨rfl,rfl⟩
theorem eK{ks:List Key}(e:dN d=some ks)(r:Rep K G d v):∃p,v=.ref p/\G p=some (.tup (ks.map kV))/\d=kT ks:=by
 cases d with
 |tup ds=>
  obtain⟨p,xs,ev,g,rs⟩:=wg r;obtain⟨h1,h2⟩:=j7 e rs;subst h1;exact⟨p,ev,g,by rw[h2];rfl⟩
 |_=>cases e
theorem ly:∀{ds:List D}{LP:List (List Key)}{xs:List V},lx ds=some LP->Reps K G ds xs->∃al:List (Addr×List Key),xs=al.map (fun a=>V.ref a.1)/\LP=al.map (·.2)/\ds=al.map (fun a=>kT a.2)/\∀a∈al,G a.1=some (.tup (a.2.map kV))/\Rep K G (kT a.2) (.ref a.1)
 |[],_,_,e,r=>by
  cases e;rw[Reps]at r;exact⟨[],r,rfl,rfl,fun _ h=>nomatch h⟩
 |d::ds,_,_,e,r=>by
  rw[lx,W0]at e;obtain⟨k,e1,e⟩:=e;rw[VW]at e;obtain⟨ks,e2,e3⟩:=e;subst e3;rw[Reps]at r;obtain⟨y,ys,e4,r1,r2⟩:=r;obtain⟨p,h1,h2,h5⟩:=eK e1 r1;obtain⟨al,h3,h4,h6,h7⟩:=ly e2 r2;subst h1;refine⟨(p,k)::al,by rw[e4,h3];rfl,by rw[h4];rfl,by rw[h5,h6];rfl,fun a ha=>?_⟩;rcases Vo.mp ha with rfl|ha
  ·exact⟨h2,by rw[<-h5];exact r1⟩
  ·exact h7 a ha
theorem jr{α:Type}{f:α->D}{g:α->V}:∀{l:List α},(∀a∈l,Rep K G (f a) (g a))->Reps K G (l.map f) (l.map g)
 |[],_=>Reps.nil
 |a::l,h=>.cons (h a Va) (jr fun b hb=>h b (Vb _ hb))
end
def sameKinds(k:List Key)(LP:List (List Key)):Bool:=!k.isEmpty&&LP.all fun j=>kinds j==kinds k
noncomputable def lz(ds:List D):Option (List D):=match dY ds with
 |some ns=>some ((isort ltI ns).map D.int)
 |none=>match gw ds with
  |some ls=>some ((isort MB ls).map D.str)
  |none=>match lx ds with
   |some (k::LP)=>if sameKinds k LP then some ((isort jM (k::LP)).map kT) else none
   |_=>none
def fG:List D->Res R
 |[.lst ds]=>if ds.length<64 then match lz ds with
  |some l=>.ok (.l .f,.lst l)
  |none=>.bad
  else .bad
 |_=>.bad
theorem nZ{k:List Key}{LP:List (List Key)}(h:sameKinds k LP=true):∃top t,∀j∈k::LP,kinds j=top::t:=by
 unfold sameKinds at h;rw[Vu,VO]at h;cases k with
 |nil=>simp at h
 |cons a k=>
  refine⟨a.isLeft,kinds k,fun j hj=>?_⟩;rcases Vo.mp hj with rfl|hj
  ·rfl
  ·exact V5.mp (h.2 j hj)
theorem zN{k:Key}(h:uv k):Rep K G (kD k) (kV k):=by
 cases k with
 |inl i=>exact bJ i
 |inr x=>
  have:=k4 (K:=K) (G:=G) (l:=x.cps.toList) h;rw[pe]at this;exact this
theorem DT(k:Key):lu (kD k)=some k:=by
 cases k with
 |inl i=>rfl
 |inr x=>
  show some (Sum.inr (S x.cps.toList))=_;rw[pe]
theorem lB:∀ks:List Key,keysOfL (ks.map kD)=some ks
 |[]=>rfl
 |k::ks=>by
  rw[Vz,keysOfL,DT,lB ks];rfl
theorem mJ:∀LP:List (List Key),lx (LP.map kT)=some LP
 |[]=>rfl
 |k::LP=>by
  rw[Vz,lx];show(keysOfL (k.map kD)).bind _=_;rw[lB,mJ LP];rfl
section
theorem UC{lt:α->α->Bool}{p:α->α->Prop}(h:∀a b,p a b->lt b a=false){l:List α}(q:l.Pairwise p):l.Pairwise (fun a b=>lt b a=false):=q.imp (h _ _)
theorem js(hc:X.calm=true):dX X (.builtin "sorted") (rC X.K fG):=by
 rintro pr s σ H xs us Q I rx ⟨G,fp,es,vs,ds,r,⟨rel,k⟩,vd,e⟩;unfold fG at e;split at e
 ·rename_i ds;split at e
  ·rename_i PB;split at e
   ·rename_i l hl;cases e;obtain⟨v,ev,p,ys,ep,sq,rs⟩:=nU vd;subst ev;subst ep;unfold lz at hl;split at hl
    ·rename_i ns O9;cases hl;have hy:=fY O9 rs;subst hy;have hlen:ns.length<64:=by have:=rs.length;rw[Ve]at this;lia
     refine kn hc pr s σ H _ us Q I rx ⟨p,ns,rfl,sq,hlen,fun q ms hq pm sm=>?_⟩;have em:=lr Bn pm (UC (fun a b h=>by unfold ltI;rw[WC];lia) sm);subst em;obtain⟨IP,I0⟩:=rel.newL hq (jr (K:=X.K) (G:=G) (f:=D.int) (g:=V.int) fun a _=>bJ a);exact k _ _ G _ I0 IP
    ·split at hl
     ·rename_i ls hls;cases hl;obtain⟨hy,hz⟩:=iT hls rs;subst hy;have hlen:ls.length<64:=by have:=rs.length;rw[Ve]at this;lia
      refine ko hc pr s σ H _ us Q I rx ⟨p,ls,rfl,sq,hlen,fun q ms hq pm sm=>?_⟩;have em:=lr qW pm (UC (fun a b h=>by unfold MB;rw[WC];exact h) sm);obtain⟨IP,I0⟩:=rel.newL hq (jr (K:=X.K) (G:=G) (f:=D.str) (g:=fun l=>V.str (S l)) (l:=ms) fun a ha=>k4 (hz a (pm.mem_iff.mp ha)));rw[<-em]at k;exact k _ _ G _ I0 IP
     ·split at hl
      ·rename_i kk LP hk;split at hl
       ·rename_i hsk;cases hl;obtain⟨al,h1,h2,h3,h4⟩:=ly hk rs;obtain⟨top,t,PU⟩:=nZ hsk;subst h1;have hlen:al.length<64:=by have:=rs.length;rw[Ve]at this;lia
        refine kq hc pr s σ H _ us Q I rx ⟨p,al,top,t,rfl,sq,fun a ha=>⟨SqT.of (rel.gh _ _ (h4 a ha).1),PU a.2 (by rw[h2];exact Wz.mpr ⟨a,ha,rfl⟩)⟩,hlen,fun q ms hq pm sm=>?_⟩;have em:ms.map (·.2)=isort jM (kk::LP):=by
         rw[h2];refine lr Bo (pm.map _) ?_;rw[Xu];exact sm
        obtain⟨IP,I0⟩:=rel.newL hq (jr (K:=X.K) (G:=G) (f:=fun a:Addr×List Key=>kT a.2) (g:=fun a=>V.ref a.1) (l:=ms) fun a ha=>(h4 a (pm.mem_iff.mp ha)).2);have ek:ms.map (fun a=>kT a.2)=(isort jM (kk::LP)).map kT:=by rw[<-em,VU];rfl
        rw[ek]at IP;exact k _ _ G _ I0 IP
       ·cases hl
      ·cases hl
   ·cases e
  ·cases e
 ·cases e
def Mb(a b:D):Res R:=QQ a b
def SF(a b:D):Res R:=TH a b
theorem mK(hu:X.A.units<cLine):JG X (compareOp .Lt) (rG X.K Mb):=Gq
theorem DU(hu:X.A.units<cLine):JG X (compareOp .GtE) (rG X.K SF):=Gs
end
def eNewD(tk:Bool):FX:=fun env=>.ok ((.d,.dct tk [] []),env)
variable{κ:Type}
section
def qX(ks vs:List D)(k v:D):List D×List D:=if ks.any (IU k) then(ks,(ks.zip vs).map fun p=>if IU k p.1 then v else p.2) else(ks++[k],vs++[v])
def dO(tk:Bool)(k:D):Bool:=if tk then(dN k).isSome else(lu k).isSome
noncomputable def IJ(i:Nat)(fk fv:FX):FS:=fun env=>(fv env).bind fun p=>(fk p.2).bind fun q=>match p.2[i]?,q.2[i]? with
 |some (some _),some (some (.d,.dct tk ks vs))=>if dO tk q.1.2&&decide (ks.length<sizeLine) then .ok (.nx (q.2.set i (some (.d,.dct tk (qX ks vs q.1.2 p.1.2).1 (qX ks vs q.1.2 p.1.2).2)))) else .bad
 |_,_=>.bad
theorem wz(a b:Key):IU (kD a) (kD b)=decide (a=b):=by
 cases a with
 |inl i=>
  cases b with
  |inl j=>simp only[kD,IU];rw[VT];simp
  |inr y=>simp only[kD,IU];simp
 |inr x=>
  cases b with
  |inl j=>simp only[kD,IU];simp
  |inr y=>
   simp only[kD,IU];rw[VT];simp only[V5,Vq,Sum.inr.injEq];exact⟨fun h=>by rw[<-pe x,<-pe y,h],fun h=>by rw[h]⟩
theorem wA:∀a b:List Key,jU (a.map kD) (b.map kD)=decide (a=b)
 |[],[]=>by simp[jU]
 |[],_::_=>by simp[jU]
 |_::_,[]=>by simp[jU]
 |a::r,b::t=>by
  rw[Vz,Vz,jU,wz,wA r t,VT];simp
theorem sL(a b:List Key):IU (kT a) (kT b)=decide (a=b):=by
 unfold kT;rw[IU];exact wA a b
theorem pQ[DecidableEq κ](f:κ->D)(hf:∀a b,IU (f a) (f b)=decide (a=b)){kvs:List (κ×V)}{vs:List D}{k:κ}{v:D}(r:Reps K G vs (kvs.map (·.2)))(ry:Rep K G v y):
  (kr kvs k y).map (fun kv=>f kv.1)=(qX (kvs.map fun kv=>f kv.1) vs (f k) v).1/\Reps K G (qX (kvs.map fun kv=>f kv.1) vs (f k) v).2 ((kr kvs k y).map (·.2)):=by
 have e:(kvs.map fun kv=>f kv.1).any (IU (f k))=kvs.any fun kv=>decide (kv.1=k):=by
  rw[Xx];congr 1
  funext kv
  show IU (f k) (f kv.1)=_;rw[hf,VT];simp only[Vq];exact⟨fun z=>z.symm,fun z=>z.symm⟩
 unfold qX kr;rw[e];split
 ·refine⟨?_,?_⟩
  ·rw[VU];refine Xa fun kv _=>?_
   show f (if kv.1=k then(kv.1,y) else kv).1=f kv.1;split <;> rfl
  ·rename_i hany;clear e hany;induction kvs generalizing vs with
   |nil=>
    have:vs=[]:=Wg (by rw[<-r.length];rfl);subst this;exact Reps.nil
   |cons kv kvs ih=>
    cases vs with
    |nil=>have:=r.length;simp at this
    |cons d vs=>
     rw[Vz,Reps.cons_iff]at r;rw[Vz,XJ,Vz,Vz,Vz];refine .cons ?_ (ih r.2);show Rep K G (if IU (f k) (f kv.1)=true then v else d) (if kv.1=k then(kv.1,y) else kv).2;rw[hf];by_cases hk:kv.1=k
     ·rw[Vn (by simp[hk]),Vn hk];exact ry
     ·rw[Vt (by simp;exact fun z=>hk z.symm),Vt hk];exact r.1
 ·refine⟨?_,?_⟩
  ·rw[VA];rfl
  ·rw[VA];exact r.app (.one ry)
theorem Rel.chgD{es:PV.Env}{ks ws:List D}(q:Rel K G H es vs fp)(e:es[i]?=some (some (.d,.dct tk ks ws))):∃p xs u,vs[i]?=some (some (.ref p))/\H p=some u/\DictO u tk ks xs/\Reps K G ws xs/\
  ∀u' Oq J8 Ot,DictO u' tk Oq J8->Reps K G Ot J8->∃fq,Rel K G (upd H p u') (es.set i (some (.d,.dct tk Oq Ot))) vs fq/\Step G H fp G (upd H p u') fq:=by
 obtain⟨v,fq,ev,g,st,KD⟩:=q.out e;obtain⟨y,ys,e0,v',a,b,e1,e2,r1,r2⟩:=g.rep;cases e0;cases e1;rw[RepO]at r1;obtain⟨p,xs,u,e3,hp,dd,e4,rs⟩:=r1;subst e3;subst e4;subst e2;have nd:=VN.mp (show(p::b).Nodup from g.nd);refine⟨p,xs,u,ev,hp,dd,rs,fun u' Oq J8 Ot Oe KS=>?_⟩;have g2:Rel K G (upd H p u') (some (.d,.dct tk Oq Ot)::es.set i none) (some (.ref p)::vs) (p::b):=by
  refine⟨⟨some (.ref p),vs,rfl,.ref p,[p],b,rfl,rfl,?_,r2.step (.refl _) fun z hz=>aF fun e=>nd.1 (e▸hz)⟩,g.nd,g.gn,fun z o ez=>?_⟩
  ·rw[RepO];exact⟨p,J8,u',rfl,bc,Oe,rfl,KS⟩
  ·have:z≠p:=fun w=>by
    subst w;rw[g.gn z Va]at ez;cases ez
   rw[aF this];exact g.gh z o ez
 have TB:Step G H (p::b) G (upd H p u') (p::b):=by
  refine⟨.refl _,fun z o ez nz=>?_,fun z hz=>.inl hz,fun z o ez=>.inl ez,fun z o ez=>?_⟩
  ·have:z≠p:=fun w=>nz (by rw[w];exact Va)
   rw[aF this];exact ez
  ·by_cases w:z=p
   ·subst w;exact⟨_,bc⟩
   ·exact⟨o,by rw[aF w];exact ez⟩
 obtain⟨fz,g3,Jt⟩:=g2.back (i:=i) (by rw[Wc];exact(Vk.mp e).1) ev;rw[Xk]at g3;exact⟨fz,g3,st.trans (TB.trans Jt)⟩
theorem wB{k:Key}(e:lu d=some k)(r:Rep K G d v):uv k:=by
 cases d with
 |int i=>cases e;trivial
 |str l=>
  cases e;show(S l).cps.toList.length<=sizeLine;rw[eZ];exact(bF r).2
 |_=>cases e
theorem wC{K:W.Frag}{G:Hp}:∀{ds:List D}{ks:List Key}{xs:List V},keysOfL ds=some ks->Reps K G ds xs->∀k∈ks,uv k
 |[],_,_,e,_=>by
  cases e;exact fun _ h=>nomatch h
 |d::ds,_,_,e,r=>by
  rw[keysOfL,W0]at e;obtain⟨k,e1,e⟩:=e;rw[VW]at e;obtain⟨ks,e2,e3⟩:=e;subst e3;rw[Reps]at r;obtain⟨y,ys,e4,r1,r2⟩:=r;intro z hz;rcases Vo.mp hz with rfl|hz
  ·exact wB e1 r1
  ·exact wC e2 r2 z hz
theorem sN[DecidableEq κ]{P:κ->Prop}{kvs:List (κ×V)}{k:κ}(h:∀kv∈kvs,P kv.1)(hk:P k):∀kv∈kr kvs k y,P kv.1:=by
 intro kv LB;unfold kr at LB;split at LB
 ·obtain⟨z,hz,e⟩:=Wz.mp LB;rw[<-e];split
  ·exact h z hz
  ·exact h z hz
 ·rcases VS.mp LB with LB|LB
  ·exact h kv LB
  ·rw[Vx]at LB;rw[LB];exact hk
end
end PV
namespace NX
section
variable{prog:Program}{w:World}{A:Around}{E:Value->Shared->Prop}{s:Shared}{d:Addr}{es:Array DictEntry}{ep:Nat}
theorem og(nm:(d==sysModules)=false):MeetsIn prog w (Builtin.«dict.__len__» ⟨[.ref d],[]⟩) (fun _ R s=>RawD s.heap d es ep/\R (.ok (.ret (.int es.size s.toks))) {s with toks:=s.toks+1}):=
 .of_wp fun A R s Jc=>by
  obtain⟨⟨o,g,_,dat⟩,h⟩:=Jc;show wpAny _ _ (dictSize d >>= fun _=>_) _ _ s;unfold dictSize;refine U8 (U8 (wpAny_dictEntries g dat (Vf ?_)));show wpAny _ _ (Builtin.Dict.pendingCount d >>= fun _=>_) _ _ s;refine U8 (wpAny_pendingCount_other nm (wpAny_ret_mkInt ?_));rw[aau];exact h
theorem Bp{Q:Value->Shared->Prop}(nm:(d==sysModules)=false)(x:RawD s.heap d es ep)(hf:(es.size:Int)<2 ^ 63)(h:Q (.int es.size (s.toks+1)) {s with toks:=s.toks+1+1}):wpAny (model prog w) A (call (.builtin "len") [.ref d]) Q E s:=by
 have ty:=yo x;refine YX kind_len plain_len entry_len (args_len1 _) ?_;unfold Builtin.«len»;refine U8 (m:=oneArg "len" _) (Vf (U8 (m:=callSpecial? (.ref d) (Str.ofString "__len__")) (Wo (name:=Str.ofString "__len__") ty F.slot_dict_len
  (call_meetsIn F.slot_dict_len ty F.entry_dict_len (F.args_dict_len_1 _) (og (es:=es) (ep:=ep) nm) ⟨x,?_⟩))))
 show wpAny _ _ _ _ _ {s with toks:=s.toks+1};refine U8 (WN (Vf (U8 (X9 ?_))));show wpAny _ _ (if((es.size:Nat):Int)<0 then _ else _) _ _ _;rw[Vt (Int.not_lt.mpr (Int.natCast_nonneg _))];show wpAny _ _ (if((es.size:Nat):Int)>=2 ^ 63 then _ else _) _ _ _;rw[Vt (Int.not_le.mpr hf)];exact U8 (wpAny_mkInt (Vf ⟨_,rfl,h⟩))
end
end NX
namespace PV
variable{X:Cx}{σ:L2.St}{H:Hp}{e:Expr}{fa:FO}
section
def gH:List D->Res R
 |[.dct _ ks _]=>.ok (.f,.int ks.length)
 |ds=>Gv ds
theorem DV{pr:List (Addr×Obj)}{s:Shared}(I:Inv X pr σ H s){p:Addr}{o:HO}{tk:Bool}{ks:List D}{xs:List V}(rd:Rd H p o)(dd:DictO o tk ks xs):(p==sysModules)=false/\∃es ep,RawD s.heap p es ep/\es.size=ks.length/\ks.length<=sizeLine:=by
 have ok:=rd.ok I.hok;cases tk with
 |true=>
  obtain⟨kvs,eo,ek,_⟩:=dd;subst eo;obtain⟨z,nm,ws,r,o2,es,ep,h1,h2,h3,h4,_⟩:=ok;refine⟨nm,es,ep,⟨o2,h1,h2,h3⟩,?_,by rw[ek,Ve];exact z⟩;have:=WM List.length h4;rw[Ve,Vp,<-YD r]at this;rw[ek,Ve];exact this
 |false=>
  obtain⟨kvs,eo,ek,_⟩:=dd;subst eo;obtain⟨z,nm,ws,r,o2,es,ep,h1,h2,h3,h4,h5,_⟩:=ok;refine⟨nm,es,ep,⟨o2,h1,h2,h3⟩,?_,by rw[ek,Ve];exact z⟩;have l1:=h5.length;have l2:kvs.length=ws.length:=YD r;rw[ek,Ve];rw[Vp]at l1;lia
theorem cz:dX X (.builtin "len") (rC X.K gH):=by
 rintro pr s σ H xs us Q I rx ⟨G,fp,es,vs,ds,r,⟨rel,k⟩,vd,e⟩;unfold gH at e;split at e
 ·rename_i tk ks ws;cases e;obtain⟨v,ev,p,ys,o,ep,rd,dd,_⟩:=nU vd;subst ev;subst ep;obtain⟨u,rfl,ru⟩:=fV rx;cases ru;obtain⟨nm,en,ep,raw,h1,h2⟩:=DV I rd dd;refine Bp nm raw (by rw[h1];rw[Wr]at h2;lia) ?_;refine⟨.int ks.length,H,I.tok _,⟨_,by rw[h1]⟩,k _ H G fp .refl (rel.push (bJ _))⟩
 ·exact DN pr s σ H xs us Q I rx ⟨G,fp,es,vs,_,r,⟨rel,k⟩,vd,e⟩
def Gx(g:List Nat->List D->Res R)(fa:FO)(fs:FOs):FX:=fun env=>(fa env).bind fun p=>match JY p.2 p.1 with
 | .ok (.str l)=>(fs p.2).bind fun q=>(pJ q.2 q.1).bind fun ds=>(g l ds).bind fun r=>.ok (r,q.2)
 |_=>.bad
inductive rMtS(K:W.Frag)(g:List Nat->List D->Res R)(x:V)(xs:List V)(H:Hp)(Q:VK):Prop
 |mk:∀G fp es vs l ds r,Goes K H G fp es vs r Q->x=.str (S l)->l.length<=sizeLine->Ph K G H ds xs->g l ds=.ok r->rMtS K g x xs H Q
theorem DW{g:List Nat->List D->Res R}{id:String}{name:Str}{o:Expr}{es:List Expr}{fs:FOs}{apos Jj:Pos}(slot:Slot "str" name id)(N6:typeOf (.builtin id)=pure (.type "method_descriptor"))(hm:O8 X id (rMtS X.K g))(ho:QO X o fa)(ha:Ma X (e::es) fs)
  (JZ:attributeBase o name X.env (eval o X.env)=eval o X.env:=by rfl)
  (KR:((backTo Jj (starEach (e::es) X.env)).all (fun x=>!x.1)&&(backToKw Jj (keywordEach [] X.env)).all (fun x=>x.1.isSome)&&decide ((e::es).length+([]:List Keyword).length+(if([]:List Keyword).isEmpty then 0 else 1)<30))=true:=by rfl)
  (J0:(apos.endLine==Jj.line)=true:=by rfl) (hs:starEach (e::es) X.env=(false,eval e X.env)::starEach es X.env:=by rfl) (JI:(backTo Jj (starEach es X.env)).any (·.1)=false:=by rfl):
  QE X (.Call (.Attribute o name apos) (e::es) [] Jj) (Gx g fa fs):=by
 refine bI (Au PySem.F.plainAttrs_str slot N6 hm ho ha JZ KR J0 hs JI) fun σ H Q Jk=>?_
 obtain⟨G,env,fp,r,env',rel,e,k⟩:=Jk;obtain⟨⟨oa,IM⟩,e1,e⟩:=ar e;dsimp only at e;split at e
 ·rename_i l hl;obtain⟨⟨os,IX⟩,e2,e⟩:=ar e;obtain⟨ds,e3,e⟩:=ar e;obtain⟨r',e4,e⟩:=ar e;cases e;refine⟨G,env,fp,oa,IM,rel,e1,fun v H1 G1 Jl Jg IQ J4=>?_⟩;obtain⟨ev,hz⟩:=jk (IQ.vw J4 hl);subst ev;exact⟨rfl,G1,IM,Jl,os,IX,IQ,e2,fun vs H2 G2 Jx I0 IP MT=>⟨G2,Jx,IX,σ,l,ds,r,⟨IP,fun v H' G' IV st Ju=>k v H' G' IV (Jg.trans (I0.trans st)) Ju⟩,rfl,hz,IP.vws MT e3,e4⟩⟩
 ·cases e
end
variable{K:W.Frag}{x:Str}{st:Stmt}{N:List Str}
theorem fnok_of{P:Program}{w:World}{mg:Str->Option Value}{base:Heap}{ps:List Str}{k:Nat}{g:FS}{f:Addr}{fd:FuncData}(F:Fun K x x st f fd)(sc:FnScope N ps (defScope st))
  (body:∀(Jm:Value) (A:Around) (outer:List PySem.Env) (s:Shared) (H:Hp) (E:XK),Room k (A.deeper (envOfC x (defScope st) s.heap.objs.size f Jm))->MS (md:=.plain) (xN MP P w K mg base N x (defScope st) f Jm A outer s H E).nox (c9 st) g):
  FnOk P w K mg base MP (k+1) f fd ps (spF K (fBody ps.length (N.length-ps.length) g)):=by
 refine F.ok sc (fun vs H Q E h=>?_) (fun Jm A outer s H vs Q E hr h=>?_)
 ·obtain⟨G,ds,r,_,rs,e,_⟩:=h;unfold fBody at e;split at e
  ·rename_i hl;rw[rs.length,hl]
  ·cases e
 ·obtain⟨G,ds,r,gh,rs,e,q⟩:=h;unfold fBody at e;split at e
  ·rename_i hl;refine⟨_,body Jm A outer s H E hr,G,ds.map (fun d=>some (O.f,d))++List.replicate (N.length-ps.length) none,[],⟨?_,Wu,(fun _ h=>nomatch h),gh⟩,?_⟩
   ·have:=gO (K:=K) (G:=G) (H:=H) (N.length-ps.length) rs;unfold L2.km;rw[rs.length,hl];exact this
   ·obtain⟨o,eo,e⟩:=ar e;rw[eo];cases o with
    |rt r'=>
     cases e;exact fun v H' G' IV st rel=>q v H' G' IV st rel
    |nx env'=>
     cases e;exact fun σ' H' G' IV st rel=>q .non H' G' [] (st.trans (Step.cut fun _ h=>nomatch h)) (rel.nilF.push qT)
    |bk env'=>cases e
    |ct env'=>cases e
  ·cases e
def yG(K:W.Frag):Sp:=fun vs H Q _=>∃(a:Addr) (ns:List Int),vs=[.ref a]/\SqL K H a (ns.map V.int)/\ns.length<=63/\∀H',Q (.bl true) H'
theorem DX{F:List D->Res R}(h:∀ns:List Int,ns.length<=63->∃o,F [.lst (ns.map D.int)]=.ok (o,.bl true)):∀vs H Q E,yG K vs H Q E->spF K F vs H Q E:=by
 rintro vs H Q E ⟨a,ns,rfl,sq,hl,q⟩;obtain⟨o,e⟩:=h ns hl;refine⟨H,_,_,.refl _,?_,e,fun v H' G' IV st rel=>?_⟩
 ·refine .one ?_;rw[Rep];exact⟨a,_,rfl,sq,jr fun n _=>bJ n⟩
 ·rw[dt rel.top];exact q H'
theorem _root_.L2.Room.u65{k:Nat}{A:Around}(r:Room k A):A.units+65<cLine:=by have:=r.un;lia
def Fw(f:FX)(a:FG):FS:=fun env=>(f env).bind fun p=>(a p.1.2 p.2).bind fun e=>.ok (.nx e)
variable{f:FX}{a:FG}{pos:Pos}
theorem DY{tg:Expr}(he:QE X e f)(hg:QG X tg a)(hs:swapsWithSole [tg] e pos.line X.env=pure false:=by rfl)(hw:swappedStores [tg] e X.env=pure none:=by rfl)
  (h1:(assignEach [tg] X.env).map (·.2)=[assign tg X.env]:=by rfl):QS (md:=md) X (.Assign [tg] e pos) (Fw f a):=fM (C3 he hg hs hw h1) fun Dd σ H Jc=>by
 obtain⟨G,env,fp,rel,k⟩:=Jc;unfold Fw at k;match q:f env,k with
 | .ok (r,IM),k=>
  have k:OutOk X.K G H fp Dd ((a r.2 IM).bind fun e=>.ok (.nx e)):=k;match q2:a r.2 IM,k with
  | .ok IX,k=>
   refine⟨G,env,fp,r,IM,rel,q,fun v H1 G1 Jl Jg IQ=>?_⟩;obtain⟨G2,b,rv,IP,I0⟩:=IQ.freeze;exact⟨G2,IM,b,r.2,IX,IP,rv,q2,fun σ' G' IV st Ju=>k σ' H1 G' IV (Jg.trans (I0.trans st)) Ju⟩
theorem walk{l:PySem.W.OpenLaw}{q:Program}{loose:List Str}{XP:(Str->Option Value)->Heap->Prop}{YP:World->Heap->Prop}{d:DefRec}{K:Params->W.Frag}{k:Nat}(hn:l.most=some 63)(Rc:d.params.defaults=[])(hr:Room k PySem.callerA)
  (hY:∀(w:World) (h:Heap),YP w h->(K w.params).In h)
  (F:∀(w:World) (mg:Str->Option Value) (fa:Addr) (h:Heap),(K w.params).In h->h.Ns mainGlobals mg->mg d.name=some (.ref fa)->
   ∃fd:FuncData,(∀(s:Shared) (u:Value),BindsTo s fd ⟨[u],[]⟩ [(x,u)])/\∀base:Heap,(K w.params).In base->base.Ns mainGlobals mg->FnOk l.prog w (K w.params) mg base MP k fa fd [x] (yG (K w.params))):
  PySem.W.WalkO q loose XP YP l.row.toRowW d [] (fun f vs=>PySem.call f vs):=
 L2.Aw (n:=63) (k:=k) (x:=x) (CX:=fun _=>MP) (sp:=fun w=>yG (K w.params)) hn (by decide) Rc hr hY F (fun _ _ a ns hl _ hS=>⟨a,ns,rfl,hS,hl,fun _=>rfl⟩) fun _ _ _ _ _ z=>z
theorem lC:bootBuiltins "max" = some (.builtin "max"):=by decide +kernel
theorem DZ:bootBuiltins "min" = some (.builtin "min"):=by decide +kernel
theorem D1:bootBuiltins "all" = some (.builtin "all"):=by decide +kernel
theorem jt:bootBuiltins "sorted" = some (.builtin "sorted"):=by decide +kernel
theorem D3{h:Heap}{mg:Str->Option Value}{f:Addr}{oc:Value}{od an:Option Addr}{M5:Array (Option Value)}{kV doc pm Jm ct:Value}(X:K.In h)(G:h.Ns mainGlobals mg)
  (a:PySem.W.nsIn K mainGlobals x=some (some (.ref f))) (l:K.lookup f=some ⟨oc,od,.func (PySem.W.fnOf x x (fC st) (c9 st) (defScope st) .none kV doc pm an Jm ct),M5⟩)
  (c:PySem.W.codeIn K Jm x=true) (k:PySem.W.keepIn K (.ref f)=true):Def K mg x st:=⟨f,_,zl l c k,PySem.W.mg_of X G a⟩
inductive tQL(K:W.Frag)(f:FI)(σ:L2.St)(H:Hp)(R:It->Hp->Prop):Prop
 |mk:∀G env fp ds env',Rel K G H env σ fp->f env=.ok (ds,env')->(∀J H' G' IV,Step G H fp G' H' IV->Rel K G' H' env' σ IV->(∀G2,Same G' G2->(∀(i:Nat) (r:PV.R) (v:V),env'[i]?=some (some r)->σ[i]?=some (some v)->Rep K G2 r.2 v)->Walk K G2 J ds)->R J H')->tQL K f σ H R
def PX(X:Cx)(tg e:Expr)(f:FI):Prop:=PI X tg e (tQL X.K f)
theorem Walk.mono{G G2:Hp}{J:It}{ds:List D}(w:Walk K G J ds)(gg:Same G G2):Walk K G2 J ds:=fun G' H' es vs fp g rel=>w G' H' es vs fp (gg.trans g) rel
variable{fi:FI}{c:FT}
theorem zO{ix:List (Option Nat)}{Q:VK}(h:tQ K (cE fi ix a c f) σ H Q):Az (tQL K fi) ix (tQG K a) (tQT K c) (tQ K f) σ H Q:=by
 obtain⟨G,env,fp,r,env',rel,e,k⟩:=h;obtain⟨⟨ds,IM⟩,e1,e⟩:=ar e;obtain⟨rs,e2,e⟩:=ar e;refine⟨G,env,fp,ds,IM,rel,e1,fun J H1 G1 Jl Jg IQ wk D hD=>?_⟩;dsimp only at e e2;split at e
 ·rename_i hz;have er:r=(.l .f,.lst rs):=by cases e;rfl
  have ee:env'=if flatDs rs then IM else IM.map frz:=by cases e;rfl
  subst er;obtain⟨G2,Om,PN,Ld,hrE,K3⟩:=IQ.lend;have wk2:=wk G2 Om Ld;have IP:Rel K G2 H1 (eG ix IM) (mq ix σ) []:=⟨gP Ld (fun i r er=>let⟨v,ev,_⟩:=IQ.view er;⟨v,ev⟩) ix,Wu,(fun _ h=>nomatch h),PN⟩
  obtain⟨Js,Jt⟩:=IP.newL (ds:=[]) (xs:=[]) hD .nil;refine⟨fun i m σ1 H2=>m=ds.length-i/\i<=ds.length/\∃G' es IV acc cN,Step G2 H1 [] G' H2 IV/\Rel K G' H2 (some (.l .f,.lst acc)::es) (some (.ref D)::σ1) IV/\cV a c f (ds.drop i) es=.ok cN/\acc++cN=rs,
   ⟨_,rfl,V0 _,G2,eG ix IM,_,[],rs,Jt,Js,e2,rfl⟩,?_⟩
  rintro i m σ1 H2 ⟨rfl,hi,G3,es,J3,acc,cN,JW,JK,e4,Nv⟩;obtain⟨w1,w2⟩:=wk2 G3 H2 _ _ _ JW.gg JK i;by_cases Jv:i<ds.length
  ·have hd:ds[i]?=some ds[i]:=U9 Jv;obtain⟨go,yl⟩:=w1 _ hd;rw[X7 Jv]at e4;unfold cV at e4;obtain⟨K2,h1,e4⟩:=ar e4;obtain⟨⟨b,RF⟩,h2,e4⟩:=ar e4;dsimp only at e4;refine .inr ⟨go,fun x H3 y=>?_⟩;obtain⟨G4,rx,Ke,K1⟩:=yl x H3 y;obtain⟨fa,fb,UD,ra,relb,bk⟩:=Ke.frame;refine⟨G4,es,fb,ds[i],K2,relb,rx,h1,fun σ2 G5 RG st6 rel6=>?_⟩;refine⟨G5,K2,RG,b,RF,rel6,h2,fun H6 G6 UE st7 RH=>?_⟩;have RI:=st6.trans st7;cases b with
   |false=>
    refine iteF ⟨ds.length-(i+1),by lia,rfl,Jv,?_⟩;obtain⟨Nw,Ou⟩:=bk G6 H6 RF σ2 UE RI RH;rw[<-UD]at Ou;exact⟨G6,RF,_,acc,cN,JW.trans (K1.trans Ou),Nw,e4,Nv⟩
   |true=>
    have e4:((f RF).bind fun q=>(cV a c f (ds.drop (i+1)) q.2).bind fun rs=>.ok (q.1.2::rs))=.ok cN:=e4;obtain⟨⟨r,TJ⟩,h3,e4⟩:=ar e4;obtain⟨RJ,h4,e4⟩:=ar e4;cases e4;refine Fv ⟨G6,RF,UE,r,TJ,RH,h3,fun v H7 G7 fp7 st8 rel8=>?_⟩;obtain⟨G8,fp8,rv,rel9,st9⟩:=rel8.freeze;obtain⟨Nw,Ou⟩:=bk G8 H7 TJ σ2 fp8 (RI.trans (st8.trans st9)) rel9;rw[<-UD]at Ou;obtain⟨p,xs,ep,hp,RE,cg⟩:=Nw.chg (i:=0) (ds:=acc) (ds':=acc++[r.2]) rfl;have ep:some (some (V.ref D))=some (some (V.ref p)):=ep;cases ep;obtain⟨fq,rely,sty⟩:=cg (xs++[v]) (RE.app (.one rv));refine⟨xs,hp,?_,ds.length-(i+1),by lia,rfl,Jv,G8,TJ,fq,acc++[r.2],RJ,JW.trans (K1.trans (Ou.trans sty)),rely,h4,?_⟩
    ·rw[RE.length];have:=WM List.length Nv;rw[VJ,Vm]at this;lia
    ·rw[<-Nv,Wd];rfl
  ·have ei:i=ds.length:=by lia
   subst ei;rw[Zj]at e4;cases e4;rw[VH]at Nv;subst Nv;refine .inl ⟨w2 rfl,?_⟩;obtain⟨fa,relo,sto⟩:=JK.only;obtain⟨k1,k2⟩:=K3 H2 G3 fa _ _ (JW.trans sto) relo;rw[ee]at k;by_cases hc:flatDs acc=true
   ·rw[Vn hc]at k;obtain⟨G5,RG,K1,Ke⟩:=k1 (by rw[aS,nP];exact hc);exact k _ H2 G5 RG (Jg.trans K1) Ke
   ·rw[Vt hc]at k;obtain⟨G5,RG,K1,Ke⟩:=k2;exact k _ H2 G5 RG (Jg.trans K1) Ke
 ·cases e
variable{i:Nat}
section
variable{md:Mode}{scope:Scope}{tg iter elt:Expr}{ifs:List Expr}
variable{l:Expr}{g fj:FI}
theorem cH(h:QI X tg e fi):PX X tg e fi:=k8 h fun σ H R ⟨G,env,fp,ds,env',rel,e,k⟩=>⟨G,env,fp,ds,env',rel,e,fun J H' G' IV st Ju wk=>k J H' G' IV st Ju fun _ gg _=>wk.mono gg⟩
theorem iK(h:PX X tg e fi)(h2:PX X tg e fj):PX X tg e (Kn fi fj):=fun pr s σ H R I Jc=>by
 obtain⟨G,env,fp,ds,env',rel,ee,k⟩:=Jc;rcases zM ee with z|z
 ·exact h pr s σ H R I ⟨G,env,fp,ds,env',rel,z,k⟩
 ·exact h2 pr s σ H R I ⟨G,env,fp,ds,env',rel,z,k⟩
def eX(i:Nat):FI:=fun env=>match env[i]? with
 |some (some (_,.lst ds))=>.ok (ds,env)
 |_=>.bad
theorem fH(h:PE X l (xM i)):PX X tg l (eX i):=k8 (uV h) fun σ H R Jc=>by
 obtain⟨G,env,fp,ds,env',rel,e,k⟩:=Jc;unfold eX at e;split at e
 ·rename_i o ds hr;cases e;obtain⟨v,ev,rv⟩:=rel.view hr;obtain⟨p,xs,UG,sq,rs⟩:=bK rv;refine⟨v,ev,p,UG,⟨xs,sq⟩,k _ H G fp .refl rel fun G2 gg Ld=>?_⟩;obtain⟨p',J8,RK,Kd,KS⟩:=bK (Ld i _ v hr ev);rw[UG]at RK;cases RK;exact pK Kd KS
 ·cases e
theorem bC(ix:List (Option Nat))(N:List Str)(hc:X.calm=true)(hi:PX X tg iter fi)(hg:∀C s H fp pn,QG (cq X scope N C s H fp pn) tg a)(ht:∀C s H fp pn,SE (cq X scope N C s H fp pn) ifs c)(he:∀C s H fp pn,QE (cq X scope N C s H fp pn) elt f)
  (hf:je scope X.env=true:=by rfl) (hk:scope.kind=.function:=by rfl) (JH:∀y∈scope.names,y.2≠.cell:=by decide +kernel) (Km:∀y∈scope.names,y.2=.local->scope.names.lookup y.1=some .local:=by decide +kernel) (Kc:zo X scope N ix=true:=by rfl)
  (hs:∀x,foldedSetIterable iter X.env x=pure x:=by intro _;rfl):QE X (.ListComp elt [⟨tg,iter,ifs,0⟩] scope pos) (cE fi ix a c f):=
 bI (AE (g:=tQG X.K a) (tc:=tQT X.K c) (te:=tQ X.K f) ix N hc hi hg ht he hf hk JH Km Kc hs) fun _ _ _=>zO
theorem oh{y:Str}{py Nl:Pos}(ix:List (Option Nat))(N:List Str)(hN:X.N.Nodup)(Tf:X.N[i]?=some y)(hy:Loc X.env.scope y)(hc:X.calm=true)(hi:PX X tg iter fi)(hg:∀C s H fp pn,QG (cq X scope N C s H fp pn) tg a)(ht:∀C s H fp pn,SE (cq X scope N C s H fp pn) ifs c)
  (he:∀C s H fp pn,QE (cq X scope N C s H fp pn) elt f) (Tg:swapsWith (.ListComp elt [⟨tg,iter,ifs,0⟩] scope pos) (some (.Name y py)) Nl.line X.env=pure true:=by rfl)
  (hf:je scope X.env=true:=by rfl) (hk:scope.kind=.function:=by rfl) (JH:∀y∈scope.names,y.2≠.cell:=by decide +kernel) (Km:∀y∈scope.names,y.2=.local->scope.names.lookup y.1=some .local:=by decide +kernel) (Kc:zo X scope N ix=true:=by rfl)
  (hs:∀x,foldedSetIterable iter X.env x=pure x:=by intro _;rfl) (ML:X.fn y=true\/X.env.scope.names.lookup y=some .local:=by first|exact .inl rfl|exact .inr rfl):
  QS (md:=md) X (.Assign [.Name y py] (.ListComp elt [⟨tg,iter,ifs,0⟩] scope pos) Nl) (bH i (cE fi ix a c f)):=
 fM (AF (i:=i) (g:=tQG X.K a) (tc:=tQT X.K c) (te:=tQ X.K f) ix N hN Tf hy hc hi hg ht he Tg hf hk JH Km Kc hs ML) fun D σ H ⟨G,env,fp,rel,k⟩=>zO (wj rel k)
end
section
variable{a:Expr}
def IK(fa:FO):FX:=fun env=>(fa env).bind fun p=>(JY p.2 p.1).bind fun d=>match d with
 | .int i=>.ok ((.f,.int (-i)),p.2)
 |_=>.bad
def CG(a b:D):Res R:=Gp a b
theorem Bq:JG X (binaryOp .Mult) (rG X.K CG):=DK
end
end PV
namespace HT
variable{prog:Program}{w:World}{A:Around}{E:Value->Shared->Prop}{s:Shared}
theorem ju{t sl:Addr}{items:Array Value}{vl vu:Value}{lo hi:Option Int}{Q:Value->Shared->Prop}(ht:IsTup s.heap t items)(hs:s.heap.IsSliceOf sl vl vu .none)(pl:IsPart vl lo)(pu:IsPart vu hi)
  (hw:sIx items.size 0 lo=0/\sIx items.size items.size hi=items.size) (h:Q (.ref t) s):wpAny (model prog w) A (getItem (.ref t) (.ref sl)) Q E s:=by
 obtain⟨os,N4,Sn,N5⟩:=id hs;have S8:s.TypeIs (.ref sl) "slice":=⟨os,N4,Sn⟩
 unfold getItem;try with_reducible refine WN ?_
 first|refine U8 (Vf ?_)|skip
 refine U8 (wpAny_sequenceKey ht.typeIs (by decide) ?_);refine U8 (Wo (name:=Str.ofString "__getitem__") ht.typeIs WK
  (Xf WK ht.typeIs entry_tuple_getitem ?_ (args_tuple_getitem _ _)))
 show wpAny _ _ (Builtin.Tuple.tupleItemsOf (.ref t) >>= _) _ _ s;refine U8 (tupleItemsOf_ ht ?_);refine U8 (XM S8 ?_);rw[Vn (by decide)];refine U8 (gq hs pl pu ?_);have hyes:(((sIx items.size 0 lo:Nat):Int)==0&&(1:Int)==1&&(sIx items.size items.size hi-sIx items.size 0 lo)==items.size)=true:=by
  rw[hw.1,hw.2];simp
 show wpAny _ _ (if(((sIx items.size 0 lo:Nat):Int)==0&&(1:Int)==1&&(sIx items.size items.size hi-sIx items.size 0 lo)==items.size)=true then _ else _) _ _ s;rw[Vn hyes];refine U8 (m:=Builtin.Tuple.tupleIsExact _) ?_;unfold Builtin.Tuple.tupleIsExact;refine U8 (XM ht.typeIs (Vf ?_));rw[Vn (by decide)];exact U8 (ZK (Vf ⟨_,rfl,Vf h⟩))
end HT
namespace PV
section
variable{X:Cx}{pos:Pos}{fa:FO}
theorem Br:Pu X (fun x lo hi H Q=>∃a xs,x=.ref a/\SqT X.K H a xs/\(HT.sIx xs.length 0 lo=0/\HT.sIx xs.length xs.length hi=xs.length)/\Q x H):=by
 intro pr s σ H x v vl vu lo hi sl Q I rx hs pl pu h;obtain⟨a,xs,rfl,hx,hw,q⟩:=h;cases rx;obtain⟨IS,r,ht,hz⟩:=I.tuple hx;have hlen:IS.toArray.size=xs.length:=by rw[Vh];exact r.length.symm
 refine⟨"tuple",_,PyProof.Rows.slot_tuple_getitem.lookup,ht.typeIs,?_⟩;exact HT.ju ht hs pl pu (by rw[hlen];exact hw) ⟨.ref a,H,I,rfl,q⟩
def RL(k:D)(lo hi:Option Int):Res R:=match k with
 | .tup ds=>if HT.sIx ds.length 0 lo=0/\HT.sIx ds.length ds.length hi=ds.length then .ok (.f,.tup ds) else RC k lo hi
 |_=>RC k lo hi
def Bs(fa:FO)(lo hi:FP):FX:=fun env=>(fa env).bind fun p=>(lo p.2).bind fun q=>(hi q.2).bind fun t=>(JY t.2 p.1).bind fun d=>(RL d q.1 t.1).bind fun r=>.ok (r,t.2)
inductive rSlW(K:W.Frag)(x:V)(lo:Option Int)(hi:Option Int)(H:Hp)(Q:VK):Prop
 |mk:∀G fp es vs d r,Goes K H G fp es vs r Q->Vw K G H d x->RL d lo hi=.ok r->rSlW K x lo hi H Q
theorem D4:Pu X (rSlW X.K):=by
 rintro pr s σ H x v vl vu lo hi sl Q I rx hs pl pu ⟨G,fp,es,vs,d,r,⟨rel,k⟩,vd,e⟩;unfold RL at e;split at e
 ·rename_i ds;split at e
  ·rename_i hw;cases e;obtain⟨p,xs,ev,sq,rs⟩:=iI vd;subst ev;refine Br pr s σ H _ v vl vu lo hi sl Q I rx hs pl pu ⟨p,xs,rfl,bW rel.gh sq,by rw[rs.length];exact hw,?_⟩;exact k _ H G fp .refl (rel.push vd)
  ·exact DM pr s σ H x v vl vu lo hi sl Q I rx hs pl pu ⟨G,fp,es,vs,_,r,⟨rel,k⟩,vd,e⟩
 ·exact DM pr s σ H x v vl vu lo hi sl Q I rx hs pl pu ⟨G,fp,es,vs,_,r,⟨rel,k⟩,vd,e⟩
theorem pR{e:Expr}{lo hi:Option Expr}{p2:Pos}{fl fh:FP}(he:QO X e fa)(hl:QP X lo fl)(hh:QP X hi fh):QE X (.Subscript e (.Slice lo hi none p2) pos) (Bs fa fl fh):=
 bI (ya D4 he hl hh) fun σ H Q Jc=>by
  obtain⟨G,env,fp,r,env',rel,e,k⟩:=Jc;obtain⟨⟨o,IM⟩,e1,e⟩:=ar e;obtain⟨⟨i,IX⟩,e2,e⟩:=ar e;obtain⟨⟨j,JA⟩,e3,e⟩:=ar e;obtain⟨d,e4,e⟩:=ar e;obtain⟨r',e5,e⟩:=ar e;cases e;exact⟨G,env,fp,o,IM,rel,e1,fun v H1 G1 Jl Jg IQ J4=>⟨G1,IM,Jl,i,IX,IQ,e2,fun H2 G2 Jx I0 IP=>⟨G2,IX,Jx,j,JA,IP,e3,fun H3 G3 J3 Jt Js=>
   ⟨G3,J3,JA,σ,d,r,⟨Js,fun v H' G' IV st Ju=>k v H' G' IV (Jg.trans (I0.trans (Jt.trans st))) Ju⟩,Js.vw ((J4.mono I0.gg).mono Jt.gg) e4,e5⟩⟩⟩⟩
end
end PV
namespace L2
section
variable{X:Cx}{tg:Expr}
def wF(i j c:Int):Prop:=(-1048576<=i/\i<=1048576)/\(-1048576<=j/\j<=1048576)/\(c = -1\/1<=c)/\c<=1048576
instance (i j c:Int):Decidable (wF i j c):=by unfold wF;infer_instance
end
end L2
namespace PV
section
variable{X:Cx}{tg:Expr}
def Fx:List D->Res R
 |[d]=>match(pM d).bind dY with
  |some (n::ns)=>.ok (.f,.int (AG (n::ns)))
  |_=>.bad
 |[.int i,.int j]=>.ok (.f,.int (if j<i then j else i))
 |_=>.bad
theorem D5(hc:X.calm=true):dX X (.builtin "min") (rC X.K Fx):=by
 rintro pr s σ H xs us Q I rx ⟨G,fp,es,vs,ds,r,⟨rel,k⟩,vd,e⟩;unfold Fx at e;split at e
 ·rename_i d;split at e
  ·rename_i n ns hb;cases e;obtain⟨v,ev,vt⟩:=nU vd;obtain⟨p,ep,sq⟩:=lg rel.gh hb vt;subst ev;subst ep;exact vI hc pr s σ H _ us Q I rx ⟨p,n::ns,rfl,sq,by simp,k _ H G fp .refl (rel.push (bJ _))⟩
  ·cases e
 ·rename_i i j;cases e;obtain⟨v,w',ev,v1,v2⟩:=Hv vd;subst ev;cases bV v1;cases bV v2;exact vh hc pr s σ H _ us Q I rx ⟨i,j,rfl,k _ H G fp .refl (rel.push (bJ _))⟩
 ·cases e
def IL:List D->Res R
 |[.int i]=>.ok (.f,.int (if i<0 then -i else i))
 |_=>.bad
noncomputable def Gy(fs:FOs):FI:=fun env=>(fs env).bind fun p=>(pJ p.2 p.1).bind fun d=>match d with
 |[.int i,.int j,.int c]=>if wF i j c then .ok ((List.range (Builtin.Range.rangeSize i j c).toNat).map fun(k:Nat)=>D.int (i+(k:Int)*c),p.2) else .bad
 |_=>.bad
end
end PV
namespace NX
section
open PySem.SeqAt
open PySem.AutoSeq1 (wpAny_loadPart')
theorem lD{M:Model}{A:Around}{E:Value->Shared->Prop}{s:Shared}{β:Type}(f:Nat->β->Sem (ForInStep β))(n:Nat)(I:Nat->β->Shared->Prop)(Q:β->Shared->Prop)
  (turn:∀(i:Nat) (b:β) (s:Shared),i<n->I i b s->wpAny M A (f i b) (fun r s'=>match r with | .yield b'=>I (i+1) b' s' | .done b'=>Q b' s') E s)
  (fin:∀(b:β) (s:Shared),I n b s->Q b s) (b:β) (h:I 0 b s):wpAny M A (forIn [0:n] b f) Q E s:=by
 rw[Std.Legacy.Range.forIn_eq_forIn_range'];refine Yz f (fun cN b s=>∃i,i<=n/\cN=List.range' i (n-i)/\I i b s) Q ?_ ?_ _ b ?_
 ·rintro x cN b s ⟨i,hi,hr,h⟩;by_cases JO:i<n
  ·have e:n-i=(n-(i+1))+1:=by lia
   rw[e,List.range'_succ]at hr;injection hr with h1 h2;subst h1;refine Ji (turn x b s JO h) fun r s' UH=>?_
   cases r with
   |yield b'=>exact⟨x+1,by lia,h2,UH⟩
   |done b'=>exact UH
  ·have e:n-i=0:=by lia
   rw[e]at hr;cases hr
 ·rintro b s ⟨i,hi,hr,h⟩;by_cases JO:i<n
  ·have e:n-i=(n-(i+1))+1:=by lia
   rw[e,List.range'_succ]at hr;cases hr
  ·have e:i=n:=by lia
   subst e;exact fin b s h
 ·refine⟨0,V0 _,?_,h⟩;simp[Std.Legacy.Range.size]
theorem ku(l:Addr)(items:Array Value)(n:Nat)(dd:Option Addr)(sl:Array (Option Value))(ns:List Str)(c:Str)(t:Tok)(hi:Vals (ns.map V.str) items.toList)(i:Nat)(hx:ns[i]?=some c)(h0:∀j,j<i->ns[j]?≠some c):
  Meets (Builtin.«tuple.index» ⟨[.ref l,.str c t],[]⟩)
   (fun _ R s=>s.heap.get? l=some {cls:=.type "tuple",dict:=dd,data:=.seq items n,slots:=sl}/\R (.ok (.ret (.int (i:Int) s.toks))) {s with toks:=s.toks+1}):=
 .of_wp fun prog w A R s h=>by
  obtain⟨hp,g,d,tk,os⟩:=s;obtain⟨hl,h⟩:=h;have z1:items.size=ns.length:=by have:=hi.length;simp at this;lia
  have JO:i<ns.length:=(Vk.mp hx).1;have key:∀(j:Nat),j<ns.length->∃(b:Str) (u:Tok),items[j]?=some (.str b u)/\ns[j]?=some b:=by
   intro j hj;obtain⟨v,hv,hr⟩:=hi.get (i:=j) (x:=V.str ns[j]) (by simp[hj]);obtain⟨u,rfl⟩:=hr;exact⟨ns[j],u,by rw[<-Yw];exact hv,by simp[hj]⟩
  wp_walk using wpAny_loadPart' hl,lD _ _ (fun j b s'=>b.1=none/\s'=⟨hp,g,d,tk,os⟩/\j<=i) _
  case turn=>
   rintro j ⟨b1,b2⟩ s' hj ⟨hb,rfl,UI⟩;simp only at hb;subst hb;obtain⟨b,u,e1,e2⟩:=key j (by lia);have he:EqAt A.in1 ⟨hp,g,d,tk,os⟩ (.str b u) (.str c t) (b==c):=EqAt.str_str b u c t;by_cases NW:b=c
   ·have hji2:j=i:=by
     rcases Nat.lt_or_ge j i with Jv|hge
     ·exact absurd (by rw[e2,NW]) (h0 j Jv)
     ·lia
    subst hji2 NW;rw[e1];refine U8 (he prog w _ _ ?_);rw[show(b==b)=true from V6 b]
    wp_walk
    exact⟨_,rfl,h⟩
   ·rw[e1];refine U8 (he prog w _ _ ?_);rw[show(b==c)=false from Wf.mpr NW]
    wp_walk
    refine⟨rfl,rfl,?_⟩;rcases Nat.lt_or_ge j i with Jv|hge
    ·exact Jv
    ·have:j=i:=by lia
     subst this;rw[e2]at hx;cases hx;exact absurd rfl NW
  case fin=>
   rintro⟨b1,b2⟩ s' ⟨hb,rfl,UI⟩;rw[Nat.min_self]at UI;lia
  case h=>exact⟨rfl,rfl,V0 _⟩
end
end NX
namespace L2
section
variable{X:Cx}{o e:Expr}{es:List Expr}{to:TE}{t:TA}{name:Str}{apos Jj:Pos}{id:String}{r:V->List V->Hp->VK->Prop}
def Ip(K:W.Frag)(r:V->List V->Hp->VK->Prop)(to:TE)(t:TA):TE:=fun σ H Q=>to σ H fun x H1=>(∃p ys,x=.ref p/\SqT K H1 p ys)/\t σ H1 fun xs H2=>r x xs H2 Q
theorem D6(slot:Slot "tuple" name id)(N6:typeOf (.builtin id)=pure (.type "method_descriptor"))(hm:O8 X id r)(ho:PE X o to)(ha:PA X (e::es) t)
  (JZ:attributeBase o name X.env (eval o X.env)=eval o X.env:=by rfl)
  (KR:((backTo Jj (starEach (e::es) X.env)).all (fun x=>!x.1)&&(backToKw Jj (keywordEach [] X.env)).all (fun x=>x.1.isSome)
   && decide ((e::es).length+([]:List Keyword).length+(if([]:List Keyword).isEmpty then 0 else 1)<30))=true:=by rfl)
  (J0:(apos.endLine==Jj.line)=true:=by rfl) (hs:starEach (e::es) X.env=(false,eval e X.env)::starEach es X.env:=by rfl) (JI:(backTo Jj (starEach es X.env)).any (·.1)=false:=by rfl):
  PE X (.Call (.Attribute o name apos) (e::es) [] Jj) (Ip X.K r to t):=by
 intro pr s σ H Q I h;refine wpAny_Call_method_late JZ KR J0 rfl (Ji (ho pr s σ H _ I h) fun v s1 Jk=>?_);obtain⟨x,H1,I1,r1,⟨p,ys,ex,sq⟩,q1⟩:=Jk;subst ex;cases r1;obtain⟨IS,_,⟨ob,ho,hc,⟨n,hd⟩,hn⟩,_⟩:=I1.tupleN sq;refine⟨"tuple",id,PySem.F.plainAttrs_tuple,slot,N6,⟨ob,ho,hc⟩,fun a e2=>?_,?_⟩
 ·cases e2;exact⟨ob,ho,hn⟩
 have hA:=ha Jj pr s1 σ H1 _ I1 q1;rw[hs]at hA ⊢;refine XH (by show(false||(backTo Jj (starEach es X.env)).any (·.1))=false;rw[JI] <;> rfl) (X0 ?_);exact Ji hA fun us s2 ⟨vs,H2,I2,r2,q2⟩=>hm pr s2 σ H2 (.ref p) vs _ us Q I2 rfl r2 q2
end
end L2
namespace PV
section
variable{X:Cx}
noncomputable def D7(g:List D->List D->Res R)(fa:FO)(fs:FOs):FX:=fun env=>(fa env).bind fun p=>(JY p.2 p.1).bind fun a=>match a with
 | .tup _=>(fs p.2).bind fun q=>(JY q.2 p.1).bind fun a2=>match a2 with
  | .tup l=>(pJ q.2 q.1).bind fun ds=>(g l ds).bind fun r=>.ok (r,q.2)
  |_=>.bad
 |_=>.bad
inductive rMtT(K:W.Frag)(g:List D->List D->Res R)(x:V)(xs:List V)(H:Hp)(Q:VK):Prop
 |mk:∀G fp es vs l ds r,Goes K H G fp es vs r Q->Vw K G H (.tup l) x->Ph K G H ds xs->g l ds=.ok r->rMtT K g x xs H Q
theorem wG{g:List D->List D->Res R}{id:String}{name:Str}{o e:Expr}{es:List Expr}{fa:FO}{fs:FOs}{apos Jj:Pos}(slot:Slot "tuple" name id)(N6:typeOf (.builtin id)=pure (.type "method_descriptor"))(hm:O8 X id (rMtT X.K g))(ho:QO X o fa)(ha:Ma X (e::es) fs)
  (JZ:attributeBase o name X.env (eval o X.env)=eval o X.env:=by rfl)
  (KR:((backTo Jj (starEach (e::es) X.env)).all (fun x=>!x.1)&&(backToKw Jj (keywordEach [] X.env)).all (fun x=>x.1.isSome)&&decide ((e::es).length+([]:List Keyword).length+(if([]:List Keyword).isEmpty then 0 else 1)<30))=true:=by rfl)
  (J0:(apos.endLine==Jj.line)=true:=by rfl) (hs:starEach (e::es) X.env=(false,eval e X.env)::starEach es X.env:=by rfl) (JI:(backTo Jj (starEach es X.env)).any (·.1)=false:=by rfl):
  QE X (.Call (.Attribute o name apos) (e::es) [] Jj) (D7 g fa fs):=by
 refine bI (D6 slot N6 hm ho ha JZ KR J0 hs JI) fun σ H Q Jk=>?_
 obtain⟨G,env,fp,r,env',rel,e,k⟩:=Jk;obtain⟨⟨oa,IM⟩,e1,e⟩:=ar e;obtain⟨da,Ol,e⟩:=ar e;dsimp only at e;split at e
 ·obtain⟨⟨os,IX⟩,e2,e⟩:=ar e;obtain⟨d2,hd2,e⟩:=ar e;dsimp only at e;split at e
  ·obtain⟨ds,e3,e⟩:=ar e;obtain⟨r',e4,e⟩:=ar e;cases e;refine⟨G,env,fp,oa,IM,rel,e1,fun v H1 G1 Jl Jg IQ J4=>?_⟩;obtain⟨p,xs,ev,sq,_⟩:=bD (Vw.rep IQ.gh (IQ.vw J4 Ol));exact⟨⟨p,xs,ev,sq⟩,G1,IM,Jl,os,_,IQ,e2,fun vs H2 G2 Jx I0 IP MT=>⟨G2,Jx,_,σ,_,ds,r,⟨IP,fun v H' G' IV st Ju=>k v H' G' IV (Jg.trans (I0.trans st)) Ju⟩,IP.vw (J4.mono I0.gg) hd2,IP.vws MT e3,e4⟩⟩
  ·cases e
 ·cases e
def pS(l:List D):List D->Res R
 |[.str c]=>match gw l with
  |some bs=>if c∈bs then .ok (.f,.int (bs.idxOf c:Nat)) else .bad
  |none=>.bad
 |_=>.bad
theorem D8{a b:List Nat}(h:S a=S b):a=b:=by
 have:=WM (fun s:Str=>s.cps.toList) h;simpa only[eZ] using this
theorem sO:∀(bs:List (List Nat)) (c:List Nat) (j:Nat),bs[j]?=some c->bs.idxOf c<=j
 |[],c,j,h=>by simp at h
 |b::bs,c,0,h=>by
  simp at h;subst h;simp[List.idxOf_cons]
 |b::bs,c,j+1,h=>by
  rw[Yk]at h;have:=sO bs c j h;rw[List.idxOf_cons];cases b==c with
  |true=>exact V0 _
  |false=>exact Nat.succ_le_succ this
theorem iU:O8 X "tuple.index" (rMtT X.K pS):=by
 rintro pr s σ H x xs v us Q I rx rv ⟨G,fp,es,vs,l,ds,r,⟨rel,k⟩,vx,vd,e⟩;unfold pS at e;split at e
 ·rename_i c;split at e
  ·rename_i bs hb;split at e
   ·rename_i hc;cases e;obtain⟨p,ys,ev,sq,rs⟩:=bD (Vw.rep rel.gh vx);obtain⟨hy,_⟩:=iT hb rs;subst ev;cases rx;obtain⟨w',ew,vc⟩:=nU vd;obtain⟨ev,_⟩:=jk vc;subst ew;subst ev;obtain⟨u,rfl,t',rfl⟩:=fV rv;obtain⟨IS,vl,⟨ob,h1,h2,⟨n,h3⟩,h4⟩,_⟩:=I.tupleN sq;subst hy;obtain⟨cls,dict,data,slots⟩:=ob;dsimp only at h2 h3 h4;subst h2 h3 h4;have Jv:=WG hc;refine PySem.call_meets Xv ⟨_,h1,rfl⟩ PySem.F.entry_tuple_index (PySem.F.args_tuple_index_2 _ _) (ku p IS.toArray n _ _ (bs.map S) (S c) t' (by rw[VU];exact vl) (bs.idxOf c) ?_ ?_) ⟨h1,⟨.int (bs.idxOf c:Nat),H,I.tok _,⟨_,rfl⟩,k _ H G fp .refl (rel.push (bJ _))⟩⟩
    ·rw[Vs,U9 Jv,List.getElem_idxOf Jv];rfl
    ·intro j hj he;rw[Vs,U9 (by lia)]at he;have he:=D8 (VQ he);have:=sO bs c j (by rw[U9 (by lia),he]);lia
   ·cases e
  ·cases e
 ·cases e
def cU(a b:D):Res R:=match a,b with
 | .tup [],.tup l=>.ok (.f,.tup l)
 |a,b=>addD a b
theorem aP:JG X (binaryOp .Add) (rG X.K cU):=by
 rintro pr s σ H x y v u Q I rx ry ⟨G,fp,es,vs,a,b,r,⟨rel,k⟩,va,vb,e⟩;unfold cU at e;split at e
 ·rename_i l;cases e;obtain⟨p,xs,e1,h1,r1⟩:=iI va;obtain⟨p2,QR,e2,h2,r2⟩:=iI vb;subst e1;subst e2;cases rx;cases ry;have hx:xs=[]:=Wg (by rw[r1.length];rfl);subst hx;obtain⟨IS,v1,⟨⟨cls,dd,data,sl⟩,ho,hc,n,hd⟩,_⟩:=I.tuple (bW rel.gh h1);obtain⟨Ni,v2,⟨⟨Q9,QK,data2,QL⟩,KG,My,n2,hd2⟩,_⟩:=I.tuple (bW rel.gh h2);dsimp only at hc hd My hd2;subst hc hd My hd2;cases v1;exact Zs ⟨_,ho,rfl⟩ ⟨_,KG,rfl⟩ Zg Z2 Yo Yg (Yc _ _) (tuple_addW0 p p2 _ _ n n2 dd QK sl QL rfl) ⟨ho,KG,⟨.ref p2,H,I,rfl,k _ H G fp .refl (rel.push vb)⟩⟩
 ·exact DJ pr s σ H _ _ v u Q I rx ry ⟨G,fp,es,vs,a,b,r,⟨rel,k⟩,va,vb,e⟩
def uA(fs:FOs):FI:=Kn (uy true true fs) (Kn (uy true false fs) (Kn (uy false true fs) (uy false false fs)))
theorem qY{MU:List Expr}{kt:Nat}{pt:Pos}{e1 e2:Expr}{fs:FOs}{p pos:Pos}(hg:Gl X "zip")(hm:X.mg "zip" = none)(ha:Ma X [e1,e2] fs)(he:starEach [e1,e2] X.env=(false,eval e1 X.env)::starEach [e2] X.env:=by rfl)(JS:(backTo pos (starEach [e2] X.env)).any (·.1)=false:=by rfl):
  QI X (.Tuple MU kt pt) (.Call (.Name "zip" p) [e1,e2] [] pos) (uA fs):=yF (sr true true hg hm ha he JS) (yF (sr true false hg hm ha he JS) (yF (sr false true hg hm ha he JS) (sr false false hg hm ha he JS)))
end
end PV
namespace NX
section
open PySem.AutoSeq1 (wpAny_loadPart')
end
end NX
namespace PV
variable{md:Mode}{X:Cx}{pos:Pos}
section
def oS(a b:D):Res R:=CG a b
theorem gQ:JG X (binaryOp .Mult) (rG X.K oS):=Bq
def Gz(td ty tv:TE):TS:=fun Dd σ H=>tv σ H fun v H1=>td σ H1 fun x H2=>ty σ H2 fun y H3=>Dn x y v H3 fun H4=>Dd.nx σ H4
theorem Bt{o i value:Expr}{td ty tv:TE}{pos':Pos}(ho:PE X o td)(hi:PE X i ty)(hv:PE X value tv)(hs:swapsWith value (some (.Subscript o i pos')) pos.line X.env=pure false):
  PS X (.Assign [.Subscript o i pos'] value pos) (Gz td ty tv):=by
 intro pr s σ H Dd I h;refine wpAny_Assign_Subscript (Ji (hv pr s σ H _ I h) fun r s1 ⟨v,H1,I1,rv,q1⟩=>Ji (ho pr s1 σ H1 _ I1 q1) fun u s2 ⟨x,H2,I2,rx,q2⟩=>Ji (hi pr s2 σ H2 _ I2 q2) fun iv s3 ⟨y,H3,I3,ry,q3⟩=>?_) hs;exact Ji (yb pr s3 σ H3 x y v u iv r _ I3 rx ry rv q3) fun _ s4 ⟨H4,I4,q4⟩=>⟨σ,H4,I4,q4⟩
noncomputable def wH(i:Nat)(fk fv:FX):FS:=fun env=>(fv env).bind fun p=>(fk p.2).bind fun q=>match p.2[i]?,q.2[i]? with
 |some (some _),some (some (.l .f,.lst ds))=>(match q.1.2 with
  | .int k=>(match ixN ds.length k with
   |some j=>.ok (.nx (q.2.set i (some (.l .f,.lst (ds.set j p.1.2)))))
   |none=>.bad)
  |_=>.bad)
 |_,_=>.bad
theorem wI{i:Nat}{o ix value:Expr}{fk fv:FX}{pos':Pos}(ho:PE X o (xM i))(hi:QE X ix fk)(hv:QE X value fv)(hs:swapsWith value (some (.Subscript o ix pos')) pos.line X.env=pure false:=by rfl):
  QS (md:=md) X (.Assign [.Subscript o ix pos'] value pos) (wH i fk fv):=fM (Bt ho hi hv hs) fun Dd σ H Jc=>by
 obtain⟨G,env,fp,rel,k⟩:=Jc;unfold wH at k;match q1:fv env,k with
 | .ok (r1,IM),k=>
  have k:OutOk X.K G H fp Dd ((fk IM).bind fun q=>match IM[i]?,q.2[i]? with
   |some (some _),some (some (.l .f,.lst ds))=>(match q.1.2 with
    | .int k=>(match ixN ds.length k with
     |some j=>.ok (.nx (q.2.set i (some (.l .f,.lst (ds.set j r1.2)))))
     |none=>.bad)
    |_=>.bad)
   |_,_=>.bad):=k
  match q2:fk IM,k with
  | .ok (r2,IX),k=>
   have k:OutOk X.K G H fp Dd (match IM[i]?,IX[i]? with
    |some (some _),some (some (.l .f,.lst ds))=>(match r2.2 with
     | .int k=>(match ixN ds.length k with
      |some j=>.ok (.nx (IX.set i (some (.l .f,.lst (ds.set j r1.2)))))
      |none=>.bad)
     |_=>.bad)
    |_,_=>.bad):=k
   split at k
   ·rename_i rr ds h1 h2;split at k
    ·rename_i kk Nm;split at k
     ·rename_i j hj;refine⟨G,env,fp,r1,IM,rel,q1,fun y H1 G1 Jl Jg IQ=>?_⟩;obtain⟨G2,b,ry,IP,I0⟩:=IQ.freeze;obtain⟨v0,QU,_⟩:=IP.view h1;refine⟨v0,QU,G2,IM,b,r2,IX,IP,q2,fun z H3 G3 J3 Jt Js=>?_⟩;obtain⟨G4,b4,rz,JK,JW⟩:=Js.freeze;have SG:Rep X.K G4 r1.2 y:=Rep.mono (Jt.gg.trans JW.gg) ry;obtain⟨p,xs,ep,hp,rs,cg⟩:=JK.chg (ds':=ds.set j r1.2) h2;rw[QU]at ep;cases ep;rw[Nm]at rz;have hz:=bM rz;obtain⟨fq,Ke,K1⟩:=cg _ (rs.set j SG);exact⟨p,xs,kk,j,rfl,hz,hp,by rw[rs.length];exact hj,k _ _ G4 fq (Jg.trans (I0.trans (Jt.trans (JW.trans K1)))) Ke⟩
     ·exact k.elim
    ·exact k.elim
   ·exact k.elim
end
variable{K:W.Frag}{G H:Hp}{es:PV.Env}{vs:L2.St}{fp:List Addr}{p:Addr}{u:HO}{tk:Bool}{xs:List V}
section
theorem Rel.own{ks ws:List D}(q:Rel K G H es vs fp)(np:p∉fp)(gp:G p=none)(h:DictO u tk ks xs)(rs:Reps K G ws xs):
  Rel K G (upd H p u) (some (.d,.dct tk ks ws)::es) (some (.ref p)::vs) (p::fp):=by
 refine⟨⟨some (.ref p),vs,rfl,.ref p,[p],fp,rfl,rfl,?_,q.rep.step (.refl _) fun z hz=>aF fun e=>np (e▸hz)⟩,VN.mpr ⟨np,q.nd⟩,fun z hz=>?_,fun b o e=>?_⟩
 ·rw[RepO];exact⟨p,xs,u,rfl,bc,h,rfl,rs⟩
 ·rcases Vo.mp hz with rfl|hz
  ·exact gp
  ·exact q.gn z hz
 ·rw[aF fun z=>by subst z;rw[gp]at e;cases e];exact q.gh b o e
theorem Rel.aside(q:Rel K G H es vs fp)(hp:H p=none):Rel K G (upd H p u) es vs fp:=by
 have np:p∉fp:=fun z=>by
  obtain⟨u,e⟩:=q.rep.live p z;rw[hp]at e;cases e
 exact⟨q.rep.step (.refl _) fun z hz=>aF fun e=>np (e▸hz),q.nd,q.gn,fun b o e=>by rw[aF (bq (q.gh b o e) hp)];exact q.gh b o e⟩
theorem Step.aside{G2 H2:Hp}{Jx:List Addr}{u2:HO}(q:Rel K G H es vs fp)(hp:H p=none)(hu:isT u=false)(st:Step G (upd H p u) fp G2 H2 Jx):
  Step G H fp G2 (upd H2 p u2) (p::Jx)/\p∉Jx/\G2 p=none/\H2 p=some u:=by
 have np:p∉fp:=fun z=>by
  obtain⟨u,e⟩:=q.rep.live p z;rw[hp]at e;cases e
 have ne:∀{b o},H b=some o->b≠p:=fun e=>bq e hp
 refine⟨⟨st.gg,fun b o e nb=>?_,fun b hb=>?_,fun b o e=>?_,fun b o e=>?_⟩,fun z=>?_,?_,st.keep p u bc np⟩
 ·rw[aF (ne e)];exact st.keep b o (by rw[aF (ne e)];exact e) nb
 ·rcases Vo.mp hb with rfl|hb
  ·exact .inr hp
  ·rcases st.fpn b hb with h|h
   ·exact .inl h
   ·by_cases e:b=p
    ·subst e;exact .inr hp
    ·rw[aF e]at h;exact .inr h
 ·rcases st.gnew b o e with h|h|h|⟨h1,h2⟩
  ·exact .inl h
  ·exact .inr (.inl h)
  ·by_cases e:b=p
   ·subst e;exact .inr (.inr (.inl hp))
   ·rw[aF e]at h;exact .inr (.inr (.inl h))
  ·by_cases e:b=p
   ·subst e;exact .inr (.inr (.inl hp))
   ·rw[aF e]at h2;exact .inr (.inr (.inr ⟨h1,h2⟩))
 ·obtain⟨o',h⟩:=st.there b o (by rw[aF (ne e)];exact e);exact⟨o',by rw[aF (ne e)];exact h⟩
 ·rcases st.fpn p z with h|h
  ·exact np h
  ·rw[bc]at h;cases h
 ·cases e:G2 p with
  |none=>rfl
  |some o=>
   rcases st.gnew p o e with h|h|h|⟨h1,h2⟩
   ·have:=q.gh p o h;rw[hp]at this;cases this
   ·exact absurd h np
   ·rw[bc]at h;cases h
   ·rw[bc]at h2;cases h2;rw[hu]at h1;cases h1
def wJ(fk fv:FX):FX:=fun env=>(fk env).bind fun p=>(fv p.2).bind fun q=>if dO false p.1.2 then .ok ((.d,.dct false [p.1.2] [q.1.2]),q.2) else .bad
theorem yH{k v:Expr}{fk fv:FX}(hk:QE X k fk)(hv:QE X v fv):QE X (.Dict [some k] [v] pos) (wJ fk fv):=
 bI (AW (yn hk hv AV) rfl rfl (List.cons_ne_nil _ _) (show 1<=15 by decide)) fun σ H Q Jc p hp=>by
  obtain⟨G,env,fp,r,env',rel,e,kk⟩:=Jc;obtain⟨⟨r1,IM⟩,e1,e⟩:=ar e;obtain⟨⟨r2,IX⟩,e2,e⟩:=ar e;dsimp only at e;split at e
  ·rename_i KA;cases e;refine⟨G,env,fp,r1,IM,rel.aside hp,e1,fun x H1 G1 Jl Jg IQ=>?_⟩;obtain⟨G2,b,rx,IP,I0⟩:=IQ.freeze;refine⟨G2,IM,b,r2,_,IP,e2,fun y H3 G3 J3 Jt Js=>?_⟩;obtain⟨G4,b4,ry,JK,JW⟩:=Js.freeze;have UJ:Rep X.K G4 r1.2 x:=Rep.mono (Jt.gg.trans JW.gg) rx;unfold dO at KA;rw[Vt Vg,Wb]at KA;obtain⟨kd,Ri⟩:=KA;obtain⟨ex,dx⟩:=iy Ri UJ;obtain⟨st,np,gp,Ro⟩:=Step.aside (u2:=.dK [(kd,y)]) rel hp rfl (Jg.trans (I0.trans (Jt.trans JW)));refine⟨Ro,[(kd,y)],by rw[ex];rfl,(show 1<=15 by decide),?_⟩;exact kk _ _ G4 _ st (JK.own np gp ⟨[(kd,y)],rfl,by rw[dx];rfl,rfl,fun kv LB=>by rw[Vx.mp LB];exact wB Ri UJ⟩ (.one ry))
  ·cases e
def getD(ks vs:List D)(k:D):Option D:=((ks.zip vs).find? fun p=>IU k p.1).map (·.2)
theorem lE{κ:Type}[DecidableEq κ]{K:W.Frag}{G:Hp}(f:κ->D)(hf:∀a b,IU (f a) (f b)=decide (a=b)){k:κ}:∀{kvs:List (κ×V)}{vs:List D},Reps K G vs (kvs.map (·.2))->((getD (kvs.map fun kv=>f kv.1) vs (f k)).isSome=(px kvs k).isSome)/\∀d,getD (kvs.map fun kv=>f kv.1) vs (f k)=some d->∃v,px kvs k=some v/\Rep K G d v
 |[],vs,r=>⟨rfl,fun d h=>nomatch h⟩
 |kv::kvs,vs,r=>by
  cases vs with
  |nil=>have:=r.length;simp at this
  |cons d0 vs=>
   rw[Vz,Reps.cons_iff]at r;obtain⟨h1,h2⟩:=lE f hf (k:=k) r.2;unfold getD px at h1 h2 ⊢;rw[Vz,XJ];have e:IU (f k) (f kv.1)=decide (kv.1=k):=by
    rw[hf,VT,Vq,Vq];exact⟨fun z=>z.symm,fun z=>z.symm⟩
   by_cases hk:kv.1=k
   ·rw[WI (by show IU (f k) (f kv.1)=true;rw[e];exact VB hk),WI (by exact VB hk)];refine⟨rfl,fun d h=>?_⟩;cases h;exact⟨_,rfl,r.1⟩
   ·rw[WJ (by show ¬ IU (f k) (f kv.1)=true;rw[e];simpa using hk),WJ (by simpa using hk)];exact⟨h1,h2⟩
theorem qZ(gh:Same G H){ks vs:List D}{o:HO}{b:D}{y:V}(rd:Rd H p o)(dd:DictO o tk ks xs)(rs:Reps K G vs xs)(hk:dO tk b=true)(ry:Rep K G b y):
  ∃ov,DGet H p y ov/\(getD ks vs b).isSome=ov.isSome/\∀d,getD ks vs b=some d->∃v,ov=some v/\Rep K G d v:=by
 unfold dO at hk;cases tk with
 |true=>
  rw[Vn rfl,Wb]at hk;obtain⟨kk,hk⟩:=hk;obtain⟨pz,ez,gz,dz⟩:=eK hk ry;obtain⟨kvs,eo,ek,ex,_⟩:=dd;subst eo ex ez dz;have ek:ks=kvs.map fun kv=>kT kv.1:=ek
  obtain⟨h1,h2⟩:=lE (K:=K) (G:=G) kT sL (k:=kk) rs;rw[<-ek]at h1 h2;exact⟨px kvs kk,.inr ⟨kvs,kk,pz,rd,rfl,gh _ _ gz,rfl⟩,h1,h2⟩
 |false=>
  rw[Vt Vg,Wb]at hk;obtain⟨kk,hk⟩:=hk;obtain⟨ez,dz⟩:=iy hk ry;obtain⟨kvs,eo,ek,ex,_⟩:=dd;subst eo ex ez dz;obtain⟨h1,h2⟩:=lE (K:=K) (G:=G) kD wz (k:=kk) rs;rw[<-ek]at h1 h2;exact⟨px kvs kk,.inl ⟨kvs,kk,rd,rfl,rfl⟩,h1,h2⟩
def MV(a b:D):Res R:=match a with
 | .dct tk ks vs=>if dO tk b then(match getD ks vs b with
  |some d=>.ok (.f,d)
  |none=>.bad) else .bad
 |_=>.bad
theorem q0{a b:Expr}{fa fb:FO}{pos:Pos}(hu:X.A.units+1<cLine)(ha:QO X a fa)(hb:QO X b fb)(hs:NoSl b:=by exact fun _ _=>rfl):QE X (.Subscript a b pos) (az MV fa fb):=
 bI (AS hu ha hb hs) fun σ H Q h=>by
  obtain⟨G,env,fp,r,env',rel,e,k⟩:=h;obtain⟨⟨oa,e1⟩,ha,e⟩:=ar e;obtain⟨⟨ob,e2⟩,hb,e⟩:=ar e;obtain⟨da,Ol,e⟩:=ar e;obtain⟨db,KQ,e⟩:=ar e;obtain⟨r',hr,e⟩:=ar e;cases e;refine⟨G,env,fp,oa,e1,rel,ha,fun x H1 G1 Jl Jg IQ J4=>⟨G1,e1,Jl,ob,e2,IQ,hb,fun y H2 G2 Jx I0 IP MT=>?_⟩⟩;have va:=IP.vw (J4.mono I0.gg) Ol;have vb:=IP.vw MT KQ;unfold MV at hr;split at hr
  ·rename_i tk ks vs;split at hr
   ·rename_i KA;split at hr
    ·rename_i d hd;cases hr;obtain⟨p,xs,o,ev,rd,dd,rs⟩:=va;subst ev;have vb':Rep X.K G2 db y:=by
      cases db with
      |lst l=>cases tk <;> simp[dO,dN,lu]at KA
      |dct _ _ _=>cases tk <;> simp[dO,dN,lu]at KA
      |_=>exact vb
     obtain⟨ov,g,_,h2⟩:=qZ IP.gh rd dd rs KA vb';obtain⟨v,ho,rv⟩:=h2 d hd;subst ho;exact⟨p,v,rfl,g,k _ H2 G2 Jx (Jg.trans I0) (IP.push rv)⟩
    ·cases hr
   ·cases hr
  ·cases hr
def inP(a b:D):Res R:=match b with
 | .dct tk ks vs=>if dO tk a then .ok (.f,.bl (getD ks vs a).isSome) else .bad
 |_=>LV a b
def pT(a b:D):Res R:=match b with
 | .dct tk ks vs=>if dO tk a then .ok (.f,.bl (!(getD ks vs a).isSome)) else .bad
 |_=>sy a b
theorem mL(hu:X.A.units+65<cLine):JG X (compareOp .In) (rGA X.K inP):=by
 rintro pr s σ H x y v u Q I rx ry ⟨G,fp,es,vs,a,b,r,⟨rel,k⟩,va,vb,e⟩;unfold inP at e;split at e
 ·rename_i tk ks ws;split at e
  ·rename_i KA;cases e;obtain⟨p,xs,o,ev,rd,dd,rs⟩:=vb;subst ev;cases ry;obtain⟨ov,g,h1,_⟩:=qZ (K:=X.K) (G:=H) (fun _ _ z=>z) rd dd rs KA va;exact Io (by lia) I g rx fun s' I'=>⟨.bl ov.isSome,H,I',rfl,by rw[<-h1];exact k _ H G fp .refl (rel.push (dr _))⟩
  ·cases e
 ·exact Gw hu pr s σ H x y v u Q I rx ry ⟨G,fp,es,vs,a,b,r,⟨rel,k⟩,va,vb,e⟩
theorem iV(hu:X.A.units+65<cLine):JG X (compareOp .NotIn) (rGA X.K pT):=by
 rintro pr s σ H x y v u Q I rx ry ⟨G,fp,es,vs,a,b,r,⟨rel,k⟩,va,vb,e⟩;unfold pT at e;split at e
 ·rename_i tk ks ws;split at e
  ·rename_i KA;cases e;obtain⟨p,xs,o,ev,rd,dd,rs⟩:=vb;subst ev;cases ry;obtain⟨ov,g,h1,_⟩:=qZ (K:=X.K) (G:=H) (fun _ _ z=>z) rd dd rs KA va;exact AQ (by lia) I g rx fun s' I'=>⟨.bl (!ov.isSome),H,I',rfl,by rw[<-h1];exact k _ H G fp .refl (rel.push (dr _))⟩
  ·cases e
 ·exact DR hu pr s σ H x y v u Q I rx ry ⟨G,fp,es,vs,a,b,r,⟨rel,k⟩,va,vb,e⟩
end
def isLf:O->Bool
 | .l .f=>true
 | .pin _ (.l .f)=>true
 |_=>false
section
variable{G' H':Hp}
theorem RepE.append:∀{es LQ:PV.Env}{vs Lz:L2.St}{a b:List Addr},RepE K G H es vs a->RepE K G H LQ Lz b->RepE K G H (es++LQ) (vs++Lz) (a++b)
 |[],LQ,vs,Lz,a,b,r,q=>by
  rw[r.1,r.2];exact q
 |none::es,LQ,vs,Lz,a,b,r,q=>by
  obtain⟨y,ys,e,r⟩:=r;subst e;exact⟨y,ys++Lz,rfl,RepE.append r q⟩
 |some x::es,LQ,vs,Lz,a,b,r,q=>by
  obtain⟨y,ys,e,v,a1,b1,e1,e2,r1,r2⟩:=r;subst e e2;exact⟨y,ys++Lz,rfl,v,a1,b1++b,e1,Wd _ _ _,r1,RepE.append r2 q⟩
theorem RepE.clean{G2 G3:Hp}(h:∀p u,isT u=true->G2 p=some u->G3 p=some u):∀{es:PV.Env}{vs:L2.St}{a:List Addr},(∀r,some r∈es->aS r.1 r.2=true)->RepE K G2 H es vs a->RepE K G3 H es vs a
 |[],_,_,_,r=>r
 |none::es,vs,a,hc,r=>by
  obtain⟨y,ys,e,r⟩:=r;exact⟨y,ys,e,RepE.clean h (fun r hr=>hc r (Vb _ hr)) r⟩
 |some x::es,vs,a,hc,r=>by
  obtain⟨y,ys,e,v,a1,b1,e1,e2,r1,r2⟩:=r;exact⟨y,ys,e,v,a1,b1,e1,e2,r1.clean h (hc x Va),RepE.clean h (fun r hr=>hc r (Vb _ hr)) r2⟩
end
variable{e:Expr}{x:Str}{c:O}{F:Addr->List D->Res R}{d0:D}{ds:List D}
section
def Iq(i:Nat):FX:=fun env=>match env[i]? with
 |some (some (ow,.lst ds))=>if isLf ow then(match ds.getLast? with
  |some d=>.ok ((.f,d),env.set i (some (ow,.lst ds.dropLast)))
  |none=>.bad) else .bad
 |_=>.bad
def lF(i:Nat)(f:FX):FS:=fun env=>(f env).bind fun p=>match p.2[i]? with
 |some (some (.pin q c,d0))=>.ok (.rt (.t [p.1.1,.pin q c],.tup [p.1.2,d0]))
 |_=>.bad
theorem iW{i:Nat}{f:FX}{pos:Pos}(he:QE X e f):QS (md:=.mut) X (.Return (some e) pos) (lF i f):=fM (zh he) fun Dd σ H Jc=>by
 obtain⟨G,env,fp,rel,k⟩:=Jc;unfold lF at k;match q:f env,k with
 | .ok (r,IM),k=>
  have k:OutOk (md:=.mut) X.K G H fp Dd (match IM[i]? with
   |some (some (.pin q c,d0))=>.ok (.rt (.t [r.1,.pin q c],.tup [r.2,d0]))
   |_=>.bad):=k
  split at k
  ·rename_i z c d0 hz;refine⟨G,env,fp,r,IM,rel,q,fun v H1 G1 Jl Jg IQ=>?_⟩;obtain⟨y,ys,ey,v',a,b,e1,e2,r1,r2⟩:=IQ.rep;cases ey;cases e1;subst e2;obtain⟨v0,a0,b0,QU,ro,_,pm⟩:=r2.take hz;have hv0:v0=.ref z:=by
    have:=ro;rw[RepO]at this;exact this.1
   subst hv0;have sub:∀w∈a++a0,w∈a++b:=fun w hw=>by
    rcases VS.mp hw with hw|hw
    ·exact Vj _ hw
    ·exact Vd _ (pm.mem_iff.mpr (Vj _ hw))
   have nd:=VE.mp IQ.nd;have nd2:=VE.mp (pm.nodup_iff.mp nd.2.1);refine k v H1 G1 (a++a0) (Jg.trans (Step.cut sub)) ⟨r.1,r.2,z,c,d0,rfl,⟨⟨some v,[some (.ref z)],rfl,v,a,a0,rfl,rfl,r1,some (.ref z),[],rfl,.ref z,a0,[],rfl,(VH _).symm,ro,rfl,rfl⟩,?_,fun p hp=>IQ.gn p (sub p hp),IQ.gh⟩⟩;rw[VE];exact⟨nd.1,nd2.1,fun p hp w hw e=>nd.2.2 p hp w (pm.mem_iff.mpr (Vj _ hw)) e⟩
  ·exact k.elim
def mM(np nn:Nat)(c:O)(g:FS)(p:Addr):List D->Res R
 |d0::ds=>if ds.length+1=np then(g (some (.pin p c,d0)::(ds.map (fun d=>some (O.f,d))++List.replicate nn none))).bind fun o=>match o with
  | .rt r=>.ok r
  |_=>.bad
  else .bad
 |[]=>.bad
inductive spM(K:W.Frag)(c:O)(F:Addr->List D->Res R)(vs:List V)(H:Hp)(Q:VK)(zz:XK):Prop
 |mk:∀G p Lz d0 ds r MW,Same G H->vs=.ref p::Lz->RepO K G H c d0 (.ref p) MW->MW.Nodup->(∀z∈MW,G z=none)->Reps K G ds Lz->F p (d0::ds)=.ok r->(∀v H' G' IV,Step G H MW G' H' IV->Ht .mut K G' H' r v IV->Q v H')->spM K c F vs H Q zz
theorem D9{P:Program}{w:World}{mg:Str->Option Value}{base:Heap}{st:Stmt}{N ps:List Str}{k:Nat}{c:O}{g:FS}(Df:Def K mg x st)(sc:FnScope N ps (defScope st))
  (hb:∀(kV doc pm:Value) (an:Option Addr) (Jm ct:Value) (us:List Value),us.length=ps.length->bindArgs (PySem.W.fnOf x x (fC st) (c9 st) (defScope st) .none kV doc pm an Jm ct) ⟨us,[]⟩=pure (ps.zip us))
  (body:∀(f:Addr) (Jm:Value) (A:Around) (outer:List PySem.Env) (s:Shared) (H:Hp) (E:XK),Room k (A.deeper (envOfC x (defScope st) s.heap.objs.size f Jm))->MS (md:=.mut) (xN MP P w K mg base N x (defScope st) f Jm A outer s H E).nox (c9 st) g):
  Ct P w K mg base x (k+1) (spM K c (mM ps.length (N.length-ps.length) c g)):=by
 obtain⟨f,fd,F,m⟩:=Df;refine⟨f,fd,ps,F.ok sc (fun vs H Q E h=>?_) (fun Jm A outer s H vs Q E hr h=>?_),m,F.kp,F.binds hb⟩
 ·obtain⟨G,p,Lz,d0,ds,r,MW,_,ev,_,_,_,rs,e,_⟩:=h;unfold mM at e;split at e
  ·rename_i TK ds' heq;cases heq;split at e
   ·rename_i hl;rw[ev,Vm,rs.length,hl]
   ·cases e
  ·cases e
 ·obtain⟨G,p,Lz,d0,ds,r,MW,gh,ev,r0,nd,gn,rs,e,q⟩:=h;unfold mM at e;split at e
  ·rename_i TK ds' heq;cases heq;split at e
   ·rename_i hl;refine⟨_,body f Jm A outer s H E hr,G,some (.pin p c,d0)::(ds.map (fun d=>some (O.f,d))++List.replicate (N.length-ps.length) none),MW,⟨?_,nd,gn,gh⟩,?_⟩
    ·have:=gO (K:=K) (G:=G) (H:=H) (N.length-ps.length) rs;unfold L2.km;rw[ev,Vm,rs.length,hl];exact⟨some (.ref p),_,rfl,.ref p,MW,[],rfl,(VH _).symm,by rw[RepO];exact⟨rfl,r0⟩,this⟩
    ·obtain⟨o,eo,e⟩:=ar e;rw[eo];cases o with
     |rt r'=>
      cases e;exact fun v H' G' IV st rel=>q v H' G' IV st rel
     |nx env'=>cases e
     |bk env'=>cases e
     |ct env'=>cases e
   ·cases e
  ·cases e
def pU:O->O->Bool
 | .l .f,.l .f=>true
 | .l .f,.pin _ (.l .f)=>true
 | .d,.d=>true
 | .d,.pin _ .d=>true
 |_,_=>false
theorem zP{ow:O}{d:D}{v:V}{a:List Addr}(h:pU c ow=true)(r:RepO K G H ow d v a):(∃p,v=.ref p)/\RepO K G H c d v a/\∀(G' H':Hp) (d':D) (a':List Addr),RepO K G' H' c d' v a'->RepO K G' H' ow d' v a':=by
 have PY:∀{d:D},RepO K G H (.l .f) d v a->∃p,v=.ref p:=fun{d} r=>by
  cases d with
  |lst ds=>obtain⟨p,_,e,_⟩:=kS.mp r;exact⟨p,e⟩
  |_=>simp only[RepO]at r
 have PZ:∀{d:D},RepO K G H .d d v a->∃p,v=.ref p:=fun{d} r=>by
  cases d with
  |dct tk ks ws=>rw[RepO]at r;obtain⟨p,_,_,e,_⟩:=r;exact⟨p,e⟩
  |_=>simp only[RepO]at r
 unfold pU at h;split at h
 ·exact⟨PY r,r,fun _ _ _ _ z=>z⟩
 ·rw[RepO]at r;exact⟨⟨_,r.1⟩,r.2,fun _ _ _ _ z=>by rw[RepO];exact⟨r.1,z⟩⟩
 ·exact⟨PZ r,r,fun _ _ _ _ z=>z⟩
 ·rw[RepO]at r;exact⟨⟨_,r.1⟩,r.2,fun _ _ _ _ z=>by rw[RepO];exact⟨r.1,z⟩⟩
 ·cases h
open Classical in
def jV(F:Addr->List D->Res R)(c:O)(d0:D)(ds:List D):Res (R×D):=
 if h:∃x:R×D,∀p,F p (d0::ds)=.ok (.t [x.1.1,.pin p c],.tup [x.1.2,x.2]) then .ok (Classical.choose h) else .bad
theorem sP{r:R}{d':D}(h:∀p,F p (d0::ds)=.ok (.t [r.1,.pin p c],.tup [r.2,d'])):jV F c d0 ds=.ok (r,d'):=by
 have h':∃x:R×D,∀p,F p (d0::ds)=.ok (.t [x.1.1,.pin p c],.tup [x.1.2,x.2]):=⟨(r,d'),h⟩
 unfold jV;rw[dif_pos h'];have e:=(ZG h' 0).symm.trans (h 0);generalize Classical.choose h'=x at e;obtain⟨⟨o,d⟩,d2⟩:=x;cases e;rfl
theorem sQ{x:R×D}(h:jV F c d0 ds=.ok x)(p:Addr):F p (d0::ds)=.ok (.t [x.1.1,.pin p c],.tup [x.1.2,x.2]):=by
 unfold jV at h;split at h
 ·rename_i h';cases h;exact ZG h' p
 ·cases h
end
section
variable{p:Pos}{es:List Expr}{fs:FOs}
end
section
variable{G' H':Hp}
end
section
end
end PV
namespace NX
theorem Ea{P:Program}{w:World}{k:Key}{u:Value}(h:(mixKind P w).is k u=true):RelV (kV k) u:=by
 rw[tZ]at h;cases k with
 |inl i=>
  have h:Value.isInt i u=true:=h;cases u with
  |int j t=>
   have e:(j==i)=true:=h;rw[V5]at e;exact⟨t,by rw[e]⟩
  |_=>cases h
 |inr x=>
  obtain⟨t,e⟩:=Value.isStrOf_shape h;exact⟨t,e⟩
theorem Eb{κ:Type}{kvs:List (κ×V)}{vs:List (κ×Value)}(r:KV kvs vs):∀{i:Nat}{k:κ}{v:V},kvs[i]?=some (k,v)->∃u,vs[i]?=some (k,u)/\RelV v u:=by
 induction r with
 |nil=>intro i k v e;simp at e
 | @cons p q ps qs hq _ ih=>
  intro i k v e;cases i with
  |zero=>
   simp at e;subst e;obtain⟨qk,qv⟩:=q;obtain⟨e1,e2⟩:=hq;cases e1;exact⟨qv,rfl,e2⟩
  |succ i=>exact ih (by simpa using e)
theorem sR{X:Cx}{pr:List (Addr×Obj)}{σ:L2.St}{H:Hp}{s:Shared}{a:Addr}{o:Obj}{ep:Nat}{es:Array DictEntry}{kvs:List (Key×V)}(I:Inv X pr σ H s)(hd:o.data=.dict es ep)(ha:H a=some (.frz o (.dK kvs))):
  s.heap.get? a=some o/\∃vs,KV kvs vs/\s.heap.DictAt (mixKind X.prog X.w) a vs ep:=by
 obtain⟨ho,z,nm,vs,r,o',LQ,Po,g1,ex,dat,cN⟩:=(show ObjOk X.prog X.w H s.heap a (.frz o (.dK kvs)) from I.hok a _ ha)
 have e:=g1.symm.trans ho;cases e;have e2:=dat.symm.trans hd;cases e2;exact⟨ho,vs,r,o,es,ho,ex,hd,cN⟩
theorem yI{X:Cx}{pr:List (Addr×Obj)}{σ:L2.St}{H:Hp}{s:Shared}{a:Addr}{o:Obj}{kvs:List (Key×V)}(I:Inv X pr σ H s)(ha:H a=some (.dK kvs))(ho:s.heap.get? a=some o):Inv X pr σ (upd H a (.frz o (.dK kvs))) s:=by
 have ok:=(show ObjOk X.prog X.w H s.heap a (.dK kvs) from I.hok a _ ha)
 have nt:∀c xs,H c=some (.tup xs)->c≠a:=fun c xs e z=>by rw[z,ha]at e;cases e
 have nf:∀c q u,H c=some (.frz q u)->c≠a:=fun c q u e z=>by rw[z,ha]at e;cases e
 have nb:∀c ps,H c=some (.tbl ps)->c≠a:=fun c ps e z=>by rw[z,ha]at e;cases e
 have no:∀c b,H c=some (.own b)->c≠a:=fun c b e z=>by rw[z,ha]at e;cases e
 have S0:Inv X pr σ (upd H a (.frz o (.dK kvs))) {s with heap:=s.heap,gens:=s.gens,drawn:=s.drawn,toks:=s.toks}:=by
  refine I.step (ch:=[]) (fun c hc=>nomatch hc) (fun c q _ _ _ e _=>e) (fun c q _ _ _ e _=>⟨q.slots,e⟩) (fun c q _ e n=>?_) (fun c q _ e=>⟨q,e⟩)
   (fun c l e=>by rw[aF (nt c l e)];exact e) (fun c q u e=>by rw[aF (nf c q u e)];exact e) (fun c ps e=>⟨#[],by rw[aF (nb c ps e),e];simp⟩) (fun m hm=>hm) (fun c ob e=>?_) I.bare
  ·have:c≠a:=fun z=>by rw[z,ha]at n;cases n
   rw[aF this];exact n
  ·by_cases ec:c=a
   ·subst ec;rw[bc]at e;cases e;exact⟨ho,ok.stay (fun _ _ _ q=>q) (fun d q=>by rw[aF (no d _ q)];exact q) fun d l q=>by rw[aF (nt d l q)];exact q⟩
   ·rw[aF ec]at e;exact(I.hok c ob e).stay (fun _ _ _ q=>q) (fun d q=>by rw[aF (no d _ q)];exact q) fun d l q=>by rw[aF (nt d l q)];exact q
 exact S0
end NX
namespace PV
def Hw(f:FX):FI:=fun env=>(f env).bind fun p=>match p.1 with
 |(.d,.dct false ks vs)=>.ok ((ks.zip vs).map fun z=>D.tup [z.1,z.2],p.2)
 |_=>.bad
section
variable{X:Cx}
def Hx(i:Nat):FX:=fun env=>match env[i]? with
 |some (some (.t [.f,.l .f],.tup [a,.lst _]))=>.ok ((.f,.non),env.set i (some (.t [.f,.l .f],.tup [a,.lst []])))
 |_=>.bad
def wK:List D->Res R
 |[.dct false ks _]=>.ok (.l .f,.lst ks)
 |ds=>Bh ds
theorem wL:∀{xs:List V}{us:List Value},xs.length=us.length->(∀(i:Nat) (a:V) (b:Value),xs[i]?=some a->us[i]?=some b->RelV a b)->Vals xs us
 |[],[],_,_=>.nil
 |x::xs,u::us,hl,h=>.cons (h 0 x u rfl rfl) (wL (by simpa using hl) fun i a b ha hb=>h (i+1) a b (by simpa using ha) (by simpa using hb))
 |[],_::_,hl,_=>by simp at hl
 |_::_,[],hl,_=>by simp at hl
theorem pV(hc:X.calm=true):dX X (.type "list") (fun vs H Q=>∃p kvs,vs=[.ref p]/\Rd H p (.dK kvs)/\∀l,H l=none->Q (.ref l) (upd H l (.lst (kvs.map fun kv=>kV kv.1)))):=by
 intro pr s σ H xs us Q I r h;obtain⟨p,kvs,rfl,hp,q⟩:=h;obtain⟨u,rfl,rx⟩:=fV r;cases rx;obtain⟨z,nm,vs,rr,hD⟩:=uo I.hok hp;obtain⟨ep,LC⟩:=hD.dictAt;have hl:=rr.length;refine PySem.W.kdl_call (PySem.W.kdl_dict (knd:=mixKind X.prog X.w) (kvs:=vs) (ep:=ep) nm) (I.ok.hd hc) LC (by rw[<-hl];exact z) fun h' tk RM c' hk hS Oc=>?_
 refine⟨.ref s.heap.objs.size,_,I.laid (o:=.lst (kvs.map fun kv=>kV kv.1)) (t':=tk) hk (Vl _) ⟨by rw[Ve];exact z,RM.toList,c',?_,by rw[Array.toArray_toList];exact hS⟩,rfl,q _ (I.hok.fresh (Vl _))⟩;refine wL (by rw[Ve,hl];exact(Oc.1.symm.trans (Vp (xs:=RM)).symm)) fun i a b ha hb=>?_
 rw[Yw]at hb;obtain⟨k,x,e1,e2⟩:=Oc.2 i b hb;rw[Vs]at ha;cases LB:kvs[i]? with
 |none=>rw[LB]at ha;cases ha
 |some kv=>
  rw[LB]at ha;obtain⟨k',v'⟩:=kv;obtain⟨u,hu,_⟩:=Eb rr LB;rw[e1]at hu;cases hu;cases ha;exact Ea e2
theorem yJ(hc:X.calm=true):dX X (.type "list") (rC X.K wK):=by
 rintro pr s σ H xs us Q I rx ⟨G,fp,es,vs,ds,r,⟨rel,k⟩,vd,e⟩;unfold wK at e;split at e
 ·rename_i ks ws;cases e;obtain⟨v,ev,vt⟩:=nU vd;have rp:=vt.rep rel.gh;rw[Rep]at rp;obtain⟨p,ys,o,ep,rd,dd,rs⟩:=rp;obtain⟨kvs,eo,ek,ex,hf⟩:=(show ∃kvs:List (Key×V),o=.dK kvs/\ks=kvs.map (fun kv=>kD kv.1)/\ys=kvs.map (·.2)/\∀kv∈kvs,uv kv.1 from dd)
  subst ev ep eo;refine pV hc pr s σ H _ us Q I rx ⟨p,kvs,rfl,rd,fun q hq=>?_⟩;have rk:Reps X.K G ks (kvs.map fun kv=>kV kv.1):=by
   rw[ek];refine Reps.ofAll (by rw[Ve,Ve]) fun i d v hd hv=>?_
   rw[Vs]at hd hv;cases LB:kvs[i]? with
   |none=>rw[LB]at hd;cases hd
   |some kv=>
    rw[LB]at hd hv;cases hd;cases hv;exact zN (hf _ (VF LB))
  obtain⟨IP,I0⟩:=rel.newL hq rk;exact k _ _ G _ I0 IP
 ·exact Bi pr s σ H xs us Q I rx ⟨G,fp,es,vs,ds,r,⟨rel,k⟩,vd,e⟩
end
end PV
namespace NX
section
variable{prog:Program}{w:World}{A:Around}{E:Value->Shared->Prop}{s:Shared}
end
section
variable{prog:Program}{w:World}{A:Around}{E:Value->Shared->Prop}{s:Shared}
end
section
variable{X:Cx}{e:Expr}{ta:TA}{p p2 pos JD:Pos}
end
end NX
namespace PV
section
variable{X:Cx}{e:Expr}{fs:FOs}{p p2 pos JD:Pos}
theorem sS{K:W.Frag}{σ:L2.St}{H:Hp}{Q Q':List V->Hp->Prop}(h:tOs K fs σ H Q)(k:∀vs H,Q vs H->Q' vs H):tOs K fs σ H Q':=by
 obtain⟨G,env,fp,o,env',rel,e,q⟩:=h;exact⟨G,env,fp,o,env',rel,e,fun vs H' G' IV st Ju ok=>k _ _ (q vs H' G' IV st Ju ok)⟩
end
end PV
namespace NX
section
open PySem.AutoSeq1 (wpAny_loadPart')
end
end NX
namespace PV
section
variable{X:Cx}
end
section
variable{md:Mode}{X:Cx}{scope:Scope}{N:List Str}{tg iter elt:Expr}{ifs:List Expr}{pos:Pos}{fi:FI}{a:FG}{c:FT}{f:FX}{j k0:Nat}
end
section
variable{X:Cx}{x:Str}{p pos:Pos}{e:Expr}{es:List Expr}{f0:FX}{fs:FOs}
end
def joinL(sep:List Nat):List (List Nat)->List Nat
 |[]=>[]
 |[x]=>x
 |x::y::r=>x++sep++joinL sep (y::r)
def wM(sep:List Nat):List D->Res R
 |[.lst ds]=>match gw ds with
  |some ys=>if(ys.map List.length).sum+ys.length*sep.length<=16777216 then .ok (.f,.str (joinL sep ys)) else .bad
  |none=>.bad
 |_=>.bad
theorem wN(sep:List Nat):∀ys:List (List Nat),Str.join (S sep) (ys.map S)=S (joinL sep ys)
 |[]=>rfl
 |[x]=>rfl
 |x::y::r=>by
  have ih:=wN sep (y::r);show S x++S sep++Str.join (S sep) ((y::r).map S)=S (x++sep++joinL sep (y::r));rw[ih];apply Str.ext';simp[Str.cps_append]
theorem Ec(sep:List Nat):∀ys:List (List Nat),Txt.join (S sep) (ys.map S)=S (joinL sep ys)
 |ys=>by
  show Builtin.Str.glued (S sep) (ys.map S)=_;rw[StrLaws.glued_eq_join];exact wN sep ys
theorem pW(sep:List Nat):∀ys:List (List Nat),(joinL sep ys).length<=(ys.map List.length).sum+ys.length*sep.length
 |[]=>V0 _
 |[x]=>by
  show x.length<=_;rw[Vz,aac];lia
 |x::y::r=>by
  have ih:=pW sep (y::r);show(x++sep++joinL sep (y::r)).length<=_;rw[VJ,VJ,Vz,aac,Vm,Nat.add_mul];lia
theorem pX{K:W.Frag}{G:Hp}:∀{ds:List D}{ys:List (List Nat)}{xs:List V}{us:List Value},gw ds=some ys->Reps K G ds xs->Vals xs us->StrsAre us (ys.map S)
 |[],ys,xs,us,e,r,v=>by
  cases e;rw[Reps]at r;subst r;cases v;exact .nil
 | .str b::ds,ys,xs,us,e,r,v=>by
  rw[Reps]at r;obtain⟨y,zs,ex,r1,r2⟩:=r;subst ex;cases v with
  |cons h t=>
   rw[gw,VW]at e;obtain⟨ws,hw,rfl⟩:=e;rw[Rep]at r1;obtain⟨r1,_⟩:=r1;subst r1;obtain⟨tk,rfl⟩:=h;exact .cons _ tk (pX hw r2 t)
 | .non::_,_,_,_,e,_,_ | .bl _::_,_,_,_,e,_,_ | .int _::_,_,_,_,e,_,_ | .tup _::_,_,_,_,e,_,_ | .lst _::_,_,_,_,e,_,_ | .dct _ _ _::_,_,_,_,e,_,_=>by cases e
section
variable{X:Cx}
theorem Bu:O8 X "str.join" (rMtS X.K wM):=by
 rintro pr s σ H x xs v us Q I rx rv ⟨G,fp,es,vs,l,ds,r,⟨rel,k⟩,ex,hz,vd,e⟩;unfold wM at e;split at e
 ·rename_i ds;split at e
  ·rename_i ys Td;split at e
   ·rename_i hb;cases e;subst ex;obtain⟨w',ew,p,zs,ep,sq,rs⟩:=nU vd;subst ew ep;obtain⟨t,rfl⟩:=rx;obtain⟨u,rfl,ru⟩:=fV rv;cases ru;obtain⟨IS,r',pl,Og⟩:=I.list sq;refine join_list pl.isList (ys:=ys.map S) (pX Td rs r') ?_ fun t' kk=>?_
    ·rw[VU,Ve];have e1:((fun x:Str=>x.length)∘S)=List.length:=by funext z;exact pg z
     rw[e1,pg];exact hb
    ·rw[Ec];refine⟨.str (S (joinL l ys)),H,I.tok _,⟨_,rfl⟩,k _ H G fp .refl (rel.push ?_)⟩;rw[Rep];have:=pW l ys;exact⟨rfl,by rw[line_eq];lia⟩
   ·cases e
  ·cases e
 ·cases e
end
end PV
namespace NX
section
variable{prog:Program}{w:World}{A:Around}{R:Result->Shared->Prop}{it:Addr}{fp wr:List Addr}{n:Nat}{Pv:Nat->Value->Prop}{Sx:Nat->Heap->Prop}{kw:List (Str×Value)}
end
section
variable{X:Cx}{e k:Expr}{te tk:TE}{p pos MN:Pos}
end
end NX
namespace PV
variable{X:Cx}
section
end
variable{e:Expr}{es:List Expr}{fa:FO}
section
noncomputable def Ed(g:List D->List D->Res R)(fa:FO)(fs:FOs):FX:=fun env=>(fa env).bind fun p=>(JY p.2 p.1).bind fun a=>match a with
 | .lst _=>(fs p.2).bind fun q=>(JY q.2 p.1).bind fun a2=>match a2 with
  | .lst l=>(pJ q.2 q.1).bind fun ds=>(g l ds).bind fun r=>.ok (r,q.2)
  |_=>.bad
 |_=>.bad
inductive rMtL(K:W.Frag)(g:List D->List D->Res R)(x:V)(xs:List V)(H:Hp)(Q:VK):Prop
 |mk:∀G fp es vs l ds r,Goes K H G fp es vs r Q->Vw K G H (.lst l) x->Ph K G H ds xs->g l ds=.ok r->rMtL K g x xs H Q
theorem wO{g:List D->List D->Res R}{id:String}{name:Str}{o:Expr}{fs:FOs}{apos Jj:Pos}(slot:Slot "list" name id)(N6:typeOf (.builtin id)=pure (.type "method_descriptor"))(hm:O8 X id (rMtL X.K g))(ho:QO X o fa)(ha:Ma X (e::es) fs)
  (JZ:attributeBase o name X.env (eval o X.env)=eval o X.env:=by rfl)
  (KR:((backTo Jj (starEach (e::es) X.env)).all (fun x=>!x.1)&&(backToKw Jj (keywordEach [] X.env)).all (fun x=>x.1.isSome)&&decide ((e::es).length+([]:List Keyword).length+(if([]:List Keyword).isEmpty then 0 else 1)<30))=true:=by rfl)
  (J0:(apos.endLine==Jj.line)=true:=by rfl) (hs:starEach (e::es) X.env=(false,eval e X.env)::starEach es X.env:=by rfl) (JI:(backTo Jj (starEach es X.env)).any (·.1)=false:=by rfl):
  QE X (.Call (.Attribute o name apos) (e::es) [] Jj) (Ed g fa fs):=by
 refine bI (Au Zd slot N6 hm ho ha JZ KR J0 hs JI) fun σ H Q Jk=>?_
 obtain⟨G,env,fp,r,env',rel,e,k⟩:=Jk;obtain⟨⟨oa,IM⟩,e1,e⟩:=ar e;obtain⟨da,Ol,e⟩:=ar e;dsimp only at e;split at e
 ·obtain⟨⟨os,IX⟩,e2,e⟩:=ar e;obtain⟨d2,hd2,e⟩:=ar e;dsimp only at e;split at e
  ·obtain⟨ds,e3,e⟩:=ar e;obtain⟨r',e4,e⟩:=ar e;cases e;refine⟨G,env,fp,oa,IM,rel,e1,fun v H1 G1 Jl Jg IQ J4=>?_⟩;obtain⟨p,xs,ev,sq,_⟩:=IQ.vw J4 Ol;subst ev;exact⟨.inl ⟨rfl,xs,sq⟩,G1,IM,Jl,os,_,IQ,e2,fun vs H2 G2 Jx I0 IP MT=>⟨G2,Jx,_,σ,_,ds,r,⟨IP,fun v H' G' IV st Ju=>k v H' G' IV (Jg.trans (I0.trans st)) Ju⟩,IP.vw (J4.mono I0.gg) hd2,IP.vws MT e3,e4⟩⟩
  ·cases e
 ·cases e
open PySem.SeqAt in
theorem Bv{pr:List (Addr×Obj)}{σ:L2.St}{H:Hp}{s:Shared}(I:Inv X pr σ H s){a:D}{x:V}{v:Value}{A:Around}(h:plainD 40 a=true)(hu:A.units+64<cLine)(r:Rep X.K H a x)(rx:RelV x v):
  ∀(ds:List D) (xs:List V) (us:List Value),plainDs 40 ds=true->Reps X.K H ds xs->Vals xs us->∃e:Value->Bool,(∀(j:Nat) (d:D) (u:Value),ds[j]?=some d->us[j]?=some u->e u=IU d a)/\∀u∈us,EqAt A s u v (e u):=by
 classical
 intro ds xs us hp rs vl;have key:∀(j:Nat) (d:D) (u:Value),ds[j]?=some d->us[j]?=some u->decide (∃(j:Nat) (d:D),ds[j]?=some d/\us[j]?=some u/\IU d a=true)=IU d a:=by
  intro j d u hd hj;obtain⟨w1,Mh,Mi⟩:=rs.get hd;obtain⟨u1,K4,Mj⟩:=vl.get Mh;rw[hj]at K4;cases K4;rw[VT,Vq];constructor
  ·rintro⟨j2,d2,k1,k2,k3⟩;obtain⟨w2,Nq,Nr⟩:=rs.get k1;obtain⟨u2,Lo,Nu⟩:=vl.get Nq;rw[k2]at Lo;cases Lo;have:=Mj.inj Nu;subst this;rw[lj I _ _ _ 40 (plainDs_mem hp hd) Mi Nr];exact k3
  ·intro k3;exact⟨j,_,hd,hj,k3⟩
 refine⟨fun u=>decide (∃(j:Nat) (d:D),ds[j]?=some d/\us[j]?=some u/\IU d a=true),key,fun u Oh=>?_⟩;obtain⟨j,hj⟩:=WT.mp Oh;have l1:=vl.length;have l2:=rs.length;have UB:=(Vk.mp hj).1;have g1:ds[j]?=some (ds[j]'(by lia)):=U9 _;obtain⟨w1,Mh,Mi⟩:=rs.get g1;obtain⟨u1,K4,Mj⟩:=vl.get Mh;rw[hj]at K4;cases K4;have z:=Bk I _ _ w1 x u v A 40 (plainDs_mem hp g1) h (by lia) Mi r Mj rx;show EqAt A s u v (decide (∃(j:Nat) (d:D),ds[j]?=some d/\us[j]?=some u/\IU d a=true));rw[key j _ u g1 hj];exact z
def oi(l:List D):List D->Res R
 |[a]=>if plainD 40 a&&plainDs 40 l&&l.any (fun d=>IU d a) then .ok (.f,.int (l.findIdx (fun d=>IU d a):Nat)) else .bad
 |_=>.bad
theorem iX(hu:X.A.units+65<cLine):O8 X "list.index" (rMtL X.K oi):=by
 rintro pr s σ H x xs v us Q I rx rv ⟨G,fp,es,vs,l,ds,r,⟨rel,k⟩,vx,vd,e⟩;unfold oi at e;split at e
 ·rename_i a;split at e
  ·rename_i hp;rw[Vu,Vu]at hp;cases e;obtain⟨p,ys,ev,sq,rs⟩:=vx;subst ev;cases rx;obtain⟨w',ew,va⟩:=nU vd;subst ew;obtain⟨u,rfl,ru⟩:=fV rv;obtain⟨IS,vl,pl,hz⟩:=I.list sq;obtain⟨⟨cls,dd,data,sl⟩,ho,hc,n,hd⟩:=id pl.isList;simp only at hc hd;subst hc hd;obtain⟨ef,UK,Oj⟩:=Bv (A:=X.A.in1) I hp.1.1 (by first|lia|(simp only[Around.in1_units];lia)) (va.rep rel.gh) ru l ys IS hp.1.2 (Reps.mono rel.gh rs) vl;have Jv:l.findIdx (fun d=>IU d a)<l.length:=List.findIdx_lt_length.mpr (by rw[<-Wa];exact hp.2);have l1:=vl.length;have l2:=rs.length;have hlt2:l.findIdx (fun d=>IU d a)<IS.toArray.size:=by rw[Vh];lia
   have hb:(l.findIdx (fun d=>IU d a):Int)<2 ^ 63-1:=by
    rw[Wr]at hz;lia
   refine PySem.call_meets XB ⟨_,ho,rfl⟩ PySem.F.entry_list_index (PySem.F.args_list_index_2 _ _) (PySem.SeqAt.list_indexAt p IS.toArray n _ _ u ef (l.findIdx fun d=>IU d a) hlt2 hb ?_ ?_) ⟨ho,fun y hy=>?_,⟨.int (l.findIdx (fun d=>IU d a):Nat),H,I.tok _,⟨_,rfl⟩,k _ H G fp .refl (rel.push (bJ _))⟩⟩
   ·rw[UK _ _ _ (U9 Jv) (by rw[ZP];exact U9 _)];exact ZQ (w:=Jv)
   ·intro m hm hlt3;rw[UK m (l[m]'(by lia)) _ (U9 _) (by rw[ZP];exact U9 _)];exact List.not_of_lt_findIdx hlt3
   ·exact Oj y (by simpa using hy)
  ·cases e
 ·cases e
end
section
variable{K:W.Frag}{G G' H H':Hp}{es:PV.Env}{vs:L2.St}{fp:List Addr}
theorem Rel.lendM2(q:Rel K G H es vs fp)(a:List Addr)(ha:∀z∈a,z∉fp)(hga:∀z∈a,G z=none):∃G1,Same G G1/\Same G1 H/\(∀z∈a,G1 z=none)/\(∀(i:Nat) (r:R) (v:V),es[i]?=some (some r)->vs[i]?=some (some v)->Rep K G1 r.2 v)/\
  ∀(H2 G2:Hp) (Jx:List Addr) (rs:PV.Env) (ws:L2.St),Step G1 H a G2 H2 Jx->Rel K G2 H2 rs ws Jx->((∀r,some r∈rs->aS r.1 r.2=true)->∃G3 J3,Step G H (a++fp) G3 H2 J3/\Rel K G3 H2 (rs++es) (ws++vs) J3)/\∃G3 J3,Step G H (a++fp) G3 H2 J3/\Rel K G3 H2 (rs++es.map PV.frz) (ws++vs) J3:=by
 have hg:Same G (fun p=>if p∈fp then H p else G p):=fun p u e=>by
  show(if p∈fp then H p else G p)=some u;by_cases hp:p∈fp
  ·rw[Vn hp];exact q.gh p u e
  ·rw[Vt hp];exact e
 have hh:Same (fun p=>if p∈fp then H p else G p) H:=fun p u e=>by
  have e:(if p∈fp then H p else G p)=some u:=e;by_cases hp:p∈fp
  ·rw[Vn hp]at e;exact e
  ·rw[Vt hp]at e;exact q.gh p u e
 have hk:∀p∈fp,∀u,H p=some u->(fun p=>if p∈fp then H p else G p) p=some u:=fun p hp u e=>by
  show(if p∈fp then H p else G p)=some u;rw[Vn hp];exact e
 refine⟨fun p=>if p∈fp then H p else G p,hg,hh,fun z hz=>?_,fun i r v e ev=>q.rep.rep hg hk e ev,fun H2 G2 Jx rs ws st k=>⟨fun cl=>?_,?_⟩⟩
 ·show(if z∈fp then H z else G z)=none;rw[Vt (ha z hz)];exact hga z hz
 ·have kept:∀p∈fp,H2 p=H p:=fun p hp=>by
   obtain⟨u,hu⟩:=q.rep.live p hp;rw[hu];exact st.keep p u hu fun z=>ha p z hp
  have apart:∀p∈Jx,p∉fp:=fun p hp hf=>by
   rcases st.fpn p hp with z|z
   ·exact ha p z hf
   ·obtain⟨u,hu⟩:=q.rep.live p hf;rw[z]at hu;cases hu
  have g3:Same G (fun p=>if p∈fp then none else G2 p):=fun p u e=>by
   show(if p∈fp then none else G2 p)=some u;rw[Vt (fun z=>by rw[q.gn p z]at e;cases e)];exact st.gg p u (hg p u e)
  refine⟨fun p=>if p∈fp then none else G2 p,Jx++fp,⟨g3,fun p u e n=>?_,fun p hp=>?_,fun p u e=>?_,st.there⟩,⟨RepE.append (RepE.clean (fun p u t e=>?_) cl k.rep) (q.rep.step g3 kept),?_,fun p hp=>?_,fun p u e=>?_⟩⟩
  ·exact st.keep p u e fun z=>n (Vj _ z)
  ·rcases VS.mp hp with hp|hp
   ·exact(st.fpn p hp).imp_left (Vj _)
   ·exact .inl (Vd _ hp)
  ·have e:(if p∈fp then none else G2 p)=some u:=e;by_cases hp:p∈fp
   ·rw[Vn hp]at e;cases e
   ·rw[Vt hp]at e;rcases st.gnew p u e with z|z|z
    ·have z:(if p∈fp then H p else G p)=some u:=z;rw[Vt hp]at z;exact .inl z
    ·exact .inr (.inl (Vj _ z))
    ·exact .inr (.inr z)
  ·show(if p∈fp then none else G2 p)=some u;by_cases hp:p∈fp
   ·exfalso;obtain⟨u',hu,hm⟩:=q.rep.mut p hp;have:=st.gg p u' (hk p hp u' hu);rw[e]at this;cases this;cases u with
    |lst _=>cases t
    |dK _=>cases t
    |dT _=>cases t
    |_=>cases hm
   ·rw[Vt hp];exact e
  ·rw[VE];exact⟨k.nd,q.nd,fun p hp z hz e=>apart p hp (e▸hz)⟩
  ·show(if p∈fp then none else G2 p)=none;by_cases hf:p∈fp
   ·rw[Vn hf]
   ·rw[Vt hf];rcases VS.mp hp with hp|hp
    ·exact k.gn p hp
    ·exact absurd hp hf
  ·have e:(if p∈fp then none else G2 p)=some u:=e;by_cases hp:p∈fp
   ·rw[Vn hp]at e;cases e
   ·rw[Vt hp]at e;exact k.gh p u e
 ·have UL:=hg.trans st.gg;have rf:RepE K G2 H2 (es.map PV.frz) vs []:=q.rep.frz UL fun p hp u e=>st.gg p u (hk p hp u e)
  have ra:=RepE.append k.rep rf;rw[VH]at ra;refine⟨G2,Jx,⟨UL,fun p u e n=>st.keep p u e fun z=>n (Vj _ z),fun p hp=>(st.fpn p hp).imp_left (Vj _),fun p u e=>?_,st.there⟩,⟨ra,k.nd,k.gn,k.gh⟩⟩;rcases st.gnew p u e with z|z|z
  ·have z:(if p∈fp then H p else G p)=some u:=z;by_cases hp:p∈fp
   ·exact .inr (.inl (Vd _ hp))
   ·rw[Vt hp]at z;exact .inl z
  ·exact .inr (.inl (Vj _ z))
  ·exact .inr (.inr z)
end
noncomputable def eFunW(c:O)(F:Addr->List D->Res R)(i:Nat)(fs:FOs):FX:=fun env=>(fs env).bind fun p=>match p.1 with
 | .var j::os=>if j=i then(match p.2[i]? with
  |some (some (ow,d0))=>if pU c ow then(ji (p.2.set i none) os).bind fun ds=>(jV F c d0 ds).bind fun x=>if aS x.1.1 x.1.2&&aS c x.2 then .ok (x.1,(p.2.set i none).set i (some (ow,x.2))) else .ok (x.1,((p.2.set i none).map frz).set i (some (ow,x.2))) else .bad
  |_=>.bad) else .bad
 |_=>.bad
variable{pos:Pos}
section
variable{x:Str}{p:Pos}{f0:FX}{fs:FOs}
theorem Bw{F:Addr->List D->Res R}{c:O}{i k:Nat}(C:Ct X.prog X.w X.K X.mg X.base x k (spM X.K c F))(hr:Room k X.A)(hg:Gl X x)(ha:Ma X (e::es) fs)(KQ:(x==("__debug__" : Str))=false:=by decide)
  (he:starEach (e::es) X.env=(false,eval e X.env)::starEach es X.env:=by rfl) (JS:(backTo pos (starEach es X.env)).any (·.1)=false:=by rfl):QE X (.Call (.Name x p) (e::es) [] pos) (eFunW c F i fs):=
 bI (Ay C hr hg ha KQ he JS) fun σ H Q Jc=>by
  obtain⟨G,env,fp,r,env',rel,e,k⟩:=Jc;obtain⟨⟨os,e1⟩,ha,e⟩:=ar e;dsimp only at e;split at e
  ·rename_i j Sl;split at e
   ·rename_i hj;subst hj;split at e
    ·rename_i ow d0 hi;split at e
     ·rename_i how;obtain⟨ds,hd,e⟩:=ar e;obtain⟨z,hz,e⟩:=ar e;refine⟨G,env,fp,_,e1,rel,ha,fun vs H1 G1 Jl Jg IQ J4=>?_⟩;show spM X.K c F (vs++[]) H1 Q _;rw[VH];obtain⟨y,ys,ey,k1,k2⟩:=J4;obtain⟨v0,a,b,ev,r0,r2,pm⟩:=IQ.rep.take hi;have k1:σ[j]?=some (some y):=k1;rw[k1]at ev;cases ev;obtain⟨⟨q,hq⟩,rc,back⟩:=zP how r0;subst hq;have nd:=VE.mp (pm.nodup_iff.mp IQ.nd);have P0:Rel X.K G1 H1 (e1.set j none) σ b:=⟨r2,nd.2.1,fun w hw=>IQ.gn w (pm.mem_iff.mpr (Vd _ hw)),IQ.gh⟩
      obtain⟨G2,Om,PN,TL,Ld,K3⟩:=P0.lendM2 a (fun w hw hb=>nd.2.2 w hw w hb rfl) (fun w hw=>IQ.gn w (pm.mem_iff.mpr (Vj _ hw)));refine⟨G2,q,ys,d0,ds,_,a,PN,ey,rc.step Om (fun _ _=>rfl),nd.1,TL,jj Om Ld k2 hd,sQ hz q,fun v H' G' IV st rt=>?_⟩;obtain⟨o',d',p',c',TK,er,rl⟩:=rt;cases er;have fin:∀(ee:PV.Env),ee.length=e1.length->(∃G3 J3,Step G1 H1 (a++b) G3 H' J3/\Rel X.K G3 H' (some z.1::some (.pin q c,z.2)::ee) (some v::some (.ref q)::σ) J3)->(z.1,ee.set j (some (ow,z.2)))=(r,env')->Q v H':=by
       rintro ee RN ⟨G3,J3,Jt,Js⟩ TM;cases TM;obtain⟨a1,b1,ef,ro,JE,comb⟩:=Rel.frame Js;have P1:Rel X.K G3 H' (some (ow,z.2)::ee) (some (.ref q)::σ) b1:=by
        obtain⟨y2,ys2,P2,v2,a2,b2,TN,TQ,RO,TR⟩:=JE.rep;cases P2;cases TN;rw[RepO]at RO;exact⟨⟨_,_,rfl,_,a2,b2,rfl,TQ,back _ _ _ _ RO.2,TR⟩,JE.nd,JE.gn,JE.gh⟩
       obtain⟨fq,P4,TU⟩:=P1.back (i:=j) (by rw[RN];exact(Vk.mp hi).1) k1;obtain⟨P5,RP⟩:=comb G3 H' _ _ fq TU P4;rw[<-ef]at RP;exact k v H' G3 _ (Jg.trans ((Jt.perm (fun w=>pm.mem_iff.symm) (fun w hw=>hw)).trans RP)) P5
      obtain⟨b1,b2⟩:=K3 H' G' IV _ _ st rl;split at e
      ·rename_i K0;rw[Vu]at K0;have e:=Res.ok.inj e;refine fin (e1.set j none) (by rw[Wc]) (b1 fun w hw=>?_) e;rcases Vo.mp hw with hw|hw
       ·cases hw;exact K0.1
       ·rw[Vx]at hw;cases hw;simp only[aS];exact K0.2
      ·have e:=Res.ok.inj e;exact fin ((e1.set j none).map frz) (by rw[Ve,Wc]) b2 e
     ·cases e
    ·cases e
   ·cases e
  ·cases e
end
def SlR3(X:Cx)(r:V->Option Int->Option Int->Option Int->Hp->VK->Prop):Prop:=
 ∀(pr:List (Addr×Obj)) (s:Shared) (σ:L2.St) (H:Hp) (x:V) (v vl vu vt:Value) (lo hi st:Option Int) (sl:Addr) (Q:VK),Inv X pr σ H s->RelV x v->s.heap.IsSliceOf sl vl vu vt->IsPart vl lo->IsPart vu hi->IsPart vt st->r x lo hi st H Q->
  ∃T id,typeLookup (.type T) "__getitem__" = pure (some (.builtin id))/\s.TypeIs v T/\wpAny (model X.prog X.w) X.A (getItem v (.ref sl)) (EP X pr σ Q) X.xe s
def Ir(r:V->Option Int->Option Int->Option Int->Hp->VK->Prop)(te:TE)(tl th ts:TO):TE:=fun σ H Q=>te σ H fun x H1=>tl σ H1 fun l H2=>th σ H2 fun u H3=>ts σ H3 fun t H4=>r x l u t H4 Q
variable{se:Expr}{p2:Pos}
theorem wQ{te:TE}{lo hi:Option Expr}{tl th ts:TO}{r:V->Option Int->Option Int->Option Int->Hp->VK->Prop}(hr:SlR3 X r)(he:PE X e te)(hl:PO X lo tl)(hu:PO X hi th)(hs:PO X (some se) ts):PE X (.Subscript e (.Slice lo hi (some se) p2) pos) (Ir r te tl th ts):=by
 intro pr s σ H Q I h;refine Subscript_ (Ji (he pr s σ H _ I h) fun v s1 Jk=>?_);obtain⟨x,H1,I1,r1,q1⟩:=Jk;refine wpAny_Slice (Ji (hl pr s1 σ H1 _ I1 q1) fun vl s2 ⟨l,H2,I2,pl,q2⟩=>Ji (hu pr s2 σ H2 _ I2 q2) fun vu s3 ⟨u,H3,I3,pu,q3⟩=>Ji (hs pr s3 σ H3 _ I3 q3) fun vt s4 Jk=>?_);obtain⟨t,H4,I4,pt,q4⟩:=Jk;have I5:Inv X pr σ H4 {s4 with heap:=s4.heap.push {cls:=.type "slice",data:=.fields #[vl,vu,vt]}}:=I4.kept (t':=s4.toks) fun b ob q=>Vc _ q
 obtain⟨T,id,hT,ht,hg⟩:=hr pr {s4 with heap:=s4.heap.push {cls:=.type "slice",data:=.fields #[vl,vu,vt]}} σ H4 x v vl vu vt l u t s4.heap.objs.size Q I5 r1 (Heap.IsSliceOf.new ..) pl pu pt q4;show wpAny (model X.prog X.w) X.A (subscriptTail e (.Slice lo hi (some se) p2) v (.ref s4.heap.objs.size)) (EP X pr σ Q) X.xe {s4 with heap:=s4.heap.push {cls:=.type "slice",data:=.fields #[vl,vu,vt]}};exact tail_any (ops:=[v,.ref s4.heap.objs.size]) ht hT hg (by with_unfolding_all rfl)
def gR{α:Type}(xs:List α)(lo hi:Option Int)(c:Int):List α:=
 (sliceRange (sliceBounds lo hi (some c) xs.length).1 (sliceBounds lo hi (some c) xs.length).2.1 (sliceBounds lo hi (some c) xs.length).2.2).filterMap (fun i=>xs[i]?)
theorem pY{K:W.Frag}{G:Hp}{ds:List D}{xs:List V}(r:Reps K G ds xs):∀ix:List Nat,Reps K G (ix.filterMap fun i=>ds[i]?) (ix.filterMap fun i=>xs[i]?)
 |[]=>.nil
 |i::ix=>by
  have ih:=pY r ix;cases e:ds[i]? with
  |none=>
   have e2:xs[i]?=none:=by
    rw[X3]at e ⊢;rw[r.length];exact e
   rw[WA e,WA e2];exact ih
  |some d=>
   obtain⟨v,e2,rv⟩:=r.get e;rw[Wi e,Wi e2];exact .cons rv ih
theorem vals_pick{xs:List V}{us:List Value}(r:Vals xs us):∀ix:List Nat,Vals (ix.filterMap fun i=>xs[i]?) (ix.filterMap fun i=>us[i]?)
 |[]=>.nil
 |i::ix=>by
  have ih:=vals_pick r ix;cases e:xs[i]? with
  |none=>
   rw[WA e,WA (r.none_of e)];exact ih
  |some d=>
   obtain⟨v,e2,rv⟩:=r.get e;rw[Wi e,Wi e2];exact .cons rv ih
theorem sT(IS:List Value)(lo hi:Option Int)(c:Int):slicePick IS.toArray lo hi (some c)=(gR IS lo hi c).toArray:=by
 unfold slicePick gR;simp only[Vh,ZD]
theorem Bx(IS:List Value)(lo hi:Option Int)(c:Int):(gR IS lo hi c).length<=IS.length:=by
 have:=slicePick_size_le IS.toArray lo hi (some c);rw[sT]at this;simpa using this
def Ee(k:D)(lo hi st:Option Int):Res R:=match k,st with
 | .lst ds,some c=>if c≠0 then .ok (.l .f,.lst (gR ds lo hi c)) else .bad
 |_,_=>.bad
def GA(fa:FO)(lo hi st:FP):FX:=fun env=>(fa env).bind fun p=>(lo p.2).bind fun q=>(hi q.2).bind fun t=>(st t.2).bind fun u=>(JY u.2 p.1).bind fun d=>(Ee d q.1 t.1 u.1).bind fun r=>.ok (r,u.2)
section
inductive rSl3(K:W.Frag)(x:V)(lo:Option Int)(hi:Option Int)(st:Option Int)(H:Hp)(Q:VK):Prop
 |mk:∀G fp es vs d r,Goes K H G fp es vs r Q->Vw K G H d x->Ee d lo hi st=.ok r->rSl3 K x lo hi st H Q
theorem Ef:SlR3 X (rSl3 X.K):=by
 rintro pr s σ H x v vl vu vt lo hi st sl Q I rx hs pl pu pt ⟨G,fp,es,vs,d,r,⟨rel,k⟩,vd,e⟩;unfold Ee at e;split at e
 ·rename_i ds c;split at e
  ·rename_i hc;cases e;obtain⟨p,xs,ev,sq,rs⟩:=vd;subst ev;cases rx;obtain⟨IS,r,ht,hz⟩:=I.list sq;have hlen:=r.length;refine⟨"list",_,slot_list_getitem.lookup,ht.isList.typeIs,?_⟩;refine Y3 ht.isList hs pl pu pt (fun h=>hc (VQ h)) ?_ (by rw[Vh];lia);rw[sT];have r2:Vals (gR xs lo hi c) (gR IS lo hi c):=by
    unfold gR;rw[hlen];exact vals_pick r _
   have rs2:Reps X.K G (gR ds lo hi c) (gR xs lo hi c):=by
    unfold gR;rw[rs.length];exact pY rs _
   have Og:(gR xs lo hi c).length<=sizeLine:=by
    rw[r2.length];have:=Bx IS lo hi c;lia
   have hq:=I.hok.fresh (Vl s.heap.objs.size);obtain⟨IP,I0⟩:=rel.newL hq rs2;refine⟨.ref s.heap.objs.size,_,I.laid (t':=s.toks) (o:=.lst (gR xs lo hi c)) (fun b ob q=>Vc _ q) (Vl _) ?_,rfl,k _ _ G _ I0 IP⟩;exact⟨Og,_,0,r2,Vy _ rfl⟩
  ·cases e
 ·cases e
theorem Eg{lo hi:Option Expr}{fl fh fs:FP}(he:QO X e fa)(hl:QP X lo fl)(hh:QP X hi fh)(hs:QP X (some se) fs):QE X (.Subscript e (.Slice lo hi (some se) p2) pos) (GA fa fl fh fs):=
 bI (wQ Ef he hl hh hs) fun σ H Q Jc=>by
  obtain⟨G,env,fp,r,env',rel,e,k⟩:=Jc;obtain⟨⟨o,IM⟩,e1,e⟩:=ar e;obtain⟨⟨i,IX⟩,e2,e⟩:=ar e;obtain⟨⟨j,JA⟩,e3,e⟩:=ar e;obtain⟨⟨t,RQ⟩,e4,e⟩:=ar e;obtain⟨d,e5,e⟩:=ar e;obtain⟨r',e6,e⟩:=ar e;cases e;exact⟨G,env,fp,o,IM,rel,e1,fun v H1 G1 Jl Jg IQ J4=>⟨G1,IM,Jl,i,IX,IQ,e2,fun H2 G2 Jx I0 IP=>⟨G2,IX,Jx,j,JA,IP,e3,fun H3 G3 J3 Jt Js=>⟨G3,JA,J3,t,RQ,Js,e4,fun H4 G4 PQ JW JK=>
   ⟨G4,PQ,RQ,σ,d,r,⟨JK,fun v H' G' IV st Ju=>k v H' G' IV (Jg.trans (I0.trans (Jt.trans (JW.trans st)))) Ju⟩,JK.vw (((J4.mono I0.gg).mono Jt.gg).mono JW.gg) e5,e6⟩⟩⟩⟩⟩
end
section
def By(fa fb fc:FX):FX:=fun env=>(fa env).bind fun p=>(fb p.2).bind fun q=>(fc q.2).bind fun t=>.ok ((.t [.f,q.1.1,t.1.1],.tup [p.1.2,q.1.2,t.1.2]),t.2)
theorem Bz{a b c:Expr}{fa fb fc:FX}{x1}{pos:Pos}(ha:QE X a fa)(hb:QE X b fb)(hc:QE X c fc)(h1:starEach [a,b,c] X.env=(false,eval a X.env)::starEach [b,c] X.env:=by rfl)(h2:starEach [b,c] X.env=(false,eval b X.env)::starEach [c] X.env:=by rfl)(h3:starEach [c] X.env=(false,eval c X.env)::starEach [] X.env:=by rfl):
  QE X (.Tuple [a,b,c] x1 pos) (By fa fb fc):=
 bI (zj (gK ha (gK hb (gK hc oW h3) h2) h1)) fun σ H Q Jc=>by
  obtain⟨G,env,fp,r,env',rel,e,k⟩:=Jc;obtain⟨⟨r1,IM⟩,e1,e⟩:=ar e;obtain⟨⟨⟨o2,d2⟩,IX⟩,e2,e⟩:=ar e;obtain⟨⟨⟨o3,d3⟩,JA⟩,e3,e⟩:=ar e;cases e;refine⟨G,env,fp,r1,IM,rel,e1,fun v H1 G1 Jl Jg IQ=>?_⟩;obtain⟨G2,b,rv,IP,I0⟩:=IQ.freeze;refine⟨G2,IM,b,(o2,d2),IX,IP,e2,fun v2 H3 G3 J3 Jt Js=>?_⟩;obtain⟨a3,b3,ef3,ro3,RS,bk3⟩:=Js.frame;refine⟨G3,IX,b3,(o3,d3),JA,RS,e3,fun v3 H4 G4 PQ JW JK=>⟨by rw[line_eq];exact(by decide:3<=16777216),fun p hp=>?_⟩⟩;obtain⟨Nw,Ou⟩:=bk3 G4 H4 _ _ PQ JW JK;rw[<-ef3]at Ou;obtain⟨Ke,K1⟩:=Nw.newF (u:=.tup [v,v2,v3]) hp;refine k _ _ _ _ (Jg.trans (I0.trans (Jt.trans (Ou.trans K1)))) ?_;obtain⟨y,ys,ey,v',a',b',P2,ef,q1,q2⟩:=Ke.rep;cases ey;cases P2;obtain⟨y,ys,ey,v'',RT,b'',P2,ef',q3,q4⟩:=q2;cases ey;cases P2;subst ef';refine⟨⟨some (.ref p),σ,rfl,.ref p,a'++RT,b'',rfl,by rw[ef,Wd],?_,q4⟩,Ke.nd,Ke.gn,Ke.gh⟩;show RepO X.K _ _ (.t [.f,o2,o3]) (.tup [r1.2,d2,d3]) (.ref p) (a'++RT);rw[RepO];refine⟨p,[v,v2,v3],rfl,bc,?_⟩;rw[RepT];refine⟨v,[v2,v3],[],a'++RT,rfl,rfl,gL.mpr ⟨Rep.mono (Jt.gg.trans (Ou.gg.trans K1.gg)) rv,rfl⟩,?_⟩;rw[RepT];refine⟨v2,[v3],a',RT,rfl,rfl,q1,?_⟩;rw[RepT];refine⟨v3,[],RT,[],rfl,by rw[VH],q3,?_⟩;rw[RepT];exact⟨rfl,rfl⟩
end
section
variable{scope:Scope}{N:List Str}{tg iter elt:Expr}{ifs:List Expr}{fi:FI}{a:FG}{c:FT}{f:FX}
end
end PV
namespace L2
section
variable{X:Cx}{tg:Expr}
end
end L2
namespace PV
variable{X:Cx}
section
variable{tg:Expr}
end
abbrev FB:=PV.Env->Bool
variable{st:Stmt}{pos:Pos}{e:Expr}{es:List Expr}{C:Addr}
section
variable{TC:List Stmt}{g:FS}{x:FB}{Ww:Hp->Prop}{c:FT}{np Jj:Pos}{fs:FOs}{y:Str}
end
abbrev FXE:=PV.Env->Option PV.Env
variable{x:Str}{p:Pos}
section
variable{md:Mode}{a b:Expr}{F:List D->Bool}{fs:FOs}{k:Nat}{xe:FXE}{cN:List Stmt}
end
noncomputable def fBodyJ(j np nn:Nat)(c:O)(g:FS)(p:Addr):List D->Res R
 |d0::ds=>if ds.length+1=np/\j<=ds.length then(g ((ds.take j).map (fun d=>some (O.f,d))++some (.pin p c,d0)::((ds.drop j).map (fun d=>some (O.f,d))++List.replicate nn none))).bind fun o=>match o with
  | .rt r=>.ok r
  |_=>.bad
  else .bad
 |[]=>.bad
inductive spJ(j:Nat)(K:W.Frag)(c:O)(F:Addr->List D->Res R)(vs:List V)(H:Hp)(Q:VK)(zz:XK):Prop
 |mk:∀va v vb,vs=va++v::vb->va.length=j->spM K c F (v::(va++vb)) H Q zz->spJ j K c F vs H Q zz
theorem sU{K:W.Frag}{G H:Hp}{es:PV.Env}{us:L2.St}{fp:List Addr}(h:RepE K G H es us fp):∀{ds:List D}{vs:List V},Reps K G ds vs->RepE K G H (ds.map (fun d=>some (O.f,d))++es) (vs.map some++us) fp
 |[],vs,r=>by
  rw[Reps]at r;subst r;exact h
 |d::ds,vs,r=>by
  rw[Reps]at r;obtain⟨y,ys,e,r1,r2⟩:=r;subst e;exact⟨some y,_,rfl,y,[],fp,rfl,rfl,gL.mpr ⟨r1,rfl⟩,sU h r2⟩
theorem mN{K:W.Frag}{G:Hp}:∀{j:Nat}{ds:List D}{va vb:List V},va.length=j->Reps K G ds (va++vb)->Reps K G (ds.take j) va/\Reps K G (ds.drop j) vb
 | 0,ds,[],vb,_,r=>⟨by rw[Yu];exact .nil,r⟩
 |j+1,[],v::va,vb,_,r=>by
  rw[Reps]at r;cases r
 |j+1,d::ds,v::va,vb,hl,r=>by
  rw[Wy,Reps]at r;obtain⟨y,ys,e,r1,r2⟩:=r;cases e;obtain⟨q1,q2⟩:=mN (Nat.succ.inj hl) r2;exact⟨.cons r1 q1,q2⟩
theorem Eh{P:Program}{w:World}{K:W.Frag}{mg:Str->Option Value}{base:Heap}{N ps:List Str}{j k:Nat}{c:O}{g:FS}(Df:Def K mg x st)(sc:FnScope N ps (defScope st))
  (hb:∀(kV doc pm:Value) (an:Option Addr) (Jm ct:Value) (us:List Value),us.length=ps.length->bindArgs (PySem.W.fnOf x x (fC st) (c9 st) (defScope st) .none kV doc pm an Jm ct) ⟨us,[]⟩=pure (ps.zip us))
  (body:∀(f:Addr) (Jm:Value) (A:Around) (outer:List PySem.Env) (s:Shared) (H:Hp) (E:XK),Room k (A.deeper (envOfC x (defScope st) s.heap.objs.size f Jm))->MS (md:=.mut) (xN MP P w K mg base N x (defScope st) f Jm A outer s H E).nox (c9 st) g):
  Ct P w K mg base x (k+1) (spJ j K c (fBodyJ j ps.length (N.length-ps.length) c g)):=by
 obtain⟨f,fd,F,m⟩:=Df;refine⟨f,fd,ps,F.ok sc (fun vs H Q E h=>?_) (fun Jm A outer s H vs Q E hr h=>?_),m,F.kp,F.binds hb⟩
 ·obtain⟨va,v,vb,SH,SI,G,p,Lz,d0,ds,r,MW,_,ev,_,_,_,rs,e,_⟩:=h;cases ev;unfold fBodyJ at e;dsimp only at e;split at e
  ·rename_i hl;have:=rs.length;rw[VJ]at this;rw[SH,VJ,Vm];lia
  ·cases e
 ·obtain⟨va,v,vb,SH,SI,G,p,Lz,d0,ds,r,MW,gh,ev,r0,nd,gn,rs,e,q⟩:=h;cases ev;unfold fBodyJ at e;dsimp only at e;split at e
  ·rename_i hl;have hlen:=rs.length;rw[VJ]at hlen;obtain⟨ra,rb⟩:=mN SI rs;refine⟨_,body f Jm A outer s H E hr,G,(ds.take j).map (fun d=>some (O.f,d))++some (.pin p c,d0)::((ds.drop j).map (fun d=>some (O.f,d))++List.replicate (N.length-ps.length) none),MW,⟨?_,nd,gn,gh⟩,?_⟩
   ·have z:=gO (K:=K) (G:=G) (H:=H) (N.length-ps.length) rb;have z2:RepE K G H (some (.pin p c,d0)::((ds.drop j).map (fun d=>some (O.f,d))++List.replicate (N.length-ps.length) none)) (some (.ref p)::(vb.map some++List.replicate (N.length-ps.length) none)) MW:=
     ⟨some (.ref p),_,rfl,.ref p,MW,[],rfl,(VH _).symm,by rw[RepO];exact⟨rfl,r0⟩,z⟩
    have z3:=sU z2 ra;unfold L2.km;have e1:vs.length=ps.length:=by rw[SH,VJ,Vm];lia
    rw[e1,SH,VA,Vz,Wd,Wy];exact z3
   ·obtain⟨o,eo,e⟩:=ar e;rw[eo];cases o with
    |rt r'=>
     cases e;exact fun v H' G' IV st rel=>q v H' G' IV st rel
    |nx env'=>cases e
    |bk env'=>cases e
    |ct env'=>cases e
  ·cases e
noncomputable def wR(j:Nat)(c:O)(F:Addr->List D->Res R)(i:Nat)(fs:FOs):FX:=fun env=>(fs env).bind fun p=>match p.1[j]? with
 |some (.var j')=>if j'=i then(match p.2[i]? with
  |some (some (ow,d0))=>if pU c ow then(ji (p.2.set i none) (p.1.eraseIdx j)).bind fun ds=>(jV F c d0 ds).bind fun x=>if aS x.1.1 x.1.2&&aS c x.2 then .ok (x.1,(p.2.set i none).set i (some (ow,x.2))) else .ok (x.1,((p.2.set i none).map frz).set i (some (ow,x.2))) else .bad
  |_=>.bad) else .bad
 |_=>.bad
theorem mO{K:W.Frag}{G:Hp}{σ:L2.St}:∀{j:Nat}{os:List Opd}{vs:List V}{o:Opd},mz K G σ os vs->os[j]?=some o->∃va y vb,vs=va++y::vb/\va.length=j/\OpdOk K G σ o y/\mz K G σ (os.eraseIdx j) (va++vb)
 | 0,o'::os,_,o,⟨y,ys,e,k1,k2⟩,h=>by
  cases h;exact⟨[],y,ys,e,rfl,k1,k2⟩
 |j+1,o'::os,_,o,⟨y,ys,e,k1,k2⟩,h=>by
  obtain⟨va,z,vb,e2,hl,q1,q2⟩:=mO (j:=j) k2 (by simpa using h);exact⟨y::va,z,vb,by rw[e,e2];rfl,by rw[Vm,hl],q1,y,va++vb,rfl,k1,q2⟩
section
variable{fs:FOs}
theorem BA{F:Addr->List D->Res R}{c:O}{i j0 k:Nat}(C:Ct X.prog X.w X.K X.mg X.base x k (spJ j0 X.K c F))(hr:Room k X.A)(hg:Gl X x)(ha:Ma X (e::es) fs)(KQ:(x==("__debug__" : Str))=false:=by decide)
  (he:starEach (e::es) X.env=(false,eval e X.env)::starEach es X.env:=by rfl) (JS:(backTo pos (starEach es X.env)).any (·.1)=false:=by rfl):QE X (.Call (.Name x p) (e::es) [] pos) (wR j0 c F i fs):=
 bI (Ay C hr hg ha KQ he JS) fun σ H Q Jc=>by
  obtain⟨G,env,fp,r,env',rel,e,k⟩:=Jc;obtain⟨⟨os,e1⟩,ha,e⟩:=ar e;dsimp only at e;split at e
  ·rename_i j N4;split at e
   ·rename_i hj;subst hj;split at e
    ·rename_i ow d0 hi;split at e
     ·rename_i how;obtain⟨ds,hd,e⟩:=ar e;obtain⟨z,hz,e⟩:=ar e;refine⟨G,env,fp,_,e1,rel,ha,fun vs H1 G1 Jl Jg IQ J4=>?_⟩;show spJ j0 X.K c F (vs++[]) H1 Q _;rw[VH];obtain⟨va,y,vb,ey,SI,k1,k2⟩:=mO J4 N4;refine⟨va,y,vb,ey,SI,?_⟩;obtain⟨v0,a,b,ev,r0,r2,pm⟩:=IQ.rep.take hi;have k1:σ[j]?=some (some y):=k1;rw[k1]at ev;cases ev;obtain⟨⟨q,hq⟩,rc,back⟩:=zP how r0;subst hq;have nd:=VE.mp (pm.nodup_iff.mp IQ.nd);have P0:Rel X.K G1 H1 (e1.set j none) σ b:=⟨r2,nd.2.1,fun w hw=>IQ.gn w (pm.mem_iff.mpr (Vd _ hw)),IQ.gh⟩
      obtain⟨G2,Om,PN,TL,Ld,K3⟩:=P0.lendM2 a (fun w hw hb=>nd.2.2 w hw w hb rfl) (fun w hw=>IQ.gn w (pm.mem_iff.mpr (Vj _ hw)));refine⟨G2,q,va++vb,d0,ds,_,a,PN,rfl,rc.step Om (fun _ _=>rfl),nd.1,TL,jj Om Ld k2 hd,sQ hz q,fun v H' G' IV st rt=>?_⟩;obtain⟨o',d',p',c',TK,er,rl⟩:=rt;cases er;have fin:∀(ee:PV.Env),ee.length=e1.length->(∃G3 J3,Step G1 H1 (a++b) G3 H' J3/\Rel X.K G3 H' (some z.1::some (.pin q c,z.2)::ee) (some v::some (.ref q)::σ) J3)->(z.1,ee.set j (some (ow,z.2)))=(r,env')->Q v H':=by
       rintro ee RN ⟨G3,J3,Jt,Js⟩ TM;cases TM;obtain⟨a1,b1,ef,ro,JE,comb⟩:=Rel.frame Js;have P1:Rel X.K G3 H' (some (ow,z.2)::ee) (some (.ref q)::σ) b1:=by
        obtain⟨y2,ys2,P2,v2,a2,b2,TN,TQ,RO,TR⟩:=JE.rep;cases P2;cases TN;rw[RepO]at RO;exact⟨⟨_,_,rfl,_,a2,b2,rfl,TQ,back _ _ _ _ RO.2,TR⟩,JE.nd,JE.gn,JE.gh⟩
       obtain⟨fq,P4,TU⟩:=P1.back (i:=j) (by rw[RN];exact(Vk.mp hi).1) k1;obtain⟨P5,RP⟩:=comb G3 H' _ _ fq TU P4;rw[<-ef]at RP;exact k v H' G3 _ (Jg.trans ((Jt.perm (fun w=>pm.mem_iff.symm) (fun w hw=>hw)).trans RP)) P5
      obtain⟨b1,b2⟩:=K3 H' G' IV _ _ st rl;split at e
      ·rename_i K0;rw[Vu]at K0;have e:=Res.ok.inj e;refine fin (e1.set j none) (by rw[Wc]) (b1 fun w hw=>?_) e;rcases Vo.mp hw with hw|hw
       ·cases hw;exact K0.1
       ·rw[Vx]at hw;cases hw;simp only[aS];exact K0.2
      ·have e:=Res.ok.inj e;exact fin ((e1.set j none).map frz) (by rw[Ve,Wc]) b2 e
     ·cases e
    ·cases e
   ·cases e
  ·cases e
end
section
variable{f0:FX}{fs:FOs}
end
end PV
namespace NX
noncomputable def RU(o:Obj)(n:Nat)(a:Addr):It:=
 ⟨fun i H=>∃kvs k v,H a=some (.frz o (.dK kvs))/\kvs.length=n/\kvs[i]?=some (k,v),
  fun i H x H'=>H'=H/\∀kvs k v,H a=some (.frz o (.dK kvs))->kvs[i]?=some (k,v)->x=kV k,
  fun i H=>∃kvs,H a=some (.frz o (.dK kvs))/\kvs.length=n/\kvs.length<=i⟩
theorem wU{P:Program}{w:World}{K:W.Frag}{tg:Expr}(o:Obj)(es:Array DictEntry)(ep n:Nat)(a it:Addr)(hd:o.data=.dict es ep):
  Turn P w K tg (RU o n a) [it] it (fun i h=>h.IsKeyIter it a i n ep) where
 mem:=by simp
 obj:=fun i h st b hb=>by
  have e:b=it:=by simpa using hb
  subst e;obtain⟨o,e,c,d⟩:=st;exact⟨o,e,fun v z=>by rw[d]at z;cases z⟩
 keep:=fun i h h' st k=>by
  obtain⟨o,e,c,d⟩:=st;exact⟨o,k it (by simp) o e,c,d⟩
 item:=by
  intro X hP hw hK hc i pr s σ H E I hf st hg;subst hP hw hK;obtain⟨kvs,k,v,ha,hn,hx⟩:=hg;obtain⟨ho,vs,r,hm⟩:=sR I hd ha;have hl:vs.length=n:=by rw[<-hn];exact r.length.symm
  subst hl;obtain⟨u,hu,ru⟩:=Eb r hx;obtain⟨f0,f1,f2,f3,f4,f5⟩:=hf it (by simp);refine wpAny_pyNext_dict_item st hm hu fun key h' KA KD sb=>?_
  have I1:Inv X pr σ H {s with heap:=h'}:=I.turned (t':=s.toks) (fun b o hb e=>(sb.2 b hb).trans e) f0 f1 f3 f4 f5;obtain⟨o',e,c,d⟩:=id KD;exact⟨key,rfl,x4 (s:={s with heap:=h'}) e c d (by decide) ⟨kV k,H,I1,Ea KA,⟨rfl,fun kvs' k' v' h1 h2=>by
   rw[ha]at h1;cases h1;rw[hx]at h2;cases h2;rfl⟩,KD,fun b hb=>(hf b hb).1⟩⟩
 done:=by
  intro X hP hw hK hc i pr s σ H E I hf st hg;subst hP hw hK;obtain⟨kvs,ha,hn,hi⟩:=hg;obtain⟨ho,vs,r,hm⟩:=sR I hd ha;have hl:vs.length=n:=by rw[<-hn];exact r.length.symm
  subst hl;obtain⟨f0,f1,f2,f3,f4,f5⟩:=hf it (by simp);exact wpAny_pyNext_dict_end (I.ok.hd hc) st hm (WV (by lia)) fun h' eb=>⟨rfl,I.turned (t':=s.toks) (fun b o hb e=>eb b o hb e) f0 f1 f3 f4 f5⟩
 self:=fun _ _ _ _ _ st h=>wpAny_pyIter_keyiter st h
def Iu(td:TE):TI:=fun σ H R=>td σ H fun v H1=>∃a o kvs,v=.ref a/\H1 a=some (.frz o (.dK kvs))/\R (RU o kvs.length a) H1
theorem BB{X:Cx}{l tg:Expr}{td:TE}(hl:PE X l td):PI X tg l (Iu td):=by
 intro pr s σ H R I h;refine Ji (hl pr s σ H _ I h) fun v s1 Jk=>?_
 obtain⟨x,H1,I1,r1,a,o,kvs,ex,ha,q⟩:=Jk;subst ex;cases r1;obtain⟨ho,z,nm,vs,r,o',LQ,Po,g1,ex,dat,cN⟩:=(show ObjOk X.prog X.w H1 s1.heap a (.frz o (.dK kvs)) from I1.hok a _ ha)
 have e:=g1.symm.trans ho;cases e;have LC:s1.heap.DictAt (mixKind X.prog X.w) a vs Po:=⟨_,LQ,g1,ex,dat,cN⟩
 refine wpAny_pyIter_dict nm LC ?_;refine⟨s1.heap.objs.size,[s1.heap.objs.size],_,RU _ kvs.length a,H1,rfl,I1.kept (t':=s1.toks) fun b o e=>Vc _ e,wU _ LQ Po kvs.length a _ dat,⟨_,Vy _ rfl,rfl,?_⟩,fun b hb=>?_,q⟩
 ·rw[r.length];rfl
 ·have e:b=s1.heap.objs.size:=by simpa using hb
  subst e;exact I1.fpOk (Vl _) (I1.hok.fresh (Vl _))
theorem iz{X:Cx}{pr:List (Addr×Obj)}{σ:L2.St}{H:Hp}{s:Shared}{a:Addr}{o:Obj}{kvs:List (Key×V)}(I:Inv X pr σ H s)(ha:H a=some (.frz o (.dK kvs)))(h0:∀q u,X.H₀ a≠some (.frz q u)):Inv X pr σ (upd H a (.dK kvs)) s:=by
 have ok:=(show ObjOk X.prog X.w H s.heap a (.frz o (.dK kvs)) from I.hok a _ ha)
 have nn:∀c,H c=none->c≠a:=fun c e z=>by rw[z,ha]at e;cases e
 have nt:∀c xs,H c=some (.tup xs)->c≠a:=fun c xs e z=>by rw[z,ha]at e;cases e
 have nb:∀c ps,H c=some (.tbl ps)->c≠a:=fun c ps e z=>by rw[z,ha]at e;cases e
 have no:∀c b,H c=some (.own b)->c≠a:=fun c b e z=>by rw[z,ha]at e;cases e
 have nf:∀c,H c=none->upd H a (.dK kvs) c=none:=fun c e=>by rw[aF (nn c e)];exact e
 refine⟨I.ok,I.os,I.bare,⟨I.base.keep,I.base.slot,fun b q e n x=>nf b (I.base.free b q e n x),I.base.there,fun b xs e=>?_,fun b q u e=>?_,fun b ps e=>?_⟩,I.loc,I.cell,nf _ I.free,fun x c e=>nf _ (I.freeC x c e),fun p hp=>?_,fun c ob e=>?_,I.len⟩
 ·have h:=I.base.tups b xs e;rw[aF (nt b xs h)];exact h
 ·have:b≠a:=fun z=>h0 q u (z▸e)
  rw[aF this];exact I.base.frzs b q u e
 ·obtain⟨m,h⟩:=I.base.tbls b ps e;exact⟨m,by rw[aF (nb b _ h)];exact h⟩
 ·obtain⟨h1,h2,h3⟩:=I.pin p hp;exact⟨h1,nf _ h2,h3⟩
 ·by_cases ec:c=a
  ·subst ec;rw[bc]at e;cases e;exact(show ObjOk X.prog X.w H s.heap c (.dK kvs) from ok.2).stay (fun _ _ _ q=>q) (fun d q=>by rw[aF (no d _ q)];exact q) fun d l q=>by rw[aF (nt d l q)];exact q
  ·rw[aF ec]at e;exact(I.hok c ob e).stay (fun _ _ _ q=>q) (fun d q=>by rw[aF (no d _ q)];exact q) fun d l q=>by rw[aF (nt d l q)];exact q
noncomputable def RV(a:Addr)(o:Obj)(kvs:List (Key×V))(D:Ends):Ends:=
 ⟨fun σ H=>H a=some (.frz o (.dK kvs))/\D.nx σ (upd H a (.dK kvs)),fun v H=>H a=some (.frz o (.dK kvs))/\D.rt v (upd H a (.dK kvs)),fun σ H=>H a=some (.frz o (.dK kvs))/\D.bk σ (upd H a (.dK kvs)),fun σ H=>H a=some (.frz o (.dK kvs))/\D.ct σ (upd H a (.dK kvs))⟩
def GC(t:TS):TS:=fun D σ H=>∃a kvs,H a=some (.dK kvs)/\∀o,t (RV a o kvs D) σ (upd H a (.frz o (.dK kvs)))
theorem BC{X:Cx}{st:Stmt}{t:TS}(h:PS X st t):PS X st (GC t):=by
 rintro pr s σ H D I ⟨a,kvs,ha,k⟩;obtain⟨z,nm,vs,r,o,es,ep,g1,cN⟩:=(show ObjOk X.prog X.w H s.heap a (.dK kvs) from I.hok a _ ha)
 have h0:∀q u,X.H₀ a≠some (.frz q u):=fun q u e=>by
  have:=I.base.frzs a q u e;rw[ha]at this;cases this
 refine Ji (h pr s σ _ _ (yI I ha g1) (k o)) fun f s' sp=>?_
 cases f with
 |next=>obtain⟨σ',H',I',e,q⟩:=sp;exact⟨σ',_,iz I' e h0,q⟩
 |brk=>obtain⟨σ',H',I',e,q⟩:=sp;exact⟨σ',_,iz I' e h0,q⟩
 |cont=>obtain⟨σ',H',I',e,q⟩:=sp;exact⟨σ',_,iz I' e h0,q⟩
 |ret u=>obtain⟨v,σ',H',I',rv,e,q⟩:=sp;exact⟨v,σ',_,iz I' e h0,rv,q⟩
end NX
namespace PV
variable{K:W.Frag}{G:Hp}{es:PV.Env}{fp:List Addr}{i:Nat}{p:Addr}
section
variable{H:Hp}{vs:L2.St}
theorem Rel.asD{d:D}(q:Rel K G H es vs fp)(e:es[i]?=some (some (.pin p .d,d))):vs[i]?=some (some (.ref p))/\∃fq,Rel K G H (es.set i (some (.d,d))) vs fq/\Step G H fp G H fq:=by
 obtain⟨v,fq,ev,g,st,KD⟩:=q.out e;obtain⟨y,ys,e0,v',a,b,e1,e2,r1,r2⟩:=g.rep;cases e0;cases e1;rw[RepO]at r1;obtain⟨ep,r1⟩:=r1;subst ep;have g2:Rel K G H (some (.d,d)::es.set i none) (some (.ref p)::vs) fq:=⟨⟨_,_,rfl,_,a,b,rfl,e2,r1,r2⟩,g.nd,g.gn,g.gh⟩
 obtain⟨fz,g3,Jt⟩:=g2.back (i:=i) (by rw[Wc];exact(Vk.mp e).1) ev;rw[Xk]at g3;exact⟨ev,fz,g3,st.trans Jt⟩
theorem Rel.asP{d:D}(q:Rel K G H es vs fp)(e:es[i]?=some (some (.d,d)))(hv:vs[i]?=some (some (.ref p))):∃fq,Rel K G H (es.set i (some (.pin p .d,d))) vs fq/\Step G H fp G H fq:=by
 obtain⟨v,fq,ev,g,st,KD⟩:=q.out e;rw[hv]at ev;cases ev;obtain⟨y,ys,e0,v',a,b,e1,e2,r1,r2⟩:=g.rep;cases e0;cases e1;have g2:Rel K G H (some (.pin p .d,d)::es.set i none) (some (.ref p)::vs) fq:=⟨⟨_,_,rfl,_,a,b,rfl,e2,by rw[RepO];exact⟨rfl,r1⟩,r2⟩,g.nd,g.gn,g.gh⟩
 obtain⟨fz,g3,Jt⟩:=g2.back (i:=i) (by rw[Wc];exact(Vk.mp e).1) hv;rw[Xk]at g3;exact⟨fz,g3,st.trans Jt⟩
theorem Rel.chgP{pp:Addr}{tk:Bool}{ks ws:List D}(q:Rel K G H es vs fp)(e:es[i]?=some (some (.pin pp .d,.dct tk ks ws))):∃p xs u,vs[i]?=some (some (.ref p))/\H p=some u/\DictO u tk ks xs/\Reps K G ws xs/\
  ∀u' Oq J8 Ot,DictO u' tk Oq J8->Reps K G Ot J8->∃fq,Rel K G (upd H p u') (es.set i (some (.pin pp .d,.dct tk Oq Ot))) vs fq/\Step G H fp G (upd H p u') fq:=by
 have hi:i<es.length:=(Vk.mp e).1;obtain⟨hv,fa,qa,sa⟩:=q.asD e;obtain⟨p,xs,u,ev,hp,dd,rs,cg⟩:=qa.chgD (i:=i) (by rw[Wt hi]);rw[hv]at ev;cases ev;refine⟨pp,xs,u,hv,hp,dd,rs,fun u' Oq J8 Ot d' r'=>?_⟩;obtain⟨fb,qb,sb⟩:=cg u' Oq J8 Ot d' r';rw[Xk]at qb;obtain⟨fc,qc,sc⟩:=qb.asP (i:=i) (by rw[Wt hi]) hv;rw[Xk]at qc;exact⟨fc,qc,sa.trans (sb.trans sc)⟩
end
noncomputable def sPutP(i:Nat)(fk fv:FX):FS:=fun env=>(fv env).bind fun p=>(fk p.2).bind fun q=>match p.2[i]?,q.2[i]? with
 |some (some _),some (some (.pin pp .d,.dct tk ks vs))=>if dO tk q.1.2&&decide (ks.length<sizeLine) then .ok (.nx (q.2.set i (some (.pin pp .d,.dct tk (qX ks vs q.1.2 p.1.2).1 (qX ks vs q.1.2 p.1.2).2)))) else .bad
 |_,_=>.bad
variable{X:Cx}
section
variable{md:Mode}
theorem BD{o ix value:Expr}{fk fv:FX}{pos pos':Pos}(hu:X.A.units+1<cLine)(ho:PE X o (xM i))(hi:QE X ix fk)(hv:QE X value fv)(hs:swapsWith value (some (.Subscript o ix pos')) pos.line X.env=pure false:=by rfl):
  QS (md:=md) X (.Assign [.Subscript o ix pos'] value pos) (sPutP i fk fv):=fM (AU hu ho hi hv hs) fun Dd σ H Jc=>by
 obtain⟨G,env,fp,rel,k⟩:=Jc;unfold sPutP at k;match q1:fv env,k with
 | .ok (r1,IM),k=>
  have k:OutOk X.K G H fp Dd ((fk IM).bind fun q=>match IM[i]?,q.2[i]? with
   |some (some _),some (some (.pin pp .d,.dct tk ks vs))=>if dO tk q.1.2&&decide (ks.length<sizeLine) then .ok (.nx (q.2.set i (some (.pin pp .d,.dct tk (qX ks vs q.1.2 r1.2).1 (qX ks vs q.1.2 r1.2).2)))) else .bad
   |_,_=>.bad):=k
  match q2:fk IM,k with
  | .ok (r2,IX),k=>
   have k:OutOk X.K G H fp Dd (match IM[i]?,IX[i]? with
    |some (some _),some (some (.pin pp .d,.dct tk ks vs))=>if dO tk r2.2&&decide (ks.length<sizeLine) then .ok (.nx (IX.set i (some (.pin pp .d,.dct tk (qX ks vs r2.2 r1.2).1 (qX ks vs r2.2 r1.2).2)))) else .bad
    |_,_=>.bad):=k
   split at k
   ·rename_i rr pp tk ks ws h1 h2;split at k
    ·rename_i hc;rw[Vu,Vq]at hc;refine⟨G,env,fp,r1,IM,rel,q1,fun y H1 G1 Jl Jg IQ=>?_⟩;obtain⟨G2,b,ry,IP,I0⟩:=IQ.freeze;obtain⟨v0,QU,_⟩:=IP.view h1;refine⟨v0,QU,G2,IM,b,r2,IX,IP,q2,fun z H3 G3 J3 Jt Js=>?_⟩;obtain⟨G4,b4,rz,JK,JW⟩:=Js.freeze;obtain⟨p,xs,u,ep,hp,dd,rs,cg⟩:=JK.chgP h2;rw[QU]at ep;cases ep;have SG:Rep X.K G4 r1.2 y:=Rep.mono (Jt.gg.trans JW.gg) ry;cases tk with
     |true=>
      obtain⟨kvs,eu,ek,ex,P6⟩:=dd;subst eu;subst ex;have hk:=hc.1;unfold dO at hk;rw[Vn rfl,Wb]at hk;obtain⟨kk,hk⟩:=hk;obtain⟨pz,ez,gz,dz⟩:=eK hk rz;subst ez;obtain⟨t1,t2⟩:=pQ (K:=X.K) (G:=G4) kT sL (k:=kk) rs SG;have ek:ks=kvs.map fun kv=>kT kv.1:=ek
      rw[<-ek,<-dz]at t1 t2;have hfk:∀key∈kk,uv key:=by
       cases hd:r2.2 with
       |tup ds=>
        rw[hd]at hk rz;obtain⟨_,J8,_,_,KS⟩:=wg rz;exact wC hk KS
       |_=>rw[hd]at hk;cases hk
      obtain⟨fq,Ke,K1⟩:=cg (.dT (kr kvs kk y)) _ _ _ ⟨kr kvs kk y,rfl,t1.symm,rfl,sN (P:=fun ks=>∀k∈ks,uv k) P6 hfk⟩ t2;have hlen:kvs.length<sizeLine:=by have:=hc.2;rw[ek,Ve]at this;exact this
      exact⟨p,_,rfl,DPut.t hp (JK.gh _ _ gz) hlen,k _ _ G4 fq (Jg.trans (I0.trans (Jt.trans (JW.trans K1)))) Ke⟩
     |false=>
      obtain⟨kvs,eu,ek,ex,P6⟩:=dd;subst eu;subst ex;have hk:=hc.1;unfold dO at hk;rw[Vt Vg,Wb]at hk;obtain⟨kk,hk⟩:=hk;obtain⟨ez,dz⟩:=iy hk rz;subst ez;obtain⟨t1,t2⟩:=pQ (K:=X.K) (G:=G4) kD wz (k:=kk) rs SG;rw[<-ek,<-dz]at t1 t2;obtain⟨fq,Ke,K1⟩:=cg (.dK (kr kvs kk y)) _ _ _ ⟨kr kvs kk y,rfl,t1.symm,rfl,sN (P:=uv) P6 (wB hk rz)⟩ t2;have hlen:kvs.length<sizeLine:=by have:=hc.2;rw[ek,Ve]at this;exact this
      exact⟨p,_,rfl,DPut.k hp hlen,k _ _ G4 fq (Jg.trans (I0.trans (Jt.trans (JW.trans K1)))) Ke⟩
    ·exact k.elim
   ·exact k.elim
end
def cleanE(i:Nat)(env:PV.Env):Bool:=(env.set i none).all fun r=>match r with
 |some r=>aS r.1 r.2
 |none=>true
def yK(i:Nat)(p:Addr)(env:PV.Env):Bool:=match env[i]? with
 |some (some (.pin q .f,_))=>decide (q=p)
 |_=>false
noncomputable def uB(i:Nat)(p:Addr)(d:D):Out->Res Out
 | .nx env=>if yK i p env&&cleanE i env then .ok (.nx (env.set i (some (.pin p .d,d)))) else .bad
 | .rt (.t [o,.pin q .f],.tup [r,_])=>if decide (q=p)&&aS o r then .ok (.rt (.t [o,.pin p .d],.tup [r,d])) else .bad
 |_=>.bad
def BE(i:Nat)(a:FG)(g:FS):FS:=fun env=>match env[i]? with
 |some (some (.pin p .d,.dct false ks vs))=>(eW a g ks (env.set i (some (.pin p .f,.dct false ks vs)))).bind (uB i p (.dct false ks vs))
 |_=>.bad
def off(G:Hp)(p:Addr):Hp:=fun z=>if z=p then none else G z
variable{kvs:List (Key×V)}{o:Obj}{vs:List D}
theorem pZ{H G' H':Hp}{Jl IV:List Addr}{σ:L2.St}{d':D}(gp:G p=none)(pf:p∈fp)(f1:∀z∈Jl,z∈fp)
  (st:Step (upd G p (.frz o (.dK kvs))) (upd H p (.frz o (.dK kvs))) Jl G' H' IV) (rel:Rel K G' H' es σ IV) (hi:es[i]?=some (some (.pin p .f,d'))) (cl:cleanE i es=true) (hf:∀kv∈kvs,uv kv.1) (rs:Reps K G vs (kvs.map (·.2))):
  H' p=some (.frz o (.dK kvs))/\∃G2 fz,Step G H fp G2 (upd H' p (.dK kvs)) fz/\Rel K G2 (upd H' p (.dK kvs)) (es.set i (some (.pin p .d,.dct false (kvs.map fun kv=>kD kv.1) vs))) σ fz:=by
 have TV:G' p=some (.frz o (.dK kvs)):=st.gg p _ bc;refine⟨rel.gh p _ TV,?_⟩;obtain⟨v,fq,ev,g,Jg,_⟩:=rel.out hi;have I0:=st.trans Jg;obtain⟨y,ys,e0,v',a,b,e1,e2,r1,r2⟩:=g.rep;cases e0;cases e1;rw[RepO]at r1;obtain⟨ep,r1⟩:=r1;obtain⟨_,ea⟩:=gL.mp r1;subst ea;subst ep;have e2:fq=b:=e2;subst e2;have np:∀z∈fq,z≠p:=fun z hz e=>by
  have:=g.gn z hz;rw[e,TV]at this;cases this
 have TY:(off G' p) p=none:=Vn rfl;have RW:∀z,z≠p->(off G' p) z=G' z:=fun z h=>Vt h
 have gg:Same G (off G' p):=fun z u e=>by
  have hz:z≠p:=fun h=>by rw[h,gp]at e;cases e
  rw[RW z hz];exact st.gg z u (by rw[aF hz];exact e)
 have rc:RepE K (off G' p) H' (es.set i none) σ fq:=by
  refine RepE.clean (fun z u t e=>?_) (fun r hr=>?_) r2
  ·have hz:z≠p:=fun h=>by rw[h,TV]at e;cases e;cases t
   rw[RW z hz];exact e
  ·have:=VO.mp cl _ hr;exact this
 have IP:Rel K (off G' p) (upd H' p (.dK kvs)) (some (.pin p .d,.dct false (kvs.map fun kv=>kD kv.1) vs)::es.set i none) (some (.ref p)::σ) (p::fq):=by
  refine⟨⟨some (.ref p),σ,rfl,.ref p,[p],fq,rfl,rfl,?_,rc.step (.refl _) fun z hz=>aF (np z hz)⟩,VN.mpr ⟨fun h=>np p h rfl,g.nd⟩,fun z hz=>?_,fun z u e=>?_⟩
  ·rw[RepO];refine⟨rfl,?_⟩;rw[RepO];exact⟨p,kvs.map (·.2),.dK kvs,rfl,bc,⟨kvs,rfl,rfl,rfl,hf⟩,rfl,Reps.mono gg rs⟩
  ·rcases Vo.mp hz with h|h
   ·rw[h];exact TY
   ·rw[RW z (np z h)];exact g.gn z h
  ·by_cases hz:z=p
   ·rw[hz,TY]at e;cases e
   ·rw[RW z hz]at e;rw[aF hz];exact rel.gh z u e
 have Jr:Step G H fp (off G' p) (upd H' p (.dK kvs)) (p::fq):=by
  refine⟨gg,fun z u e n=>?_,fun z hz=>?_,fun z u e=>?_,fun z u e=>?_⟩
  ·have hz:z≠p:=fun h=>n (h▸pf)
   rw[aF hz];exact I0.keep z u (by rw[aF hz];exact e) fun h=>n (f1 z h)
  ·rcases Vo.mp hz with h|h
   ·exact .inl (h▸pf)
   ·rcases I0.fpn z h with h2|h2
    ·exact .inl (f1 z h2)
    ·rw[aF (np z h)]at h2;exact .inr h2
  ·by_cases hz:z=p
   ·rw[hz,TY]at e;cases e
   ·rw[RW z hz]at e;rcases I0.gnew z u e with h|h|h|⟨t,h⟩
    ·rw[aF hz]at h;exact .inl h
    ·exact .inr (.inl (f1 z h))
    ·rw[aF hz]at h;exact .inr (.inr (.inl h))
    ·rw[aF hz]at h;exact .inr (.inr (.inr ⟨t,h⟩))
  ·by_cases hz:z=p
   ·exact⟨_,by rw[hz,bc]⟩
   ·obtain⟨u',h⟩:=I0.there z u (by rw[aF hz];exact e);exact⟨u',by rw[aF hz];exact h⟩
 obtain⟨fz,g3,Jt⟩:=IP.back (i:=i) (by rw[Wc];exact(Vk.mp hi).1) ev;rw[Xk]at g3;exact⟨_,fz,Jr.trans Jt,g3⟩
theorem yL{H:Hp}{f1 b0:List Addr}{o:Obj}{i:Nat}{D0:Ends}{r:Res Out}(gp:G p=none)(SJ:Step G H fp G H (p::b0))(SK:∀z∈f1,z∈p::b0)(hf:∀kv∈kvs,uv kv.1)(rs:Reps K G vs (kvs.map (·.2)))
  (k:OutOk (md:=.mut) K G H fp D0 (r.bind (uB i p (.dct false (kvs.map fun kv=>kD kv.1) vs)))):OutOk (md:=.mut) K (upd G p (.frz o (.dK kvs))) (upd H p (.frz o (.dK kvs))) f1 (RV p o kvs D0) r:=by
 cases r with
 |bad=>exact k
 |exc c=>exact k
 |ok out=>
  have k:OutOk (md:=.mut) K G H fp D0 (uB i p (.dct false (kvs.map fun kv=>kD kv.1) vs) out):=k;unfold uB at k;split at k
  ·rename_i e';split at k
   ·rename_i K0;rw[Vu]at K0;obtain⟨h1,h2⟩:=K0;unfold yK at h1;split at h1
    ·rename_i q' d' hq';rw[Vq]at h1;subst h1;intro σ' H' G' IV st rl;obtain⟨z,G2,fz,I0,TZ⟩:=pZ (G:=G) (H:=H) (fp:=q'::b0) gp Va SK st rl hq' h2 hf rs;exact⟨z,k σ' _ G2 fz (SJ.trans I0) TZ⟩
    ·cases h1
   ·exact k.elim
  ·rename_i o' q' r d0 _;split at k
   ·rename_i K0;rw[Vu,Vq]at K0;obtain⟨h1,h2⟩:=K0;subst h1;rintro v H' G' IV st ⟨o2,d2,p2,c2,d02,er,rl⟩;cases er;obtain⟨z,G2,fz,I0,TZ⟩:=pZ (G:=G) (H:=H) (fp:=q'::b0) (i:=1) gp Va SK st rl rfl (by show(List.all [some (o',r),none] _)=true;simp only[XY,List.all_nil,h2,Wx]) hf rs;exact⟨z,k v _ G2 fz (SJ.trans I0) ⟨_,_,_,_,_,rfl,TZ⟩⟩
   ·exact k.elim
  ·exact k.elim
theorem wV{a:Addr}(h:G a=some (.frz o (.dK kvs)))(hf:∀kv∈kvs,uv kv.1):Walk K G (RU o kvs.length a) (kvs.map fun kv=>kD kv.1):=by
 intro G' H' es vs fp gg rel i;have h':H' a=some (.frz o (.dK kvs)):=rel.gh _ _ (gg _ _ h);refine⟨fun d hd=>?_,fun e=>⟨kvs,h',rfl,by rw[Ve]at e;lia⟩⟩;rw[Vs]at hd;cases hk:kvs[i]? with
 |none=>rw[hk]at hd;cases hd
 |some kv=>
  rw[hk]at hd;cases hd;refine⟨⟨kvs,kv.1,kv.2,h',rfl,hk⟩,fun y H2 ⟨e,hy⟩=>?_⟩;subst e;have:=hy kvs kv.1 kv.2 h' hk;subst this;exact⟨G',zN (hf _ (VF hk)),rel,.refl⟩
section
theorem BF{tg iter:Expr}{body:List Stmt}{a:FG}{g:FS}{pos:Pos}(hp:PassesOwn (model X.prog X.w) X.A X.env X.xe)(hc:X.calm=true)(hn:PE X iter (xM i))(hg:QG X tg a)(hb:MS (md:=.mut) X body g)(hs:∀x,foldedSetIterable iter X.env x=pure x:=by intro _;rfl):
  QS (md:=.mut) X (.For tg iter body [] pos) (BE i a g):=
 fM (BC (zi hp hc (BB hn) hg hb hs)) fun D0 σ H Jc=>by
  obtain⟨G,env,fp,rel,k⟩:=Jc;unfold BE at k;split at k
  ·rename_i p ks vs hi;obtain⟨v,fq,ev,g1,SJ,_⟩:=rel.out hi;obtain⟨y,ys,e0,v',a0,b0,e1,e2,r1,r2⟩:=g1.rep;cases e0;cases e1;rw[RepO]at r1;obtain⟨ep,r1⟩:=r1;subst ep;rw[RepO]at r1;obtain⟨p',xs,o0,ev1,hH,dd,ea,rs⟩:=r1;cases ev1;subst ea;subst e2;obtain⟨kvs,eo,ek,ex,hf⟩:=(show ∃kvs:List (Key×V),o0=.dK kvs/\ks=kvs.map (fun kv=>kD kv.1)/\xs=kvs.map (·.2)/\∀kv∈kvs,uv kv.1 from dd)
   subst eo ex ek;have nd:=VN.mp (show(p::b0).Nodup from g1.nd);have gp:G p=none:=g1.gn p Va;have UM:∀z∈b0,z≠p:=fun z hz e=>nd.1 (e▸hz)
   refine⟨p,kvs,hH,fun o=>?_⟩;have UN:Same G (upd G p (.frz o (.dK kvs))):=fun z u e=>by rw[aF (bq e gp)];exact e
   have relA:Rel X.K (upd G p (.frz o (.dK kvs))) (upd H p (.frz o (.dK kvs))) (some (.pin p .f,.dct false (kvs.map fun kv=>kD kv.1) vs)::env.set i none) (some (.ref p)::σ) b0:=by
    refine⟨⟨_,_,rfl,.ref p,[],b0,rfl,rfl,?_,r2.step UN fun z hz=>aF (UM z hz)⟩,nd.2,fun z hz=>?_,fun z u e=>?_⟩
    ·rw[RepO];refine⟨rfl,gL.mpr ⟨?_,rfl⟩⟩;rw[Rep];exact⟨p,kvs.map (·.2),.dK kvs,rfl,.inr ⟨o,bc⟩,⟨kvs,rfl,rfl,rfl,hf⟩,Reps.mono UN rs⟩
    ·rw[aF (UM z hz)];exact g1.gn z (Vb _ hz)
    ·by_cases hz:z=p
     ·subst hz;rw[bc]at e ⊢;exact e
     ·rw[aF hz]at e ⊢;exact g1.gh z u e
   obtain⟨f1,IQ,Jg⟩:=relA.back (i:=i) (by rw[Wc];exact(Vk.mp hi).1) ev;rw[Xk]at IQ;have SK:∀z∈f1,z∈p::b0:=fun z hz=>by
    rcases Jg.fpn z hz with h|h
    ·exact Vb _ h
    ·exfalso;obtain⟨u,hu⟩:=IQ.rep.live z hz;rw[h]at hu;cases hu
   refine⟨.ref p,ev,p,o,kvs,rfl,bc,?_⟩;have k1:=yL (o:=o) (G:=G) (H:=H) (fp:=fp) gp SJ SK hf rs k;have wk:Walk X.K (upd G p (.frz o (.dK kvs))) (RU o kvs.length p) (kvs.map fun kv=>kD kv.1):=wV bc hf;generalize (kvs.map fun kv=>kD kv.1)=ds at k1 wk IQ;refine⟨fun j m σ' H'=>m=ds.length-j/\j<=ds.length/\∃G' env' IV,Same (upd G p (.frz o (.dK kvs))) G'/\Rel X.K G' H' env' σ' IV/\OutOk (md:=.mut) X.K G' H' IV (RV p o kvs D0) (eW a g (ds.drop j) env'),⟨_,rfl,V0 _,_,_,f1,.refl _,IQ,k1⟩,?_⟩;rintro j m σ2 H2 ⟨rfl,hj,G2,IX,Jx,gg,IP,k2⟩;obtain⟨w1,w2⟩:=wk G2 H2 _ _ _ gg IP j;by_cases Jv:j<ds.length
   ·have hd:ds[j]?=some ds[j]:=U9 Jv;obtain⟨go,yl⟩:=w1 _ hd;rw[X7 Jv]at k2;refine .inr ⟨go,fun σ' H'=>∃G' env' IV,Same (upd G p (.frz o (.dK kvs))) G'/\Rel X.K G' H' env' σ' IV/\OutOk (md:=.mut) X.K G' H' IV (RV p o kvs D0) (eW a g (ds.drop (j+1)) env'),fun σ' H' z=>⟨ds.length-(j+1),by lia,rfl,Jv,z⟩,fun x H3 y=>?_⟩;obtain⟨G3,rx,Js,Jt⟩:=yl x H3 y;unfold eW at k2;match q3:a ds[j] IX,k2 with
    | .ok JA,k2=>
     refine⟨G3,IX,Jx,ds[j],JA,Js,rx,q3,fun σ4 G4 PQ JW JK=>⟨G4,JA,PQ,JK,?_⟩⟩;have k3:OutOk (md:=.mut) X.K G2 H2 Jx (RV p o kvs D0) ((g JA).bind fun o=>match o with | .nx e=>eW a g (ds.drop (j+1)) e | .ct e=>eW a g (ds.drop (j+1)) e | .bk e=>.ok (.nx e) | .rt r=>.ok (.rt r)):=k2;match q4:g JA,k3 with
     | .ok (.nx e),k3=>exact fun σ' H' G' IV st rel=>⟨G',e,IV,gg.trans (Jt.gg.trans (JW.gg.trans st.gg)),rel,OutOk.after (Jt.trans (JW.trans st)) k3⟩
     | .ok (.ct e),k3=>exact fun σ' H' G' IV st rel=>⟨G',e,IV,gg.trans (Jt.gg.trans (JW.gg.trans st.gg)),rel,OutOk.after (Jt.trans (JW.trans st)) k3⟩
     | .ok (.bk e),k3=>exact fun σ' H' G' IV st rel=>k3 σ' H' G' IV (Jt.trans (JW.trans st)) rel
     | .ok (.rt r),k3=>exact fun v H' G' IV st rel=>k3 v H' G' IV (Jt.trans (JW.trans st)) rel
   ·have e:j=ds.length:=by lia
    subst e;rw[Zj]at k2;exact .inl ⟨w2 rfl,k2 σ2 H2 G2 Jx .refl IP⟩
  ·exact k.elim
end
end PV
namespace NX
section
variable{X:Cx}
end
end NX
namespace PV
section
variable{X:Cx}
end
inductive Ext:Hp->Hp->Prop
 |refl {H:Hp}:Ext H H
 |new {H H1:Hp}{p:Addr}{xs:List V}:Ext H H1->H1 p=none->Ext H (upd H1 p (.tup xs))
theorem Ext.trans{H H1 H2:Hp}(a:Ext H H1)(b:Ext H1 H2):Ext H H2:=by
 induction b with
 |refl=>exact a
 |new _ hp ih=>exact .new ih hp
inductive BExp where
 |con (b:Bool)|var (j:Nat)|not (x:BExp)|and (x y:BExp)
section
variable{X:Cx}{a:Addr}{o:Obj}{i:Nat}{e b:Expr}{cN:List Expr}{x y:BExp}{pos p q:Pos}{n:Str}
variable{C:Addr}{vs:Array Value}
end
section
variable{md:Mode}{X:Cx}{x:Str}{pos:Pos}{C:Addr}{xe:FXE}
end
end PV
namespace PV
section
variable{X:Cx}
end
end PV
namespace PV
section
variable{K:W.Frag}{G H:Hp}
theorem AllO.length{P:D->V->List Addr->Prop}:∀{ds:List D}{xs:List V}{fp:List Addr},AllO P ds xs fp->xs.length=ds.length
 |[],xs,fp,r=>by
  rw[r.1];rfl
 |d'::ds,xs,fp,r=>by
  obtain⟨y,ys,a1,b1,e1,e2,p,r⟩:=r;subst e1;rw[Vm,Vm,r.length]
end
section
variable{md:Mode}{X:Cx}{scope:Scope}{N:List Str}{tg iter elt:Expr}{ifs:List Expr}{pos:Pos}{fi:FI}{a:FG}{c:FT}{f:FX}
end
section
variable{X:Cx}{x:Str}{p pos Pt:Pos}{e1 e2 e3:Expr}{fo:FO}{fb:FX}
end
section
variable{X:Cx}{x:Str}{p pos p1 p2 q1 q2:Pos}{o o':Expr}{j1 j2:_}
end
section
variable{K:W.Frag}{G H:Hp}
end
section
variable{X:Cx}{a b:Expr}{fa fb:FX}{pos:Pos}
end
section
variable{K:W.Frag}{G H:Hp}
end
section
variable{X:Cx}
end
section
variable{X:Cx}
end
section
variable{K:W.Frag}{G H:Hp}
end
section
variable{X:Cx}{a b:Expr}{fa fb:FX}{pos:Pos}
end
section
variable{md:Mode}{X:Cx}{pos Pt:Pos}
end
section
variable{X:Cx}{C:Addr}{pos:Pos}{cN a b:List Stmt}{ct:Expr}
end
section
variable{X:Cx}{x y:Str}{p pos pos' Jj:Pos}{e:Expr}{es:List Expr}{C:Addr}{F:List D->Bool}{fs:FOs}{k:Nat}{cN:List Stmt}{Ww:Hp->Prop}
end
section
variable{X:Cx}{a:Addr}{i j jc:Nat}{x1 x2:BExp}{e1 e2 vc:Expr}{n nc:Str}{pos pos1 JD pos' pos'' bp p:Pos}
end
section
variable{md:Mode}{X:Cx}{x:Str}{pos:Pos}{C:Addr}{xe:FXE}
end
section
variable{X:Cx}
end
section
variable{K:W.Frag}{G H:Hp}
end
section
variable{X:Cx}{pos:Pos}
end
end PV
namespace NX
namespace ST
def memB{K:Type}[DecidableEq K](k:List K)(L:List (List K)):Bool:=decide (k∈L)
theorem memB_iff{K:Type}[DecidableEq K]{k:List K}{L:List (List K)}:memB k L=true<->k∈L:=decide_eq_true_iff
theorem met_succ{K:Type}[DecidableEq K](kf:Nat->List K)(i:Nat):met kf (i+1)=if memB (kf i) (met kf i) then met kf i else kf i::met kf i:=by
 rw[met];unfold memB;by_cases h:kf i∈met kf i
 ·rw[Vn h,Vn (VB h)]
 ·rw[Vt h,Vt (by rw[VM h];exact Vg)]
end ST
end NX
namespace PV
def dst:List D->List D->List D
 |acc,[]=>acc
 |acc,d::ds=>dst (if acc.any (IU d) then acc else d::acc) ds
def uC:List D->Res R
 |[.lst ds]=>if ds.length<=76&&ds.all (dO true) then .ok (.f,.int ((dst [] ds).length:Nat)) else .bad
 |_=>.bad
theorem Ei(k:List Key)(L:List (List Key)):(L.map kT).any (IU (kT k))=ST.memB k L:=by
 rw[Xx,VT,Wa,ST.memB_iff];constructor
 ·rintro⟨b,hb,e⟩;have e:IU (kT k) (kT b)=true:=e;rw[sL,Vq]at e;rw[e];exact hb
 ·intro h;exact⟨k,h,by show IU (kT k) (kT k)=true;rw[sL];exact VB rfl⟩
theorem wW(ks:List (List Key)):∀(r:List (List Key)) (i:Nat),ks.drop i=r->dst ((ST.met (fun i=>ks.getD i []) i).map kT) (r.map kT)=(ST.met (fun i=>ks.getD i []) (i+r.length)).map kT
 |[],i,_=>rfl
 |k::r,i,h=>by
  have hi:ks.getD i []=k:=by
   rw[Vi,<-List.head?_drop,h];rfl
  have hd:ks.drop (i+1)=r:=by
   rw[<-List.tail_drop,h];rfl
  have ih:=wW ks r (i+1) hd;rw[Vz,dst,Ei,Vm,show i+(r.length+1)=i+1+r.length by lia,<-ih];congr 1
  rw[ST.met_succ];rw[hi];cases ST.memB k (ST.met (fun i=>ks.getD i []) i) with
  |true=>rw[Vn rfl,Vn rfl]
  |false=>rw[Vt Vg,Vt Vg,Vz]
section
variable{X:Cx}{e:Expr}{fs:FOs}{p p2 pos JD:Pos}
theorem BG(hc:X.calm=true)(hu:X.A.units+8<cLine)(hg:Gl X "len")(hm:X.mg "len" = none)(M8:Gl X "set")(Nn:X.mg "set" = none)(ha:Ma X [e] fs)
  (he:backTo pos (starEach [.Call (.Name "set" p2) [e] [] JD] X.env)=[(false,eval (.Call (.Name "set" p2) [e] [] JD) X.env)]:=by rfl)
  (Oj:starEach [e] X.env=(false,eval e X.env)::starEach [] X.env:=by rfl) (Mg:(backTo JD (starEach [] X.env)).any (·.1)=false:=by rfl):
  QE X (.Call (.Name "len" p) [.Call (.Name "set" p2) [e] [] JD] [] pos) (aY uC fs):=
 bI (ST.pe_lenS hc hu hg hm M8 Nn ha he Oj Mg) fun σ H Q h=>by
  refine sS (nL h) fun xs H1 Jk=>?_
  obtain⟨G,fp,es,vs,ds,r,⟨rel,k⟩,vd,e⟩:=Jk;unfold uC at e;split at e
  ·rename_i ds;split at e
   ·rename_i hcnd;cases e;rw[Vu,Vq,VO]at hcnd;obtain⟨UA,Kq⟩:=hcnd;obtain⟨v,ev,p,ys,ep,sq,rs⟩:=nU vd;subst ev ep;have hlen:=rs.length;have UO:∀(i:Nat) d,ds[i]?=some d->∃kk,dN d=some kk:=fun i d hd=>by
     have:=Kq d (VF hd);unfold dO at this;rw[Vn rfl,Wb]at this;exact this
    have LC:∀(i:Nat) y,ys[i]?=some y->∃b,y=.ref b/\H1 b=some (.tup (((ds.map fun d=>(dN d).getD []).getD i []).map kV))/\ds[i]?=some (kT ((ds.map fun d=>(dN d).getD []).getD i [])):=fun i y hy=>by
     obtain⟨d,hd,rd⟩:=rs.getV hy;obtain⟨kk,Nm⟩:=UO i d hd;obtain⟨b,eb,gb,T3⟩:=eK Nm rd;have eg:(ds.map fun d=>(dN d).getD []).getD i []=kk:=by
      rw[Vi,Vs,hd,YM,Nm];rfl
     rw[eg];exact⟨b,eb,rel.gh _ _ gb,by rw[hd,T3]⟩
    have N5:(ds.map fun d=>(dN d).getD []).map kT=ds:=by
     refine Yr fun i=>?_
     cases hd:ds[i]? with
     |none=>rw[Vs,Vs,hd];rfl
     |some d=>
      obtain⟨y,hy,rd⟩:=rs.get hd;obtain⟨kk,Nm⟩:=UO i d hd;obtain⟨b,eb,gb,T3⟩:=eK Nm rd;rw[Vs,Vs,hd,YM,YM,Nm,T3];rfl
    have RX:=wW (ds.map fun d=>(dN d).getD []) _ 0 rfl;rw[YW,N5,Xw,Ve]at RX;refine⟨p,ys,fun i=>(ds.map fun d=>(dN d).getD []).getD i [],rfl,sq,by lia,fun i y hy=>?_,?_⟩
    ·obtain⟨b,eb,gb,_⟩:=LC i y hy;exact⟨b,eb,gb⟩
    ·have NU:(dst [] ds).length=(ST.met (fun i=>(ds.map fun d=>(dN d).getD []).getD i []) ys.length).length:=by
      rw[hlen];have:=WM List.length RX;rw[Ve]at this;exact this
     rw[<-NU];exact k _ H1 G fp .refl (rel.push (bJ _))
   ·cases e
  ·cases e
end
def lenSI:List D->Res R
 |[.lst ds]=>match dY ds with
  |some ns=>if ns.length<=4000 then .ok (.f,.int ((ns.foldl step_dedup []).length:Nat)) else .bad
  |none=>.bad
 |_=>.bad
section
variable{X:Cx}{e:Expr}{fs:FOs}{p p2 pos JD:Pos}
theorem BH(hc:X.calm=true)(hg:Gl X "len")(hm:X.mg "len" = none)(M8:Gl X "set")(Nn:X.mg "set" = none)(ha:Ma X [e] fs)
  (he:backTo pos (starEach [.Call (.Name "set" p2) [e] [] JD] X.env)=[(false,eval (.Call (.Name "set" p2) [e] [] JD) X.env)]:=by rfl)
  (Oj:starEach [e] X.env=(false,eval e X.env)::starEach [] X.env:=by rfl) (Mg:(backTo JD (starEach [] X.env)).any (·.1)=false:=by rfl):
  QE X (.Call (.Name "len" p) [.Call (.Name "set" p2) [e] [] JD] [] pos) (aY lenSI fs):=
 bI (ST.pe_lenI hc hg hm M8 Nn ha he Oj Mg) fun σ H Q h=>by
  refine sS (nL h) fun xs H1 Jk=>?_
  obtain⟨G,fp,es,vs,ds,r,⟨rel,k⟩,vd,e⟩:=Jk;unfold lenSI at e;split at e
  ·rename_i ds;split at e
   ·rename_i ns O9;split at e
    ·rename_i h4;cases e;obtain⟨v,ev,p,ys,ep,sq,rs⟩:=nU vd;subst ev ep;have hy:=fY O9 rs;subst hy;exact .mk p ns rfl sq h4 (k _ H1 G fp .refl (rel.push (bJ _)))
    ·cases e
   ·cases e
  ·cases e
end
end PV
namespace LW
open PV
abbrev oj(f:FX):FI:=Kn (DI f) (eC f)
def lG:FS:=(de (az cU (aj (aD (.int 1))) (aj (Bl (cE (oj (az IZ (ao 0) (aj (aD (.int 1))))) [none,none,none] (iJ 3 (aH (ay 0) (aH (ay 1) (aH (ay 2) df)))) fU (aY maxD (ag (ao 0) (ag (ao 2) aB)))) (aD (.int 0))))))
def cI:List D->Res R:=fBody 1 0 lG
def p6:FS:=(de (cE (oj (az IZ (ao 0) (aj (aD (.int 1))))) [none,none,none,some 1,some 2] (iJ 3 (aH (ay 0) (aH (ay 1) (aH (ay 2) df)))) (yy (Jf (aN eqO (ao 0) (ao 3))) (Jf (aN eqO (ao 1) (ao 4)))) (aJ 2)))
def fQ:List D->Res R:=fBody 3 0 p6
def gT:FS:=(de (aY eJ (ag (aj (cE (oj (az IZ (ao 0) (aj (aD (.int 1))))) [none] (ay 0) fU (az IZ (ao 0) (aj (aD (.int 0)))))) aB)))
def bZ:List D->Res R:=fBody 1 0 gT
noncomputable def sV:FS:=(sSeq (bH 3 (D7 pS (aj (az IZ (ao 0) (aj (aD (.int 0))))) (ag (ao 2) aB)))
  (de (aY DO (ag (aj (cE (uA (ag (aj (aJ 1)) (ag (aj (az IZ (ao 0) (aj (aD (.int 1))))) aB))) [none,none,some 3] (iJ 2 (aH (ay 0) (aH (ay 1) df))) fU (az SF (ao 0) (aj (az IZ (aj (az IZ (ao 1) (aj (aD (.int 1))))) (ao 2)))))) aB))))
def iA:List D->Res R:=fBody 3 1 sV
noncomputable def wX:FS:=(sSeq (JC (we (Jf (cX iA (ag (ao 0) (ag (ao 1) (ag (ao 2) aB))))))
  (de (aD .non))
  bL)
  (sSeq (bH 3 (D7 pS (aj (az IZ (ao 0) (aj (aD (.int 0))))) (ag (ao 2) aB)))
  (de (aY eJ (ag (aj (cE (uA (ag (aj (aJ 1)) (ag (aj (az IZ (ao 0) (aj (aD (.int 1))))) aB))) [none,none,some 3] (iJ 2 (aH (ay 0) (aH (ay 1) df))) fU (az cU (aj (az xP (ao 0) (aj (az IZ (aj (az IZ (ao 1) (aj (aD (.int 1))))) (ao 2))))) (aj (az IZ (aj (az IZ (ao 1) (aj (aD (.int 2))))) (ao 2)))))) aB)))))
def jW:List D->Res R:=fBody 3 1 wX
noncomputable def eL:FS:=(JC (yy (Jf (aN Kr (ao 4) (ao 1))) (Jf (aN eqO (aj (az IZ (aj (az MV (ao 0) (ao 4))) (aj (aD (.int 0))))) (ao 2))))
  (lF 0 (fO (ax (aD (.str [111,110,101])) (ax (az IZ (aj (az MV (ao 0) (ao 4))) (aj (aD (.int 1)))) (ax (aJ 3) a7)))))
  bL)
def jv:FS:=(BE 0 (ay 4)
  eL)
noncomputable def p7:FS:=(sSeq (JC (Jf (aN pT (ao 1) (ao 0)))
  (sPutP 0 (aJ 1) (fO (ax (aJ 2) (ax (aJ 3) a7))))
  (JC (Jf (aN Kr (aj (az IZ (aj (az MV (ao 0) (ao 1))) (aj (aD (.int 0))))) (ao 2)))
  (lF 0 (fO (ax (aD (.str [116,119,111])) (ax (az IZ (aj (az MV (ao 0) (ao 1))) (aj (aD (.int 1)))) (ax (aJ 3) a7)))))
  bL))
  (lF 0 (aD .non)))
def zQ:FS:=(sSeq jv
  p7)
def lH:Addr->List D->Res R:=mM 4 1 (.d) zQ
def cJ:FS:=(sSeq (bH 10 (eFunW (.d) lH 2 (ag (ao 2) (ag (ao 9) (ag (ao 7) (ag (aj (az cU (ao 5) (aj (fO (ax (aJ 6) a7))))) aB))))))
  (JC (Jf (aN isnO (ao 10) (aj (aD .non))))
  (lF 2 (aJ 10))
  bL))
def fZ:FS:=(nN (oj (aJ 8)) (ay 9)
  cJ)
noncomputable def cK:FS:=(sSeq (bH 7 (cX jW (ag (ao 1) (ag (ao 4) (ag (ao 6) aB)))))
  (sSeq (bH 8 (cX fQ (ag (ao 0) (ag (ao 3) (ag (ao 6) aB)))))
  (sSeq (JC (yy (Jf (aN Ml (ao 7) (aj (aD .non)))) (Jf (az Pj (aj (aY gH (ag (ao 8) aB))) (aj (aD (.int 0))))))
  (lF 2 (fO (ax (aD (.str [115,116,117,99,107])) (ax (aJ 5) (ax (aJ 6) a7)))))
  bL)
  (sSeq (JC (yy (Jf (aN isnO (ao 7) (aj (aD .non)))) (Jf (aN eqO (aj (aY gH (ag (ao 8) aB))) (aj (aD (.int 0))))))
  (lF 2 (fO (ax (aD (.str [102,114,101,101])) (ax (aJ 5) (ax (aJ 6) a7)))))
  bL)
  fZ))))
def iY:FS:=(nN (oj (az IZ (ao 0) (aj (aD (.int 0))))) (ay 6)
  cK)
def j8:FS:=(lF 2 (aD .non))
def p8:FS:=(sSeq (bH 4 (az IZ (aj (az MV (ao 2) (ao 3))) (aj (aD (.int 0)))))
  (sSeq (bH 5 (az IZ (aj (az MV (ao 2) (ao 3))) (aj (aD (.int 1)))))
  (sSeq iY
  j8)))
def d4:Addr->List D->Res R:=fBodyJ 2 4 7 (.d) p8
noncomputable def fR:FS:=(sSeq (bH 4 (wR 2 (.d) d4 2 (ag (ao 0) (ag (ao 1) (ag (ao 2) (ag (aj (az IZ (aj (aY wK (ag (ao 2) aB))) (ao 3))) aB))))))
  (sSeq (JC (Jf (aN isnO (ao 4) (aj (aD .non))))
  (de (kU 4))
  bL)
  (bH 3 (az cU (ao 3) (aj (aD (.int 1)))))))
def om:FS:=(cT (Jf (az Mb (ao 3) (aj (aY gH (ag (ao 2) aB)))))
  fR 100000)
def qe:FS:=(de (fO (ax (aD (.str [115,97,109,101])) (ax (cE (fF (aj (cX cI (ag (ao 0) aB)))) [none,some 2] (ay 0) fU (az IZ (aj (az MV (ao 1) (ao 0))) (aj (aD (.int 0))))) a7))))
noncomputable def zR:FS:=(sSeq (JC (Jf (aN Kr (aj (az IZ (ao 0) (aj (aD (.int 0))))) (aj (az IZ (ao 1) (aj (aD (.int 0)))))))
  zI
  bL)
  (sSeq (bH 2 (wJ (aD (.int 0)) (fO (ax (cX bZ (ag (ao 1) aB)) (ax (fO a7) a7)))))
  (sSeq (bH 3 (aD (.int 0)))
  (sSeq om
  qe))))
def j9:List D->Res R:=fBody 2 3 zR
def iL:FS:=(sSeq (JC (Jf (az Mb (ao 1) (aj (aY gH (ag (ao 0) aB)))))
  (de (az IZ (ao 0) (ao 1)))
  bL)
  (de (aD (.int 0))))
def aQ:List D->Res R:=fBody 2 0 iL
noncomputable def ka:FS:=(sSeq (bH 2 (az cU (aj (az gG (ao 0) (aj (aD (.int 2147483647))))) (aj (az oS (aj (aD (.int 48271))) (aj (az cU (ao 1) (aj (aD (.int 1)))))))))
  (sSeq (bH 2 (az gG (aj (az cU (aj (az oS (ao 2) (ao 2))) (aj (az oS (aj (aD (.int 69621))) (ao 1))))) (aj (aD (.int 2147483647)))))
  (de (az gG (aj (az cU (aj (az cU (aj (az oS (ao 2) (ao 2))) (aj (az oS (aj (aD (.int 16807))) (ao 1))))) (aj (aD (.int 1))))) (aj (aD (.int 2147483647)))))))
def bh:List D->Res R:=fBody 2 1 ka
noncomputable def dv:FS:=(sSeq (bH 7 (Bs (ao 2) uz (lb (aJ 3))))
  (sSeq (wH 7 (aJ 4) (az gG (aj (az cU (aj (az IZ (ao 7) (ao 4))) (ao 6))) (aj (aD (.int 26)))))
  (sSeq (JC (Jf (aN eqO (aj (az gG (aj (az eI (ao 0) (aj (aD (.int 64))))) (aj (aD (.int 4))))) (aj (aD (.int 1)))))
  (bH 7 (Bs (ao 2) uz (lb (az cU (ao 6) (aj (aD (.int 1)))))))
  bL)
  (jl (sx 5 (Gx wM (aj (aD (.str []))) (ag (aj (cE (Kn (eX 7) (eC (aJ 7))) [none,some 1] (ay 0) fU (az IZ (ao 1) (ao 0)))) aB)))))))
def iM:FS:=(nN (fF (aj (aD (.int 5)))) (ay 6)
  dv)
def gU:FS:=(sSeq (JC (Jf (aN inP (aj (aD (.str [109,111,118,101,115]))) (ao 5)))
  (bH 5 (cE (Kn (eX 5) (eC (aJ 5))) [none] (ay 0) fU (az cU (aj (aD (.str [115]))) (ao 0))))
  bL)
  (de (aY fG (ag (ao 5) aB))))
noncomputable def kc:FS:=(sSeq (bH 1 (aD (.str [97,98,99,100,101,102,103,104,105,106,107,108,109,110,111,112,113,114,115,116,117,118,119,120,121,122])))
  (sSeq (bH 2 (cE (fF (aj (aD (.int 8)))) [none,some 0] (ay 0) fU (az gG (aj (cX bh (ag (ao 1) (ag (ao 0) aB)))) (aj (aD (.int 26))))))
  (sSeq (bH 3 (az cU (aj (aD (.int 1))) (aj (az gG (ao 0) (aj (aD (.int 8)))))))
  (sSeq (bH 4 (az gG (aj (az eI (ao 0) (aj (aD (.int 8))))) (ao 3)))
  (sSeq (bH 5 (ja a7))
  (sSeq iM
  gU))))))
def dh:List D->Res R:=fBody 1 7 kc
noncomputable def cW:FS:=(sSeq (JC (Jf (az Mb (ao 5) (aj (az IZ (aj (az IZ (ao 6) (aj (aD (.int 1))))) (ao 3)))))
  (de (aD .non))
  bL)
  (jl (sx 4 (az cU (aj (az xP (ao 5) (aj (az IZ (aj (az IZ (ao 6) (aj (aD (.int 1))))) (ao 3))))) (aj (az IZ (aj (az IZ (ao 6) (aj (aD (.int 2))))) (ao 3)))))))
def f6:FS:=(nN (uA (ag (aj (aJ 1)) (ag (aj (az IZ (ao 0) (aj (aD (.int 1))))) aB))) (iJ 2 (aH (ay 5) (aH (ay 6) df)))
  cW)
def iN:FS:=(de (aY eJ (ag (ao 4) aB)))
def lI:FS:=(sSeq (bH 3 (D7 pS (aj (az IZ (ao 0) (aj (aD (.int 0))))) (ag (ao 2) aB)))
  (sSeq (bH 4 (ja a7))
  (sSeq f6
  iN)))
def ba:List D->Res R:=fBody 3 4 lI
noncomputable def dw:FS:=(sSeq (bH 6 (cX ba (ag (ao 0) (ag (aj (az IZ (ao 2) (ao 4))) (ag (ao 5) aB)))))
  (JC (Jf (aN isnO (ao 6) (aj (aD .non))))
  (sSeq (JC (Jf (aN pT (ao 6) (ao 2)))
  (sSeq (JC (Jf (aN eqO (aj (aY gH (ag (ao 2) aB))) (ao 1)))
  (de (aD .non))
  bL)
  (jl (sx 2 (aJ 6))))
  bL)
  (jl (sx 3 (fO (ax (aJ 4) (ax (aJ 5) (ax (Ed oi (ao 2) (ag (ao 6) aB)) a7)))))))
  bL))
def gW:FS:=(nN (oj (az IZ (ao 0) (aj (aD (.int 0))))) (ay 5)
  dw)
def jw:FS:=(bH 4 (az cU (ao 4) (aj (aD (.int 1)))))
def dy:FS:=(sSeq gW
  jw)
def gX:FS:=(cT (Jf (az Mb (ao 4) (aj (aY gH (ag (ao 2) aB)))))
  dy 100000)
def jx:FS:=(de (fO (ax (aY fG (ag (ao 3) aB)) (ax (aJ 2) a7))))
noncomputable def mP:FS:=(sSeq (bH 2 (ja (ax (aY eJ (ag (aj (cE (oj (az IZ (ao 0) (aj (aD (.int 1))))) [none,none,none] (iJ 3 (aH (ay 0) (aH (ay 1) (aH (ay 2) df)))) fU (aJ 0))) aB)) a7)))
  (sSeq (bH 3 (ja a7))
  (sSeq (bH 4 (aD (.int 0)))
  (sSeq gX
  jx))))
def b5:List D->Res R:=fBody 2 5 mP
def fI:FS:=(bH 3 (cX bh (ag (aj (az cU (ao 4) (ao 3))) (ag (ao 2) aB))))
def jy:FS:=(nN (oj (GA (ao 0) (lb (az cU (ao 1) (ao 2))) (lb (az cU (ao 1) (aj (aD (.int 84))))) (lb (aD (.int 6))))) (ay 4)
  fI)
def iO:FS:=(de (kU 3))
def lJ:FS:=(sSeq (bH 3 (az cU (aj (aD (.int 7))) (ao 2)))
  (sSeq jy
  iO))
def dP:List D->Res R:=fBody 3 2 lJ
noncomputable def eQ:FS:=(sSeq (bH 5 (cX bh (ag (ao 0) (ag (ao 4) aB))))
  (sSeq (bH 6 (az xP (aj (az gG (ao 5) (aj (aD (.int 5))))) (aj (aD (.int 2)))))
  (sSeq (bH 7 (az eI (aj (az gG (aj (az eI (ao 5) (aj (aD (.int 8))))) (aj (aD (.int 4))))) (aj (aD (.int 3)))))
  (sSeq (jl (sx 2 (az cU (aj (aY maxD (ag (aj (aD (.int 0))) (ag (aj (az xP (aj (aD (.int 0))) (ao 6))) aB)))) (ao 7))))
  (jl (sx 3 (az cU (aj (aY maxD (ag (aj (aD (.int 0))) (ag (ao 6) aB)))) (ao 7))))))))
def iP:FS:=(nN (fF (ao 1)) (ay 4)
  eQ)
def gY:FS:=(de (By (az gG (aj (az eI (ao 0) (aj (aD (.int 16))))) (aj (aD (.int 4)))) (kU 2) (kU 3)))
def ke:FS:=(sSeq (bH 2 (ja a7))
  (sSeq (bH 3 (ja a7))
  (sSeq iP
  gY)))
def di:List D->Res R:=fBody 2 6 ke
noncomputable def jz:FS:=(sSeq (bH 2 (az cU (aj (aD (.int 1))) (aj (az gG (ao 1) (aj (az CF (aj (aD (.int 10))) (aj (aD (.int 50)))))))))
  (sSeq (Fw (aJ 0) (iJ 3 (aH (ay 3) (aH (ay 4) (aH (ay 5) df)))))
  (sSeq (bH 4 (aY eJ (ag (aj (cE (Kn (eX 4) (eC (aJ 4))) [none,some 2] (ay 0) fU (az oS (ao 1) (ao 0)))) aB)))
  (de (fO (ax (az cU (aj (az oS (ao 2) (ao 3))) (aj (az gG (aj (az eI (ao 1) (aj (aD (.int 7))))) (ao 2)))) (ax (aJ 4) (ax (aY eJ (ag (aj (cE (Kn (eX 5) (eC (aJ 5))) [none,some 2] (ay 0) fU (az oS (ao 1) (ao 0)))) aB)) a7))))))))
def cb:List D->Res R:=fBody 2 4 jz
noncomputable def cY:FS:=(sSeq (bH 5 (cX dP (ag (ao 0) (ag (ao 1) (ag (ao 4) aB)))))
  (sSeq (bH 6 (cX di (ag (ao 5) (ag (ao 2) aB))))
  (sSeq (jl (sx 3 (cX cb (ag (ao 6) (ag (aj (cX aQ (ag (ao 0) (ag (aj (az cU (ao 1) (ao 4))) aB)))) aB)))))
  (JC (Jf (az Pj (aj (az gG (aj (az eI (ao 5) (aj (aD (.int 64))))) (aj (aD (.int 3))))) (aj (aD (.int 0)))))
  (sSeq (bH 7 (fO (ax (az gG (aj (az eI (ao 5) (aj (aD (.int 256))))) (aj (aD (.int 4)))) (ax (az IZ (aj (aJ 6)) (aj (aD (.int 2)))) (ax (az IZ (aj (aJ 6)) (aj (aD (.int 1)))) a7)))))
  (jl (sx 3 (cX cb (ag (ao 7) (ag (aj (cX aQ (ag (ao 0) (ag (aj (az cU (aj (az cU (ao 1) (aj (aD (.int 6))))) (ao 4))) aB)))) aB))))))
  bL))))
def gZ:FS:=(nN (fF (aj (az cU (aj (aD (.int 1))) (aj (az gG (aj (az eI (aj (cX aQ (ag (ao 0) (ag (aj (aD (.int 1))) aB)))) (aj (aD (.int 4))))) (aj (aD (.int 4)))))))) (ay 4)
  cY)
def gx:FS:=(de (kU 3))
def jA:FS:=(sSeq (bH 3 (ja a7))
  (sSeq gZ
  gx))
def cQ:List D->Res R:=fBody 3 5 jA
noncomputable def kg:FS:=(sSeq (bH 1 (cX dh (ag (aj (cX aQ (ag (ao 0) (ag (aj (aD (.int 0))) aB)))) aB)))
  (sSeq (bH 2 (cX aQ (ag (ao 0) (ag (aj (aD (.int 1))) aB))))
  (sSeq (bH 3 (az cU (aj (aD (.int 1))) (aj (az gG (ao 2) (aj (aD (.int 3)))))))
  (sSeq (bH 4 (az gG (aj (az eI (ao 2) (aj (aD (.int 32))))) (aj (az xP (aj (aD (.int 6))) (ao 3)))))
  (de (aY eJ (ag (aj (Bs (ao 1) (lb (aJ 4)) (lb (az cU (ao 4) (ao 3))))) aB)))))))
def dk:List D->Res R:=fBody 1 4 kg
noncomputable def mQ:FS:=(sSeq (bH 2 (cX dk (ag (ao 0) aB)))
  (sSeq (bH 3 (aY gH (ag (ao 2) aB)))
  (sSeq (bH 4 (cX cQ (ag (ao 0) (ag (ao 1) (ag (ao 3) aB)))))
  (sSeq (JC (Jf (aN isnO (aj (cX b5 (ag (aj (fO (ax (aJ 2) (ax (aJ 4) a7)))) (ag (aj (aD (.int 8))) aB)))) (aj (aD .non))))
  (de (fO (ax (aJ 2) (ax (aJ 4) a7))))
  bL)
  (sSeq (bH 5 (aY eJ (ag (aj (cE (Kn (eX 2) (eC (aJ 2))) [none] (ay 0) fU (aD (.int 1)))) aB)))
  (sSeq (bH 6 (aY eJ (ag (aj (cE (Kn (eX 2) (eC (aJ 2))) [none] (ay 0) fU (aD (.int 0)))) aB)))
  (sSeq (JC (Jf (aN isnO (aj (cX b5 (ag (aj (fO (ax (aJ 2) (ax (az cU (ao 4) (aj (ja (ax (fO (ax (aD (.int 2)) (ax (aJ 5) (ax (aJ 6) a7)))) a7)))) a7)))) (ag (aj (aD (.int 8))) aB)))) (aj (aD .non))))
  (de (fO (ax (aJ 2) (ax (az cU (ao 4) (aj (ja (ax (fO (ax (aD (.int 2)) (ax (aJ 5) (ax (aJ 6) a7)))) a7)))) a7))))
  bL)
  (de (fO (ax (aJ 2) (ax (az cU (ao 4) (aj (ja (ax (fO (ax (aD (.int 1)) (ax (aJ 5) (ax (aJ 6) a7)))) a7)))) a7)))))))))))
def dQ:List D->Res R:=fBody 2 5 mQ
def cZ:FS:=(JC (Jf (aN inP (ao 3) (ao 1)))
  (sSeq (bH 7 (fO (ax (Ed oi (ao 1) (ag (ao 3) aB)) (ax (aJ 4) (ax (Ed oi (ao 1) (ag (ao 5) aB)) a7)))))
  (JC (Jf (aN pT (ao 7) (ao 6)))
  (jl (sx 6 (aJ 7)))
  bL))
  bL)
def g0:FS:=(nN (oj (aJ 0)) (iJ 3 (aH (ay 3) (aH (ay 4) (aH (ay 5) df))))
  cZ)
def gy:FS:=(de (aY fG (ag (ao 6) aB)))
def c5:FS:=(JC (yy (Jf (aN eqO (ao 3) (aj (az IZ (ao 1) (ao 2))))) (Jf (aN pT (ao 5) (ao 1))))
  (jl (sx 1 (aJ 5)))
  bL)
def g8:FS:=(nN (oj (aY fG (ag (ao 0) aB))) (iJ 3 (aH (ay 3) (aH (ay 4) (aH (ay 5) df))))
  c5)
def gA:FS:=(bH 2 (az cU (ao 2) (aj (aD (.int 1)))))
def d9:FS:=(sSeq g8
  gA)
def eR:FS:=(cT (Jf (az Mb (ao 2) (aj (aY gH (ag (ao 1) aB)))))
  d9 100000)
def gB:FS:=(sSeq (bH 6 (ja a7))
  (sSeq g0
  gy))
def jB:FS:=(sSeq (bH 1 (ja (ax (aD (.int 0)) a7)))
  (sSeq (bH 2 (aD (.int 0)))
  (sSeq eR
  gB)))
def cc:List D->Res R:=fBody 1 7 jB
noncomputable def lK:FS:=(sSeq (bH 3 (az cU (aj (aD (.int 1))) (aj (aY maxD (ag (aj (az cU (aj (ja (ax (aD (.int 0)) a7))) (aj (cE (Kn (eX 1) (eC (aJ 1))) [none] (ay 0) fU (aY maxD (ag (aj (az IZ (ao 0) (aj (aD (.int 0))))) (ag (aj (az IZ (ao 0) (aj (aD (.int 2))))) aB))))))) aB)))))
  (sSeq (bH 4 (az gG (aj (az eI (ao 2) (aj (aD (.int 128))))) (aj (aY Fx (ag (aj (az cU (ao 3) (aj (aD (.int 1))))) (ag (aj (aD (.int 12))) aB))))))
  (sSeq (bH 5 (az IZ (ao 0) (aj (az gG (aj (az eI (ao 2) (aj (aD (.int 2048))))) (aj (aY gH (ag (ao 0) aB)))))))
  (sSeq (JC (LU (Jf (aN eqO (ao 1) (aj (ja a7)))) (Jf (aN eqO (aj (az gG (ao 2) (aj (aD (.int 5))))) (aj (aD (.int 3))))))
  (de (az cU (ao 1) (aj (ja (ax (fO (ax (az gG (aj (az eI (ao 2) (aj (aD (.int 8))))) (ao 3)) (ax (aJ 5) (ax (aJ 4) a7)))) a7)))))
  bL)
  (sSeq (bH 6 (az gG (aj (az eI (ao 2) (aj (aD (.int 16384))))) (aj (aY gH (ag (ao 1) aB)))))
  (sSeq (bH 7 (az IZ (ao 1) (ao 6)))
  (sSeq (bH 8 (az cU (aj (Bs (ao 1) uz (lb (aJ 6)))) (aj (Bs (ao 1) (lb (az cU (ao 6) (aj (aD (.int 1))))) uz))))
  (sSeq (JC (Jf (aN eqO (aj (az gG (ao 2) (aj (aD (.int 5))))) (aj (aD (.int 0)))))
  (de (kU 8))
  bL)
  (sSeq (JC (Jf (aN eqO (aj (az gG (ao 2) (aj (aD (.int 5))))) (aj (aD (.int 1)))))
  (de (az cU (ao 8) (aj (ja (ax (fO (ax (az IZ (ao 7) (aj (aD (.int 0)))) (ax (az IZ (ao 7) (aj (aD (.int 1)))) (ax (aJ 4) a7)))) a7)))))
  bL)
  (sSeq (JC (LU (Jf (aN eqO (aj (az gG (ao 2) (aj (aD (.int 5))))) (aj (aD (.int 2))))) (Jf (aN eqO (ao 3) (aj (aD (.int 1))))))
  (de (az cU (ao 8) (aj (ja (ax (fO (ax (az IZ (ao 7) (aj (aD (.int 0)))) (ax (aJ 5) (ax (az IZ (ao 7) (aj (aD (.int 2)))) a7)))) a7)))))
  bL)
  (sSeq (bH 9 (az cU (aj (aD (.int 1))) (aj (az gG (aj (az eI (ao 2) (aj (aD (.int 8))))) (aj (az xP (ao 3) (aj (aD (.int 1)))))))))
  (sSeq (bH 10 (cE (fF (ao 3)) [none] (ay 0) fU (aJ 0)))
  (sSeq (wH 10 (aJ 9) (az gG (ao 4) (ao 3)))
  (de (cE (Kn (eX 1) (eC (aJ 1))) [none,none,none,some 10] (iJ 3 (aH (ay 0) (aH (ay 1) (aH (ay 2) df)))) fU (fO (ax (az IZ (ao 3) (ao 0)) (ax (aJ 1) (ax (az IZ (ao 3) (ao 2)) a7)))))))))))))))))))
def dR:List D->Res R:=fBody 3 8 lK
def kh:FS:=(de (aY eJ (ag (aj (cE (oj (az IZ (ao 0) (aj (aD (.int 1))))) [none,none,none] (iJ 3 (aH (ay 0) (aH (ay 1) (aH (ay 2) df)))) fU (aJ 0))) aB)))
def b7:List D->Res R:=fBody 1 0 kh
def bx:FS:=(sSeq (JC (LU (Jf (aN pT (ao 3) (aj (az IZ (ao 0) (aj (aD (.int 0))))))) (Jf (aN Ml (ao 2) (aj (aD .non)))))
  (de (aD .non))
  bL)
  (bH 2 (cX ba (ag (ao 0) (ag (ao 2) (ag (ao 3) aB))))))
def f7:FS:=(nN (oj (aJ 1)) (ay 3)
  bx)
def iQ:FS:=(de (kU 2))
def lN:FS:=(sSeq (bH 2 (cX b7 (ag (ao 0) aB)))
  (sSeq f7
  iQ))
def bj:List D->Res R:=fBody 2 2 lN
def dA:FS:=(JC (yy (Jf (aN inP (ao 5) (ao 2))) (yy (Jf (aN eqO (ao 6) (ao 3))) (Jf (aN pT (ao 7) (ao 4)))))
  (jl (sx 4 (aJ 7)))
  bL)
def g9:FS:=(nN (oj (az IZ (ao 0) (aj (aD (.int 1))))) (iJ 3 (aH (ay 5) (aH (ay 6) (aH (ay 7) df))))
  dA)
def jC:FS:=(bH 2 (aJ 4))
def dB:FS:=(sSeq (bH 4 (ja a7))
  (sSeq g9
  jC))
def hJ:FS:=(nN (oj (aJ 1)) (ay 3)
  dB)
def jD:FS:=(de (kU 2))
def mR:FS:=(sSeq (bH 2 (ja (ax (aD (.int 0)) a7)))
  (sSeq hJ
  jD))
def cR:List D->Res R:=fBody 2 6 mR
def hU:FS:=(de (cE (oj (az IZ (ao 0) (aj (aD (.int 1))))) [none,none,none,some 1] (iJ 3 (aH (ay 0) (aH (ay 1) (aH (ay 2) df)))) (Jf (aN eqO (ao 0) (ao 3))) (aJ 1)))
def aW:List D->Res R:=fBody 2 0 hU
noncomputable def ki:FS:=(sSeq (bH 3 (cX bj (ag (ao 1) (ag (aj (az IZ (ao 2) (aj (aD (.int 1))))) aB))))
  (sSeq (bH 4 (cX cR (ag (ao 0) (ag (aj (az IZ (ao 2) (aj (aD (.int 1))))) aB))))
  (sSeq (JC (LU (we (Jf (NV "tuple" (aj (az IZ (ao 2) (aj (aD (.int 1)))))))) (LU (Jf (aN Ml (ao 3) (aj (aD .non)))) (Jf (aN eqO (ao 4) (aj (ja a7))))))
  (de (aD (.bl false)))
  bL)
  (sSeq (JC (Jf (aN inP (aj (az IZ (ao 2) (aj (aD (.int 0))))) (aj (fO (ax (aD (.str [115,116,117,99,107])) (ax (aD (.str [102,114,101,101])) a7))))))
  (sSeq (bH 5 (cX bj (ag (ao 1) (ag (aj (az cU (aj (az IZ (ao 2) (aj (aD (.int 1))))) (aj (fO (ax (az IZ (ao 2) (aj (aD (.int 2)))) a7))))) aB))))
  (sSeq (bH 6 (cE (Kn (eX 4) (eC (aJ 4))) [none,some 2,some 0] (ay 0) (Jf (aN inP (aj (az IZ (ao 1) (aj (aD (.int 2))))) (aj (cX aW (ag (ao 2) (ag (ao 0) aB)))))) (aJ 0)))
  (sSeq (JC (Jf (aN eqO (aj (az IZ (ao 2) (aj (aD (.int 0))))) (aj (aD (.str [115,116,117,99,107])))))
  (de (nK (aN Ml (ao 5) (aj (aD .non))) (aN Kr (ao 6) (aj (ja a7)))))
  bL)
  (de (nK (aN isnO (ao 5) (aj (aD .non))) (az Mb (aj (aY gH (ag (ao 6) aB))) (aj (aY gH (ag (ao 4) aB)))))))))
  bL)
  (sSeq (bH 7 (cX bj (ag (ao 1) (ag (aj (az IZ (ao 2) (aj (aD (.int 2))))) aB))))
  (sSeq (bH 8 (cX cR (ag (ao 0) (ag (aj (az IZ (ao 2) (aj (aD (.int 2))))) aB))))
  (sSeq (JC (LU (we (Jf (NV "tuple" (aj (az IZ (ao 2) (aj (aD (.int 2)))))))) (LU (Jf (aN Ml (ao 7) (aj (aD .non)))) (Jf (aN eqO (ao 8) (aj (ja a7))))))
  (de (aD (.bl false)))
  bL)
  (sSeq (JC (Jf (aN eqO (aj (az IZ (ao 2) (aj (aD (.int 0))))) (aj (aD (.str [111,110,101])))))
  (de (nK (aN eqO (ao 3) (ao 7)) (az Pj (aj (aY lenSI (ag (aj (az cU (ao 4) (ao 8))) aB))) (aj (aD (.int 1))))))
  bL)
  (de (nK (aN eqO (aj (az IZ (ao 2) (aj (aD (.int 0))))) (aj (aD (.str [116,119,111])))) (nK (aN Kr (ao 3) (ao 7)) (aN Kr (aj (cE (Kn (eX 4) (eC (aJ 4))) [none,some 8] (ay 0) (Jf (aN inP (ao 0) (ao 1))) (aJ 0))) (aj (ja a7))))))))))))))
def bo:List D->Res R:=fBody 3 6 ki
def c6:FS:=(bH 4 (az cU (ao 4) (aj (aY gH (ag (aj (cE (oj (az IZ (ao 1) (aj (aD (.int 0))))) [none,some 1,some 8] (ay 0) (Jf (aN isnO (aj (cX ba (ag (ao 1) (ag (ao 2) (ag (ao 0) aB))))) (aj (aD .non)))) (aJ 0))) aB)))))
def dC:FS:=(nN (oj (aJ 2)) (ay 8)
  c6)
def gC:FS:=(de (aN eqO (ao 4) (aj (aY gH (ag (aj (az IZ (ao 0) (aj (aD (.int 1))))) aB)))))
def c7:FS:=(JC (Jf (aN Kr (aj (cX ba (ag (ao 1) (ag (aj (az IZ (ao 2) (ao 5))) (ag (ao 6) aB))))) (aj (az IZ (ao 2) (ao 7)))))
  (de (aD (.bl false)))
  bL)
def dD:FS:=(nN (oj (az IZ (ao 0) (aj (aD (.int 1))))) (iJ 3 (aH (ay 5) (aH (ay 6) (aH (ay 7) df))))
  c7)
def gD:FS:=(sSeq dC
  gC)
noncomputable def jE:FS:=(sSeq (bH 3 (az cU (aj (aD (.int 1))) (aj (aY maxD (ag (aj (az cU (aj (ja (ax (aD (.int 0)) a7))) (aj (cE (oj (az IZ (ao 0) (aj (aD (.int 1))))) [none] (ay 0) fU (aY maxD (ag (aj (az IZ (ao 0) (aj (aD (.int 0))))) (ag (aj (az IZ (ao 0) (aj (aD (.int 2))))) aB))))))) aB)))))
  (sSeq (JC (LU (we (Jf (NV "list" (ao 2)))) (LU (Jf (aN Kr (aj (aY gH (ag (ao 2) aB))) (ao 3))) (Jf (aN Kr (aj (aY uC (ag (ao 2) aB))) (ao 3)))))
  (de (aD (.bl false)))
  bL)
  (sSeq (JC (Jf (aN Kr (aj (az IZ (ao 2) (aj (aD (.int 0))))) (aj (cX b7 (ag (ao 1) aB)))))
  (de (aD (.bl false)))
  bL)
  (sSeq (bH 4 (aD (.int 0)))
  (sSeq dD
  gD)))))
def bQ:List D->Res R:=fBody 3 6 jE
noncomputable def oq:FS:=(sSeq (bH 4 (cX bh (ag (aj (cX aQ (ag (ao 0) (ag (ao 3) aB)))) (ag (ao 3) aB))))
  (JC (Jf (aN eqO (aj (az gG (aj (az eI (ao 4) (aj (aD (.int 64))))) (aj (aD (.int 3))))) (aj (aD (.int 0)))))
  (bH 2 (cX cc (ag (aj (cX dR (ag (aj (az IZ (ao 1) (aj (aD (.int 0))))) (ag (ao 2) (ag (aj (az eI (ao 4) (aj (aD (.int 192))))) aB))))) aB)))
  bL))
def g_law_1:FS:=(nN (qU (ag (aj (aD (.int 2))) (ag (aj (aD (.int 8))) aB))) (ay 3)
  oq)
noncomputable def sW:FS:=(sSeq (bH 5 (fO (ax (az IZ (ao 1) (aj (aD (.int 0)))) (ax (cX cc (ag (ao 2) aB)) a7))))
  (sSeq (bH 6 (cX j9 (ag (ao 5) (ag (ao 1) aB))))
  (sSeq (JC (LU (we (Jf (NV "tuple" (ao 6)))) (LU (Jf (aN pT (aj (aY gH (ag (ao 6) aB))) (aj (fO (ax (aD (.int 2)) (ax (aD (.int 3)) a7)))))) (we (Jf (NV "str" (aj (az IZ (ao 6) (aj (aD (.int 0))))))))))
  (de (aD (.bl false)))
  bL)
  (sSeq (JC (Jf (aN eqO (aj (az IZ (ao 6) (aj (aD (.int 0))))) (aj (aD (.str [115,97,109,101])))))
  (de (nK (aN eqO (aj (aY gH (ag (ao 6) aB))) (aj (aD (.int 2)))) (cX bQ (ag (ao 5) (ag (ao 1) (ag (aj (az IZ (ao 6) (aj (aD (.int 1))))) aB))))))
  bL)
  (de (nK (aN eqO (aj (aY gH (ag (ao 6) aB))) (aj (aD (.int 3)))) (cX bo (ag (ao 5) (ag (ao 1) (ag (ao 6) aB))))))))))
def Ej:FS:=(sSeq (bH 1 (cX dQ (ag (ao 0) (ag (aj (aD (.int 8))) aB))))
  (sSeq (bH 2 (az IZ (aj (cX b5 (ag (ao 1) (ag (aj (aD (.int 8))) aB)))) (aj (aD (.int 0)))))
  (sSeq g_law_1
  sW)))
def BI:List D->Res R:=fBody 1 6 Ej
end LW
namespace LW
open PV
variable{α:Type}
theorem CI{Q:List α->Prop}(h:∀a,Q [a]):∀us,us.length=1->Q us
 |[a],_=>h a
theorem xQ{Q:List α->Prop}(h:∀a b,Q [a,b]):∀us,us.length=2->Q us
 |[a,b],_=>h a b
theorem yM{Q:List α->Prop}(h:∀a b c,Q [a,b,c]):∀us,us.length=3->Q us
 |[a,b,c],_=>h a b c
theorem Hy{Q:List α->Prop}(h:∀a b c d,Q [a,b,c,d]):∀us,us.length=4->Q us
 |[a,b,c,d],_=>h a b c d
theorem dE{X:Cx}{tg e:Expr}{f:FX}(h:QE X e f):QI X tg e (Kn (DI f) (eC f)):=yF (Bc h) (gN h)
def top(i:Nat):Stmt:=PySem.Challenge.pw_netfinder_k27_what_is_unlike.main.body.getD i (.Pass ⟨0,0,0,0⟩)
theorem Hz:Str.ofString "two" = S [116,119,111]:=by decide +kernel
theorem HA:Str.ofString "one" = S [111,110,101]:=by decide +kernel
theorem HB:Str.ofString "free" = S [102,114,101,101]:=by decide +kernel
theorem GD:Str.ofString "stuck" = S [115,116,117,99,107]:=by decide +kernel
theorem HC:Str.ofString "same" = S [115,97,109,101]:=by decide +kernel
theorem Iw:Str.ofString "moves" = S [109,111,118,101,115]:=by decide +kernel
theorem Iy:Str.ofString "s" = S [115]:=by decide +kernel
theorem Iz:Str.ofString "" = S []:=by decide +kernel
theorem IA:Str.ofString "abcdefghijklmnopqrstuvwxyz" = S [97,98,99,100,101,102,103,104,105,106,107,108,109,110,111,112,113,114,115,116,117,118,119,120,121,122]:=by decide +kernel
section
variable{P:Program}{w:World}{K:W.Frag}{mg:Str->Option Value}{base:Heap}
abbrev iZ:Stmt:=top 4
theorem qf:FnScope ["chart"] ["chart"] (defScope iZ):=fs
theorem qg(Df:Def K mg "states_of" iZ)(JM:mg "max" = none):Ct P w K mg base "states_of" 1 (spF K cI):=
 d7 Df qf (fun _ _ _ _ _ _=>CI fun _=>rfl) fun f Jm A outer s H E hr=>
  (aw (aX (aK aP (aa ai) (aa (Bm rfl (by rfl) JM (bC [none,none,none] ["first","move","second"] rfl (cH (dE (aT (ae (pv 0)) (aa ai)))) (fun _ _ _ _ _=>(have h:=(show List.Nodup (["first","move","second"]:List Str) from by decide +kernel);(e7 rfl (aO (aE (i:=0) h rfl (lo rfl)) (aO (aE (i:=1) h rfl (lo rfl)) (aO (aE (i:=2) h rfl (lo rfl)) du)))))) (fun _ _ _ _ _=>cx) (fun _ _ _ _ _=>(aU (lq rfl) (by rfl) JM lC (af (ae (pv 0)) (af (ae (pv 2)) au))))) ai)))))
abbrev lO:Stmt:=top 5
theorem uD:FnScope ["chart","state","move"] ["chart","state","move"] (defScope lO):=fs
theorem uE(Df:Def K mg "goes_to" lO):Ct P w K mg base "goes_to" 1 (spF K fQ):=
 d7 Df uD (fun _ _ _ _ _ _=>yM fun _ _ _=>rfl) fun f Jm A outer s H E hr=>
  (aw (aX (bC [none,none,none,some 1,some 2] ["first","by","second","state","move"] rfl (cH (dE (aT (ae (pv 0)) (aa ai)))) (fun _ _ _ _ _=>(have h:=(show List.Nodup (["first","by","second","state","move"]:List Str) from by decide +kernel);(e7 rfl (aO (aE (i:=0) h rfl (lo rfl)) (aO (aE (i:=1) h rfl (lo rfl)) (aO (aE (i:=2) h rfl (lo rfl)) du)))))) (fun _ _ _ _ _=>(k9 (QW.qt (kY (aM (dZ hr.units) (ae (pv 0)) (ae (pv 3)) (aR _)) (jS (aM (dZ hr.units) (ae (pv 1)) (ae (pv 4)) (aR _))))))) (fun _ _ _ _ _=>(aA (pv 2))))))
abbrev eS:Stmt:=top 7
theorem kx:FnScope ["net"] ["net"] (defScope eS):=fs
theorem ky(Df:Def K mg "first_marking" eS)(Ja:mg "tuple" = none):Ct P w K mg base "first_marking" 1 (spF K bZ):=
 d7 Df kx (fun _ _ _ _ _ _=>CI fun _=>rfl) fun f Jm A outer s H E hr=>
  (aw (aX (cD dW (by rfl) Ja cO (af (aa (bC [none] ["place"] rfl (cH (dE (aT (ae (pv 0)) (aa ai)))) (fun _ _ _ _ _=>(aE (i:=0) (show List.Nodup (["place"]:List Str) from by decide +kernel) rfl (lo rfl))) (fun _ _ _ _ _=>cx) (fun _ _ _ _ _=>(aT (ae (pv 0)) (aa ai))))) au))))
abbrev ou:Stmt:=top 8
theorem qh:FnScope ["net","marking","move","at"] ["net","marking","move"] (defScope ou):=fs
theorem wY(Df:Def K mg "can_go" ou)(MC:mg "all" = none)(KI:mg "zip" = none):Ct P w K mg base "can_go" 1 (spF K iA):=
 d7 Df qh (fun _ _ _ _ _ _=>yM fun _ _ _=>rfl) fun f Jm A outer s H E hr=>
  (ah (aG (i:=3) qh.nd rfl (lo rfl) (wG Xv Ye iU (aa (aT (ae (pv 0)) (aa ai))) (af (ae (pv 2)) au)))
  (aw (aX (aU (DP rfl) (by rfl) MC D1 (af (aa (bC [none,none,some 3] ["beads","place","at"] rfl (cH (qY (by rfl) KI (af (aa (aA (pv 1))) (af (aa (aT (ae (pv 0)) (aa ai))) au)))) (fun _ _ _ _ _=>(have h:=(show List.Nodup (["beads","place","at"]:List Str) from by decide +kernel);(e7 rfl (aO (aE (i:=0) h rfl (lo rfl)) (aO (aE (i:=1) h rfl (lo rfl)) du))))) (fun _ _ _ _ _=>cx) (fun _ _ _ _ _=>(wc (DU hr.units0) (ae (pv 0)) (aa (aT (aa (aT (ae (pv 1)) (aa ai))) (ae (pv 2)))) (aR _))))) au)))))
abbrev q5:Stmt:=top 9
theorem sX:FnScope ["net","marking","move","at"] ["net","marking","move"] (defScope q5):=fs
theorem yN(Df:Def K mg "moved" q5)(Nx:Ct P w K mg base "can_go" 1 (spF K iA))(Ja:mg "tuple" = none)(KI:mg "zip" = none):Ct P w K mg base "moved" 2 (spF K jW):=
 d7 Df sX (fun _ _ _ _ _ _=>yM fun _ _ _=>rfl) fun f Jm A outer s H E hr=>
  (ah (b9 (mC (mB (bg Nx hr.m (by rfl) (af (ae (pv 0)) (af (ae (pv 1)) (af (ae (pv 2)) au))))))
  (aw (aX dq))
  aV)
  (ah (aG (i:=3) sX.nd rfl (lo rfl) (wG Xv Ye iU (aa (aT (ae (pv 0)) (aa ai))) (af (ae (pv 2)) au)))
  (aw (aX (cD dW (by rfl) Ja cO (af (aa (bC [none,none,some 3] ["beads","place","at"] rfl (cH (qY (by rfl) KI (af (aa (aA (pv 1))) (af (aa (aT (ae (pv 0)) (aa ai))) au)))) (fun _ _ _ _ _=>(have h:=(show List.Nodup (["beads","place","at"]:List Str) from by decide +kernel);(e7 rfl (aO (aE (i:=0) h rfl (lo rfl)) (aO (aE (i:=1) h rfl (lo rfl)) du))))) (fun _ _ _ _ _=>cx) (fun _ _ _ _ _=>(aK aP (aa (aK mF (ae (pv 0)) (aa (aT (aa (aT (ae (pv 1)) (aa ai))) (ae (pv 2)))))) (aa (aT (aa (aT (ae (pv 1)) (aa ai))) (ae (pv 2)))))))) au))))))
abbrev wZ:Stmt:=top 11
theorem w5:FnScope ["got","state","marking","way","other"] ["got","state","marking","way"] (defScope wZ):=fs
theorem BJ(Df:Def K mg "give" wZ):Ct P w K mg base "give" 1 (spM K (.d) lH):=
 D9 Df w5 (fun _ _ _ _ _ _=>Hy fun _ _ _ _=>rfl) fun f Jm A outer s H E hr=>
  (ah (BF VY rfl (pv 0) (aE (i:=4) w5.nd rfl (lo rfl))
  (aw (b9 (QW.qt (kY (aM (l7 hr.units) (ae (pv 4)) (ae (pv 1)) (aR _)) (jS (aM (dZ hr.units) (aa (aT (aa (q0 (hu_of hr) (ae (pv 0)) (ae (pv 4)))) (aa ai))) (ae (pv 2)) (aR _)))))
  (aw (iW (i:=0) (bN (aq (eE HA (by decide)) (aq (aT (aa (q0 (hu_of hr) (ae (pv 0)) (ae (pv 4)))) (aa ai)) (aq (aA (pv 3)) aI))))))
  aV)))
  (ah (b9 (aM (iV hr.u65) (ae (pv 1)) (ae (pv 0)) (by with_unfolding_all rfl))
  (aw (BD (hu_of hr) (pv 0) (aA (pv 1)) (bN (aq (aA (pv 2)) (aq (aA (pv 3)) aI)))))
  (aw (b9 (aM (l7 hr.units) (aa (aT (aa (q0 (hu_of hr) (ae (pv 0)) (ae (pv 1)))) (aa ai))) (ae (pv 2)) (aR _))
  (aw (iW (i:=0) (bN (aq (eE Hz (by decide)) (aq (aT (aa (q0 (hu_of hr) (ae (pv 0)) (ae (pv 1)))) (aa ai)) (aq (aA (pv 3)) aI))))))
  aV)))
  (aw (iW (i:=0) dq))))
abbrev lP:Stmt:=top 12
theorem dn:FnScope ["chart","net","got","state","marking","way","move","coming","seconds","second","against"] ["chart","net","got","state"] (defScope lP):=fs
theorem uF(Df:Def K mg "look_at" lP)(P7:Ct P w K mg base "give" 1 (spM K (.d) lH))(MX:Ct P w K mg base "goes_to" 1 (spF K fQ))(Ov:Ct P w K mg base "moved" 2 (spF K jW))(Jh:mg "len" = none):Ct P w K mg base "look_at" 3 (spJ 2 K (.d) d4):=
 Eh Df dn (fun _ _ _ _ _ _=>Hy fun _ _ _ _=>rfl) fun f Jm A outer s H E hr=>
  (ah (aG (i:=4) dn.nd rfl (lo rfl) (aT (aa (q0 (hu_of hr) (ae (pv 2)) (ae (pv 3)))) (aa ai)))
  (ah (aG (i:=5) dn.nd rfl (lo rfl) (aT (aa (q0 (hu_of hr) (ae (pv 2)) (ae (pv 3)))) (aa ai)))
  (ah (eB VY rfl (dE (aT (ae (pv 0)) (aa ai))) (aE (i:=6) dn.nd rfl (lo rfl))
  (ah (aG (i:=7) dn.nd rfl (lo rfl) (bg Ov hr.m (by rfl) (af (ae (pv 1)) (af (ae (pv 4)) (af (ae (pv 6)) au)))))
  (ah (aG (i:=8) dn.nd rfl (lo rfl) (bg MX hr.m (by rfl) (af (ae (pv 0)) (af (ae (pv 3)) (af (ae (pv 6)) au)))))
  (ah (b9 (QW.qt (kY (aM wx (ae (pv 7)) (aa dq) (aR _)) (jS (kW Bf (aa (aU cz (by rfl) Jh bt_len (af (ae (pv 8)) au))) (aa ai) (aR _)))))
  (aw (iW (i:=2) (bN (aq (eE GD (by decide)) (aq (aA (pv 5)) (aq (aA (pv 6)) aI))))))
  aV)
  (ah (b9 (QW.qt (kY (aM j6 (ae (pv 7)) (aa dq) (aR _)) (jS (aM (dZ hr.units) (aa (aU cz (by rfl) Jh bt_len (af (ae (pv 8)) au))) (aa ai) (aR _)))))
  (aw (iW (i:=2) (bN (aq (eE HB (by decide)) (aq (aA (pv 5)) (aq (aA (pv 6)) aI))))))
  aV)
  (aw (eB VY rfl (dE (aA (pv 8))) (aE (i:=9) dn.nd rfl (lo rfl))
  (ah (aG (i:=10) dn.nd rfl (lo rfl) (Bw (i:=2) P7 hr.m (by rfl) (af (ae (pv 2)) (af (ae (pv 9)) (af (ae (pv 7)) (af (aa (aK aP (ae (pv 5)) (aa (bN (aq (aA (pv 6)) aI))))) au))))))
  (aw (b9 (aM j6 (ae (pv 10)) (aa dq) (aR _))
  (aw (iW (i:=2) (aA (pv 10))))
  aV))))))))))
  (aw (iW (i:=2) dq)))))
abbrev w6:Stmt:=top 13
theorem lQ:FnScope ["chart","net","got","looked_at","against"] ["chart","net"] (defScope w6):=fs
theorem BK(Df:Def K mg "held" w6)(KU:Ct P w K mg base "first_marking" 1 (spF K bZ))(MY:Ct P w K mg base "look_at" 3 (spJ 2 K (.d) d4))(LX:Ct P w K mg base "states_of" 1 (spF K cI))(Jh:mg "len" = none)(KC:mg "list" = none)(Jn:mg "range" = none):Ct P w K mg base "held" 4 (spF K j9):=
 d7 Df lQ (fun _ _ _ _ _ _=>xQ fun _ _=>rfl) fun f Jm A outer s H E hr=>
  (ah (b9 (aM (l7 hr.units) (aa (aT (ae (pv 0)) (aa ai))) (aa (aT (ae (pv 1)) (aa ai))) (aR _))
  (aw yz)
  aV)
  (ah (aG (i:=2) lQ.nd rfl (lo rfl) (yH ai (bN (aq (bg KU hr.m (by rfl) (af (ae (pv 1)) au)) (aq (bN aI) aI)))))
  (ah (aG (i:=3) lQ.nd rfl (lo rfl) ai)
  (ah (nM 100000 VY (kW (mK hr.units0) (ae (pv 3)) (aa (aU cz (by rfl) Jh bt_len (af (ae (pv 2)) au))) (aR _))
  (ah (aG (i:=4) lQ.nd rfl (lo rfl) (BA (j0:=2) (i:=2) MY hr.m (by rfl) (af (ae (pv 0)) (af (ae (pv 1)) (af (ae (pv 2)) (af (aa (aT (aa (cD (yJ rfl) (by rfl) KC vB (af (ae (pv 2)) au))) (ae (pv 3)))) au))))))
  (ah (b9 (aM j6 (ae (pv 4)) (aa dq) (aR _))
  (aw (aX (gM (pv 4))))
  aV)
  (aw (aG (i:=3) lQ.nd rfl (lo rfl) (aK aP (ae (pv 3)) (aa ai)))))))
  (aw (aX (bN (aq (eE HC (by decide)) (aq (bC [none,some 2] ["state","got"] rfl (cH (fN (by rfl) Jn (aa (bg LX hr.m (by rfl) (af (ae (pv 0)) au))))) (fun _ _ _ _ _=>(aE (i:=0) (show List.Nodup (["state","got"]:List Str) from by decide +kernel) rfl (lo rfl))) (fun _ _ _ _ _=>cx) (fun _ _ _ _ _=>(aT (aa (q0 (hu_of hr) (ae (pv 1)) (ae (pv 0)))) (aa ai)))) aI)))))))))
abbrev fJ:Stmt:=top 15
theorem lR:FnScope ["_law_script","_law_k"] ["_law_script","_law_k"] (defScope fJ):=fs
theorem lS(Df:Def K mg "_law_cell_at" fJ)(Jh:mg "len" = none):Ct P w K mg base "_law_cell_at" 1 (spF K aQ):=
 d7 Df lR (fun _ _ _ _ _ _=>xQ fun _ _=>rfl) fun f Jm A outer s H E hr=>
  (ah (b9 (kW (mK hr.units0) (ae (pv 1)) (aa (aU cz (by rfl) Jh bt_len (af (ae (pv 0)) au))) (aR _))
  (aw (aX (aT (ae (pv 0)) (ae (pv 1)))))
  aV)
  (aw (aX ai)))
abbrev hV:Stmt:=top 16
theorem f9:FnScope ["_law_cell","_law_k","_law_number"] ["_law_cell","_law_k"] (defScope hV):=fs
theorem ox(Df:Def K mg "_law_mixed" hV):Ct P w K mg base "_law_mixed" 1 (spF K bh):=
 d7 Df f9 (fun _ _ _ _ _ _=>xQ fun _ _=>rfl) fun f Jm A outer s H E hr=>
  (ah (aG (i:=2) f9.nd rfl (lo rfl) (aK aP (aa (aK bO (ae (pv 0)) (aa ai))) (aa (aK gQ (aa ai) (aa (aK aP (ae (pv 1)) (aa ai)))))))
  (ah (aG (i:=2) f9.nd rfl (lo rfl) (aK bO (aa (aK aP (aa (aK gQ (ae (pv 2)) (ae (pv 2)))) (aa (aK gQ (aa ai) (ae (pv 1)))))) (aa ai)))
  (aw (aX (aK bO (aa (aK aP (aa (aK aP (aa (aK gQ (ae (pv 2)) (ae (pv 2)))) (aa (aK gQ (aa ai) (ae (pv 1)))))) (aa ai))) (aa ai))))))
abbrev hW:Stmt:=top 17
theorem bz:FnScope ["_law_cell","_law_letters","_law_base","_law_width","_law_spot","_law_names_here","_law_k","_law_moved_on"] ["_law_cell"] (defScope hW):=fs
theorem oy(Df:Def K mg "_law_names" hW)(Jo:Ct P w K mg base "_law_mixed" 1 (spF K bh))(Jn:mg "range" = none)(Jy:mg "sorted" = none):Ct P w K mg base "_law_names" 2 (spF K dh):=
 d7 Df bz (fun _ _ _ _ _ _=>CI fun _=>rfl) fun f Jm A outer s H E hr=>
  (ah (aG (i:=1) bz.nd rfl (lo rfl) (eE IA (by decide)))
  (ah (oh (i:=2) [none,some 0] ["_law_j","_law_cell"] bz.nd rfl (lo rfl) rfl (cH (fN (by rfl) Jn (aa ai))) (fun _ _ _ _ _=>(aE (i:=0) (show List.Nodup (["_law_j","_law_cell"]:List Str) from by decide +kernel) rfl (lo rfl))) (fun _ _ _ _ _=>cx) (fun _ _ _ _ _=>(aK bO (aa (bg Jo hr.m (by rfl) (af (ae (pv 1)) (af (ae (pv 0)) au)))) (aa ai))))
  (ah (aG (i:=3) bz.nd rfl (lo rfl) (aK aP (aa ai) (aa (aK bO (ae (pv 0)) (aa ai)))))
  (ah (aG (i:=4) bz.nd rfl (lo rfl) (aK bO (aa (aK cF (ae (pv 0)) (aa ai))) (ae (pv 3))))
  (ah (aG (i:=5) bz.nd rfl (lo rfl) (cC aI))
  (ah (eB VY rfl (fN (by rfl) Jn (aa ai)) (aE (i:=6) bz.nd rfl (lo rfl))
  (ah (aG (i:=7) bz.nd rfl (lo rfl) (pR (ae (pv 2)) nR (fX (aA (pv 3)))))
  (ah (wI (pv 7) (aA (pv 4)) (aK bO (aa (aK aP (aa (aT (ae (pv 7)) (ae (pv 4)))) (ae (pv 6)))) (aa ai)))
  (ah (b9 (aM (dZ hr.units) (aa (aK bO (aa (aK cF (ae (pv 0)) (aa ai))) (aa ai))) (aa ai) (aR _))
  (aw (aG (i:=7) bz.nd rfl (lo rfl) (pR (ae (pv 2)) nR (fX (aK aP (ae (pv 6)) (aa ai))))))
  aV)
  (aw (eF (cG (pv 5) (DW PySem.F.slot_str_join PySem.F.type_str_join Bu (aa (eE Iz (by decide))) (af (aa (bC [none,some 1] ["_law_j","_law_letters"] rfl (iK (fH (pv 7)) (cH (gN (aA (pv 7))))) (fun _ _ _ _ _=>(aE (i:=0) (show List.Nodup (["_law_j","_law_letters"]:List Str) from by decide +kernel) rfl (lo rfl))) (fun _ _ _ _ _=>cx) (fun _ _ _ _ _=>(aT (ae (pv 1)) (ae (pv 0)))))) au)))))))))
  (ah (b9 (aM (mL hr.u65) (aa (eE Iw (by decide))) (ae (pv 5)) (by with_unfolding_all rfl))
  (aw (oh (i:=5) [none] ["_law_name"] bz.nd rfl (lo rfl) rfl (iK (fH (pv 5)) (cH (gN (aA (pv 5))))) (fun _ _ _ _ _=>(aE (i:=0) (show List.Nodup (["_law_name"]:List Str) from by decide +kernel) rfl (lo rfl))) (fun _ _ _ _ _=>cx) (fun _ _ _ _ _=>(aK aP (aa (eE Iy (by decide))) (ae (pv 0))))))
  aV)
  (aw (aX (aU (js rfl) (by rfl) Jy jt (af (ae (pv 5)) au)))))))))))
abbrev i4:Stmt:=top 18
theorem d5:FnScope ["_law_net_here","_law_marking","_law_move","_law_k","_law_after","_law_beads","_law_place_here"] ["_law_net_here","_law_marking","_law_move"] (defScope i4):=fs
theorem qi(Df:Def K mg "_law_step" i4)(Ja:mg "tuple" = none)(KI:mg "zip" = none):Ct P w K mg base "_law_step" 1 (spF K ba):=
 d7 Df d5 (fun _ _ _ _ _ _=>yM fun _ _ _=>rfl) fun f Jm A outer s H E hr=>
  (ah (aG (i:=3) d5.nd rfl (lo rfl) (wG Xv Ye iU (aa (aT (ae (pv 0)) (aa ai))) (af (ae (pv 2)) au)))
  (ah (aG (i:=4) d5.nd rfl (lo rfl) (cC aI))
  (ah (eB VY rfl (qY (by rfl) KI (af (aa (aA (pv 1))) (af (aa (aT (ae (pv 0)) (aa ai))) au))) (e7 rfl (aO (aE (i:=5) d5.nd rfl (lo rfl)) (aO (aE (i:=6) d5.nd rfl (lo rfl)) du)))
  (ah (b9 (kW (mK hr.units0) (ae (pv 5)) (aa (aT (aa (aT (ae (pv 6)) (aa ai))) (ae (pv 3)))) (aR _))
  (aw (aX dq))
  aV)
  (aw (eF (cG (pv 4) (aK aP (aa (aK mF (ae (pv 5)) (aa (aT (aa (aT (ae (pv 6)) (aa ai))) (ae (pv 3)))))) (aa (aT (aa (aT (ae (pv 6)) (aa ai))) (ae (pv 3))))))))))
  (aw (aX (cD dW (by rfl) Ja cO (af (ae (pv 4)) au)))))))
abbrev jX:Stmt:=top 19
theorem dg:FnScope ["_law_net_here","_law_most","_law_markings","_law_arcs","_law_done","_law_move","_law_after"] ["_law_net_here","_law_most"] (defScope jX):=fs
theorem rg(Df:Def K mg "_law_run" jX)(Jw:Ct P w K mg base "_law_step" 1 (spF K ba))(Jh:mg "len" = none)(Jy:mg "sorted" = none)(Ja:mg "tuple" = none):Ct P w K mg base "_law_run" 2 (spF K b5):=
 d7 Df dg (fun _ _ _ _ _ _=>xQ fun _ _=>rfl) fun f Jm A outer s H E hr=>
  (ah (aG (i:=2) dg.nd rfl (lo rfl) (cC (aq (cD dW (by rfl) Ja cO (af (aa (bC [none,none,none] ["_law_beads","_law_takes","_law_gives"] rfl (cH (dE (aT (ae (pv 0)) (aa ai)))) (fun _ _ _ _ _=>(have h:=(show List.Nodup (["_law_beads","_law_takes","_law_gives"]:List Str) from by decide +kernel);(e7 rfl (aO (aE (i:=0) h rfl (lo rfl)) (aO (aE (i:=1) h rfl (lo rfl)) (aO (aE (i:=2) h rfl (lo rfl)) du)))))) (fun _ _ _ _ _=>cx) (fun _ _ _ _ _=>(aA (pv 0))))) au)) aI)))
  (ah (aG (i:=3) dg.nd rfl (lo rfl) (cC aI))
  (ah (aG (i:=4) dg.nd rfl (lo rfl) ai)
  (ah (nM 100000 VY (kW (mK hr.units0) (ae (pv 4)) (aa (aU cz (by rfl) Jh bt_len (af (ae (pv 2)) au))) (aR _))
  (ah (eB VY rfl (dE (aT (ae (pv 0)) (aa ai))) (aE (i:=5) dg.nd rfl (lo rfl))
  (ah (aG (i:=6) dg.nd rfl (lo rfl) (bg Jw hr.m (by rfl) (af (ae (pv 0)) (af (aa (aT (ae (pv 2)) (ae (pv 4)))) (af (ae (pv 5)) au)))))
  (aw (b9 (aM j6 (ae (pv 6)) (aa dq) (aR _))
  (ah (b9 (aM (iV hr.u65) (ae (pv 6)) (ae (pv 2)) (by with_unfolding_all rfl))
  (ah (b9 (aM (dZ hr.units) (aa (aU cz (by rfl) Jh bt_len (af (ae (pv 2)) au))) (ae (pv 1)) (aR _))
  (aw (aX dq))
  aV)
  (aw (eF (cG (pv 2) (aA (pv 6))))))
  aV)
  (aw (eF (cG (pv 3) (bN (aq (aA (pv 4)) (aq (aA (pv 5)) (aq (wO XB Yl (iX hr.u65) (ae (pv 2)) (af (ae (pv 6)) au)) aI))))))))
  aV))))
  (aw (aG (i:=4) dg.nd rfl (lo rfl) (aK aP (ae (pv 4)) (aa ai))))))
  (aw (aX (bN (aq (aU (js rfl) (by rfl) Jy jt (af (ae (pv 3)) au)) (aq (aA (pv 2)) aI)))))))))
abbrev i5:Stmt:=top 20
theorem e9:FnScope ["_law_script","_law_first_here","_law_k","_law_number","_law_cell"] ["_law_script","_law_first_here","_law_k"] (defScope i5):=fs
theorem qj(Df:Def K mg "_law_fold" i5)(Jo:Ct P w K mg base "_law_mixed" 1 (spF K bh)):Ct P w K mg base "_law_fold" 2 (spF K dP):=
 d7 Df e9 (fun _ _ _ _ _ _=>yM fun _ _ _=>rfl) fun f Jm A outer s H E hr=>
  (ah (aG (i:=3) e9.nd rfl (lo rfl) (aK aP (aa ai) (ae (pv 2))))
  (ah (eB VY rfl (dE (Eg (ae (pv 0)) (fX (aK aP (ae (pv 1)) (ae (pv 2)))) (fX (aK aP (ae (pv 1)) (aa ai))) (fX ai))) (aE (i:=4) e9.nd rfl (lo rfl))
  (aw (aG (i:=3) e9.nd rfl (lo rfl) (bg Jo hr.m (by rfl) (af (aa (aK aP (ae (pv 4)) (ae (pv 3)))) (af (ae (pv 2)) au))))))
  (aw (aX (gM (pv 3))))))
abbrev hX:Stmt:=top 21
theorem cj:FnScope ["_law_number","_law_count","_law_takes","_law_gives","_law_j","_law_mixed_here","_law_step_here","_law_loop"] ["_law_number","_law_count"] (defScope hX):=fs
theorem oz(Df:Def K mg "_law_place" hX)(Jo:Ct P w K mg base "_law_mixed" 1 (spF K bh))(JM:mg "max" = none)(Jn:mg "range" = none):Ct P w K mg base "_law_place" 2 (spF K di):=
 d7 Df cj (fun _ _ _ _ _ _=>xQ fun _ _=>rfl) fun f Jm A outer s H E hr=>
  (ah (aG (i:=2) cj.nd rfl (lo rfl) (cC aI))
  (ah (aG (i:=3) cj.nd rfl (lo rfl) (cC aI))
  (ah (eB VY rfl (fN (by rfl) Jn (ae (pv 1))) (aE (i:=4) cj.nd rfl (lo rfl))
  (ah (aG (i:=5) cj.nd rfl (lo rfl) (bg Jo hr.m (by rfl) (af (ae (pv 0)) (af (ae (pv 4)) au))))
  (ah (aG (i:=6) cj.nd rfl (lo rfl) (aK mF (aa (aK bO (ae (pv 5)) (aa ai))) (aa ai)))
  (ah (aG (i:=7) cj.nd rfl (lo rfl) (aK cF (aa (aK bO (aa (aK cF (ae (pv 5)) (aa ai))) (aa ai))) (aa ai)))
  (ah (eF (cG (pv 2) (aK aP (aa (aU (lq rfl) (by rfl) JM lC (af (aa ai) (af (aa (aK mF (aa ai) (ae (pv 6)))) au)))) (ae (pv 7)))))
  (aw (eF (cG (pv 3) (aK aP (aa (aU (lq rfl) (by rfl) JM lC (af (aa ai) (af (ae (pv 6)) au)))) (ae (pv 7)))))))))))
  (aw (aX (Bz (aK bO (aa (aK cF (ae (pv 0)) (aa ai))) (aa ai)) (gM (pv 2)) (gM (pv 3))))))))
abbrev gc:Stmt:=top 22
theorem cu:FnScope ["_law_place_here","_law_cell","_law_factor","_law_beads","_law_takes","_law_gives"] ["_law_place_here","_law_cell"] (defScope gc):=fs
theorem l8(Df:Def K mg "_law_scaled" gc)(Ja:mg "tuple" = none):Ct P w K mg base "_law_scaled" 1 (spF K cb):=
 d7 Df cu (fun _ _ _ _ _ _=>xQ fun _ _=>rfl) fun f Jm A outer s H E hr=>
  (ah (aG (i:=2) cu.nd rfl (lo rfl) (aK aP (aa ai) (aa (aK bO (ae (pv 1)) (aa (aK DL (aa ai) (aa ai)))))))
  (ah (DY (aA (pv 0)) (e7 rfl (aO (aE (i:=3) cu.nd rfl (lo rfl)) (aO (aE (i:=4) cu.nd rfl (lo rfl)) (aO (aE (i:=5) cu.nd rfl (lo rfl)) du)))))
  (ah (aG (i:=4) cu.nd rfl (lo rfl) (cD dW (by rfl) Ja cO (af (aa (bC [none,some 2] ["_law_take","_law_factor"] rfl (iK (fH (pv 4)) (cH (gN (aA (pv 4))))) (fun _ _ _ _ _=>(aE (i:=0) (show List.Nodup (["_law_take","_law_factor"]:List Str) from by decide +kernel) rfl (lo rfl))) (fun _ _ _ _ _=>cx) (fun _ _ _ _ _=>(aK gQ (ae (pv 1)) (ae (pv 0)))))) au)))
  (aw (aX (bN (aq (aK aP (aa (aK gQ (ae (pv 2)) (ae (pv 3)))) (aa (aK bO (aa (aK cF (ae (pv 1)) (aa ai))) (ae (pv 2))))) (aq (aA (pv 4)) (aq (cD dW (by rfl) Ja cO (af (aa (bC [none,some 2] ["_law_give","_law_factor"] rfl (iK (fH (pv 5)) (cH (gN (aA (pv 5))))) (fun _ _ _ _ _=>(aE (i:=0) (show List.Nodup (["_law_give","_law_factor"]:List Str) from by decide +kernel) rfl (lo rfl))) (fun _ _ _ _ _=>cx) (fun _ _ _ _ _=>(aK gQ (ae (pv 1)) (ae (pv 0)))))) au)) aI)))))))))
abbrev gd:Stmt:=top 23
theorem cv:FnScope ["_law_script","_law_first_here","_law_count","_law_places_here","_law_k","_law_number","_law_place_here","_law_mate"] ["_law_script","_law_first_here","_law_count"] (defScope gd):=fs
theorem l9(Df:Def K mg "_law_places" gd)(Je:Ct P w K mg base "_law_cell_at" 1 (spF K aQ))(LY:Ct P w K mg base "_law_fold" 2 (spF K dP))(LD:Ct P w K mg base "_law_place" 2 (spF K di))(Kf:Ct P w K mg base "_law_scaled" 1 (spF K cb))(Jn:mg "range" = none):Ct P w K mg base "_law_places" 3 (spF K cQ):=
 d7 Df cv (fun _ _ _ _ _ _=>yM fun _ _ _=>rfl) fun f Jm A outer s H E hr=>
  (ah (aG (i:=3) cv.nd rfl (lo rfl) (cC aI))
  (ah (eB VY rfl (fN (by rfl) Jn (aa (aK aP (aa ai) (aa (aK bO (aa (aK cF (aa (bg Je hr.m (by rfl) (af (ae (pv 0)) (af (aa ai) au)))) (aa ai))) (aa ai)))))) (aE (i:=4) cv.nd rfl (lo rfl))
  (ah (aG (i:=5) cv.nd rfl (lo rfl) (bg LY hr.m (by rfl) (af (ae (pv 0)) (af (ae (pv 1)) (af (ae (pv 4)) au)))))
  (ah (aG (i:=6) cv.nd rfl (lo rfl) (bg LD hr.m (by rfl) (af (ae (pv 5)) (af (ae (pv 2)) au))))
  (ah (eF (cG (pv 3) (bg Kf hr.m (by rfl) (af (ae (pv 6)) (af (aa (bg Je hr.m (by rfl) (af (ae (pv 0)) (af (aa (aK aP (ae (pv 1)) (ae (pv 4)))) au)))) au)))))
  (aw (b9 (kW Bf (aa (aK bO (aa (aK cF (ae (pv 5)) (aa ai))) (aa ai))) (aa ai) (aR _))
  (ah (aG (i:=7) cv.nd rfl (lo rfl) (bN (aq (aK bO (aa (aK cF (ae (pv 5)) (aa ai))) (aa ai)) (aq (aT (aa (aA (pv 6))) (aa ai)) (aq (aT (aa (aA (pv 6))) (aa ai)) aI)))))
  (aw (eF (cG (pv 3) (bg Kf hr.m (by rfl) (af (ae (pv 7)) (af (aa (bg Je hr.m (by rfl) (af (ae (pv 0)) (af (aa (aK aP (aa (aK aP (ae (pv 1)) (aa ai))) (ae (pv 4)))) au)))) au)))))))
  aV))))))
  (aw (aX (gM (pv 3))))))
abbrev hZ:Stmt:=top 24
theorem dF:FnScope ["_law_script","_law_names_here","_law_cell","_law_count","_law_start"] ["_law_script"] (defScope hZ):=fs
theorem oA(Df:Def K mg "_law_moves" hZ)(Je:Ct P w K mg base "_law_cell_at" 1 (spF K aQ))(LF:Ct P w K mg base "_law_names" 2 (spF K dh))(Ja:mg "tuple" = none):Ct P w K mg base "_law_moves" 3 (spF K dk):=
 d7 Df dF (fun _ _ _ _ _ _=>CI fun _=>rfl) fun f Jm A outer s H E hr=>
  (ah (aG (i:=1) dF.nd rfl (lo rfl) (bg LF hr.m (by rfl) (af (aa (bg Je hr.m (by rfl) (af (ae (pv 0)) (af (aa ai) au)))) au)))
  (ah (aG (i:=2) dF.nd rfl (lo rfl) (bg Je hr.m (by rfl) (af (ae (pv 0)) (af (aa ai) au))))
  (ah (aG (i:=3) dF.nd rfl (lo rfl) (aK aP (aa ai) (aa (aK bO (ae (pv 2)) (aa ai)))))
  (ah (aG (i:=4) dF.nd rfl (lo rfl) (aK bO (aa (aK cF (ae (pv 2)) (aa ai))) (aa (aK mF (aa ai) (ae (pv 3))))))
  (aw (aX (cD dW (by rfl) Ja cO (af (aa (pR (ae (pv 1)) (fX (aA (pv 4))) (fX (aK aP (ae (pv 4)) (ae (pv 3)))))) au))))))))
abbrev jY:Stmt:=top 25
theorem dS:FnScope ["_law_script","_law_first_here","_law_moves_here","_law_count","_law_places_here","_law_ones","_law_noughts"] ["_law_script","_law_first_here"] (defScope jY):=fs
theorem rh(Df:Def K mg "_law_net" jY)(LG:Ct P w K mg base "_law_moves" 3 (spF K dk))(Le:Ct P w K mg base "_law_places" 3 (spF K cQ))(JP:Ct P w K mg base "_law_run" 2 (spF K b5))(Jh:mg "len" = none)(Ja:mg "tuple" = none):Ct P w K mg base "_law_net" 4 (spF K dQ):=
 d7 Df dS (fun _ _ _ _ _ _=>xQ fun _ _=>rfl) fun f Jm A outer s H E hr=>
  (ah (aG (i:=2) dS.nd rfl (lo rfl) (bg LG hr.m (by rfl) (af (ae (pv 0)) au)))
  (ah (aG (i:=3) dS.nd rfl (lo rfl) (aU cz (by rfl) Jh bt_len (af (ae (pv 2)) au)))
  (ah (aG (i:=4) dS.nd rfl (lo rfl) (bg Le hr.m (by rfl) (af (ae (pv 0)) (af (ae (pv 1)) (af (ae (pv 3)) au)))))
  (ah (b9 (aM j6 (aa (bg JP hr.m (by rfl) (af (aa (bN (aq (aA (pv 2)) (aq (aA (pv 4)) aI)))) (af (aa ai) au)))) (aa dq) (aR _))
  (aw (aX (bN (aq (aA (pv 2)) (aq (aA (pv 4)) aI)))))
  aV)
  (ah (aG (i:=5) dS.nd rfl (lo rfl) (cD dW (by rfl) Ja cO (af (aa (bC [none] ["_law_move"] rfl (iK (fH (pv 2)) (cH (gN (aA (pv 2))))) (fun _ _ _ _ _=>(aE (i:=0) (show List.Nodup (["_law_move"]:List Str) from by decide +kernel) rfl (lo rfl))) (fun _ _ _ _ _=>cx) (fun _ _ _ _ _=>ai))) au)))
  (ah (aG (i:=6) dS.nd rfl (lo rfl) (cD dW (by rfl) Ja cO (af (aa (bC [none] ["_law_move"] rfl (iK (fH (pv 2)) (cH (gN (aA (pv 2))))) (fun _ _ _ _ _=>(aE (i:=0) (show List.Nodup (["_law_move"]:List Str) from by decide +kernel) rfl (lo rfl))) (fun _ _ _ _ _=>cx) (fun _ _ _ _ _=>ai))) au)))
  (ah (b9 (aM j6 (aa (bg JP hr.m (by rfl) (af (aa (bN (aq (aA (pv 2)) (aq (aK aP (ae (pv 4)) (aa (cC (aq (bN (aq ai (aq (aA (pv 5)) (aq (aA (pv 6)) aI)))) aI)))) aI)))) (af (aa ai) au)))) (aa dq) (aR _))
  (aw (aX (bN (aq (aA (pv 2)) (aq (aK aP (ae (pv 4)) (aa (cC (aq (bN (aq ai (aq (aA (pv 5)) (aq (aA (pv 6)) aI)))) aI)))) aI)))))
  aV)
  (aw (aX (bN (aq (aA (pv 2)) (aq (aK aP (ae (pv 4)) (aa (cC (aq (bN (aq ai (aq (aA (pv 5)) (aq (aA (pv 6)) aI)))) aI)))) aI))))))))))))
abbrev gf:Stmt:=top 26
theorem aZ:FnScope ["_law_arcs","_law_order","_law_done","_law_one","_law_move","_law_other","_law_kept","_law_arc"] ["_law_arcs"] (defScope gf):=fs
theorem ma(Df:Def K mg "_law_tidied" gf)(Jh:mg "len" = none)(Jy:mg "sorted" = none):Ct P w K mg base "_law_tidied" 1 (spF K cc):=
 d7 Df aZ (fun _ _ _ _ _ _=>CI fun _=>rfl) fun f Jm A outer s H E hr=>
  (ah (aG (i:=1) aZ.nd rfl (lo rfl) (cC (aq ai aI)))
  (ah (aG (i:=2) aZ.nd rfl (lo rfl) ai)
  (ah (nM 100000 VY (kW (mK hr.units0) (ae (pv 2)) (aa (aU cz (by rfl) Jh bt_len (af (ae (pv 1)) au))) (aR _))
  (ah (eB VY rfl (dE (aU (js rfl) (by rfl) Jy jt (af (ae (pv 0)) au))) (e7 rfl (aO (aE (i:=3) aZ.nd rfl (lo rfl)) (aO (aE (i:=4) aZ.nd rfl (lo rfl)) (aO (aE (i:=5) aZ.nd rfl (lo rfl)) du))))
  (aw (b9 (QW.qt (kY (aM (dZ hr.units) (ae (pv 3)) (aa (aT (ae (pv 1)) (ae (pv 2)))) (aR _)) (jS (aM (iV hr.u65) (ae (pv 5)) (ae (pv 1)) (by with_unfolding_all rfl)))))
  (aw (eF (cG (pv 1) (aA (pv 5)))))
  aV)))
  (aw (aG (i:=2) aZ.nd rfl (lo rfl) (aK aP (ae (pv 2)) (aa ai))))))
  (ah (aG (i:=6) aZ.nd rfl (lo rfl) (cC aI))
  (ah (eB VY rfl (dE (aA (pv 0))) (e7 rfl (aO (aE (i:=3) aZ.nd rfl (lo rfl)) (aO (aE (i:=4) aZ.nd rfl (lo rfl)) (aO (aE (i:=5) aZ.nd rfl (lo rfl)) du))))
  (aw (b9 (aM (mL hr.u65) (ae (pv 3)) (ae (pv 1)) (by with_unfolding_all rfl))
  (ah (aG (i:=7) aZ.nd rfl (lo rfl) (bN (aq (wO XB Yl (iX hr.u65) (ae (pv 1)) (af (ae (pv 3)) au)) (aq (aA (pv 4)) (aq (wO XB Yl (iX hr.u65) (ae (pv 1)) (af (ae (pv 5)) au)) aI)))))
  (aw (b9 (aM (iV hr.u65) (ae (pv 7)) (ae (pv 6)) (by with_unfolding_all rfl))
  (aw (eF (cG (pv 6) (aA (pv 7)))))
  aV)))
  aV)))
  (aw (aX (aU (js rfl) (by rfl) Jy jt (af (ae (pv 6)) au)))))))))
abbrev i6:Stmt:=top 27
theorem bR:FnScope ["_law_moves_here","_law_arcs","_law_number","_law_count","_law_other","_law_move","_law_spot","_law_arc","_law_rest","_law_gone_here","_law_ends"] ["_law_moves_here","_law_arcs","_law_number"] (defScope i6):=fs
theorem ql(Df:Def K mg "_law_bent" i6)(Jh:mg "len" = none)(JM:mg "max" = none)(MD:mg "min" = none)(Jn:mg "range" = none):Ct P w K mg base "_law_bent" 1 (spF K dR):=
 d7 Df bR (fun _ _ _ _ _ _=>yM fun _ _ _=>rfl) fun f Jm A outer s H E hr=>
  (ah (aG (i:=3) bR.nd rfl (lo rfl) (aK aP (aa ai) (aa (aU (lq rfl) (by rfl) JM lC (af (aa (aK aP (aa (cC (aq ai aI))) (aa (bC [none] ["_law_arc"] rfl (iK (fH (pv 1)) (cH (gN (aA (pv 1))))) (fun _ _ _ _ _=>(aE (i:=0) (show List.Nodup (["_law_arc"]:List Str) from by decide +kernel) rfl (lo rfl))) (fun _ _ _ _ _=>cx) (fun _ _ _ _ _=>(aU (lq rfl) (by rfl) JM lC (af (aa (aT (ae (pv 0)) (aa ai))) (af (aa (aT (ae (pv 0)) (aa ai))) au)))))))) au)))))
  (ah (aG (i:=4) bR.nd rfl (lo rfl) (aK bO (aa (aK cF (ae (pv 2)) (aa ai))) (aa (aU (D5 rfl) (by rfl) MD DZ (af (aa (aK aP (ae (pv 3)) (aa ai))) (af (aa ai) au))))))
  (ah (aG (i:=5) bR.nd rfl (lo rfl) (aT (ae (pv 0)) (aa (aK bO (aa (aK cF (ae (pv 2)) (aa ai))) (aa (aU cz (by rfl) Jh bt_len (af (ae (pv 0)) au)))))))
  (ah (b9 (QW.qt (kZ (aM (dZ hr.units) (ae (pv 1)) (aa (cC aI)) (aR _)) (kX (aM (dZ hr.units) (aa (aK bO (ae (pv 2)) (aa ai))) (aa ai) (aR _)))))
  (aw (aX (aK aP (ae (pv 1)) (aa (cC (aq (bN (aq (aK bO (aa (aK cF (ae (pv 2)) (aa ai))) (ae (pv 3))) (aq (aA (pv 5)) (aq (aA (pv 4)) aI)))) aI))))))
  aV)
  (ah (aG (i:=6) bR.nd rfl (lo rfl) (aK bO (aa (aK cF (ae (pv 2)) (aa ai))) (aa (aU cz (by rfl) Jh bt_len (af (ae (pv 1)) au)))))
  (ah (aG (i:=7) bR.nd rfl (lo rfl) (aT (ae (pv 1)) (ae (pv 6))))
  (ah (aG (i:=8) bR.nd rfl (lo rfl) (aK aP (aa (pR (ae (pv 1)) nR (fX (aA (pv 6))))) (aa (pR (ae (pv 1)) (fX (aK aP (ae (pv 6)) (aa ai))) nR))))
  (ah (b9 (aM (dZ hr.units) (aa (aK bO (ae (pv 2)) (aa ai))) (aa ai) (aR _))
  (aw (aX (gM (pv 8))))
  aV)
  (ah (b9 (aM (dZ hr.units) (aa (aK bO (ae (pv 2)) (aa ai))) (aa ai) (aR _))
  (aw (aX (aK aP (ae (pv 8)) (aa (cC (aq (bN (aq (aT (ae (pv 7)) (aa ai)) (aq (aT (ae (pv 7)) (aa ai)) (aq (aA (pv 4)) aI)))) aI))))))
  aV)
  (ah (b9 (QW.qt (kZ (aM (dZ hr.units) (aa (aK bO (ae (pv 2)) (aa ai))) (aa ai) (aR _)) (kX (aM (dZ hr.units) (ae (pv 3)) (aa ai) (aR _)))))
  (aw (aX (aK aP (ae (pv 8)) (aa (cC (aq (bN (aq (aT (ae (pv 7)) (aa ai)) (aq (aA (pv 5)) (aq (aT (ae (pv 7)) (aa ai)) aI)))) aI))))))
  aV)
  (ah (aG (i:=9) bR.nd rfl (lo rfl) (aK aP (aa ai) (aa (aK bO (aa (aK cF (ae (pv 2)) (aa ai))) (aa (aK mF (ae (pv 3)) (aa ai)))))))
  (ah (aG (i:=10) bR.nd rfl (lo rfl) (bC [none] ["_law_k"] rfl (cH (fN (by rfl) Jn (ae (pv 3)))) (fun _ _ _ _ _=>(aE (i:=0) (show List.Nodup (["_law_k"]:List Str) from by decide +kernel) rfl (lo rfl))) (fun _ _ _ _ _=>cx) (fun _ _ _ _ _=>(aA (pv 0)))))
  (ah (wI (pv 10) (aA (pv 9)) (aK bO (ae (pv 4)) (ae (pv 3))))
  (aw (aX (bC [none,none,none,some 10] ["_law_one","_law_name","_law_two","_law_ends"] rfl (iK (fH (pv 1)) (cH (gN (aA (pv 1))))) (fun _ _ _ _ _=>(have h:=(show List.Nodup (["_law_one","_law_name","_law_two","_law_ends"]:List Str) from by decide +kernel);(e7 rfl (aO (aE (i:=0) h rfl (lo rfl)) (aO (aE (i:=1) h rfl (lo rfl)) (aO (aE (i:=2) h rfl (lo rfl)) du)))))) (fun _ _ _ _ _=>cx) (fun _ _ _ _ _=>(bN (aq (aT (ae (pv 3)) (ae (pv 0))) (aq (aA (pv 1)) (aq (aT (ae (pv 3)) (ae (pv 2))) aI)))))))))))))))))))))
abbrev ia:Stmt:=top 28
theorem oB:FnScope ["_law_net_here"] ["_law_net_here"] (defScope ia):=fs
theorem oC(Df:Def K mg "_law_first" ia)(Ja:mg "tuple" = none):Ct P w K mg base "_law_first" 1 (spF K b7):=
 d7 Df oB (fun _ _ _ _ _ _=>CI fun _=>rfl) fun f Jm A outer s H E hr=>
  (aw (aX (cD dW (by rfl) Ja cO (af (aa (bC [none,none,none] ["_law_beads","_law_takes","_law_gives"] rfl (cH (dE (aT (ae (pv 0)) (aa ai)))) (fun _ _ _ _ _=>(have h:=(show List.Nodup (["_law_beads","_law_takes","_law_gives"]:List Str) from by decide +kernel);(e7 rfl (aO (aE (i:=0) h rfl (lo rfl)) (aO (aE (i:=1) h rfl (lo rfl)) (aO (aE (i:=2) h rfl (lo rfl)) du)))))) (fun _ _ _ _ _=>cx) (fun _ _ _ _ _=>(aA (pv 0))))) au))))
abbrev i7:Stmt:=top 29
theorem fe:FnScope ["_law_net_here","_law_way","_law_marking","_law_move"] ["_law_net_here","_law_way"] (defScope i7):=fs
theorem qm(Df:Def K mg "_law_gone" i7)(JQ:Ct P w K mg base "_law_first" 1 (spF K b7))(Jw:Ct P w K mg base "_law_step" 1 (spF K ba)):Ct P w K mg base "_law_gone" 2 (spF K bj):=
 d7 Df fe (fun _ _ _ _ _ _=>xQ fun _ _=>rfl) fun f Jm A outer s H E hr=>
  (ah (aG (i:=2) fe.nd rfl (lo rfl) (bg JQ hr.m (by rfl) (af (ae (pv 0)) au)))
  (ah (eB VY rfl (dE (aA (pv 1))) (aE (i:=3) fe.nd rfl (lo rfl))
  (ah (b9 (QW.qt (kZ (aM (iV hr.u65) (ae (pv 3)) (aa (aT (ae (pv 0)) (aa ai))) (by with_unfolding_all rfl)) (kX (aM wx (ae (pv 2)) (aa dq) (aR _)))))
  (aw (aX dq))
  aV)
  (aw (aG (i:=2) fe.nd rfl (lo rfl) (bg Jw hr.m (by rfl) (af (ae (pv 0)) (af (ae (pv 2)) (af (ae (pv 3)) au))))))))
  (aw (aX (gM (pv 2))))))
abbrev jZ:Stmt:=top 30
theorem cM:FnScope ["_law_chart","_law_way","_law_states","_law_move","_law_after","_law_one","_law_name","_law_other"] ["_law_chart","_law_way"] (defScope jZ):=fs
theorem rj(Df:Def K mg "_law_led" jZ):Ct P w K mg base "_law_led" 1 (spF K cR):=
 d7 Df cM (fun _ _ _ _ _ _=>xQ fun _ _=>rfl) fun f Jm A outer s H E hr=>
  (ah (aG (i:=2) cM.nd rfl (lo rfl) (cC (aq ai aI)))
  (ah (eB VY rfl (dE (aA (pv 1))) (aE (i:=3) cM.nd rfl (lo rfl))
  (ah (aG (i:=4) cM.nd rfl (lo rfl) (cC aI))
  (ah (eB VY rfl (dE (aT (ae (pv 0)) (aa ai))) (e7 rfl (aO (aE (i:=5) cM.nd rfl (lo rfl)) (aO (aE (i:=6) cM.nd rfl (lo rfl)) (aO (aE (i:=7) cM.nd rfl (lo rfl)) du))))
  (aw (b9 (QW.qt (kY (aM (mL hr.u65) (ae (pv 5)) (ae (pv 2)) (by with_unfolding_all rfl)) (kY (aM (dZ hr.units) (ae (pv 6)) (ae (pv 3)) (aR _)) (jS (aM (iV hr.u65) (ae (pv 7)) (ae (pv 4)) (by with_unfolding_all rfl))))))
  (aw (eF (cG (pv 4) (aA (pv 7)))))
  aV)))
  (aw (aG (i:=2) cM.nd rfl (lo rfl) (aA (pv 4)))))))
  (aw (aX (gM (pv 2))))))
abbrev eT:Stmt:=top 31
theorem kz:FnScope ["_law_chart","_law_state"] ["_law_chart","_law_state"] (defScope eT):=fs
theorem kA(Df:Def K mg "_law_moves_of" eT):Ct P w K mg base "_law_moves_of" 1 (spF K aW):=
 d7 Df kz (fun _ _ _ _ _ _=>xQ fun _ _=>rfl) fun f Jm A outer s H E hr=>
  (aw (aX (bC [none,none,none,some 1] ["_law_one","_law_name","_law_other","_law_state"] rfl (cH (dE (aT (ae (pv 0)) (aa ai)))) (fun _ _ _ _ _=>(have h:=(show List.Nodup (["_law_one","_law_name","_law_other","_law_state"]:List Str) from by decide +kernel);(e7 rfl (aO (aE (i:=0) h rfl (lo rfl)) (aO (aE (i:=1) h rfl (lo rfl)) (aO (aE (i:=2) h rfl (lo rfl)) du)))))) (fun _ _ _ _ _=>(k9 (aM (dZ hr.units) (ae (pv 0)) (ae (pv 3)) (aR _)))) (fun _ _ _ _ _=>(aA (pv 1))))))
abbrev ib:Stmt:=top 32
theorem cp:FnScope ["_law_chart","_law_net_here","_law_found","_law_here","_law_states","_law_after","_law_having","_law_there","_law_others"] ["_law_chart","_law_net_here","_law_found"] (defScope ib):=fs
theorem oD(Df:Def K mg "_law_borne" ib)(J5:Ct P w K mg base "_law_gone" 2 (spF K bj))(K5:Ct P w K mg base "_law_led" 1 (spF K cR))(KW:Ct P w K mg base "_law_moves_of" 1 (spF K aW))(Jd:mg "isinstance" = none)(Jh:mg "len" = none)(Lp:mg "set" = none)(Ja:mg "tuple" = none):Ct P w K mg base "_law_borne" 3 (spF K bo):=
 d7 Df cp (fun _ _ _ _ _ _=>yM fun _ _ _=>rfl) fun f Jm A outer s H E hr=>
  (ah (aG (i:=3) cp.nd rfl (lo rfl) (bg J5 hr.m (by rfl) (af (ae (pv 1)) (af (aa (aT (ae (pv 2)) (aa ai))) au))))
  (ah (aG (i:=4) cp.nd rfl (lo rfl) (bg K5 hr.m (by rfl) (af (ae (pv 0)) (af (aa (aT (ae (pv 2)) (aa ai))) au))))
  (ah (b9 (QW.qt (kZ (mC (mB (wy (T:="tuple") (by decide) (aa (aT (ae (pv 2)) (aa ai))) (by rfl) Jd (by rfl) Ja cO))) (kZ (aM wx (ae (pv 3)) (aa dq) (aR _)) (kX (aM (dZ hr.units) (ae (pv 4)) (aa (cC aI)) (aR _))))))
  (aw (aX ux))
  aV)
  (ah (b9 (aM (mL hr.u65) (aa (aT (ae (pv 2)) (aa ai))) (aa (bN (aq (eE GD (by decide)) (aq (eE HB (by decide)) aI)))) (by with_unfolding_all rfl))
  (ah (aG (i:=5) cp.nd rfl (lo rfl) (bg J5 hr.m (by rfl) (af (ae (pv 1)) (af (aa (aK aP (aa (aT (ae (pv 2)) (aa ai))) (aa (bN (aq (aT (ae (pv 2)) (aa ai)) aI))))) au))))
  (ah (oh (i:=6) [none,some 2,some 0] ["_law_state","_law_found","_law_chart"] cp.nd rfl (lo rfl) rfl (iK (fH (pv 4)) (cH (gN (aA (pv 4))))) (fun _ _ _ _ _=>(aE (i:=0) (show List.Nodup (["_law_state","_law_found","_law_chart"]:List Str) from by decide +kernel) rfl (lo rfl))) (fun _ _ _ _ _=>(k9 (aM (mL hr.u65) (aa (aT (ae (pv 1)) (aa ai))) (aa (bg KW hr.m (by rfl) (af (ae (pv 2)) (af (ae (pv 0)) au)))) (by with_unfolding_all rfl)))) (fun _ _ _ _ _=>(aA (pv 0))))
  (ah (b9 (aM (dZ hr.units) (aa (aT (ae (pv 2)) (aa ai))) (aa (eE GD (by decide))) (aR _))
  (aw (aX (k7 (fE wx (ae (pv 5)) (aa dq) (aR _)) (mD (fE (l7 hr.units) (ae (pv 6)) (aa (cC aI)) (aR _))))))
  aV)
  (aw (aX (k7 (fE j6 (ae (pv 5)) (aa dq) (aR _)) (mD (wc (mK hr.units0) (aa (aU cz (by rfl) Jh bt_len (af (ae (pv 6)) au))) (aa (aU cz (by rfl) Jh bt_len (af (ae (pv 4)) au))) (aR _)))))))))
  aV)
  (ah (aG (i:=7) cp.nd rfl (lo rfl) (bg J5 hr.m (by rfl) (af (ae (pv 1)) (af (aa (aT (ae (pv 2)) (aa ai))) au))))
  (ah (aG (i:=8) cp.nd rfl (lo rfl) (bg K5 hr.m (by rfl) (af (ae (pv 0)) (af (aa (aT (ae (pv 2)) (aa ai))) au))))
  (ah (b9 (QW.qt (kZ (mC (mB (wy (T:="tuple") (by decide) (aa (aT (ae (pv 2)) (aa ai))) (by rfl) Jd (by rfl) Ja cO))) (kZ (aM wx (ae (pv 7)) (aa dq) (aR _)) (kX (aM (dZ hr.units) (ae (pv 8)) (aa (cC aI)) (aR _))))))
  (aw (aX ux))
  aV)
  (ah (b9 (aM (dZ hr.units) (aa (aT (ae (pv 2)) (aa ai))) (aa (eE HA (by decide))) (aR _))
  (aw (aX (k7 (fE (dZ hr.units) (ae (pv 3)) (ae (pv 7)) (aR _)) (mD (wc Bf (aa (BH rfl (by rfl) Jh (by rfl) Lp (af (aa (aK aP (ae (pv 4)) (ae (pv 8)))) au))) (aa ai) (aR _))))))
  aV)
  (aw (aX (k7 (fE (dZ hr.units) (aa (aT (ae (pv 2)) (aa ai))) (aa (eE Hz (by decide))) (aR _)) (k7 (fE (l7 hr.units) (ae (pv 3)) (ae (pv 7)) (aR _)) (mD (fE (l7 hr.units) (aa (bC [none,some 8] ["_law_state","_law_others"] rfl (iK (fH (pv 4)) (cH (gN (aA (pv 4))))) (fun _ _ _ _ _=>(aE (i:=0) (show List.Nodup (["_law_state","_law_others"]:List Str) from by decide +kernel) rfl (lo rfl))) (fun _ _ _ _ _=>(k9 (aM (mL hr.u65) (ae (pv 0)) (ae (pv 1)) (by with_unfolding_all rfl)))) (fun _ _ _ _ _=>(aA (pv 0))))) (aa (cC aI)) (aR _)))))))))))))))
abbrev gj:Stmt:=top 33
theorem bG:FnScope ["_law_chart","_law_net_here","_law_markings","_law_count","_law_going","_law_one","_law_move","_law_other","_law_marking"] ["_law_chart","_law_net_here","_law_markings"] (defScope gj):=fs
theorem me(Df:Def K mg "_law_is_run" gj)(JQ:Ct P w K mg base "_law_first" 1 (spF K b7))(Jw:Ct P w K mg base "_law_step" 1 (spF K ba))(Jd:mg "isinstance" = none)(Jh:mg "len" = none)(KC:mg "list" = none)(JM:mg "max" = none)(Lp:mg "set" = none):Ct P w K mg base "_law_is_run" 2 (spF K bQ):=
 d7 Df bG (fun _ _ _ _ _ _=>yM fun _ _ _=>rfl) fun f Jm A outer s H E hr=>
  (ah (aG (i:=3) bG.nd rfl (lo rfl) (aK aP (aa ai) (aa (aU (lq rfl) (by rfl) JM lC (af (aa (aK aP (aa (cC (aq ai aI))) (aa (bC [none] ["_law_arc"] rfl (cH (dE (aT (ae (pv 0)) (aa ai)))) (fun _ _ _ _ _=>(aE (i:=0) (show List.Nodup (["_law_arc"]:List Str) from by decide +kernel) rfl (lo rfl))) (fun _ _ _ _ _=>cx) (fun _ _ _ _ _=>(aU (lq rfl) (by rfl) JM lC (af (aa (aT (ae (pv 0)) (aa ai))) (af (aa (aT (ae (pv 0)) (aa ai))) au)))))))) au)))))
  (ah (b9 (QW.qt (kZ (mC (mB (wy (T:="list") (by decide) (ae (pv 2)) (by rfl) Jd (by rfl) KC vB))) (kZ (aM (l7 hr.units) (aa (aU cz (by rfl) Jh bt_len (af (ae (pv 2)) au))) (ae (pv 3)) (aR _)) (kX (aM (l7 hr.units) (aa (BG rfl (Z5 (ZU (by decide) _) hr.u65) (by rfl) Jh (by rfl) Lp (af (ae (pv 2)) au))) (ae (pv 3)) (aR _))))))
  (aw (aX ux))
  aV)
  (ah (b9 (aM (l7 hr.units) (aa (aT (ae (pv 2)) (aa ai))) (aa (bg JQ hr.m (by rfl) (af (ae (pv 1)) au))) (aR _))
  (aw (aX ux))
  aV)
  (ah (aG (i:=4) bG.nd rfl (lo rfl) ai)
  (ah (eB VY rfl (dE (aT (ae (pv 0)) (aa ai))) (e7 rfl (aO (aE (i:=5) bG.nd rfl (lo rfl)) (aO (aE (i:=6) bG.nd rfl (lo rfl)) (aO (aE (i:=7) bG.nd rfl (lo rfl)) du))))
  (aw (b9 (aM (l7 hr.units) (aa (bg Jw hr.m (by rfl) (af (ae (pv 1)) (af (aa (aT (ae (pv 2)) (ae (pv 5)))) (af (ae (pv 6)) au))))) (aa (aT (ae (pv 2)) (ae (pv 7)))) (aR _))
  (aw (aX ux))
  aV)))
  (ah (eB VY rfl (dE (aA (pv 2))) (aE (i:=8) bG.nd rfl (lo rfl))
  (aw (aG (i:=4) bG.nd rfl (lo rfl) (aK aP (ae (pv 4)) (aa (aU cz (by rfl) Jh bt_len (af (aa (bC [none,some 1,some 8] ["_law_move","_law_net_here","_law_marking"] rfl (cH (dE (aT (ae (pv 1)) (aa ai)))) (fun _ _ _ _ _=>(aE (i:=0) (show List.Nodup (["_law_move","_law_net_here","_law_marking"]:List Str) from by decide +kernel) rfl (lo rfl))) (fun _ _ _ _ _=>(k9 (aM j6 (aa (bg Jw hr.m (by rfl) (af (ae (pv 1)) (af (ae (pv 2)) (af (ae (pv 0)) au))))) (aa dq) (aR _)))) (fun _ _ _ _ _=>(aA (pv 0))))) au)))))))
  (aw (aX (fE (dZ hr.units) (ae (pv 4)) (aa (aU cz (by rfl) Jh bt_len (af (aa (aT (ae (pv 0)) (aa ai))) au))) (aR _))))))))))
abbrev oE:Stmt:=top 34
theorem kj:FnScope ["_law_script","_law_net_here","_law_arcs","_law_k","_law_number","_law_chart","_law_found"] ["_law_script"] (defScope oE):=fs
theorem Ek{f:Addr}{fd:FuncData}(F:Fun K "law" "law" oE f fd)(LZ:Ct P w K mg base "_law_bent" 1 (spF K dR))(LH:Ct P w K mg base "_law_borne" 3 (spF K bo))(Je:Ct P w K mg base "_law_cell_at" 1 (spF K aQ))(Lf:Ct P w K mg base "_law_is_run" 2 (spF K bQ))(Jo:Ct P w K mg base "_law_mixed" 1 (spF K bh))(Mm:Ct P w K mg base "_law_net" 4 (spF K dQ))(JP:Ct P w K mg base "_law_run" 2 (spF K b5))(Kg:Ct P w K mg base "_law_tidied" 1 (spF K cc))(P8:Ct P w K mg base "held" 4 (spF K j9))(Jd:mg "isinstance" = none)(Jh:mg "len" = none)(Jn:mg "range" = none)(ME:mg "str" = none)(Ja:mg "tuple" = none):FnOk P w K mg base MP 5 f fd ["_law_script"] (spF K BI):=
 fnok_of F kj fun Jm A outer s H E hr=>
  (ah (aG (i:=1) kj.nd rfl (lo rfl) (bg Mm hr.m (by rfl) (af (ae (pv 0)) (af (aa ai) au))))
  (ah (aG (i:=2) kj.nd rfl (lo rfl) (aT (aa (bg JP hr.m (by rfl) (af (ae (pv 1)) (af (aa ai) au)))) (aa ai)))
  (ah (eB VY rfl (wo (by rfl) Jn (af (aa ai) (af (aa ai) au))) (aE (i:=3) kj.nd rfl (lo rfl))
  (ah (aG (i:=4) kj.nd rfl (lo rfl) (bg Jo hr.m (by rfl) (af (aa (bg Je hr.m (by rfl) (af (ae (pv 0)) (af (ae (pv 3)) au)))) (af (ae (pv 3)) au))))
  (aw (b9 (aM (dZ hr.units) (aa (aK bO (aa (aK cF (ae (pv 4)) (aa ai))) (aa ai))) (aa ai) (aR _))
  (aw (aG (i:=2) kj.nd rfl (lo rfl) (bg Kg hr.m (by rfl) (af (aa (bg LZ hr.m (by rfl) (af (aa (aT (ae (pv 1)) (aa ai))) (af (ae (pv 2)) (af (aa (aK cF (ae (pv 4)) (aa ai))) au))))) au))))
  aV))))
  (ah (aG (i:=5) kj.nd rfl (lo rfl) (bN (aq (aT (ae (pv 1)) (aa ai)) (aq (bg Kg hr.m (by rfl) (af (ae (pv 2)) au)) aI))))
  (ah (aG (i:=6) kj.nd rfl (lo rfl) (bg P8 hr.m (by rfl) (af (ae (pv 5)) (af (ae (pv 1)) au))))
  (ah (b9 (QW.qt (kZ (mC (mB (wy (T:="tuple") (by decide) (ae (pv 6)) (by rfl) Jd (by rfl) Ja cO))) (kZ (aM (iV hr.u65) (aa (aU cz (by rfl) Jh bt_len (af (ae (pv 6)) au))) (aa (bN (aq ai (aq ai aI)))) (by with_unfolding_all rfl)) (kX (mC (mB (wy (T:="str") (by decide) (aa (aT (ae (pv 6)) (aa ai))) (by rfl) Jd (by rfl) ME Du)))))))
  (aw (aX ux))
  aV)
  (ah (b9 (aM (dZ hr.units) (aa (aT (ae (pv 6)) (aa ai))) (aa (eE HC (by decide))) (aR _))
  (aw (aX (k7 (fE (dZ hr.units) (aa (aU cz (by rfl) Jh bt_len (af (ae (pv 6)) au))) (aa ai) (aR _)) (mD (bg Lf hr.m (by rfl) (af (ae (pv 5)) (af (ae (pv 1)) (af (aa (aT (ae (pv 6)) (aa ai))) au))))))))
  aV)
  (aw (aX (k7 (fE (dZ hr.units) (aa (aU cz (by rfl) Jh bt_len (af (ae (pv 6)) au))) (aa ai) (aR _)) (mD (bg LH hr.m (by rfl) (af (ae (pv 5)) (af (ae (pv 1)) (af (ae (pv 6)) au)))))))))))))))
end
end LW
namespace PV
class Cont (α β:Type) where
 run:α->Res β
def Res.bnd{α β:Type}[f:Cont α β](x:Res α):Res β:=x.bind f.run
variable{α:Type}
theorem Jp{β:Type}(a:α)(f:α->Res β):Res.bnd (Res.ok a) (f:=⟨f⟩)=f a:=id rfl
section
variable(env:PV.Env)(i n:Nat)(d:D)(f g:FX)(c c':FT)(fo SM fo'':FO)(fs:FOs)(fd:FDs)(s t:FS)(op op':D->D->Res R)(F:List D->Res R)(a:FG)(as:Oo)(fi fj:FI)(fp IV:FP)(T:String)
theorem P9:aD d env=.ok ((.f,d),env):=id rfl
theorem MF:aJ i env=match env[i]? with|some (some r)=>.ok ((.f,r.2),env.set i (some (fz r.1,r.2)))|_=>.bad:=id rfl
theorem RY:fz .f=.f:=id rfl
theorem RZ(c:O):fz (.l c)=.f:=id rfl
theorem R0(cs:List O):fz (.t cs)=.f:=id rfl
theorem Ow(p:Addr):shal (.pin p .f)=true:=id rfl
theorem Ny(p:Addr):shal (.pin p .d)=true:=id rfl
theorem Ox:kU i env=match env[i]? with|some (some r)=>.ok (r,env.set i none)|_=>.bad:=id rfl
theorem Qa:aj f env=Res.bnd (f env) (f:=⟨fun p=>.ok (.val p.1.2,p.2)⟩):=id rfl
theorem Qb:ao i env=match env[i]? with|some (some _)=>.ok (.var i,env)|_=>.bad:=id rfl
theorem Oy:aB env=.ok ([],env):=id rfl
theorem Nz:ag fo fs env=Res.bnd (fo env) (f:=⟨fun p=>Res.bnd (fs p.2) (f:=⟨fun q=>.ok (p.1::q.1,q.2)⟩)⟩):=id rfl
theorem Oz:a7 env=.ok ([],env):=id rfl
theorem NA:ax f fd env=Res.bnd (f env) (f:=⟨fun p=>Res.bnd (fd p.2) (f:=⟨fun q=>.ok (p.1.2::q.1,q.2)⟩)⟩):=id rfl
theorem Qc:JY env (.val d)=.ok d:=id rfl
theorem Qd:JY env (.var i)=match env[i]? with|some (some r)=>if shal r.1 then .ok r.2 else .bad|_=>.bad:=id rfl
theorem OA:uw env (.val d)=.ok d:=id rfl
theorem OB:uw env (.var i)=match env[i]? with|some (some r)=>.ok r.2|_=>.bad:=id rfl
theorem OC:pJ env []=.ok []:=id rfl
theorem OD(o:Opd)(os:List Opd):pJ env (o::os)=Res.bnd (JY env o) (f:=⟨fun d=>Res.bnd (pJ env os) (f:=⟨fun ds=>.ok (d::ds)⟩)⟩):=id rfl
theorem NB:ji env []=.ok []:=id rfl
theorem NC(o:Opd)(os:List Opd):ji env (o::os)=Res.bnd (uw env o) (f:=⟨fun d=>Res.bnd (ji env os) (f:=⟨fun ds=>.ok (d::ds)⟩)⟩):=id rfl
theorem OE:shal .f=true:=id rfl
theorem OF:shal (.l .f)=true:=id rfl
theorem OG:shal .d=true:=id rfl
theorem Qe:az op fo SM env=Res.bnd (fo env) (f:=⟨fun p=>Res.bnd (SM p.2) (f:=⟨fun q=>Res.bnd (JY q.2 p.1) (f:=⟨fun a=>Res.bnd (JY q.2 q.1) (f:=⟨fun b=>Res.bnd (op a b) (f:=⟨fun r=>.ok (r,q.2)⟩)⟩)⟩)⟩)⟩):=id rfl
theorem OH:aN op fo SM env=Res.bnd (fo env) (f:=⟨fun p=>Res.bnd (SM p.2) (f:=⟨fun q=>Res.bnd (uw q.2 p.1) (f:=⟨fun a=>Res.bnd (uw q.2 q.1) (f:=⟨fun b=>Res.bnd (op a b) (f:=⟨fun r=>.ok (r,q.2)⟩)⟩)⟩)⟩)⟩):=id rfl
theorem R1:Jf f env=Res.bnd (f env) (f:=⟨fun p=>match p.1.2 with | .bl k=>.ok (k,p.2)|_=>.bad⟩):=id rfl
theorem Qf:yy c c' env=Res.bnd (c env) (f:=⟨fun p=>if p.1 then c' p.2 else .ok (false,p.2)⟩):=id rfl
theorem R3:LU c c' env=Res.bnd (c env) (f:=⟨fun p=>if p.1 then .ok (true,p.2) else c' p.2⟩):=id rfl
theorem Qg:we c env=Res.bnd (c env) (f:=⟨fun p=>.ok (!p.1,p.2)⟩):=id rfl
theorem Qh:nK f g env=Res.bnd (f env) (f:=⟨fun p=>match p.1.2 with | .bl true=>g p.2 | .bl false=>.ok ((.f,.bl false),p.2)|_=>.bad⟩):=id rfl
theorem OI:aY F fs env=Res.bnd (fs env) (f:=⟨fun p=>Res.bnd (pJ p.2 p.1) (f:=⟨fun ds=>Res.bnd (F ds) (f:=⟨fun r=>.ok (r,p.2)⟩)⟩)⟩):=id rfl
theorem Qi:cX F fs env=Res.bnd (fs env) (f:=⟨fun p=>Res.bnd (ji p.2 p.1) (f:=⟨fun ds=>Res.bnd (F ds) (f:=⟨fun r=>.ok (r,if aS r.1 r.2 then p.2 else p.2.map frz)⟩)⟩)⟩):=id rfl
theorem Qj:fO fd env=Res.bnd (fd env) (f:=⟨fun p=>if p.1.length<=1000 then .ok ((.f,.tup p.1),p.2) else .bad⟩):=id rfl
theorem Qk:ja fd env=Res.bnd (fd env) (f:=⟨fun p=>if p.1.length<=1000 then .ok ((.l .f,.lst p.1),p.2) else .bad⟩):=id rfl
theorem OJ:uz env=.ok (none,env):=id rfl
theorem OK:lb f env=Res.bnd (f env) (f:=⟨fun p=>match p.1.2 with | .int i=>.ok (some i,p.2)|_=>.bad⟩):=id rfl
theorem Ql:sx i f env=if wq env i then(Res.bnd (f env) (f:=⟨fun(p:R×PV.Env)=>match p.2[i]? with
 |some (some (.l .f,.lst ds))=>if ds.length<sizeLine then .ok ((.f,.non),p.2.set i (some (.l .f,.lst (ds++[p.1.2])))) else .bad
 |_=>.bad⟩)) else .bad:=id rfl
theorem OL:wq env i=match env[i]? with|some (some (_,.lst _))=>true|_=>false:=id rfl
theorem R4:NV T fo env=Res.bnd (fo env) (f:=⟨fun p=>Res.bnd (uw p.2 p.1) (f:=⟨fun d=>.ok ((.f,.bl (sJ T d)),p.2)⟩)⟩):=id rfl
theorem OM:Bl f g env=Res.bnd (f env) (f:=⟨fun p=>Res.bnd (g p.2) (f:=⟨fun q=>match(pM p.1.2).bind dY,q.1.2 with|some ns,.int d=>.ok ((.f,.int (NX.maxD ns d)),q.2)|_,_=>.bad⟩)⟩):=id rfl
theorem Qm(gg:List Nat->List D->Res R):Gx gg fo fs env=Res.bnd (fo env) (f:=⟨fun p=>match JY p.2 p.1 with
 | .ok (.str l)=>Res.bnd (fs p.2) (f:=⟨fun q=>Res.bnd (pJ q.2 q.1) (f:=⟨fun ds=>Res.bnd (gg l ds) (f:=⟨fun r=>.ok (r,q.2)⟩)⟩)⟩)
 |_=>.bad⟩):=id rfl
theorem ON(ix:List (Option Nat)):cE fi ix a c f env=Res.bnd (fi env) (f:=⟨fun p=>Res.bnd (cV a c f p.1 (eG ix p.2)) (f:=⟨fun ds=>if ds.length<=sizeLine then .ok ((.l .f,.lst ds),if flatDs ds then p.2 else p.2.map frz) else .bad⟩)⟩):=id rfl
theorem Mn:eG [] env=[]:=id rfl
theorem Mo(ix:List (Option Nat)):eG (none::ix) env=none::eG ix env:=id rfl
theorem Mp(ix:List (Option Nat)):eG (some i::ix) env=(match env[i]? with|some (some r)=>some (O.f,r.2)|_=>none)::eG ix env:=id rfl
theorem El:fU env=.ok (true,env):=id rfl
theorem sY(ds:List D):cV a c f (d::ds) env=Res.bnd (a d env) (f:=⟨fun e=>Res.bnd (c e) (f:=⟨fun p=>if p.1 then(Res.bnd (f p.2) (f:=⟨fun q=>Res.bnd (cV a c f ds q.2) (f:=⟨fun rs=>.ok (q.1.2::rs)⟩)⟩)) else cV a c f ds p.2⟩)⟩):=id rfl
theorem Em:DI f env=Res.bnd (f env) (f:=⟨fun p=>match p.1.2 with | .lst ds=>.ok (ds,p.2)|_=>.bad⟩):=id rfl
theorem w9:eC f env=Res.bnd (f env) (f:=⟨fun p=>match p.1.2 with | .tup ds=>.ok (ds,p.2)|_=>.bad⟩):=id rfl
theorem xa:Kn fi fj env=match fi env with | .ok a=>.ok a|_=>fj env:=by
 unfold Kn;cases fi env <;> rfl
theorem Qn:Kn (DI f) (eC f) env=Res.bnd (f env) (f:=⟨fun p=>match p.1.2 with
 | .lst ds=>.ok (ds,p.2)
 | .tup ds=>.ok (ds,p.2)
 |_=>.bad⟩):=by
 rw[xa,Em,w9];cases f env with
 |ok p=>
  obtain⟨⟨o,d⟩,e⟩:=p;cases d <;> rfl
 |exc c=>rfl
 |bad=>rfl
theorem OO:Kn (eX i) (eC (aJ i)) env=match env[i]? with
 |some (some (_,.lst ds))=>.ok (ds,env)
 |some (some (o,.tup ds))=>.ok (ds,env.set i (some (fz o,.tup ds)))
 |_=>.bad:=by
 rw[xa,w9,MF];unfold eX;cases env[i]? with
 |none=>rfl
 |some r=>
  cases r with
  |none=>rfl
  |some r=>
   obtain⟨o,d⟩:=r;cases d <;> rfl
theorem Lq:fF fo env=Res.bnd (fo env) (f:=⟨fun p=>Res.bnd (JY p.2 p.1) (f:=⟨fun d=>match d with
 | .int j=>if -4611686018427387904<=j/\j<4611686018427387904 then .ok ((List.range j.toNat).map fun(k:Nat)=>D.int (k:Int),p.2) else .bad
 |_=>.bad⟩)⟩):=id rfl
theorem MZ:qU fs env=Res.bnd (fs env) (f:=⟨fun p=>Res.bnd (pJ p.2 p.1) (f:=⟨fun d=>match d with
 |[.int i,.int j]=>if(-4611686018427387904<=i/\i<4611686018427387904)/\-4611686018427387904<=j/\j<4611686018427387904 then .ok ((List.range (j-i).toNat).map fun(k:Nat)=>D.int (i+(k:Int)),p.2) else .bad
 |_=>.bad⟩)⟩):=id rfl
theorem oF(k1 k2:Bool):uy k1 k2 fs env=Res.bnd (fs env) (f:=⟨fun p=>match p.1 with
 |[.val d1,.val d2]=>Res.bnd (jT k1 d1) (f:=⟨fun a=>Res.bnd (jT k2 d2) (f:=⟨fun b=>.ok ((a.zip b).map fun z=>D.tup [z.1,z.2],p.2)⟩)⟩)
 |_=>.bad⟩):=id rfl
theorem J9:ay i d env=if i<env.length then .ok (env.set i (some (.f,d))) else .bad:=id rfl
theorem OP:df [] env=.ok env:=id rfl
theorem JN(ds:List D):aH a as (d::ds) env=Res.bnd (a d env) (f:=⟨fun e=>as ds e⟩):=id rfl
theorem Mq(ds:List D):iJ n as (.tup ds) env=if ds.length=n then as ds env else .bad:=id rfl
theorem Jq:sSeq s t env=Res.bnd (s env) (f:=⟨fun o=>match o with | .nx e=>t e|o=>.ok o⟩):=id rfl
theorem OQ:bL env=.ok (.nx env):=id rfl
theorem ND:bH i f env=Res.bnd (f env) (f:=⟨fun p=>if i<p.2.length then .ok (.nx (p.2.set i (some p.1))) else .bad⟩):=id rfl
theorem OR:jl f env=Res.bnd (f env) (f:=⟨fun p=>.ok (.nx p.2)⟩):=id rfl
theorem Qo:de f env=Res.bnd (f env) (f:=⟨fun p=>.ok (.rt p.1)⟩):=id rfl
theorem NF:JC c s t env=Res.bnd (c env) (f:=⟨fun p=>if p.1 then s p.2 else t p.2⟩):=id rfl
theorem Qp:nN fi a s env=Res.bnd (fi env) (f:=⟨fun p=>eW a s p.1 p.2⟩):=id rfl
theorem OS:eW a s [] env=.ok (.nx env):=id rfl
theorem dH(ds:List D):eW a s (d::ds) env=Res.bnd (a d env) (f:=⟨fun e=>Res.bnd (s e) (f:=⟨fun o=>match o with
 | .nx e=>eW a s ds e
 | .ct e=>eW a s ds e
 | .bk e=>.ok (.nx e)
 | .rt r=>.ok (.rt r)⟩)⟩):=id rfl
theorem eD:cT c s (n+1) env=Res.bnd (c env) (f:=⟨fun p=>if p.1 then(Res.bnd (s p.2) (f:=⟨fun o=>match o with
  | .nx e=>cT c s n e
  | .ct e=>cT c s n e
  | .bk e=>.ok (.nx e)
  | .rt r=>.ok (.rt r)⟩)) else .ok (.nx p.2)⟩):=id rfl
theorem Qq:Fw f a env=Res.bnd (f env) (f:=⟨fun p=>Res.bnd (a p.1.2 p.2) (f:=⟨fun e=>.ok (.nx e)⟩)⟩):=id rfl
theorem bB(ds:List D)(nn:Nat)(h:ds.length=n):fBody n nn s ds=Res.bnd (s (ds.map (fun d=>some (O.f,d))++List.replicate nn none)) (f:=⟨fun o=>match o with
 | .rt r=>.ok r
 | .nx _=>.ok (.f,.non)
 |_=>.bad⟩):=by
 unfold fBody;rw[Vn h];all_goals cases s (ds.map (fun d=>some (O.f,d))++List.replicate nn none) with
 |ok o=>cases o <;> rfl
 |exc c=>rfl
 |bad=>rfl
end
theorem line_le{n:Nat}(h:n<=16777216):n<=sizeLine:=by rw[line_eq];exact h
section
variable(a b:Int)(x y:List Nat)(p q:Bool)(ds es:List D)
theorem GF:eqO (.int a) (.int b)=.ok (.f,.bl (a==b)):=by simp only[eqO,plainD,IU,Wx,XA]
theorem GH:eqO (.str x) (.str y)=.ok (.f,.bl (x==y)):=by simp only[eqO,plainD,IU,Wx,XA]
theorem GI:Kr (.int a) (.int b)=.ok (.f,.bl (!(a==b))):=by simp only[Kr,plainD,IU,Wx,XA]
theorem En:xP (.int a) (.int b)=.ok (.f,.int (a-b)):=id rfl
theorem BL:eI (.int a) (.int b)=if 0<b/\b<1073741824 then .ok (.f,.int (a / b)) else .bad:=id rfl
theorem Eo:gG (.int a) (.int b)=if 0<b then .ok (.f,.int (a%b)) else .bad:=id rfl
theorem Ep:CF (.int a) (.int b)=if 0<=b/\b<=1000000/\a.natAbs<2 ^ 64 then .ok (.f,.int (a ^ b.toNat)) else .bad:=id rfl
theorem GJ:Mb (.int a) (.int b)=.ok (.f,.bl (decide (a<b))):=id rfl
theorem Er:Pj (.int a) (.int b)=.ok (.f,.bl (decide (b<a))):=id rfl
theorem GK:SF (.int a) (.int b)=.ok (.f,.bl (decide (b<=a))):=id rfl
theorem Es:gH [.lst ds]=.ok (.f,.int ds.length):=id rfl
theorem Et:gH [.tup ds]=.ok (.f,.int ds.length):=id rfl
theorem yO:eJ [.lst ds]=.ok (.f,.tup ds):=id rfl
theorem GL:IZ (.lst ds) (.int a)=match JV ds a with|some d=>.ok (.f,d)|none=>.bad:=id rfl
theorem Eu:IZ (.tup ds) (.int a)=match JV ds a with|some d=>.ok (.f,d)|none=>.bad:=id rfl
theorem GN:IZ (.str x) (.int a)=match JV x a with|some c=>.ok (.f,.str [c])|none=>.bad:=id rfl
theorem Ew:maxD [.int a,.int b]=.ok (.f,.int (if a<b then b else a)):=id rfl
theorem zS(bs:List Bool):DO [.lst (bs.map D.bl)]=.ok (.f,.bl (bs.all id)):=by
 unfold DO;show(match pL (bs.map D.bl) with|some bs=>_|none=>_)=_;rw[wt]
theorem Na(d:α)(l:List α):JV (d::l) 0=some d:=by
 have:=fB (xs:=d::l) (j:=0) (v:=d) rfl;simpa using this
theorem L0(c d:α)(l:List α):JV (c::d::l) 1=some d:=by
 have:=fB (xs:=c::d::l) (j:=1) (v:=d) rfl;simpa using this
end
theorem IW(l:List Int):flatDs (l.map D.int)=true:=by
 rw[cP,WU,VO];intro b _;rfl
theorem sZ(l:List Bool):flatDs (l.map D.bl)=true:=by
 rw[cP,WU,VO];intro b _;rfl
theorem flat_strs(l:List (List Nat)):flatDs (l.map D.str)=true:=by
 rw[cP,WU,VO];intro b _;rfl
theorem dU(d:D):aS .f d=cw d:=by rw[aS]
theorem yP(ds:List D):aS (.l .f) (.lst ds)=flatDs ds:=by rw[aS,nP]
theorem kH(i:Int):cw (.int i)=true:=by rw[cw];all_goals simp
theorem rq(i:Bool):cw (.bl i)=true:=by rw[cw];all_goals simp
theorem c8(ds:List D):cw (.tup ds)=flatDs ds:=by rw[cw]
theorem fS(n:Nat)(l:List Int):plainDs n (l.map D.int)=true:=by
 induction l with
 |nil=>rfl
 |cons a l ih=>rw[Vz,plainDs,ih,plainD];all_goals simp
theorem mS(n:Nat)(l:List (List Nat)):plainDs n (l.map D.str)=true:=by
 induction l with
 |nil=>rfl
 |cons a l ih=>rw[Vz,plainDs,ih,plainD];all_goals simp
theorem eqDs_ints:∀a b:List Int,jU (a.map D.int) (b.map D.int)=(a==b)
 |[],[]=>by simp[jU]
 |[],_::_=>by simp[jU]
 |_::_,[]=>by simp[jU]
 |a::r,b::t=>by
  rw[Vz,Vz,jU,IU,eqDs_ints r t,VT];simp
theorem yQ(a:Int)(l:List Int):uQ (.int a) (l.map D.int)=decide (a∈l):=by
 unfold uQ;rw[Xx,VT,Wa,Vq];constructor
 ·rintro⟨x,hx,e⟩;have e:IU (.int x) (.int a)=true:=e;rw[IU,V5]at e;rw[<-e];exact hx
 ·intro h;refine⟨a,h,?_⟩;show IU (.int a) (.int a)=true;rw[IU,V6]
theorem yR(a:List Nat)(l:List (List Nat)):uQ (.str a) (l.map D.str)=decide (a∈l):=by
 unfold uQ;rw[Xx,VT,Wa,Vq];constructor
 ·rintro⟨x,hx,e⟩;have e:IU (.str x) (.str a)=true:=e;rw[IU,V5]at e;rw[<-e];exact hx
 ·intro h;refine⟨a,h,?_⟩;show IU (.str a) (.str a)=true;rw[IU,V6]
theorem tf(a:Int)(l:List Int):LV (.int a) (.lst (l.map D.int))=.ok (.f,.bl (decide (a∈l))):=by
 unfold LV;dsimp only;rw[fS,yQ,plainD];all_goals simp
theorem BM(a:Int)(l:List Int):sy (.int a) (.lst (l.map D.int))=.ok (.f,.bl (!decide (a∈l))):=by
 unfold sy;rw[tf];rfl
variable{a:FG}{f:FX}
theorem jF{c:FT}{e:α->D}{p:α->Bool}{r:α->D}(I:PV.Env->Prop)(l:List α)
  (h:∀x∈l,∀env,I env->∃IM,a (e x) env=.ok IM/\∃IX,c IM=.ok (p x,IX)/\if p x then ∃o JA,f IX=.ok ((o,r x),JA)/\I JA else I IX):∀env,I env->cV a c f (l.map e) env=.ok ((l.filter p).map r):=by
 induction l with
 |nil=>intro env _;rfl
 |cons x l ih=>
  intro env hI;obtain⟨IM,h1,IX,h2,h3⟩:=h x Va env hI;have ih:=ih fun y hy=>h y (Vb _ hy)
  rw[Vz,sY,h1,Jp,h2,Jp];cases hp:p x with
  |true=>
   rw[hp]at h3;obtain⟨o,JA,h4,h5⟩:=h3;rw[Vn rfl,h4,Jp,ih JA h5,Jp,Zc hp];rfl
  |false=>
   rw[hp]at h3;rw[Vt Vg,ih IX h3,Zb (by rw[hp];exact Vg)]
theorem bX{e:α->D}{r:α->D}(I:PV.Env->Prop)(l:List α)
  (h:∀x∈l,∀env,I env->∃IM,a (e x) env=.ok IM/\∃o JA,f IM=.ok ((o,r x),JA)/\I JA):∀env,I env->cV a fU f (l.map e) env=.ok (l.map r):=by
 induction l with
 |nil=>intro env _;rfl
 |cons x l ih=>
  intro env hI;obtain⟨IM,h1,o,JA,h4,h5⟩:=h x Va env hI;have ih:=ih fun y hy=>h y (Vb _ hy)
  rw[Vz,sY,h1,Jp,El,Jp,Vn rfl,h4,Jp,ih JA h5];rfl
theorem BN{g:FS}(P:Nat->PV.Env->Prop)(ds:List D)(h:∀i d env,ds[i]?=some d->P i env->∃IM,a d env=.ok IM/\∃IX,(g IM=.ok (.nx IX)\/g IM=.ok (.ct IX))/\P (i+1) IX):
  ∀env,P 0 env->∃env',eW a g ds env=.ok (.nx env')/\P ds.length env':=by
 have key:∀(l:List D) (k:Nat) (env:PV.Env),(∀i d,l[i]?=some d->ds[k+i]?=some d)->P k env->∃env',eW a g l env=.ok (.nx env')/\P (k+l.length) env':=by
  intro l;induction l with
  |nil=>exact fun k env _ hp=>⟨env,rfl,hp⟩
  |cons d l ih=>
   intro k env hd hp;obtain⟨IM,h1,IX,h2,h3⟩:=h k d env (hd 0 d rfl) hp;obtain⟨env',h4,h5⟩:=ih (k+1) IX (fun i d e=>by have:=hd (i+1) d (by simpa using e);rw[show k+1+i=k+(i+1) by lia];exact this) h3;refine⟨env',?_,by rw[Vm,show k+(l.length+1)=k+1+l.length by lia];exact h5⟩;rw[dH,h1,Jp];rcases h2 with h2|h2
   ·rw[h2,Jp];exact h4
   ·rw[h2,Jp];exact h4
 intro env hp;obtain⟨env',h1,h2⟩:=key ds 0 env (fun i d e=>by rw[Xw];exact e) hp;exact⟨env',h1,by rw[Xw]at h2;exact h2⟩
section
variable(env:PV.Env)(fo:FO)(fp IV:FP)(a b:Int)(ds:List D)(x:List Nat)
theorem Qr:Bs fo fp IV env=Res.bnd (fo env) (f:=⟨fun p=>Res.bnd (fp p.2) (f:=⟨fun q=>Res.bnd (IV q.2) (f:=⟨fun t=>Res.bnd (JY t.2 p.1) (f:=⟨fun d=>Res.bnd (RL d q.1 t.1) (f:=⟨fun r=>.ok (r,t.2)⟩)⟩)⟩)⟩)⟩):=id rfl
theorem Ex(lo hi:Option Int):RL (.lst ds) lo hi=.ok (.l .f,.lst (jm ds lo hi)):=id rfl
theorem Ey(lo hi:Option Int)(h:HT.sIx ds.length 0 lo=0/\HT.sIx ds.length ds.length hi=ds.length):jm ds lo hi=ds:=by
 unfold jm;rw[h.1,h.2,YW,Nat.sub_zero,Xd (Vl _)]
theorem xb:CG (.int a) (.int b)=if gv a||gv b then .ok (.f,.int (a*b)) else .bad:=id rfl
end
section
variable(env:PV.Env)(fo:FO)(fs:FOs)(f g:FX)(a b c:Int)(ds es:List D)(x y:List Nat)
theorem Qs(gg:List D->List D->Res R):D7 gg fo fs env=Res.bnd (fo env) (f:=⟨fun p=>Res.bnd (JY p.2 p.1) (f:=⟨fun d=>match d with
 | .tup _=>Res.bnd (fs p.2) (f:=⟨fun q=>Res.bnd (JY q.2 p.1) (f:=⟨fun d2=>match d2 with
  | .tup l=>Res.bnd (pJ q.2 q.1) (f:=⟨fun ds=>Res.bnd (gg l ds) (f:=⟨fun r=>.ok (r,q.2)⟩)⟩)
  |_=>.bad⟩)⟩)
 |_=>.bad⟩)⟩):=id rfl
theorem HD(d:D):(∃l,jT true d=.ok l/\jT false d=.bad/\pM d=some l)\/(∃l,jT true d=.bad/\jT false d=.ok l/\pM d=some l)\/(jT true d=.bad/\jT false d=.bad/\pM d=none):=by
 cases d with
 |lst l=>exact .inl ⟨l,rfl,rfl,rfl⟩
 |tup l=>exact .inr (.inl ⟨l,rfl,rfl,rfl⟩)
 |_=>exact .inr (.inr ⟨rfl,rfl,rfl⟩)
def yS(k1 k2:Bool)(e:PV.Env)(d1 d2:D):Res (List D×PV.Env):=(jT k1 d1).bind fun a=>(jT k2 d2).bind fun b=>.ok ((a.zip b).map fun z=>D.tup [z.1,z.2],e)
def GO(e:PV.Env)(d1 d2:D):Res (List D×PV.Env):=match pM d1,pM d2 with|some a,some b=>.ok ((a.zip b).map fun z=>D.tup [z.1,z.2],e)|_,_=>.bad
def Pk(a b:Res (List D×PV.Env)):Res (List D×PV.Env):=match a with | .ok a=>.ok a|_=>b
def xR(g:D->D->Res (List D×PV.Env))(os:List Opd):Res (List D×PV.Env):=match os with|[.val d1,.val d2]=>g d1 d2|_=>.bad
theorem rA(g h:D->D->Res (List D×PV.Env))(os:List Opd):Pk (xR g os) (xR h os)=xR (fun a b=>Pk (g a b) (h a b)) os:=by
 unfold xR;split <;> rfl
theorem BO(e:PV.Env)(a b:D):Pk (yS true true e a b) (Pk (yS true false e a b) (Pk (yS false true e a b) (yS false false e a b)))=GO e a b:=by
 unfold yS GO;rcases HD a with⟨l,h1,h2,h3⟩|⟨l,h1,h2,h3⟩|⟨h1,h2,h3⟩ <;> rcases HD b with⟨m,i1,i2,i3⟩|⟨m,i1,i2,i3⟩|⟨i1,i2,i3⟩ <;> rw[h1,h2,h3,i1,i2,i3] <;> rfl
theorem OT:uA fs env=Res.bnd (fs env) (f:=⟨fun p=>match p.1 with
 |[.val d1,.val d2]=>(match pM d1,pM d2 with|some a,some b=>.ok ((a.zip b).map fun z=>D.tup [z.1,z.2],p.2)|_,_=>.bad)
 |_=>.bad⟩):=by
 unfold uA;rw[xa,xa,xa,oF,oF,oF,oF];cases fs env with
 |ok p=>
  show Pk (xR (yS true true p.2) p.1) (Pk (xR (yS true false p.2) p.1) (Pk (xR (yS false true p.2) p.1) (xR (yS false false p.2) p.1)))=xR (GO p.2) p.1;rw[rA,rA,rA];exact WM (fun g=>xR g p.1) (funext fun a=>funext fun b=>BO p.2 a b)
 |_=>rfl
theorem OU:pM (.lst ds)=some ds:=id rfl
theorem OV:pM (.tup ds)=some ds:=id rfl
theorem OW(i:Nat):wH i f g env=Res.bnd (g env) (f:=⟨fun(p:R×PV.Env)=>Res.bnd (f p.2) (f:=⟨fun(q:R×PV.Env)=>match p.2[i]?,q.2[i]? with
 |some (some _),some (some (.l .f,.lst ds))=>(match q.1.2 with
  | .int k=>(match ixN ds.length k with
   |some j=>.ok (.nx (q.2.set i (some (.l .f,.lst (ds.set j p.1.2)))))
   |none=>.bad)
  |_=>.bad)
 |_,_=>.bad⟩)⟩):=id rfl
theorem BP:oS (.int a) (.int b)=CG (.int a) (.int b):=id rfl
theorem NG:wJ f g env=Res.bnd (f env) (f:=⟨fun p=>Res.bnd (g p.2) (f:=⟨fun q=>if dO false p.1.2 then .ok ((.d,.dct false [p.1.2] [q.1.2]),q.2) else .bad⟩)⟩):=id rfl
theorem Ez(d:D):inP d (.lst ds)=LV d (.lst ds):=id rfl
theorem BQ(d:D):pT d (.lst ds)=sy d (.lst ds):=id rfl
theorem EA:dO false (.int a)=true:=id rfl
theorem EB:dO false (.str x)=true:=id rfl
theorem EC:Fx [.int a,.int b]=.ok (.f,.int (if b<a then b else a)):=id rfl
theorem BR:cU (.int a) (.int b)=.ok (.f,.int (a+b)):=id rfl
theorem BS:cU (.str x) (.str y)=if x.length+y.length<=sizeLine then .ok (.f,.str (x++y)) else .bad:=id rfl
theorem xc:cU (.lst ds) (.lst es)=if ds.length+es.length<=sizeLine then .ok (.l .f,.lst (ds++es)) else .bad:=id rfl
theorem BU:cU (.tup ds) (.tup es)=if ds.length+es.length<=sizeLine\/ds=[] then .ok (.f,.tup (ds++es)) else .bad:=by
 unfold cU;cases ds with
 |nil=>rw[Vn (.inr rfl)];rfl
 |cons d ds=>
  dsimp only;unfold addD;dsimp only;by_cases h:(d::ds).length+es.length<=sizeLine
  ·rw[Vn ⟨nofun,h⟩,Vn (.inl h)]
  ·rw[Vt (fun z=>h z.2),Vt (fun z=>z.elim h nofun)]
end
section
variable(env:PV.Env)(f g:FX)(ds ks:List D)(i:Nat)
end
section
variable(env:PV.Env)(f:FX)(fs:FOs)(ds:List D)(i:Nat)
theorem HE:Iq i env=match env[i]? with
 |some (some (ow,.lst ds))=>if isLf ow then(match ds.getLast? with
  |some d=>.ok ((.f,d),env.set i (some (ow,.lst ds.dropLast)))
  |none=>.bad) else .bad
 |_=>.bad:=id rfl
theorem ic:lF i f env=Res.bnd (f env) (f:=⟨fun(p:R×PV.Env)=>match p.2[i]? with
 |some (some (.pin q c,d))=>.ok (.rt (.t [p.1.1,.pin q c],.tup [p.1.2,d]))
 |_=>.bad⟩):=by
 first
  |exact id rfl
  |(unfold lF;rfl)
theorem yT(np nn:Nat)(c:O)(g:FS)(p:Addr)(d0:D)(h:ds.length+1=np):mM np nn c g p (d0::ds)=Res.bnd (g (some (.pin p c,d0)::(ds.map (fun d=>some (O.f,d))++List.replicate nn none))) (f:=⟨fun o=>match o with
  | .rt r=>.ok r
  |_=>.bad⟩):=by
 unfold mM;dsimp only;rw[Vn h];rfl
end
noncomputable def pv:=(Zz @Jp (Zz @P9 (Zz @MF (Zz @Ox (Zz @Qa (Zz @Qb (Zz @Oy (Zz @Nz (Zz @Oz (Zz @NA (Zz @Qc (Zz @Qd (Zz @OA (Zz @OB (Zz @OC (Zz @OD (Zz @NB (Zz @NC (Zz @OE (Zz @OF (Zz @OG (Zz @Qe (Zz @OH (Zz @R1 (Zz @Qf (Zz @R3 (Zz @Qg (Zz @Qh (Zz @OI (Zz @Qi (Zz @Qj (Zz @Qk (Zz @Qr (Zz @OJ (Zz @OK (Zz @Ql (Zz @OL (Zz @R4 (Zz @OM (Zz @Qm (Zz @ON (Zz @Mn (Zz @Mo (Zz @Mp (Zz @Qn (Zz @OO (Zz @Lq (Zz @MZ (Zz @J9 (Zz @OP (Zz @JN (Zz @Mq (Zz @Jq (Zz @OQ (Zz @ND (Zz @OR (Zz @Qo (Zz @NF (Zz @Qp (Zz @OS (Zz @Qq (Zz @List.getElem?_cons_zero.{0} (Zz @List.getElem?_cons_succ.{0} (Zz @List.set_cons_zero.{0} (Zz @List.set_cons_succ.{0} (Zz @List.length_cons.{0} (Zz @List.length_nil.{0} (Zz @List.map_cons.{0,0} (Zz @List.map_nil.{0,0} (Zz @List.replicate_succ.{0} (Zz @List.replicate_zero.{0} (Zz @List.cons_append.{0} (Zz @List.nil_append.{0} (Zz @Nat.zero_add (Zz @Qs (Zz @OT (Zz @OU (Zz @OV (Zz @OW (Zz @NG (Zz @RY (Zz @RZ (Zz @R0 (Zz @Ow @Ny))))))))))))))))))))))))))))))))))))))))))))))))))))))))))))))))))))))))))))))))))))
noncomputable def op:=(Zz @GF (Zz @GH (Zz @GI (Zz @En (Zz @GJ (Zz @Er (Zz @GK (Zz @Es (Zz @Et (Zz @yO (Zz @GL (Zz @Eu (Zz @GN (Zz @Ex (Zz @Ew (Zz @Na (Zz @L0 (Zz @BM (Zz @zS (Zz @dU (Zz @yP (Zz @kH (Zz @rq (Zz @IW (Zz @sZ (Zz @PV.flat_strs (Zz @c8 (Zz @EC (Zz @BR (Zz @BP (Zz @Ez (Zz @BQ (Zz @EA @EB)))))))))))))))))))))))))))))))))
def put(i:Nat)(r:R)(e:PV.Env):Res Out:=if i<e.length then .ok (.nx (e.set i (some r))) else .bad
theorem dV(n:Nat)(w:PV.Env):(∃d,JY w (.var n)=.ok d)\/JY w (.var n)=.bad:=by
 unfold JY;dsimp only;split
 ·split
  ·exact .inl ⟨_,rfl⟩
  ·exact .inr rfl
 ·exact .inr rfl
section
variable(w:PV.Env)(op:D->D->Res R)(F:List D->Res R)(f g h:FX)(n n' n'':Nat)(x y:D)
theorem BV:bH n f w=Res.bnd (f w) (f:=⟨fun p=>put n p.1 p.2⟩):=id rfl
end
section
variable(a b c d e g h i j k l m:Option R)(z:PV.Env)(r:R)(o:O)(x:D){ρ:Type}
end
end PV
namespace LW
abbrev fq(d:PV.D):Option PV.R:=some (.f,d)
open PV
variable{α:Type}{a:FG}{g:FS}
theorem for_list{e:α->D}(l:List α)(P:Nat->PV.Env->Prop)
  (h:∀k x env,l[k]?=some x->P k env->∃IM,a (e x) env=.ok IM/\∃IX,g IM=.ok (.nx IX)/\P (k+1) IX):∀env,P 0 env->∃env',eW a g (l.map e) env=.ok (.nx env')/\P l.length env':=by
 intro env h0;have:=BN (a:=a) (g:=g) P (l.map e) (fun i d env hi hp=>by
  rw[Vs,VW]at hi;obtain⟨x,hx,rfl⟩:=hi;obtain⟨IM,h1,IX,h2,h3⟩:=h i x env hx hp;exact⟨IM,h1,IX,.inl h2,h3⟩) env h0
 rwa [Ve]at this
theorem oG{e:Nat->D}(n:Nat)(P:Nat->PV.Env->Prop)
  (h:∀k env,k<n->P k env->∃IM,a (e k) env=.ok IM/\∃IX,g IM=.ok (.nx IX)/\P (k+1) IX):∀env,P 0 env->∃env',eW a g ((List.range n).map e) env=.ok (.nx env')/\P n env':=by
 intro env h0;have:=for_list (a:=a) (g:=g) (e:=e) (List.range n) P (fun k x env hk hp=>by
  obtain⟨h1,h2⟩:=Vk.mp hk;rw[VG]at h1;rw[Yj]at h2;subst h2;exact h k env h1 hp) env h0
 rwa [VG]at this
abbrev LNN:=List (List Nat)
variable{β:Type}
theorem bu{l:List α}(f:α->β):(l.map f).length=l.length:=Ve f
theorem dJ:(false=true)=False:=VL
variable{i:Nat}
theorem kl{l:List α}{a:α}(h:l[i]?=some a):∃h:i<l.length,l[i]=a:=Vk.mp h
theorem mf{l:List α}(h:i<l.length):l[i]?=some l[i]:=U9 h
theorem gE{f:α->β}{a:α}{l:List α}:(a::l).map f=f a::l.map f:=Vz
theorem iC{a b:α}(h:a∈[b]):a=b:=Vx.mp h
theorem l5{f:α->β}{l:List α}{b:β}(h:b∈l.map f):∃a,a∈l/\f a=b:=Wz.mp h
theorem kB{a:α}{s t:List α}(h:a∈s++t):a∈s\/a∈t:=VS.mp h
theorem jb{s t:List α}:(s++t).length=s.length+t.length:=VJ
variable{s:FS}{env env':PV.Env}
theorem av{t:FS}(h:s env=.ok (.nx env')):sSeq s t env=t env':=by rw[Jq,h,Jp]
theorem bS{ds:List D}(h:ds.length<=16777216):ds.length<=sizeLine:=line_le h
theorem lT{l:List Int}{k:Nat}(h:k<l.length):JV (l.map D.int) (k:Int)=some (.int (l.getD k 0)):=fB (by rw[Vs,Vi,mf h];rfl)
theorem ED{l:LNN}{k:Nat}(h:k<l.length):JV (l.map D.str) (k:Int)=some (.str l[k]):=fB (by rw[Vs,mf h];rfl)
theorem at2(a b c:α):JV [a,b,c] (2:Int)=some c:=rfl
theorem fT:∀l:LNN,gw (l.map D.str)=some l
 |[]=>rfl
 |a::l=>by
  rw[gE,gw,fT l];rfl
theorem lU(x y:D)(t1 t2:Option R)(cN:PV.Env):iJ 2 (aH (ay 0) (aH (ay 1) df)) (.tup [x,y]) (t1::t2::cN)=.ok (fq x::fq y::cN):=by
 rw[Mq,Vn (by simp),JN,J9,Vn (by simp),Jp,JN,J9,Vn (by simp),Jp];rfl
theorem ie(lt:α->α->Bool)(l:List α):(isort lt l).length=l.length:=(dM lt l).length_eq
theorem xf(l:LNN)(h:l.length<64):fG [.lst (l.map D.str)]=.ok (.l .f,.lst ((isort MB l).map D.str)):=by
 unfold fG;dsimp only;rw[Vn (by rw[bu];exact h)];unfold lz;cases l with
 |nil=>rfl
 |cons a l=>
  have e:dY ((a::l).map D.str)=none:=rfl;rw[e,fT]
def Lg:List Nat:=[97,98,99,100,101,102,103,104,105,106,107,108,109,110,111,112,113,114,115,116,117,118,119,120,121,122]
theorem EE(j:Nat)(h:j<26):Lg[j]?=some (97+j):=by
 have:∀j:_root_.Fin 26,Lg[j.1]?=some (97+j.1):=by decide
 exact this ⟨j,h⟩
theorem EG(j:Int)(h0:0<=j)(h:j<26):JV Lg j=some (97+j.toNat):=by
 obtain⟨n,rfl⟩:=VP h0;exact fB (EE n (by lia))
theorem eY(x b:Int)(h:0<b):0<=x%b/\x%b<b:=⟨Int.emod_nonneg _ (by lia),Int.emod_lt_of_pos _ h⟩
theorem IB(n:Nat)(h:n<=200):CF (.int 10) (.int (n:Int))=.ok (.f,.int (10 ^ n)):=by
 rw[Ep,Vn (by lia),W6]
theorem jG(x b:Int)(h:0<b):gG (.int x) (.int b)=.ok (.f,.int (x%b)):=by rw[Eo,Vn h]
theorem gk(x b:Int)(h:0<b)(h2:b<1073741824):eI (.int x) (.int b)=.ok (.f,.int (x / b)):=by rw[BL,Vn ⟨h,h2⟩]
theorem IC(x y:List Nat)(h:x.length+y.length<=1000):cU (.str x) (.str y)=.ok (.f,.str (x++y)):=by rw[BS,Vn (line_le (by lia))]
theorem oH(l:List α)(k:Nat):jm l none (some (k:Int))=l.take k:=by
 unfold jm;rw[HT.rP,HT.m6,YW,Nat.sub_zero];by_cases h:k<=l.length
 ·rw[YN h]
 ·rw[Nat.min_eq_right (by lia),Xd (Vl _),Xd (by lia)]
theorem yU(l:List α)(k:Nat):jm l (some (k:Int)) none=l.drop k:=by
 unfold jm;rw[HT.rP,HT.m6];by_cases h:k<=l.length
 ·rw[YN h,Xd (by rw[WY];exact Vl _)]
 ·rw[Nat.min_eq_right (by lia),Zp (Vl _),Zp (by lia),List.take_nil]
theorem eU(f:Nat->α)(n:Nat)(h:∀i j,i<n->j<n->f i=f j->i=j):((List.range n).map f).Nodup:=by
 rw[XZ,Xu];refine List.pairwise_lt_range.imp_of_mem fun{a b} ha hb hl e=>?_
 have:=h a b (VD.mp ha) (VD.mp hb) e;lia
theorem ID(j:Int)(h0:0<=j)(h:j<=1000)(fo:FO)(env env':PV.Env)(o:Opd)(e1:fo env=.ok (o,env'))(e2:JY env' o=.ok (.int j)):fF fo env=.ok ((List.range j.toNat).map fun(k:Nat)=>D.int (k:Int),env'):=by
 rw[Lq,e1,Jp];dsimp only;rw[e2,Jp];dsimp only;rw[Vn (by lia)]
theorem BW(l:List α)(a b:Nat)(h:a<=b)(hb:b<=l.length):jm l (some (a:Int)) (some (b:Int))=(l.drop a).take (b-a):=by
 unfold jm;rw[HT.m6,HT.m6,YN hb,YN (VR h hb)]
theorem qo(x:Int)(h:-1000000<=x)(h2:x<=1000000):gv x=true:=by
 unfold gv;rw[Vq];lia
theorem xg(d:D)(h:plainD 40 d=true):eqO d d=.ok (.f,.bl true):=by
 unfold eqO;rw[h,jq d 40 h];rfl
theorem lV(d:D)(h:plainD 40 d=true):Kr d d=.ok (.f,.bl false):=by
 unfold Kr;rw[h,jq d 40 h];rfl
theorem yV(l:List Int):plainD 40 (.tup (l.map D.int))=true:=by
 rw[plainD,fS]
variable{c:FT}
theorem HF{t:FS}(h:c env=.ok (false,env')):JC c s t env=t env':=by rw[NF,h,Jp];rfl
theorem EH{t:FS}(h:c env=.ok (true,env')):JC c s t env=s env':=by rw[NF,h,Jp];rfl
theorem xh(n k:Nat)(h:k<n):ixN n (k:Int)=some k:=by
 unfold ixN;rw[Vn (by lia),Vn (by lia)];rfl
theorem isT(ds:List D):sJ "tuple" (.tup ds)=true:=rfl
theorem qp{c:FT}{g:FS}(P:Nat->PV.Env->Prop)(fin:PV.Env->Prop)(h:∀k env,P k env->(∃IM,c env=.ok (false,IM)/\fin IM)\/(∃IM,c env=.ok (true,IM)/\∃IX k',g IM=.ok (.nx IX)/\k'<k/\P k' IX)):
  ∀n k env,k<n->P k env->∃env',cT c g n env=.ok (.nx env')/\fin env'
 | 0,k,env,hk,_=>absurd hk (ZH _)
 |n+1,k,env,hk,hp=>by
  rcases h k env hp with⟨IM,h1,h2⟩|⟨IM,h1,IX,k',h2,h3,h4⟩
  ·exact⟨IM,by rw[eD,h1,Jp];rfl,h2⟩
  ·obtain⟨env',e,hf⟩:=qp P fin h n k' IX (by lia) h4;refine⟨env',?_,hf⟩;rw[eD,h1,Jp];dsimp only;rw[Vn rfl,h2,Jp];exact e
theorem BX(f:α->β)(l:List α)(lo hi:Option Int):jm (l.map f) lo hi=(jm l lo hi).map f:=by
 unfold jm;rw[bu,<-List.map_drop,<-Ze]
theorem jH{l:List α}(h:l.length<=100000):l.length<sizeLine:=Vv (XF _) (line_le (by lia))
end LW
namespace LW
open PV
section
variable(env:PV.Env)(f:FX)(fs:FOs)(fo:FO)
theorem BY(i:Nat)(c:O)(F:Addr->List D->Res R):eFunW c F i fs env=Res.bnd (fs env) (f:=⟨fun p=>match p.1 with
 | .var j::os=>if j=i then(match p.2[i]? with
  |some (some (ow,d0))=>if pU c ow then Res.bnd (ji (p.2.set i none) os) (f:=⟨fun ds=>Res.bnd (jV F c d0 ds) (f:=⟨fun x=>if aS x.1.1 x.1.2&&aS c x.2 then .ok (x.1,(p.2.set i none).set i (some (ow,x.2))) else .ok (x.1,((p.2.set i none).map frz).set i (some (ow,x.2)))⟩)⟩) else .bad
  |_=>.bad) else .bad
 |_=>.bad⟩):=id rfl
theorem EI(r:R):frz (some r)=fq r.2:=id rfl
theorem EJ:frz none=none:=id rfl
theorem ti(gg:List D->List D->Res R):Ed gg fo fs env=Res.bnd (fo env) (f:=⟨fun p=>Res.bnd (JY p.2 p.1) (f:=⟨fun d=>match d with
 | .lst _=>Res.bnd (fs p.2) (f:=⟨fun q=>Res.bnd (JY q.2 p.1) (f:=⟨fun d2=>match d2 with
  | .lst l=>Res.bnd (pJ q.2 q.1) (f:=⟨fun ds=>Res.bnd (gg l ds) (f:=⟨fun r=>.ok (r,q.2)⟩)⟩)
  |_=>.bad⟩)⟩)
 |_=>.bad⟩)⟩):=id rfl
end
theorem o_isnT(ds:List D):isnO (.tup ds) .non=.ok (.f,.bl true):=id rfl
theorem mT:isnO .non .non=.ok (.f,.bl false):=id rfl
abbrev IY:=Int×List Nat×Int
def eA(a:IY):D:=.tup [.int a.1,.str a.2.1,.int a.2.2]
theorem jI:∀(n:Nat) {l:List Int},l.Nodup->(∀x∈l,0<=x/\x<(n:Int))->l.length<=n
 | 0,l,_,hb=>by
  cases l with
  |nil=>exact Vl _
  |cons a l=>have:=hb a Va;lia
 |n+1,l,nd,hb=>by
  have h1:=jI n (l:=l.erase (n:Int)) (nd.erase _) fun x hx=>by
   have h2:=(nd.mem_erase_iff.mp hx)
   have h3:=hb x h2.2;have h4:=h2.1;lia
  have:=List.length_erase_le (a:=(n:Int)) (l:=l);have h5:l.length<=(l.erase (n:Int)).length+1:=by
   by_cases hm:(n:Int)∈l
   ·rw[Yd hm];have:=XI hm;lia
   ·rw[List.erase_of_not_mem hm];lia
  lia
def Jb(nY:LNN)(ap:List IY):D:=.tup [.tup (nY.map D.str),.lst (ap.map eA)]
theorem i8(a:IY)(t1 t2 t3:Option R)(cN:PV.Env):iJ 3 (aH (ay 0) (aH (ay 1) (aH (ay 2) df))) (eA a) (t1::t2::t3::cN)=.ok (fq (.int a.1)::fq (.str a.2.1)::fq (.int a.2.2)::cN):=by
 unfold eA;rw[Mq,Vn (by simp),JN,J9,Vn (by simp),Jp,JN,J9,Vn (by simp),Jp,JN,J9,Vn (by simp),Jp];rfl
variable{α:Type}
theorem yW{f:α->D}{p:α->Bool}{l:List α}(h:l.length<=16777216):((l.filter p).map f).length<=sizeLine:=by
 rw[bu];exact line_le (VR (Xl _ _) h)
theorem zT(l:List Int):(pM (.lst (l.map D.int))).bind dY=some l:=mH l
def iE(a:IY):Int:=if a.1<a.2.2 then a.2.2 else a.1
def statesOf(ap:List IY):Int:=1+NX.maxD (ap.map iE) 0
theorem tj{f:α->D}{l:List α}(h:∀a,cw (f a)=true):flatDs (l.map f)=true:=by
 rw[cP,WU,VO];intro a _;exact h a
theorem rB(nY:LNN)(ap:List IY)(hl:ap.length<=16777216):cI [Jb nY ap]=.ok (.f,.int (statesOf ap)):=by
 unfold cI lG;rw[bB (h:=by rfl)];simp only[pv,seval,op,Jb];rw[bX (r:=fun a:IY=>D.int (iE a)) (fun env=>∃t1 t2 t3,env=[t1,t2,t3]) ap ?_ _ ⟨_,_,_,rfl⟩]
 ·rw[Jp,Vn (bS (by rw[bu];exact hl)),Jp,tj fun a=>kH _];simp only[pv,seval,op];have e:(some (ap.map fun a=>D.int (iE a))).bind dY=some (ap.map iE):=by
   have:=zT (ap.map iE);rw[VU]at this;exact this
  rw[e];rfl
 ·rintro a _ env ⟨t1,t2,t3,rfl⟩;refine⟨_,i8 a t1 t2 t3 _,?_⟩;simp only[pv,seval,op];exact⟨_,_,rfl,_,_,_,rfl⟩
theorem BZ(a:IY):cw (eA a)=true:=rfl
theorem oI(as:List IY):flatDs (as.map eA)=true:=by
 rw[cP,WU,VO];exact fun p _=>BZ p
theorem HG(w:LNN)(m:List Nat)(h:w.length<=1000):cU (.tup (w.map D.str)) (.tup [.str m])=.ok (.f,.tup ((w++[m]).map D.str)):=by
 rw[BU,Vn (.inl (line_le (by rw[bu,Vm,Wl];lia))),VA];rfl
def ak(a:IY):List Key:=[.inl a.1,.inr (S a.2.1),.inl a.2.2]
def arcLt(a b:IY):Bool:=jM (ak a) (ak b)
theorem S_inj{a b:List Nat}(h:S a=S b):a=b:=by
 have:=WM (fun s:Str=>s.cps.toList) h;simpa only[eZ] using this
theorem GP(a:IY):kT (ak a)=eA a:=by
 unfold kT ak eA;simp only[gE,V8,kD,eZ]
theorem xi{α β:Type}(f:α->β)(lt:β->β->Bool)(x:α):∀l:List α,ins lt (f x) (l.map f)=(ins (fun a b=>lt (f a) (f b)) x l).map f
 |[]=>rfl
 |y::ys=>by
  rw[gE,ins,ins];cases lt (f y) (f x) with
  |true=>rw[Vn rfl,Vn rfl,xi f lt x ys,gE]
  |false=>rw[Vt Vg,Vt Vg,gE,gE]
theorem qq{α β:Type}(f:α->β)(lt:β->β->Bool):∀l:List α,isort lt (l.map f)=(isort (fun a b=>lt (f a) (f b)) l).map f
 |[]=>rfl
 |x::l=>by
  show ins lt (f x) (isort lt (l.map f))=_;rw[qq f lt l,xi];rfl
theorem xj(as:List IY):as.map eA=(as.map ak).map kT:=by
 rw[VU];exact Xa fun a _=>(GP a).symm
theorem EK(a b:IY):IU (eA a) (eA b)=decide (a=b):=by
 obtain⟨x,y,z⟩:=a;obtain⟨x',y',z'⟩:=b;unfold eA;simp only[IU,jU];rw[VT];simp
theorem ig:∀(l:List Int) (b:Int),b<=l.foldl max b/\(∀x∈l,x<=l.foldl max b)/\(l.foldl max b=b\/l.foldl max b∈l)
 |[],b=>⟨Zf _,fun _ h=>(nomatch h),.inl rfl⟩
 |a::l,b=>by
  obtain⟨h1,h2,h3⟩:=ig l (max b a);rw[XN];refine⟨by lia,fun x hx=>?_,?_⟩
  ·rcases Vo.mp hx with rfl|hx
   ·lia
   ·exact h2 x hx
  ·rcases h3 with h3|h3
   ·rw[h3];by_cases h:b<=a
    ·exact .inr (by rw[Int.max_eq_right h];exact Va)
    ·exact .inl (Int.max_eq_left (by lia))
   ·exact .inr (Vb _ h3)
variable{ns:List Int}{x:Int}
theorem jJ(h:x∈ns):x<=maxOf ns:=(ig ns _).2.1 x h
theorem oJ(h:ns≠[]):maxOf ns∈ns:=by
 cases ns with
 |nil=>exact absurd rfl h
 |cons a l=>
  rcases(ig (a::l) a).2.2 with e|e
  ·show List.foldl max a (a::l)∈a::l;rw[e];exact Va
  ·exact e
theorem xk{d:Int}(h:x∈ns):x<=NX.maxD ns d:=by
 unfold NX.maxD;rw[Vt (List.ne_nil_of_mem h)];exact jJ h
theorem oK(ns:List Int)(d:Int):(ns=[]/\NX.maxD ns d=d)\/NX.maxD ns d∈ns:=by
 unfold NX.maxD;by_cases h:ns=[]
 ·exact .inl ⟨h,Vn h⟩
 ·rw[Vt h];exact .inr (oJ h)
theorem j3(a:IY):a.1<=iE a/\a.2.2<=iE a/\(iE a=a.1\/iE a=a.2.2):=by
 unfold iE;split
 ·exact⟨by lia,by lia,.inr rfl⟩
 ·exact⟨by lia,by lia,.inl rfl⟩
variable{ap:List IY}{a:IY}
theorem qr(h:a∈ap):a.1<statesOf ap/\a.2.2<statesOf ap:=by
 have h1:=xk (d:=0) (Wz.mpr ⟨a,h,rfl⟩:iE a∈ap.map iE);obtain⟨h2,h3,_⟩:=j3 a;unfold statesOf;lia
theorem uG(h:∀a∈ap,0<=a.1/\0<=a.2.2):1<=statesOf ap:=by
 unfold statesOf;rcases oK (ap.map iE) 0 with⟨_,e⟩|e
 ·lia
 ·obtain⟨a,ha,e2⟩:=l5 e;have:=h a ha;obtain⟨h1,h2,_⟩:=j3 a;lia
theorem qu(lt:α->α->Bool){l:List α}{a:α}:a∈isort lt l<->a∈l:=(dM lt l).mem_iff
structure Ra(nY:LNN)(as:List IY)(mZ:Nat):Prop where
 mm:1<=mZ/\mZ<=12
 len:as.length<=60
 bd:∀a∈as,(0<=a.1/\a.1<(mZ:Int))/\0<=a.2.2/\a.2.2<(mZ:Int)
 nm:∀a∈as,a.2.1∈nY
 rc:∀j:Nat,1<=j->j<mZ->∃a∈as,a.2.2=(j:Int)/\∃b:Nat,b<j/\a.1=(b:Int)
variable{mZ:Nat}
theorem qw(hm:1<=mZ)(h:∀a∈ap,(0<=a.1/\a.1<(mZ:Int))/\0<=a.2.2/\a.2.2<(mZ:Int)):1<=statesOf ap/\statesOf ap<=(mZ:Int):=by
 refine⟨uG fun a ha=>?_,?_⟩
 ·have:=h a ha;lia
 ·unfold statesOf;rcases oK (ap.map iE) 0 with⟨_,e⟩|e
  ·lia
  ·obtain⟨a,ha,e2⟩:=l5 e;have:=h a ha;obtain⟨h1,h2,h3⟩:=j3 a;lia
variable{nY:LNN}
theorem Ra.sort{as:List IY}(r:Ra nY as mZ):Ra nY (isort arcLt as) mZ:=by
 have mem:∀{a:IY},a∈isort arcLt as<->a∈as:=qu arcLt;refine⟨r.mm,by rw[ie];exact r.len,fun a ha=>r.bd a (mem.mp ha),fun a ha=>r.nm a (mem.mp ha),fun j h1 h2=>?_⟩;obtain⟨a,ha,q⟩:=r.rc j h1 h2;exact⟨a,mem.mpr ha,q⟩
theorem rD(as:List IY)(h:as.length<64):fG [.lst (as.map eA)]=.ok (.l .f,.lst ((isort arcLt as).map eA)):=by
 have key:lz (as.map eA)=some ((isort arcLt as).map eA):=by
  cases as with
  |nil=>rfl
  |cons a as=>
   have e1:lx ((a::as).map eA)=some ((a::as).map ak):=by rw[xj,mJ]
   have e2:sameKinds (ak a) (as.map ak)=true:=by
    unfold sameKinds;rw[WU,Vu,VO];exact⟨rfl,fun b _=>rfl⟩
   unfold lz;rw[e1,gE,gE];dsimp only[eA,dY,gw];rw[Vn e2,<-gE,qq ak jM,xj];rfl
 unfold fG;dsimp only;rw[Vn (by rw[bu];exact h),key]
variable{j:Nat}
theorem xl{l:List α}{x:α}{y:α}(h:l[j]?=some y):(l++[x])[j]?=some y:=by
 rw[V1 (kl h).1];exact h
theorem mU{l:List α}{x:α}{y:α}(h:(l++[x])[j]?=some y):l[j]?=some y\/(j=l.length/\y=x):=by
 by_cases hj:j<l.length
 ·rw[V1 hj]at h;exact .inl h
 ·rw[Wq (by lia)]at h;by_cases e:j-l.length=0
  ·rw[e]at h;exact .inr ⟨by lia,by simpa using h.symm⟩
  ·rw[WV (by simp;lia)]at h;cases h
theorem mV(n:Nat)(ap:List IY):plainDs (n+3) (ap.map eA)=true:=by
 induction ap with
 |nil=>rfl
 |cons a l ih=>
  rw[gE,plainDs,ih];rfl
theorem yX(T:List IY)(a:IY):sy (eA a) (.lst (T.map eA))=.ok (.f,.bl (!decide (a∈T))):=by
 have e:uQ (eA a) (T.map eA)=decide (a∈T):=by
  unfold uQ;rw[Xx,VT,Wa,Vq];constructor
  ·rintro⟨x,hx,e⟩;have e:IU (eA x) (eA a)=true:=e;rw[EK,Vq]at e;rw[<-e];exact hx
  ·intro h;refine⟨a,h,?_⟩;show IU (eA a) (eA a)=true;rw[EK,Vq]
 unfold sy LV;dsimp only;rw[show plainD 40 (eA a)=true from rfl,mV 37 T,Wx,Vn rfl,e];rfl
def cell(ns:List Int)(k:Nat):Int:=ns.getD k 0
theorem mW(ns:List Int)(k:Nat):aQ [.lst (ns.map D.int),.int (k:Int)]=.ok (.f,.int (cell ns k)):=by
 unfold aQ iL cell;rw[bB (h:=by rfl)];simp only[pv,seval,op,bu];by_cases h:k<ns.length
 ·have h1:(k:Int)<(ns.length:Int):=by lia
  simp only[h1,XC,pv,seval,lT h]
 ·have h1:¬ (k:Int)<(ns.length:Int):=by lia
  simp only[h1,W3,pv,seval,dJ,Vi,WV (Nat.le_of_not_lt h),XD]
theorem EL(x y:Int)(h:gv x=true):CG (.int x) (.int y)=.ok (.f,.int (x*y)):=by rw[xb,h,Bool.true_or,Vn rfl]
theorem HI(x y:Int)(h:gv y=true):CG (.int x) (.int y)=.ok (.f,.int (x*y)):=by rw[xb,h,Bool.or_true,Vn rfl]
theorem tm(x:Int)(h:0<=x)(h2:x<=4294967296):gv x=true:=by
 unfold gv;rw[Vq];lia
def xS(c k:Int):Int:=((((c%2147483647+48271*(k+1))*(c%2147483647+48271*(k+1))+69621*k)%2147483647)*(((c%2147483647+48271*(k+1))*(c%2147483647+48271*(k+1))+69621*k)%2147483647)+16807*k+1)%2147483647
theorem oM(c k:Int)(hk:0<=k)(MR:k<=1000):bh [.int c,.int k]=.ok (.f,.int (xS c k)):=by
 have b1:=eY c 2147483647 (by decide);have b2:=eY ((c%2147483647+48271*(k+1))*(c%2147483647+48271*(k+1))+69621*k) 2147483647 (by decide);unfold bh ka xS;rw[bB (h:=by rfl)];rw[av (env':=[fq (.int c),fq (.int k),fq (.int (c%2147483647+48271*(k+1)))]) (by simp only[pv,seval,op,jG _ 2147483647 (by decide),EL 48271 (k+1) (by decide)])];have hs:gv (c%2147483647+48271*(k+1))=true:=tm _ (by lia) (by lia);generalize c%2147483647+48271*(k+1)=x at *;rw[av (env':=[fq (.int c),fq (.int k),fq (.int ((x*x+69621*k)%2147483647))]) (by simp only[pv,seval,op,jG _ 2147483647 (by decide),EL x x hs,EL 69621 k (by decide)])];generalize (x*x+69621*k)%2147483647=y at *;have hs:gv y=true:=tm _ (by lia) (by lia);simp only[pv,seval,op,jG _ 2147483647 (by decide),EL y y hs,EL 16807 k (by decide)]
theorem tq:∀l:List Nat,joinL [] (l.map fun c=>[c])=l
 |[]=>rfl
 |[c]=>rfl
 |c::d::l=>by
  have ih:=tq (d::l);show[c]++[]++joinL [] ((d::l).map fun c=>[c])=_;rw[ih];rfl
theorem xm:∀l:List Nat,((l.map fun c=>[c]).map List.length).sum=l.length
 |[]=>rfl
 |c::l=>by
  rw[gE,gE,aac,xm l];show 1+l.length=l.length+1;lia
theorem B0(l:List Nat)(h:l.length<=1000):wM [] [.lst ((l.map fun c=>[c]).map D.str)]=.ok (.f,.str l):=by
 unfold wM;dsimp only;rw[fT];dsimp only;rw[Vn (by rw[xm,Wl,Nat.mul_zero];lia),tq]
theorem qx(a:List Nat)(l:LNN):LV (.str a) (.lst (l.map D.str))=.ok (.f,.bl (decide (a∈l))):=by
 unfold LV;dsimp only;rw[mS,yR,plainD];all_goals simp
def Nb(base:List Int)(wd sp:Nat)(tk:Bool)(k:Nat):List Int:=if tk then base.take (k+1) else(base.take wd).set sp ((base.getD sp 0+(k:Int))%26)
def Lh(base:List Int)(wd sp:Nat)(tk:Bool)(k:Nat):List Nat:=(Nb base wd sp tk k).map fun j=>97+j.toNat
theorem B1(l:List Int)(hb:∀j∈l,0<=j/\j<26):cV (ay 0) fU (az IZ (ao 1) (ao 0)) (l.map D.int) [none,fq (.str Lg)]=.ok (((l.map fun j=>97+j.toNat).map fun c=>[c]).map D.str):=by
 rw[bX (r:=fun j:Int=>D.str [97+j.toNat]) (fun env=>∃t,env=[t,fq (.str Lg)]) l ?_ _ ⟨none,rfl⟩]
 ·rw[VU,VU];rfl
 ·rintro j hj env ⟨t,rfl⟩;obtain⟨h0,h1⟩:=hb j hj;refine⟨[fq (.int j),fq (.str Lg)],rfl,.f,[fq (.int j),fq (.str Lg)],?_,_,rfl⟩;simp only[pv,seval,op,EG j h0 h1]
theorem GQ(base:List Int)(hb:∀j∈base,0<=j/\j<26)(wd sp:Nat)(tk:Bool)(k:Nat):∀j∈Nb base wd sp tk k,0<=j/\j<26:=by
 intro j hj;unfold Nb at hj;split at hj
 ·exact hb j (X2 hj)
 ·rcases YZ hj with h|h
  ·exact hb j (X2 h)
  ·rw[h];exact eY _ _ (by decide)
theorem xn(base:List Int)(hl:base.length=8)(wd sp:Nat)(tk:Bool)(k:Nat):(Nb base wd sp tk k).length<=8:=by
 unfold Nb;split
 ·rw[VZ];lia
 ·rw[Wc,VZ];lia
theorem EN(JL:Int)(base:List Int)(hl:base.length=8)(hb:∀j∈base,0<=j/\j<26)(wd sp:Nat)(hw:wd<=8)(hs:sp<wd)(tk:Bool)(SN:(JL / 64%4==1)=tk)(l:LNN)(hll:l.length<=10)(k:Nat)(t7:Option R):
  ∃u7,dv [fq (.int JL),fq (.str Lg),some (.l .f,.lst (base.map D.int)),fq (.int (wd:Int)),fq (.int (sp:Int)),some (.l .f,.lst (l.map D.str)),fq (.int (k:Int)),t7]=.ok (.nx [fq (.int JL),fq (.str Lg),some (.l .f,.lst (base.map D.int)),fq (.int (wd:Int)),fq (.int (sp:Int)),some (.l .f,.lst ((l++[Lh base wd sp tk k]).map D.str)),fq (.int (k:Int)),u7]):=by
 have Qt:jm (base.map D.int) none (some (wd:Int))=(base.take wd).map D.int:=by rw[oH,Ze]
 have LC:JV ((base.take wd).map D.int) (sp:Int)=some (.int (base.getD sp 0)):=by
  rw[lT (by rw[VZ];lia)];congr 2
  rw[Vi,Vi,Y1 hs]
 have Kc:ixN (base.take wd).length (sp:Int)=some sp:=xh _ _ (by rw[VZ];lia);have hnl:=xn base hl wd sp tk k;have OX:=B1 (Nb base wd sp tk k) (GQ base hb wd sp tk k);have hj:=B0 (Lh base wd sp tk k) (by unfold Lh;rw[bu];lia);have hz:(l.map D.str).length<sizeLine:=jH (by rw[bu];lia);have hzl:(((Lh base wd sp tk k).map fun c=>[c]).map D.str).length<=sizeLine:=bS (by unfold Lh;rw[bu,bu,bu];lia);have M0:=PV.flat_strs ((Lh base wd sp tk k).map fun c=>[c]);have OX:cV (ay 0) fU (az IZ (ao 1) (ao 0)) ((Nb base wd sp tk k).map D.int) [none,fq (.str Lg)]=.ok (((Lh base wd sp tk k).map fun c=>[c]).map D.str):=OX;unfold dv;rw[av (env':=[fq (.int JL),fq (.str Lg),some (.l .f,.lst (base.map D.int)),fq (.int (wd:Int)),fq (.int (sp:Int)),some (.l .f,.lst (l.map D.str)),fq (.int (k:Int)),some (.l .f,.lst ((base.take wd).map D.int))]) (by simp only[pv,seval,op,Qt])];rw[av (env':=[fq (.int JL),fq (.str Lg),some (.l .f,.lst (base.map D.int)),fq (.int (wd:Int)),fq (.int (sp:Int)),some (.l .f,.lst (l.map D.str)),fq (.int (k:Int)),some (.l .f,.lst (((base.take wd).set sp ((base.getD sp 0+(k:Int))%26)).map D.int))]) (by
  rw[List.map_set];simp only[pv,seval,op,LC,jG _ 26 (by decide),bu,Kc])]
 rw[av (env':=[fq (.int JL),fq (.str Lg),some (.l .f,.lst (base.map D.int)),fq (.int (wd:Int)),fq (.int (sp:Int)),some (.l .f,.lst (l.map D.str)),fq (.int (k:Int)),some (.l .f,.lst ((Nb base wd sp tk k).map D.int))]) (by
  unfold Nb;cases tk with
  |true=>
   have NH:jm (base.map D.int) none (some ((k:Int)+1))=(base.take (k+1)).map D.int:=by rw[show(k:Int)+1=((k+1:Nat):Int) by lia,oH,Ze]
   simp only[pv,seval,op,gk _ 64 (by decide) (by decide),jG _ 4 (by decide),SN,NH]
  |false=>simp only[pv,seval,op,gk _ 64 (by decide) (by decide),jG _ 4 (by decide),SN,dJ])]
 refine⟨some (.l .f,.lst ((Nb base wd sp tk k).map D.int)),?_⟩;generalize Nb base wd sp tk k=W at *;generalize Lh base wd sp tk k=V at *;rw[VA,gE,V8];generalize (az IZ (ao 1) (ao 0))=GG at OX ⊢;simp only[pv,seval,op,OX,hzl,M0,hj,hz]
theorem B2(base:List Int)(hl:base.length=8)(hb:∀j∈base,0<=j/\j<26)(wd sp:Nat)(hw:wd<=8)(hs:sp<wd)(tk:Bool)(k k':Nat)(hk:k<=5)(Ln:k'<=5)(e:Lh base wd sp tk k=Lh base wd sp tk k'):k=k':=by
 unfold Lh Nb at e;cases tk with
 |true=>
  have:=WM List.length e;simp only[XA,bu,VZ]at this;lia
 |false=>
  have e2:=WM (fun l=>l[sp]?) e;have Jv:sp<(base.take wd).length:=by rw[VZ];lia
  simp only[dJ,WW,Vs,Wt Jv,YM,Ys]at e2;have b1:=eY (base.getD sp 0+(k:Int)) 26 (by decide);have b2:=eY (base.getD sp 0+(k':Int)) 26 (by decide);generalize base.getD sp 0=z at *;lia
theorem B3(JL:Int):∃l:LNN,l.length=5/\l.Nodup/\l.Pairwise (fun a b=>MB b a=false)/\dh [.int JL]=.ok (.l .f,.lst (l.map D.str)):=by
 unfold dh kc;rw[bB (h:=by rfl)];rw[av (env':=[fq (.int JL),fq (.str Lg),none,none,none,none,none,none]) (by simp only[pv,seval,op];rfl)];have hc:cV (ay 0) fU (az gG (aj (cX bh (ag (ao 1) (ag (ao 0) aB)))) (aj (aD (.int 26)))) ((List.range 8).map fun(k:Nat)=>D.int (k:Int)) [none,fq (.int JL)]=.ok (((List.range 8).map fun(k:Nat)=>xS JL (k:Int)%26).map D.int):=by
  rw[bX (r:=fun k:Nat=>D.int (xS JL (k:Int)%26)) (fun env=>∃t,env=[t,fq (.int JL)]) (List.range 8) ?_ _ ⟨none,rfl⟩]
  ·rw[VU];rfl
  ·rintro k hk env ⟨t,rfl⟩;have hk:=VD.mp hk;refine⟨[fq (.int (k:Int)),fq (.int JL)],rfl,.f,[fq (.int (k:Int)),fq (.int JL)],?_,_,rfl⟩;simp only[pv,seval,op,oM JL (k:Int) (by lia) (by lia),jG _ 26 (by decide)]
 have SO:((List.range 8).map fun(k:Nat)=>xS JL (k:Int)%26).length=8:=rfl;have Nj:∀j∈((List.range 8).map fun(k:Nat)=>xS JL (k:Int)%26),0<=j/\j<26:=by
  intro j hj;obtain⟨k,_,rfl⟩:=l5 hj;exact eY _ _ (by decide)
 generalize ((List.range 8).map fun(k:Nat)=>xS JL (k:Int)%26)=base at hc SO Nj;have hlen:(base.map D.int).length<=sizeLine:=bS (by rw[bu];lia);have PJ:=IW base;rw[av (env':=[fq (.int JL),fq (.str Lg),some (.l .f,.lst (base.map D.int)),none,none,none,none,none]) (by
  generalize (az gG (aj (cX bh (ag (ao 1) (ag (ao 0) aB)))) (aj (aD (.int 26))))=GG at hc ⊢;simp only[pv,seval,op];rw[Vn (by decide)];simp only[pv,seval,op,show(8:Int).toNat=8 from rfl,hc,hlen,PJ])]
 have m8:=eY JL 8 (by decide);obtain⟨wd,ew⟩:=VP (show 0<=1+JL%8 by lia);have msp:=eY (JL / 8) (wd:Int) (by lia);obtain⟨sp,es⟩:=VP msp.1;rw[av (env':=[fq (.int JL),fq (.str Lg),some (.l .f,.lst (base.map D.int)),fq (.int (wd:Int)),none,none,none,none]) (by simp only[pv,seval,op,jG _ 8 (by decide),ew])];rw[av (env':=[fq (.int JL),fq (.str Lg),some (.l .f,.lst (base.map D.int)),fq (.int (wd:Int)),fq (.int (sp:Int)),none,none,none]) (by simp only[pv,seval,op,gk _ 8 (by decide) (by decide),jG _ (wd:Int) (by lia),es])];rw[av (env':=[fq (.int JL),fq (.str Lg),some (.l .f,.lst (base.map D.int)),fq (.int (wd:Int)),fq (.int (sp:Int)),some (.l .f,.lst []),none,none]) (by simp only[pv,seval,op])];obtain⟨tk,SN⟩:∃tk,(JL / 64%4==1)=tk:=⟨_,rfl⟩
 obtain⟨env',ef,t6,t7,rfl⟩:=oG (a:=ay 6) (g:=dv) (e:=fun k=>D.int (k:Int)) 5 (fun i env=>∃(t6 t7:Option R),env=[fq (.int JL),fq (.str Lg),some (.l .f,.lst (base.map D.int)),fq (.int (wd:Int)),fq (.int (sp:Int)),some (.l .f,.lst (((List.range i).map (Lh base wd sp tk)).map D.str)),t6,t7]) (by
  rintro k env hk ⟨t6,t7,rfl⟩;obtain⟨u7,e⟩:=EN JL base SO Nj wd sp (by lia) (by lia) tk SN ((List.range k).map (Lh base wd sp tk)) (by rw[bu,VG];lia) k t7;rw[show((List.range k).map (Lh base wd sp tk))++[Lh base wd sp tk k]=(List.range (k+1)).map (Lh base wd sp tk) by rw[Zt,VA];rfl]at e;exact⟨_,rfl,_,e,_,_,rfl⟩) _ ⟨none,none,rfl⟩
 rw[List.range_zero,V8,V8]at ef;rw[av (env':=_) (by
  unfold iM;simp only[pv,seval,op];rw[Vn (by decide)];simp only[pv,seval,op,show(5:Int).toNat=5 from rfl];exact ef)]
 unfold gU;have NI:((List.range 5).map (Lh base wd sp tk)).length=5:=by rw[bu,VG]
 have PM:((List.range 5).map (Lh base wd sp tk)).Nodup:=eU _ 5 fun i j hi hj e=>B2 base SO Nj wd sp (by lia) (by lia) tk i j (by lia) (by lia) e
 have UP:∀n∈((List.range 5).map (Lh base wd sp tk)),n.length<=8:=by
  intro n hn;obtain⟨k,_,rfl⟩:=l5 hn;unfold Lh;rw[bu];exact xn base SO wd sp tk k
 generalize ((List.range 5).map (Lh base wd sp tk))=l at NI PM UP;by_cases hm:[109,111,118,101,115]∈l
 ·have My:cV (ay 0) fU (az cU (aj (aD (.str [115]))) (ao 0)) (l.map D.str) [none]=.ok ((l.map fun n=>115::n).map D.str):=by
   rw[bX (r:=fun n:List Nat=>D.str (115::n)) (fun env=>∃t,env=[t]) l ?_ _ ⟨none,rfl⟩]
   ·rw[VU];rfl
   ·rintro n hn env ⟨t,rfl⟩;have:=UP n hn;refine⟨[fq (.str n)],rfl,.f,[fq (.str n)],?_,_,rfl⟩;simp only[pv,seval,op,IC [115] n (by rw[VC];lia)]
  have T4:((l.map fun n=>115::n).map D.str).length<=sizeLine:=bS (by rw[bu,bu];lia);have hnd2:(l.map fun n=>115::n).Nodup:=by
   rw[XZ,Xu];exact(XZ.mp PM).imp fun{a b} h e=>h (Za e).2
  have M0:=PV.flat_strs (l.map fun n=>115::n);rw[av (env':=[fq (.int JL),fq (.str Lg),some (.l .f,.lst (base.map D.int)),fq (.int (wd:Int)),fq (.int (sp:Int)),some (.l .f,.lst ((l.map fun n=>115::n).map D.str)),t6,t7]) (by
   generalize (az cU (aj (aD (.str [115]))) (ao 0))=GG at My ⊢;simp only[pv,seval,op,qx,hm,XC,My,T4,M0])]
  refine⟨isort MB (l.map fun n=>115::n),by rw[ie,bu];exact NI,(dM MB _).nodup_iff.mpr hnd2,e8 qW _,?_⟩;simp only[pv,seval,op,xf (l.map fun n=>115::n) (by rw[bu];lia)]
 ·rw[av (env':=[fq (.int JL),fq (.str Lg),some (.l .f,.lst (base.map D.int)),fq (.int (wd:Int)),fq (.int (sp:Int)),some (.l .f,.lst (l.map D.str)),t6,t7]) (by simp only[pv,seval,op,qx,hm,W3,dJ])];refine⟨isort MB l,by rw[ie];exact NI,(dM MB _).nodup_iff.mpr PM,e8 qW _,?_⟩;simp only[pv,seval,op,xf l (by lia)]
theorem EO(env:PV.Env)(fo:FO)(fp IV fq:FP):GA fo fp IV fq env=Res.bnd (fo env) (f:=⟨fun p=>Res.bnd (fp p.2) (f:=⟨fun q=>Res.bnd (IV q.2) (f:=⟨fun t=>Res.bnd (fq t.2) (f:=⟨fun u=>Res.bnd (JY u.2 p.1) (f:=⟨fun d=>Res.bnd (Ee d q.1 t.1 u.1) (f:=⟨fun r=>.ok (r,u.2)⟩)⟩)⟩)⟩)⟩)⟩):=id rfl
theorem B4(env:PV.Env)(fa fb fc:FX):By fa fb fc env=Res.bnd (fa env) (f:=⟨fun p=>Res.bnd (fb p.2) (f:=⟨fun q=>Res.bnd (fc q.2) (f:=⟨fun t=>.ok ((.t [.f,q.1.1,t.1.1],.tup [p.1.2,q.1.2,t.1.2]),t.2)⟩)⟩)⟩):=id rfl
theorem yY{β:Type}(f:α->β)(l:List α)(lo hi:Option Int)(c:Int):gR (l.map f) lo hi c=(gR l lo hi c).map f:=by
 unfold gR;rw[bu,List.map_filterMap];congr 1
 funext i
 rw[Vs]
theorem GR(ds:List D)(lo hi:Option Int):Ee (.lst ds) lo hi (some 6)=.ok (.l .f,.lst (gR ds lo hi 6)):=id rfl
theorem ES(ns:List Int)(first k:Int)(hk:0<=k/\k<=1000):∃v:Int,dP [.lst (ns.map D.int),.int first,.int k]=.ok (.f,.int v):=by
 unfold dP lJ;rw[bB (h:=by rfl)];rw[av (env':=[fq (.lst (ns.map D.int)),fq (.int first),fq (.int k),fq (.int (7+k)),none]) (by simp only[pv,seval,op])];obtain⟨env',ef,v,t4,rfl⟩:=for_list (a:=ay 4) (g:=fI) (e:=D.int) (gR ns (some (first+k)) (some (first+84)) 6) (fun j env=>∃(v:Int) (t4:Option R),env=[fq (.lst (ns.map D.int)),fq (.int first),fq (.int k),fq (.int v),t4]) (by
  rintro j c env hj ⟨v,t4,rfl⟩;refine⟨_,rfl,_,?_,xS (c+v) k,fq (.int c),rfl⟩;unfold fI;simp only[pv,seval,op,oM (c+v) k hk.1 hk.2]) _ ⟨7+k,none,rfl⟩
 rw[av (env':=_) (by
  unfold jy;simp only[pv,seval,op,EO,GR,yY];exact ef)]
 unfold iO;exact⟨v,by simp only[pv,seval,op]⟩
def Tk(l:List Int)(cnt:Nat):Prop:=l.length=cnt/\∀x∈l,0<=x/\x<=10
variable{l:List Int}{cnt:Nat}
theorem Tk.app(h:Tk l cnt)(hx:0<=x/\x<=10):Tk (l++[x]) (cnt+1):=by
 refine⟨by rw[jb,h.1];rfl,fun y hy=>?_⟩;rcases kB hy with hy|hy
 ·exact h.2 y hy
 ·rw[iC hy];exact hx
theorem B5(number:Int)(cnt:Nat)(hc:cnt<=10):∃(b:Int) (ts gs:List Int),(0<=b/\b<=10)/\Tk ts cnt/\Tk gs cnt/\di [.int number,.int (cnt:Int)]=.ok (.t [.f,.l .f,.l .f],.tup [.int b,.lst (ts.map D.int),.lst (gs.map D.int)]):=by
 unfold di ke;rw[bB (h:=by rfl)];rw[av (env':=[fq (.int number),fq (.int (cnt:Int)),some (.l .f,.lst []),none,none,none,none,none]) (by simp only[pv,seval,op])];rw[av (env':=[fq (.int number),fq (.int (cnt:Int)),some (.l .f,.lst []),some (.l .f,.lst []),none,none,none,none]) (by simp only[pv,seval,op])];obtain⟨env',ef,ts,gs,t4,t5,t6,t7,h1,h2,rfl⟩:=oG (a:=ay 4) (g:=eQ) (e:=fun k=>D.int (k:Int)) cnt (fun i env=>∃(ts gs:List Int) (t4 t5 t6 t7:Option R),Tk ts i/\Tk gs i/\env=[fq (.int number),fq (.int (cnt:Int)),some (.l .f,.lst (ts.map D.int)),some (.l .f,.lst (gs.map D.int)),t4,t5,t6,t7]) (by
  rintro j env hj ⟨ts,gs,t4,t5,t6,t7,h1,h2,rfl⟩;have z1:(ts.map D.int).length<sizeLine:=jH (by rw[bu,h1.1];lia);have z2:(gs.map D.int).length<sizeLine:=jH (by rw[bu,h2.1];lia);have M1:=oM number (j:Int) (by lia) (by lia);generalize xS number (j:Int)=x at M1;have b1:=eY x 5 (by decide);have b2:=eY (x / 8) 4 (by decide);refine⟨[fq (.int number),fq (.int (cnt:Int)),some (.l .f,.lst (ts.map D.int)),some (.l .f,.lst (gs.map D.int)),fq (.int (j:Int)),t5,t6,t7],rfl,_,?_,ts++[(if 0<0-(x%5-2) then 0-(x%5-2) else 0)+x / 8%4 / 3],gs++[(if 0<x%5-2 then x%5-2 else 0)+x / 8%4 / 3],fq (.int (j:Int)),fq (.int x),fq (.int (x%5-2)),fq (.int (x / 8%4 / 3)),h1.app ?_,h2.app ?_,rfl⟩
  ·unfold eQ;rw[av (env':=[fq (.int number),fq (.int (cnt:Int)),some (.l .f,.lst (ts.map D.int)),some (.l .f,.lst (gs.map D.int)),fq (.int (j:Int)),fq (.int x),t6,t7]) (by simp only[pv,seval,op,M1])];rw[av (env':=[fq (.int number),fq (.int (cnt:Int)),some (.l .f,.lst (ts.map D.int)),some (.l .f,.lst (gs.map D.int)),fq (.int (j:Int)),fq (.int x),fq (.int (x%5-2)),t7]) (by simp only[pv,seval,op,jG _ 5 (by decide)])];generalize x%5-2=y;rw[av (env':=[fq (.int number),fq (.int (cnt:Int)),some (.l .f,.lst (ts.map D.int)),some (.l .f,.lst (gs.map D.int)),fq (.int (j:Int)),fq (.int x),fq (.int y),fq (.int (x / 8%4 / 3))]) (by simp only[pv,seval,op,jG _ 4 (by decide),gk _ 8 (by decide) (by decide),gk _ 3 (by decide) (by decide)])];generalize x / 8%4 / 3=z;rw[VA,VA,gE,gE,V8];rw[av (env':=[fq (.int number),fq (.int (cnt:Int)),some (.l .f,.lst (ts.map D.int++[.int ((if 0<0-y then 0-y else 0)+z)])),some (.l .f,.lst (gs.map D.int)),fq (.int (j:Int)),fq (.int x),fq (.int y),fq (.int z)]) (by simp only[pv,seval,op,z1])];simp only[pv,seval,op,z2]
  ·split <;> lia
  ·split <;> lia) _ ⟨[],[],none,none,none,none,⟨rfl,(fun _ h=>nomatch h)⟩,⟨rfl,(fun _ h=>nomatch h)⟩,rfl⟩
 rw[V8]at ef;rw[av (env':=_) (by
  unfold iP;simp only[pv,seval,op];rw[Vn (by lia)];simp only[pv,seval,op,W6];exact ef)]
 unfold gY;have b:=eY (number / 16) 4 (by decide);exact⟨number / 16%4,ts,gs,by lia,h1,h2,by simp only[pv,seval,op,B4,gk _ 16 (by decide) (by decide),jG _ 4 (by decide)]⟩
abbrev Pl:=Int×List Int×List Int
def eP(p:Pl):D:=.tup [.int p.1,.tup (p.2.1.map D.int),.tup (p.2.2.map D.int)]
def Ka(p:Pl)(cnt:Nat):Prop:=p.2.1.length=cnt/\p.2.2.length=cnt
theorem ET(f:Int)(l:List Int)(h:∀x∈l,0<=x/\x<=10):cV (ay 0) fU (az oS (ao 1) (ao 0)) (l.map D.int) [none,fq (.int f)]=.ok ((l.map fun x=>f*x).map D.int):=by
 rw[bX (r:=fun x:Int=>D.int (f*x)) (fun env=>∃t,env=[t,fq (.int f)]) l ?_ _ ⟨none,rfl⟩]
 ·rw[VU];rfl
 ·rintro x hx env ⟨t,rfl⟩;have:=h x hx;refine⟨[fq (.int x),fq (.int f)],rfl,.f,[fq (.int x),fq (.int f)],?_,_,rfl⟩;simp only[pv,seval,op,HI f x (qo x (by lia) (by lia))]
theorem tu(b:Int)(hb:0<=b/\b<=10)(ts gs:List Int)(cnt:Nat)(hc:cnt<=10)(h1:Tk ts cnt)(h2:Tk gs cnt)(JL:Int):∃p:Pl,Ka p cnt/\cb [.tup [.int b,.lst (ts.map D.int),.lst (gs.map D.int)],.int JL]=.ok (.f,eP p):=by
 have p50:CF (.int 10) (.int 50)=.ok (.f,.int (10 ^ 50)):=IB 50 (by decide);have m50:=eY JL (10 ^ 50) (by decide);unfold cb jz;rw[bB (h:=by rfl)];rw[av (env':=[fq (.tup [.int b,.lst (ts.map D.int),.lst (gs.map D.int)]),fq (.int JL),fq (.int (1+JL%10 ^ 50)),none,none,none]) (by simp only[pv,↓reduceIte,Nat.reduceAdd,Nat.reduceLT,Nat.reduceLeDiff,Nat.reduceEqDiff,op,p50,jG _ (10 ^ 50) (by decide)])];have hf:0<1+JL%10 ^ 50:=by
  generalize JL%10 ^ 50=q at m50;lia
 generalize 1+JL%10 ^ 50=f at hf;rw[av (env':=[fq (.tup [.int b,.lst (ts.map D.int),.lst (gs.map D.int)]),fq (.int JL),fq (.int f),fq (.int b),fq (.lst (ts.map D.int)),fq (.lst (gs.map D.int))]) (by simp only[pv,↓reduceIte,Nat.reduceAdd,Nat.reduceLT,Nat.reduceLeDiff,Nat.reduceEqDiff,op])];have c1:=ET f ts h1.2;have c2:=ET f gs h2.2;have l1:((ts.map fun x=>f*x).map D.int).length<=sizeLine:=bS (by rw[bu,bu,h1.1];lia);have l2:((gs.map fun x=>f*x).map D.int).length<=sizeLine:=bS (by rw[bu,bu,h2.1];lia);have f1:=IW (ts.map fun x=>f*x);have f2:=IW (gs.map fun x=>f*x);refine⟨(f*b+JL / 7%f,ts.map fun x=>f*x,gs.map fun x=>f*x),⟨by rw[bu];exact h1.1,by rw[bu];exact h2.1⟩,?_⟩;unfold eP;dsimp only;generalize (ts.map fun x=>f*x).map D.int=T1 at *;generalize (gs.map fun x=>f*x).map D.int=T2 at *;have UQ:=HI f b (qo b (by lia) (by lia));have R5:=jG (JL / 7) f hf;have hdiv:=gk JL 7 (by decide) (by decide);generalize f*b=fb at UQ ⊢;generalize (JL / 7)%f=cf at R5 ⊢;rw[av (env':=[fq (.tup [.int b,.lst (ts.map D.int),.lst (gs.map D.int)]),fq (.int JL),fq (.int f),fq (.int b),fq (.tup T1),fq (.lst (gs.map D.int))]) (by
  generalize (az oS (ao 1) (ao 0))=GG at c1 ⊢;simp only[pv,↓reduceIte,Nat.reduceAdd,Nat.reduceLT,Nat.reduceLeDiff,Nat.reduceEqDiff,op,c1,l1,f1])]
 have UR:∀GG,GG=(az oS (ao 1) (ao 0))->cV (ay 0) fU GG (gs.map D.int) [none,fq (.int f)]=.ok T2:=fun GG h=>by rw[h];exact c2
 rw[show(de (fO (ax (az cU (aj (az oS (ao 2) (ao 3))) (aj (az gG (aj (az eI (ao 1) (aj (aD (.int 7))))) (ao 2)))) (ax (aJ 4) (ax (aY eJ (ag (aj (cE (Kn (eX 5) (eC (aJ 5))) [none,some 2] (ay 0) fU (az oS (ao 1) (ao 0)))) aB)) a7)))))=(fun GG=>de (fO (ax (az cU (aj (az oS (ao 2) (ao 3))) (aj (az gG (aj (az eI (ao 1) (aj (aD (.int 7))))) (ao 2)))) (ax (aJ 4) (ax (aY eJ (ag (aj (cE (Kn (eX 5) (eC (aJ 5))) [none,some 2] (ay 0) fU GG)) aB)) a7))))) (az oS (ao 1) (ao 0)) from rfl];generalize eGG:(az oS (ao 1) (ao 0))=GG;have c2:=UR GG eGG.symm;clear eGG UR;simp only[pv,↓reduceIte,Nat.reduceAdd,Nat.reduceLT,Nat.reduceLeDiff,Nat.reduceEqDiff,op,UQ,R5,hdiv,c2,l2,f2]
theorem yZ(ns:List Int)(first:Nat)(cnt:Nat)(hc:cnt<=10)(ps:List Pl)(Sy:∀p∈ps,Ka p cnt)(hl:ps.length<=100)(k:Nat)(hk:k<=100)(t5 t6 t7:Option R):
  ∃(QV:List Pl) (u5 u6 u7:Option R),(∀p∈QV,Ka p cnt)/\ps.length+1<=QV.length/\QV.length<=ps.length+2/\cY [fq (.lst (ns.map D.int)),fq (.int (first:Int)),fq (.int (cnt:Int)),some (.l .f,.lst (ps.map eP)),fq (.int (k:Int)),t5,t6,t7]=.ok (.nx [fq (.lst (ns.map D.int)),fq (.int (first:Int)),fq (.int (cnt:Int)),some (.l .f,.lst (QV.map eP)),fq (.int (k:Int)),u5,u6,u7]):=by
 obtain⟨v,ev⟩:=ES ns (first:Int) (k:Int) (by lia);obtain⟨b,ts,gs,hb,h1,h2,ep⟩:=B5 v cnt hc;have c1:=mW ns (first+k);rw[show((first+k:Nat):Int)=(first:Int)+(k:Int) by lia]at c1;have c2:=mW ns (first+6+k);rw[show((first+6+k:Nat):Int)=(first:Int)+6+(k:Int) by lia]at c2;obtain⟨p1,US,e1⟩:=tu b hb ts gs cnt hc h1 h2 (cell ns (first+k));have m4:=eY (v / 256) 4 (by decide);obtain⟨p2,Ro,e2⟩:=tu (v / 256%4) (by lia) gs ts cnt hc h2 h1 (cell ns (first+6+k));have K0:aS (.t [.f,.l .f,.l .f]) (.tup [.int b,.lst (ts.map D.int),.lst (gs.map D.int)])=true:=by
  have f1:=IW ts;have f2:=IW gs;simp only[aS,pI,cw];rw[<-cP,<-cP,f1,f2];rfl
 have SQ:∀p:Pl,cw (eP p)=true:=fun p=>by
  unfold eP;rw[c8];simp only[flatDs,c8,IW,kH];rfl
 have Sz:(ps.map eP).length<sizeLine:=jH (by rw[bu];lia);have Og:(ps.map eP++[eP p1]).length<sizeLine:=jH (by rw[jb,bu,VC];lia);unfold cY;rw[av (env':=[fq (.lst (ns.map D.int)),fq (.int (first:Int)),fq (.int (cnt:Int)),some (.l .f,.lst (ps.map eP)),fq (.int (k:Int)),fq (.int v),t6,t7]) (by simp only[pv,seval,op,ev])];rw[av (env':=[fq (.lst (ns.map D.int)),fq (.int (first:Int)),fq (.int (cnt:Int)),some (.l .f,.lst (ps.map eP)),fq (.int (k:Int)),fq (.int v),some (.t [.f,.l .f,.l .f],.tup [.int b,.lst (ts.map D.int),.lst (gs.map D.int)]),t7]) (by simp only[pv,seval,op,ep,K0])];rw[av (env':=[fq (.lst (ns.map D.int)),fq (.int (first:Int)),fq (.int (cnt:Int)),some (.l .f,.lst (ps.map eP++[eP p1])),fq (.int (k:Int)),fq (.int v),some (.t [.f,.l .f,.l .f],.tup [.int b,.lst (ts.map D.int),.lst (gs.map D.int)]),t7]) (by simp only[pv,seval,op,c1,e1,SQ,Sz])];by_cases h3:0<v / 64%3
 ·refine⟨ps++[p1,p2],fq (.int v),fq (.tup [.int b,.lst (ts.map D.int),.lst (gs.map D.int)]),fq (.tup [.int (v / 256%4),.lst (gs.map D.int),.lst (ts.map D.int)]),fun p hp=>?_,by rw[jb];simp,by rw[jb];simp,?_⟩
  ·rcases kB hp with hp|hp
   ·exact Sy p hp
   ·rcases Vo.mp hp with rfl|hp
    ·exact US
    ·rw[iC hp];exact Ro
  ·rw[VA,gE,gE,V8,show ps.map eP++[eP p1,eP p2]=(ps.map eP++[eP p1])++[eP p2] by rw[Wd];rfl];simp only[pv,seval,op,gk _ 64 (by decide) (by decide),gk _ 256 (by decide) (by decide),jG _ 3 (by decide),jG _ 4 (by decide),gt_iff_lt,h3,XC,at2,c2,e2,SQ,Og]
 ·refine⟨ps++[p1],fq (.int v),some (.t [.f,.l .f,.l .f],.tup [.int b,.lst (ts.map D.int),.lst (gs.map D.int)]),t7,fun p hp=>?_,by rw[jb];simp,by rw[jb];simp,?_⟩
  ·rcases kB hp with hp|hp
   ·exact Sy p hp
   ·rw[iC hp];exact US
  ·rw[VA,gE,V8];simp only[pv,seval,op,gk _ 64 (by decide) (by decide),jG _ 3 (by decide),gt_iff_lt,h3,W3,dJ]
theorem y0(ns:List Int)(first:Nat)(cnt:Nat)(hc:cnt<=10):∃ps:List Pl,(∀p∈ps,Ka p cnt)/\ps≠[]/\ps.length<=8/\cQ [.lst (ns.map D.int),.int (first:Int),.int (cnt:Int)]=.ok (.l .f,.lst (ps.map eP)):=by
 have c1:aQ [.lst (ns.map D.int),.int 1]=.ok (.f,.int (cell ns 1)):=mW ns 1;have m4:=eY (cell ns 1 / 4) 4 (by decide);unfold cQ jA;rw[bB (h:=by rfl)];rw[av (env':=[fq (.lst (ns.map D.int)),fq (.int (first:Int)),fq (.int (cnt:Int)),some (.l .f,.lst []),none,none,none,none]) (by simp only[pv,seval,op])];obtain⟨env',ef,ps,t4,t5,t6,t7,h1,h2,h3,rfl⟩:=oG (a:=ay 4) (g:=cY) (e:=fun k=>D.int (k:Int)) (1+cell ns 1 / 4%4).toNat (fun i env=>∃(ps:List Pl) (t4 t5 t6 t7:Option R),(∀p∈ps,Ka p cnt)/\i<=ps.length/\ps.length<=2*i/\env=[fq (.lst (ns.map D.int)),fq (.int (first:Int)),fq (.int (cnt:Int)),some (.l .f,.lst (ps.map eP)),t4,t5,t6,t7]) (by
  rintro k env hk ⟨ps,t4,t5,t6,t7,h1,h2,h3,rfl⟩;obtain⟨QV,u5,u6,u7,h1',Tq,h3',e⟩:=yZ ns first cnt hc ps h1 (by lia) k (by lia) t5 t6 t7
  exact⟨_,rfl,_,e,QV,_,_,_,_,h1',by lia,by lia,rfl⟩) _ ⟨[],none,none,none,none,(fun _ h=>nomatch h),Vl _,Vl _,rfl⟩
 rw[V8]at ef;rw[av (env':=_) (by
  unfold gZ;simp only[pv,seval,op,c1,gk _ 4 (by decide) (by decide),jG _ 4 (by decide)];rw[Vn (by lia)];simp only[pv,seval,op];exact ef)]
 unfold gx;refine⟨ps,h1,?_,by lia,by simp only[pv,seval,op]⟩;intro h;rw[h,Wl]at h2;lia
theorem EU{l:List α}(h:l.Nodup)(lo hi:Option Int):(jm l lo hi).Nodup:=by
 unfold jm;exact(h.sublist (List.drop_sublist _ _)).sublist (Y2 _ _)
theorem EV{l:List α}{r:α->α->Prop}(h:l.Pairwise r)(lo hi:Option Int):(jm l lo hi).Pairwise r:=by
 unfold jm;exact(h.sublist (List.drop_sublist _ _)).sublist (Y2 _ _)
theorem B6(ns:List Int):∃nY:LNN,nY≠[]/\nY.length<=3/\nY.Nodup/\nY.Pairwise (fun a b=>MB b a=false)/\dk [.lst (ns.map D.int)]=.ok (.f,.tup (nY.map D.str)):=by
 have c0:aQ [.lst (ns.map D.int),.int 0]=.ok (.f,.int (cell ns 0)):=mW ns 0;have c1:aQ [.lst (ns.map D.int),.int 1]=.ok (.f,.int (cell ns 1)):=mW ns 1;obtain⟨l,hl,PM,hpw,en⟩:=B3 (cell ns 0);have m3:=eY (cell ns 1) 3 (by decide);unfold dk kg;rw[bB (h:=by rfl)];rw[av (env':=[fq (.lst (ns.map D.int)),some (.l .f,.lst (l.map D.str)),none,none,none]) (by simp only[pv,seval,op,c0,en])];rw[av (env':=[fq (.lst (ns.map D.int)),some (.l .f,.lst (l.map D.str)),fq (.int (cell ns 1)),none,none]) (by simp only[pv,seval,op,c1])];rw[av (env':=[fq (.lst (ns.map D.int)),some (.l .f,.lst (l.map D.str)),fq (.int (cell ns 1)),fq (.int (1+cell ns 1%3)),none]) (by simp only[pv,seval,op,jG _ 3 (by decide)])];obtain⟨cnt,ec⟩:=VP (show 0<=1+cell ns 1%3 by lia);rw[ec];have ms:=eY (cell ns 1 / 32) (6-(cnt:Int)) (by lia);obtain⟨st,es⟩:=VP ms.1;rw[av (env':=[fq (.lst (ns.map D.int)),some (.l .f,.lst (l.map D.str)),fq (.int (cell ns 1)),fq (.int (cnt:Int)),fq (.int (st:Int))]) (by simp only[pv,seval,op,gk _ 32 (by decide) (by decide),jG _ (6-(cnt:Int)) (by lia),es])];have Qt:=BW l st (st+cnt) (by lia) (by lia);have hlen:(jm l (some (st:Int)) (some ((st+cnt:Nat):Int))).length=cnt:=by
  rw[Qt,VZ,WY];lia
 rw[show((st+cnt:Nat):Int)=(st:Int)+(cnt:Int) by lia]at hlen;refine⟨jm l (some (st:Int)) (some ((st:Int)+(cnt:Int))),?_,by lia,EU PM _ _,EV hpw _ _,?_⟩
 ·intro h;rw[h,Wl]at hlen;lia
 ·simp only[pv,seval,op,BX]
theorem EW{a:FG}{g:FS}{e:α->D}{r:R}{Z:Prop}(l:List α)(P:Nat->PV.Env->Prop)(h:∀k x env,l[k]?=some x->P k env->∃IM,a (e x) env=.ok IM/\((∃IX,g IM=.ok (.nx IX)/\P (k+1) IX)\/(g IM=.ok (.rt r)/\Z))):
  ∀env,P 0 env->(∃env',eW a g (l.map e) env=.ok (.nx env')/\P l.length env')\/(eW a g (l.map e) env=.ok (.rt r)/\Z):=by
 have key:∀(l':List α) (k:Nat) (env:PV.Env),(∀i x,l'[i]?=some x->l[k+i]?=some x)->P k env->(∃env',eW a g (l'.map e) env=.ok (.nx env')/\P (k+l'.length) env')\/(eW a g (l'.map e) env=.ok (.rt r)/\Z):=by
  intro l';induction l' with
  |nil=>exact fun k env _ hp=>.inl ⟨env,rfl,hp⟩
  |cons d l' ih=>
   intro k env hd hp;obtain⟨IM,h1,⟨IX,h2,h3⟩|⟨h2,hz⟩⟩:=h k d env (hd 0 d rfl) hp
   ·rw[gE,dH,h1,Jp,h2,Jp];rcases ih (k+1) IX (fun i x e=>by have:=hd (i+1) x (by simpa using e);rw[show k+1+i=k+(i+1) by lia];exact this) h3 with⟨env',h4,h5⟩|h4
    ·exact .inl ⟨env',h4,by rw[Vm,show k+(l'.length+1)=k+1+l'.length by lia];exact h5⟩
    ·exact .inr h4
   ·right;rw[gE,dH,h1,Jp,h2,Jp];exact⟨rfl,hz⟩
 intro env hp;have:=key l 0 env (fun i x e=>by rw[Xw];exact e) hp
 rwa [Xw]at this
theorem tw{c:FT}{g:FS}{r:R}{Z:Prop}(P:Nat->PV.Env->Prop)(fin:PV.Env->Prop)(h:∀k env,P k env->(∃IM,c env=.ok (false,IM)/\fin IM)\/(∃IM,c env=.ok (true,IM)/\((∃IX k',g IM=.ok (.nx IX)/\k'<k/\P k' IX)\/(g IM=.ok (.rt r)/\Z)))):
  ∀n k env,k<n->P k env->(∃env',cT c g n env=.ok (.nx env')/\fin env')\/(cT c g n env=.ok (.rt r)/\Z)
 | 0,k,env,hk,_=>absurd hk (ZH _)
 |n+1,k,env,hk,hp=>by
  rcases h k env hp with⟨IM,h1,h2⟩|⟨IM,h1,⟨IX,k',h2,h3,h4⟩|⟨h2,hz⟩⟩
  ·exact .inl ⟨IM,by rw[eD,h1,Jp];rfl,h2⟩
  ·have e:cT c g (n+1) env=cT c g n IX:=by
    rw[eD,h1,Jp];dsimp only;rw[Vn rfl,h2,Jp]
   rw[e];exact tw P fin h n k' IX (by lia) h4
  ·right;refine⟨?_,hz⟩;rw[eD,h1,Jp];dsimp only;rw[Vn rfl,h2,Jp]
def br(k:Nat):List (Int×Pl)->Option (List Int)
 |[]=>some []
 |z::zs=>if z.1<z.2.2.1.getD k 0 then none else(br k zs).map fun r=>(z.1-z.2.2.1.getD k 0+z.2.2.2.getD k 0)::r
theorem qy(k:Nat):∀{zs:List (Int×Pl)}{r:List Int},br k zs=some r->r.length=zs.length
 |[],r,h=>by cases h;rfl
 |z::zs,r,h=>by
  rw[br]at h;split at h
  ·cases h
  ·rw[VW]at h;obtain⟨r',h1,rfl⟩:=h;rw[Vm,Vm,qy k h1]
theorem tF(k:Nat):∀{zs:List (Int×Pl)}{r:List Int}{j:Nat}{z:Int×Pl},br k zs=some r->zs[j]?=some z->¬ z.1<z.2.2.1.getD k 0/\r[j]?=some (z.1-z.2.2.1.getD k 0+z.2.2.2.getD k 0)
 |[],r,j,z,h,e=>by cases e
 |y::zs,r,j,z,h,e=>by
  rw[br]at h;split at h
  ·cases h
  ·rename_i hn;rw[VW]at h;obtain⟨r',h1,rfl⟩:=h;cases j with
   |zero=>
    rw[Ym]at e;cases e;exact⟨hn,rfl⟩
   |succ j=>
    rw[Yk]at e ⊢;exact tF k h1 e
theorem EX(A0 A1 A2:Option R)(k cnt:Nat)(hk:k<cnt)(acc:List Int)(hl:acc.length<=1000)(z:Int×Pl)(hz:Ka z.2 cnt):cW [A0,A1,A2,fq (.int (k:Int)),some (.l .f,.lst (acc.map D.int)),fq (.int z.1),fq (eP z.2)]=if z.1<z.2.2.1.getD k 0 then .ok (.rt (.f,.non)) else .ok (.nx [A0,A1,A2,fq (.int (k:Int)),some (.l .f,.lst ((acc++[z.1-z.2.2.1.getD k 0+z.2.2.2.getD k 0]).map D.int)),fq (.int z.1),fq (eP z.2)]):=by
 have h1:JV (z.2.2.1.map D.int) (k:Int)=some (.int (z.2.2.1.getD k 0)):=lT (by rw[hz.1];exact hk);have h2:JV (z.2.2.2.map D.int) (k:Int)=some (.int (z.2.2.2.getD k 0)):=lT (by rw[hz.2];exact hk);have T4:(acc.map D.int).length<sizeLine:=jH (by rw[bu];lia);unfold cW eP;by_cases h:z.1<z.2.2.1.getD k 0
 ·rw[Vn h];simp only[pv,seval,op,h1,h,XC]
 ·rw[Vt h,VA,gE,V8];simp only[pv,seval,op,h1,h2,at2,h,W3,dJ,T4]
theorem qz(A0 A1 A2:Option R)(k cnt:Nat)(hk:k<cnt):∀(zs:List (Int×Pl)) (acc:List Int) (t5 t6:Option R),acc.length+zs.length<=1000->(∀z∈zs,Ka z.2 cnt)->
  (br k zs=none/\eW (iJ 2 (aH (ay 5) (aH (ay 6) df))) cW (zs.map fun z:Int×Pl=>D.tup [D.int z.1,eP z.2]) [A0,A1,A2,fq (.int (k:Int)),some (.l .f,.lst (acc.map D.int)),t5,t6]=.ok (.rt (.f,.non)))\/
  ∃r u5 u6,br k zs=some r/\eW (iJ 2 (aH (ay 5) (aH (ay 6) df))) cW (zs.map fun z:Int×Pl=>D.tup [D.int z.1,eP z.2]) [A0,A1,A2,fq (.int (k:Int)),some (.l .f,.lst (acc.map D.int)),t5,t6]=.ok (.nx [A0,A1,A2,fq (.int (k:Int)),some (.l .f,.lst ((acc++r).map D.int)),u5,u6])
 |[],acc,t5,t6,_,_=>.inr ⟨[],t5,t6,rfl,by rw[VH];rfl⟩
 |z::zs,acc,t5,t6,hl,hp=>by
  have h1:=EX A0 A1 A2 k cnt hk acc (by rw[Vm]at hl;lia) z (hp z Va);have ha:iJ 2 (aH (ay 5) (aH (ay 6) df)) (D.tup [D.int z.1,eP z.2]) [A0,A1,A2,fq (.int (k:Int)),some (.l .f,.lst (acc.map D.int)),t5,t6]=.ok [A0,A1,A2,fq (.int (k:Int)),some (.l .f,.lst (acc.map D.int)),fq (.int z.1),fq (eP z.2)]:=by simp only[pv,seval]
  rw[gE,dH,ha,Jp,h1,br];by_cases h:z.1<z.2.2.1.getD k 0
  ·left;rw[Vn h,Vn h];exact⟨rfl,by rw[Jp]⟩
  ·rw[Vt h,Vt h,Jp];rcases qz A0 A1 A2 k cnt hk zs (acc++[z.1-z.2.2.1.getD k 0+z.2.2.2.getD k 0]) (fq (.int z.1)) (fq (eP z.2)) (by rw[Vm]at hl;rw[jb,VC];lia) (fun y hy=>hp y (Vb _ hy)) with⟨e1,e2⟩|⟨r,u5,u6,e1,e2⟩
   ·left;exact⟨by rw[e1];rfl,e2⟩
   ·right;refine⟨_,u5,u6,by rw[e1];rfl,?_⟩;rw[Wd]at e2;exact e2
def eN(nY:LNN)(ps:List Pl):D:=.tup [.tup (nY.map D.str),.lst (ps.map eP)]
def eM(m:List Int):D:=.tup (m.map D.int)
theorem rE {nY : LNN} {m : List Nat} (h : m ∈ nY) : pS (nY.map D.str) [.str m] = .ok (.f, .int ((nY.idxOf m : Nat) : Int)) := by
  first
    | (unfold pS
       dsimp only
       rw [fT]
       dsimp only
       rw [Vn h])
    | (unfold pS
       simp only [fT, h, XA])
theorem kI{β:Type}(f:α->D)(g:β->D)(xs:List α)(ys:List β):((xs.map f).zip (ys.map g)).map (fun z=>D.tup [z.1,z.2])=(xs.zip ys).map fun z=>D.tup [f z.1,g z.2]:=by
 rw[List.zip_map,VU];rfl
theorem zU(nY:LNN)(ps:List Pl)(hl:ps.length<=100)(hp:∀p∈ps,Ka p nY.length)(m:List Int)(mv:List Nat)(hm:mv∈nY):
  (br (nY.idxOf mv) (m.zip ps)=none/\ba [eN nY ps,eM m,.str mv]=.ok (.f,.non))\/∃r,br (nY.idxOf mv) (m.zip ps)=some r/\ba [eN nY ps,eM m,.str mv]=.ok (.f,eM r):=by
 have Kc:=rE hm;have hk:=WG hm;generalize nY.idxOf mv=k at Kc hk;unfold ba lI eN eM;rw[bB (h:=by rfl)];rw[av (env':=[fq (.tup [.tup (nY.map D.str),.lst (ps.map eP)]),fq (.tup (m.map D.int)),fq (.str mv),fq (.int (k:Int)),none,none,none]) (by simp only[pv,seval,op,Kc])];rw[av (env':=[fq (.tup [.tup (nY.map D.str),.lst (ps.map eP)]),fq (.tup (m.map D.int)),fq (.str mv),fq (.int (k:Int)),some (.l .f,.lst []),none,none]) (by simp only[pv,seval,op])];rcases qz (fq (.tup [.tup (nY.map D.str),.lst (ps.map eP)])) (fq (.tup (m.map D.int))) (fq (.str mv)) k nY.length hk (m.zip ps) [] none none (by rw[Wl,XS];lia) (fun z hz=>hp _ (Xr (show(z.1,z.2)∈m.zip ps from hz)).2) with⟨e1,e2⟩|⟨r,u5,u6,e1,e2⟩
 ·left;refine⟨e1,?_⟩;rw[V8]at e2;unfold f6;simp only[pv,seval,op,kI,e2]
 ·right;refine⟨r,e1,?_⟩;rw[V8,Xt]at e2;unfold f6 iN;simp only[pv,seval,op,kI,e2]
theorem eqDs_ints:∀a b:List Int,jU (a.map D.int) (b.map D.int)=decide (a=b)
 |[],[]=>rfl
 |[],_::_=>rfl
 |_::_,[]=>rfl
 |x::a,y::b=>by
  rw[gE,gE,jU,eqDs_ints a b,IU,VT];simp
theorem uH(a b:List Int):IU (eM a) (eM b)=decide (a=b):=by
 unfold eM;rw[IU,eqDs_ints]
theorem eV(a:List Int):plainD 40 (eM a)=true:=yV a
theorem oN(l:List (List Int)):plainDs 40 (l.map eM)=true:=by
 induction l with
 |nil=>rfl
 |cons a l ih=>
  rw[gE,plainDs,ih,YG];exact eV a
theorem T5[DecidableEq α]{e:α->D}(he:∀a b,IU (e a) (e b)=decide (a=b))(hp:∀l:List α,plainDs 40 (l.map e)=true)(hq:∀a,plainD 40 (e a)=true)(l:List α)(a:α)(h:a∈l):∃i:Nat,l[i]?=some a/\oi (l.map e) [e a]=.ok (.f,.int (i:Int)):=by
 have e1:(l.map e).any (fun d=>IU d (e a))=true:=by
  rw[Xx,Wa];exact⟨a,h,by show IU (e a) (e a)=true;rw[he,VB rfl]⟩
 have e2:(l.map e).findIdx (fun d=>IU d (e a))=l.findIdx fun x=>decide (x=a):=by
  rw[List.findIdx_map];congr 1
  funext x
  exact he x a
 have h3:(l.findIdx fun x=>decide (x=a))<l.length:=List.findIdx_lt_length_of_exists ⟨a,h,VB rfl⟩;have h4:=ZQ (p:=fun x=>decide (x=a)) (xs:=l) (w:=h3);refine⟨l.findIdx fun x=>decide (x=a),by rw[mf h3];congr 1;simpa using h4,?_⟩;unfold oi;dsimp only;rw[hq,hp,e1,e2];rfl
theorem lW{α:Type}[DecidableEq α](a:α):∀l:List α,a∉l->((l++[a]).findIdx fun x=>decide (x=a))=l.length
 |[],_=>by simp
 |x::l,h=>by
  rw[Vo,not_or]at h;rw[Wy,List.findIdx_cons,lW a l h.2,VM (fun e=>h.1 e.symm)];rfl
theorem GS[DecidableEq α]{e:α->D}(he:∀a b,IU (e a) (e b)=decide (a=b))(hp:∀l:List α,plainDs 40 (l.map e)=true)(hq:∀a,plainD 40 (e a)=true)(l:List α)(a:α)(h:a∉l):oi (l.map e++[e a]) [e a]=.ok (.f,.int (l.length:Int)):=by
 have e0:l.map e++[e a]=(l++[a]).map e:=by rw[VA];rfl
 have e1:((l++[a]).map e).any (fun d=>IU d (e a))=true:=by
  rw[Xx,Wa];exact⟨a,Vd _ (Vx.mpr rfl),by show IU (e a) (e a)=true;rw[he,VB rfl]⟩
 have e2:((l++[a]).map e).findIdx (fun d=>IU d (e a))=l.length:=by
  rw[List.findIdx_map];rw[<-lW a l h];congr 1
  funext x
  exact he x a
 unfold oi;dsimp only;rw[e0,hq,hp,e1,e2];rfl
theorem IE[DecidableEq α]{e:α->D}(he:∀a b,IU (e a) (e b)=decide (a=b))(hp:∀l:List α,plainDs 40 (l.map e)=true)(hq:∀a,plainD 40 (e a)=true)(l:List α)(a:α):sy (e a) (.lst (l.map e))=.ok (.f,.bl (!decide (a∈l))):=by
 have e1:uQ (e a) (l.map e)=decide (a∈l):=by
  unfold uQ;rw[Xx,VT,Wa,Vq];constructor
  ·rintro⟨x,hx,e1⟩;have e1:IU (e x) (e a)=true:=e1;rw[he,Vq]at e1;rw[<-e1];exact hx
  ·intro h;refine⟨a,h,?_⟩;show IU (e a) (e a)=true;rw[he,Vq]
 unfold sy LV;dsimp only;rw[hq,hp,Wx,Vn rfl,e1];rfl
structure Rm(nY:LNN)(ps:List Pl)(S:List (List Int))(A:List IY)(m:Nat):Prop where
 nd:S.Nodup
 z:S[0]?=some (ps.map (·.1))
 ln:∀s∈S,s.length=ps.length
 le:S.length<=8
 ab:∀a∈A,a.2.1∈nY/\∃i j:Nat,i<m/\a.1=(i:Int)/\a.2.2=(j:Int)/\∃s t,S[i]?=some s/\S[j]?=some t/\br (nY.idxOf a.2.1) (s.zip ps)=some t
 rc:∀j:Nat,1<=j->j<S.length->∃a∈A,a.2.2=(j:Int)/\∃b:Nat,b<j/\a.1=(b:Int)
variable{ps:List Pl}{A:List IY}
theorem Rm.more{S:List (List Int)}{m m':Nat}(r:Rm nY ps S A m)(h:m<=m'):Rm nY ps S A m':=⟨r.nd,r.z,r.ln,r.le,fun a ha=>by
 obtain⟨h1,i,j,h2,h3⟩:=r.ab a ha;exact⟨h1,i,j,by lia,h3⟩,r.rc⟩
variable{d i:Nat}{mv:List Nat}
theorem Rm.old{S:List (List Int)}(r:Rm nY ps S A (d+1))(hn:mv∈nY){s t:List Int}(hs:S[d]?=some s)(ht:S[i]?=some t)(hf:br (nY.idxOf mv) (s.zip ps)=some t):Rm nY ps S (A++[((d:Int),mv,(i:Int))]) (d+1):=by
 refine⟨r.nd,r.z,r.ln,r.le,fun a ha=>?_,fun j j1 j2=>?_⟩
 ·rcases kB ha with ha|ha
  ·exact r.ab a ha
  ·rw[iC ha];exact⟨hn,d,i,by lia,rfl,rfl,s,t,hs,ht,hf⟩
 ·obtain⟨a,ha,q⟩:=r.rc j j1 j2;exact⟨a,Vj _ ha,q⟩
theorem Rm.new{S:List (List Int)}(r:Rm nY ps S A (d+1))(hn:mv∈nY){s t:List Int}(hs:S[d]?=some s)(ht:t∉S)(hf:br (nY.idxOf mv) (s.zip ps)=some t)(h8:S.length<8):Rm nY ps (S++[t]) (A++[((d:Int),mv,(S.length:Int))]) (d+1):=by
 have hd:=(kl hs).1;have hl:(S++[t]).length=S.length+1:=by rw[jb];rfl
 have up:∀{i:Nat}{x:List Int},S[i]?=some x->(S++[t])[i]?=some x:=fun{i x} h=>by
  rw[V1 (kl h).1];exact h
 refine⟨VE.mpr ⟨r.nd,VN.mpr ⟨Wn,Wu⟩,fun x hx y hy=>?_⟩,up r.z,fun x hx=>?_,by lia,fun a ha=>?_,fun j j1 j2=>?_⟩
 ·rw[iC hy];rintro rfl;exact ht hx
 ·rcases kB hx with hx|hx
  ·exact r.ln x hx
  ·rw[iC hx,qy _ hf,XS,r.ln s (VF hs),Nat.min_self]
 ·rcases kB ha with ha|ha
  ·obtain⟨h1,i,j,h2,h3,h4,x,y,h5,h6,h7⟩:=r.ab a ha;exact⟨h1,i,j,h2,h3,h4,x,y,up h5,up h6,h7⟩
  ·rw[iC ha];exact⟨hn,d,S.length,by lia,rfl,rfl,s,t,up hs,by rw[Wq (Vl _),ZA];rfl,hf⟩
 ·by_cases e:j=S.length
  ·subst e;exact⟨_,Vd _ (Vx.mpr rfl),rfl,d,hd,rfl⟩
  ·obtain⟨a,ha,q⟩:=r.rc j j1 (by lia);exact⟨a,Vj _ ha,q⟩
theorem gF(t:List Int):cw (eM t)=true:=by
 unfold eM;rw[c8,IW]
theorem run_in(nY:LNN)(ps:List Pl)(hl:ps.length<=100)(hp:∀p∈ps,Ka p nY.length)(S:List (List Int))(A:List IY)(hA:A.length<=1000)(d:Nat)(r:Rm nY ps S A (d+1))(hd:d<S.length)(mv:List Nat)(hn:mv∈nY)(t6:Option R):
  (∃(S':List (List Int)) (A':List IY) (u6:Option R),Rm nY ps S' A' (d+1)/\S.length<=S'.length/\A'.length<=A.length+1/\dw [fq (eN nY ps),fq (.int 8),some (.l .f,.lst (S.map eM)),some (.l .f,.lst (A.map eA)),fq (.int ((d:Nat):Int)),fq (.str mv),t6]=.ok (.nx [fq (eN nY ps),fq (.int 8),some (.l .f,.lst (S'.map eM)),some (.l .f,.lst (A'.map eA)),fq (.int ((d:Nat):Int)),fq (.str mv),u6]))\/
  (dw [fq (eN nY ps),fq (.int 8),some (.l .f,.lst (S.map eM)),some (.l .f,.lst (A.map eA)),fq (.int ((d:Nat):Int)),fq (.str mv),t6]=.ok (.rt (.f,.non))/\∃S A m,Rm nY ps S A m/\S.length=8):=by
 have Ru:S[d]?=some S[d]:=mf hd;have LC:JV (S.map eM) (d:Int)=some (eM S[d]):=fB (by rw[Vs,Ru];rfl);have h8:=r.le;have hzA:(A.map eA).length<sizeLine:=jH (by rw[bu];lia);have hzS:(S.map eM).length<sizeLine:=jH (by rw[bu];lia);have SR:cw .non=true:=rfl;unfold dw;rcases zU nY ps hl hp S[d] mv hn with⟨hf,e⟩|⟨t,hf,e⟩
 ·refine .inl ⟨S,A,fq .non,r,Vl _,by lia,?_⟩;rw[av (env':=[fq (eN nY ps),fq (.int 8),some (.l .f,.lst (S.map eM)),some (.l .f,.lst (A.map eA)),fq (.int ((d:Nat):Int)),fq (.str mv),fq .non]) (by simp only[pv,seval,op,LC,e,SR])];simp only[pv,seval,op,mT,dJ]
 ·have hft:=gF t;have Qu:=IE uH oN eV S t;have T6:isnO (eM t) .non=.ok (.f,.bl true):=id rfl;rw[av (env':=[fq (eN nY ps),fq (.int 8),some (.l .f,.lst (S.map eM)),some (.l .f,.lst (A.map eA)),fq (.int ((d:Nat):Int)),fq (.str mv),fq (eM t)]) (by simp only[pv,seval,op,LC,e,hft])];by_cases hm:t∈S
  ·obtain⟨i,hi,Kc⟩:=T5 uH oN eV S t hm;refine .inl ⟨S,A++[((d:Int),mv,(i:Int))],fq (eM t),r.old hn Ru hi hf,Vl _,by rw[jb];exact Vl _,?_⟩;rw[VA];simp only[pv,seval,op,T6,Qu,hm,XC,V4,dJ,ti,Kc,hzA];rfl
  ·by_cases h9:S.length=8
   ·right;refine⟨?_,S,A,d+1,r,h9⟩;have he:((S.length:Int)==8)=true:=by rw[h9];rfl
    simp only[pv,seval,op,T6,Qu,hm,W3,We,bu,he]
   ·have he:((S.length:Int)==8)=false:=by
     rw[Wf];lia
    have Kc:=GS uH oN eV S t hm;refine .inl ⟨S++[t],A++[((d:Int),mv,(S.length:Int))],fq (eM t),r.new hn Ru hm hf (by lia),by rw[jb];lia,by rw[jb];exact Vl _,?_⟩;rw[VA,VA,gE,V8];have hzS':S.length<sizeLine:=jH (by lia);have hzA':A.length<sizeLine:=jH (by lia);simp only[pv,seval,op,T6,Qu,hm,W3,We,dJ,bu,he,ti,Kc,hzA',hzS'];rfl
theorem B7(nY:LNN)(hn:nY.length<=3)(ps:List Pl)(hl:ps.length<=100)(hp:∀p∈ps,Ka p nY.length):
  (∃S A m,Rm nY ps S A m/\A.length<=24/\b5 [eN nY ps,.int 8]=.ok (.f,.tup [.lst ((isort arcLt A).map eA),.lst (S.map eM)]))\/(b5 [eN nY ps,.int 8]=.ok (.f,.non)/\∃S A m,Rm nY ps S A m/\S.length=8):=by
 unfold b5 mP;rw[bB (h:=by rfl)];have hc:cV (iJ 3 (aH (ay 0) (aH (ay 1) (aH (ay 2) df)))) fU (aJ 0) (ps.map eP) [none,none,none]=.ok ((ps.map (·.1)).map D.int):=by
  rw[bX (r:=fun p:Pl=>D.int p.1) (fun env=>∃t u w,env=[t,u,w]) ps ?_ _ ⟨none,none,none,rfl⟩]
  ·rw[VU];rfl
  ·rintro p _ env ⟨t,u,w,rfl⟩;exact⟨[fq (.int p.1),fq (.tup (p.2.1.map D.int)),fq (.tup (p.2.2.map D.int))],by unfold eP;simp only[pv,seval],.f,_,rfl,_,_,_,rfl⟩
 have hlen:((ps.map (·.1)).map D.int).length<=sizeLine:=bS (by rw[bu,bu];lia);have M0:=IW (ps.map (·.1));rw[av (env':=[fq (eN nY ps),fq (.int 8),some (.l .f,.lst [eM (ps.map (·.1))]),none,none,none,none]) (by
  unfold eN eM;simp only[pv,seval,op,hc,hlen,M0])]
 rw[av (env':=[fq (eN nY ps),fq (.int 8),some (.l .f,.lst [eM (ps.map (·.1))]),some (.l .f,.lst []),none,none,none]) (by simp only[pv,seval,op])];rw[av (env':=[fq (eN nY ps),fq (.int 8),some (.l .f,.lst [eM (ps.map (·.1))]),some (.l .f,.lst []),fq (.int 0),none,none]) (by simp only[pv,seval,op])];rcases tw (c:=(Jf (az Mb (ao 4) (aj (aY gH (ag (ao 2) aB)))))) (g:=dy) (r:=(.f,.non)) (Z:=∃S A m,Rm nY ps S A m/\S.length=8)
  (fun k env=>∃S A d t5 t6,Rm nY ps S A d/\d<=S.length/\A.length<=3*d/\k=9-d/\env=[fq (eN nY ps),fq (.int 8),some (.l .f,.lst (S.map eM)),some (.l .f,.lst (A.map eA)),fq (.int ((d:Nat):Int)),t5,t6]) (fun env=>∃S A d t5 t6,Rm nY ps S A d/\d=S.length/\A.length<=3*d/\env=[fq (eN nY ps),fq (.int 8),some (.l .f,.lst (S.map eM)),some (.l .f,.lst (A.map eA)),fq (.int ((d:Nat):Int)),t5,t6]) (by
  rintro k env ⟨S,A,d,t5,t6,r,hd,hA,rfl,rfl⟩;have h8:=r.le;by_cases Jv:d<S.length
  ·refine .inr ⟨[fq (eN nY ps),fq (.int 8),some (.l .f,.lst (S.map eM)),some (.l .f,.lst (A.map eA)),fq (.int ((d:Nat):Int)),t5,t6],?_,?_⟩
   ·have:(d:Int)<(S.length:Int):=by lia
    simp only[pv,seval,op,bu,this,XC]
   ·rcases EW (a:=ay 5) (g:=dw) (e:=D.str) (r:=(.f,.non)) (Z:=∃S A m,Rm nY ps S A m/\S.length=8) nY (fun j env=>∃S' A' t5 t6,Rm nY ps S' A' (d+1)/\S.length<=S'.length/\A'.length<=3*d+j/\env=[fq (eN nY ps),fq (.int 8),some (.l .f,.lst (S'.map eM)),some (.l .f,.lst (A'.map eA)),fq (.int ((d:Nat):Int)),t5,t6]) (by
     rintro j mv env hj ⟨S',A',t5,t6,r',Mw,hA',rfl⟩;have UB:=(kl hj).1;have h8:=r'.le;refine⟨[fq (eN nY ps),fq (.int 8),some (.l .f,.lst (S'.map eM)),some (.l .f,.lst (A'.map eA)),fq (.int ((d:Nat):Int)),fq (.str mv),t6],rfl,?_⟩;rcases run_in nY ps hl hp S' A' (by lia) d r' (by lia) mv (VF hj) t6 with⟨S2,A2,u6,r2,hd2,hA2,e⟩|e
     ·exact .inl ⟨_,e,S2,A2,_,_,r2,by lia,by lia,rfl⟩
     ·exact .inr e) _ ⟨S,A,t5,t6,r.more (by lia),Vl _,by lia,rfl⟩ with⟨env',ef,S',A',Qv,t6',r',Mw,hA',rfl⟩|⟨ef,hz⟩
    ·have h8':=r'.le;refine .inl ⟨_,9-(d+1),?_,by lia,S',A',d+1,Qv,t6',r',by lia,by lia,rfl,rfl⟩;unfold dy;rw[av (env':=_) (by
      unfold gW;unfold eN at ef ⊢;simp only[pv,seval,op];exact ef)]
     unfold jw;simp only[pv,seval,op,YO,Yn];rfl
    ·refine .inr ⟨?_,hz⟩;unfold dy;rw[Jq];unfold gW;unfold eN at ef ⊢;simp only[pv,seval,op,ef]
  ·refine .inl ⟨_,?_,S,A,d,t5,t6,r,by lia,hA,rfl⟩;have:¬ (d:Int)<(S.length:Int):=by lia
   simp only[pv,seval,op,bu,this,W3]) 100000 9 _ (by decide) ⟨[ps.map (·.1)],[],0,none,none,⟨VN.mpr ⟨Wn,Wu⟩,rfl,fun x hx=>by rw[iC hx,bu],by simp,(fun _ h=>nomatch h),fun j j1 j2=>by rw[VC]at j2;lia⟩,V0 _,Vl _,rfl,rfl⟩ with⟨env',ew,S,A,d,t5,t6,r,hd,hA,rfl⟩|⟨ew,hz⟩
 ·have h8:=r.le;left;refine⟨S,A,d,r,by lia,?_⟩;rw[av (env':=_) (by
   unfold gX;exact ew)]
  unfold jx;simp only[pv,seval,op,rD A (by lia)]
 ·right;refine⟨?_,hz⟩;rw[Jq];unfold gX;have ew2:(cT (Jf (az Mb (ao 4) (aj (aY gH (ag (ao 2) aB))))) dy 100000) [fq (eN nY ps),fq (.int 8),some (.l .f,.lst [eM (ps.map (·.1))]),some (.l .f,.lst []),fq (.int 0),none,none]=.ok (.rt (.f,.non)):=ew;rw[ew2];simp only[pv,seval]
theorem EY(p:Pl):cw (eP p)=true:=by
 unfold eP;rw[c8];simp only[flatDs,c8,IW,kH];rfl
theorem B8(ps:List Pl):flatDs (ps.map eP)=true:=by
 rw[cP,WU,VO];exact fun p _=>EY p
theorem lX{α:Type}[DecidableEq α]:∀(l m:List α),l.Nodup->(∀x∈l,x∈m)->l.length<=m.length
 |[],m,_,_=>V0 _
 |a::l,m,nd,h=>by
  rw[VN]at nd;have ha:=h a Va;have:=lX l (m.erase a) nd.2 fun x hx=>(ZN (fun e=>nd.1 (by rw[<-e];exact hx))).mpr (h x (Vb _ hx))
  rw[Yd ha]at this;have:=XI ha;rw[Vm];lia
def gI(nY:LNN)(b:Int):Pl:=(b,nY.map fun _=>1,nY.map fun _=>0)
theorem tG(nY:LNN)(c:Int){k:Nat}(h:k<nY.length):(nY.map fun _=>c).getD k 0=c:=by
 rw[Vi,Vs,mf h];rfl
theorem xo{b:Int}{k:Nat}(hk:k<nY.length){s t:List Int}(hs:s.length=(ps++[gI nY b]).length)(hf:br k (s.zip (ps++[gI nY b]))=some t):1<=s.getD ps.length 0/\t.getD ps.length 0=s.getD ps.length 0-1:=by
 rw[jb,VC]at hs;have Jv:ps.length<s.length:=by lia
 have e:(s.zip (ps++[gI nY b]))[ps.length]?=some (s[ps.length],gI nY b):=by
  rw[X4];exact⟨mf Jv,by rw[Wq (Vl _),ZA];rfl⟩
 obtain⟨h1,h2⟩:=tF k hf e;have e1:(gI nY b).2.1.getD k 0=1:=tG nY 1 hk;have e2:(gI nY b).2.2.getD k 0=0:=tG nY 0 hk;dsimp only at h1 h2;rw[e1]at h1;rw[e1,e2]at h2;have e3:s.getD ps.length 0=s[ps.length]:=by rw[Vi,mf Jv];rfl
 rw[e3,Vi,h2];exact⟨by lia,by show _=_;simp⟩
theorem y1{S:List (List Int)}{m:Nat}(r:Rm nY (ps++[gI nY 1]) S A m):S.length<=1+nY.length:=by
 have hz:=r.z;cases hS:S with
 |nil=>exact V0 _
 |cons s0 tl=>
  rw[hS,Ym,Ys]at hz;have h0:s0.getD ps.length 0=1:=by
   rw[hz,Vi,Vs,Wq (Vl _),ZA];rfl
  have key:∀j:Nat,1<=j->∀s,S[j]?=some s->s.getD ps.length 0=0/\∃mv∈nY,br (nY.idxOf mv) (s0.zip (ps++[gI nY 1]))=some s:=by
   intro j;induction j using Nat.strongRecOn with
   |_ j ih=>
    intro hj s hs;obtain⟨a,ha,e1,b,hb,e2⟩:=r.rc j hj (kl hs).1;obtain⟨hn,i',j',_,e3,e4,x,y,hx,hy,hf⟩:=r.ab a ha;have:i'=b:=by lia
    subst this;have:j'=j:=by lia
    subst this;rw[hs]at hy;cases hy;have hd:=xo (WG hn) (r.ln x (VF hx)) hf;cases i' with
    |zero=>
     rw[hS,Ym,Ys]at hx;subst hx;exact⟨by lia,_,hn,hf⟩
    |succ i'=>
     have:=(ih (i'+1) hb (by lia) x hx).1;lia
  have nd:=r.nd;rw[hS]at nd;have:=lX tl (nY.filterMap fun mv=>br (nY.idxOf mv) (s0.zip (ps++[gI nY 1]))) (VN.mp nd).2 fun s hs=>by
   obtain⟨i,hi⟩:=WT.mp hs;obtain⟨_,mv,LI,hf⟩:=key (i+1) (by lia) s (by rw[hS,Yk];exact hi);exact Yf.mpr ⟨mv,LI,hf⟩
  have h2:=List.length_filterMap_le (fun mv=>br (nY.idxOf mv) (s0.zip (ps++[gI nY 1]))) nY;rw[Vm];lia
theorem qA(nY:LNN)(c:Int):cV (ay 0) fU (aD (.int c)) (nY.map D.str) [none]=.ok ((nY.map fun _=>c).map D.int):=by
 rw[bX (r:=fun _:List Nat=>D.int c) (fun env=>∃t,env=[t]) nY ?_ _ ⟨none,rfl⟩]
 ·rw[VU];rfl
 ·rintro n _ env ⟨t,rfl⟩;exact⟨[fq (.str n)],rfl,.f,_,rfl,_,rfl⟩
theorem IF(ps:List Pl)(hl:ps.length<=100)(d:D):cU (.lst (ps.map eP)) (.lst [d])=.ok (.l .f,.lst (ps.map eP++[d])):=by
 rw[xc,Vn (line_le (by rw[bu,VC];lia))]
structure Nt(nY:LNN)(ps:List Pl)(S:List (List Int))(A:List IY):Prop where
 n0:nY≠[]
 n3:nY.length<=3
 nn:nY.Nodup
 nw:nY.Pairwise (fun a b=>MB b a=false)
 p0:ps≠[]
 p9:ps.length<=9
 po:∀p∈ps,Ka p nY.length
 al:A.length<=24
 rm:∃m,Rm nY ps S A m
theorem GU(ns:List Int)(first:Nat):∃nY ps S A,Nt nY ps S A/\dQ [.lst (ns.map D.int),.int (first:Int)]=.ok (.f,eN nY ps)/\b5 [eN nY ps,.int 8]=.ok (.f,.tup [.lst ((isort arcLt A).map eA),.lst (S.map eM)]):=by
 obtain⟨nY,n0,n3,nn,nw,en⟩:=B6 ns;obtain⟨ps,T7,hp0,hp8,ep⟩:=y0 ns first nY.length (by lia)
 have SQ:=B8 ps;have ML:cw (.tup (nY.map D.str))=true:=by rw[c8,PV.flat_strs]
 have SR:cw .non=true:=rfl;have Qw:∀(x y:List D),flatDs [.lst x,.lst y]=false:=fun _ _=>rfl
 unfold dQ mQ;rw[bB (h:=by rfl)];rw[av (env':=[fq (.lst (ns.map D.int)),fq (.int (first:Int)),fq (.tup (nY.map D.str)),none,none,none,none]) (by simp only[pv,seval,op,en,ML])];rw[av (env':=[fq (.lst (ns.map D.int)),fq (.int (first:Int)),fq (.tup (nY.map D.str)),fq (.int (nY.length:Int)),none,none,none]) (by simp only[pv,seval,op,bu])];rw[av (env':=[fq (.lst (ns.map D.int)),fq (.int (first:Int)),fq (.tup (nY.map D.str)),fq (.int (nY.length:Int)),some (.l .f,.lst (ps.map eP)),none,none]) (by simp only[pv,seval,op,ep,SQ])];rcases B7 nY n3 ps (by lia) T7 with⟨S,A,m,r,hA,er⟩|⟨er,_⟩
 ·refine⟨nY,ps,S,A,⟨n0,n3,nn,nw,hp0,by lia,T7,hA,⟨m,r⟩⟩,?_,er⟩;unfold eN at er ⊢;simp only[pv,seval,op,er,Qw,dJ,o_isnT,EI,EJ]
 ·unfold eN at er;rw[av (env':=[fq (.lst (ns.map D.int)),fq (.int (first:Int)),fq (.tup (nY.map D.str)),fq (.int (nY.length:Int)),fq (.lst (ps.map eP)),none,none]) (by simp only[pv,seval,op,er,SR,mT,dJ])];have c1:=qA nY 1;have c0:=qA nY 0;have l1:((nY.map fun _=>(1:Int)).map D.int).length<=sizeLine:=bS (by rw[bu,bu];lia);have l0:((nY.map fun _=>(0:Int)).map D.int).length<=sizeLine:=bS (by rw[bu,bu];lia);have f1:=IW (nY.map fun _=>(1:Int));have f0:=IW (nY.map fun _=>(0:Int));rw[av (env':=[fq (.lst (ns.map D.int)),fq (.int (first:Int)),fq (.tup (nY.map D.str)),fq (.int (nY.length:Int)),fq (.lst (ps.map eP)),fq (.tup ((nY.map fun _=>(1:Int)).map D.int)),none]) (by simp only[pv,seval,op,c1,l1,f1])];rw[av (env':=[fq (.lst (ns.map D.int)),fq (.int (first:Int)),fq (.tup (nY.map D.str)),fq (.int (nY.length:Int)),fq (.lst (ps.map eP)),fq (.tup ((nY.map fun _=>(1:Int)).map D.int)),fq (.tup ((nY.map fun _=>(0:Int)).map D.int))]) (by simp only[pv,seval,op,c0,l0,f0])];have Pm:∀b:Int,(ps++[gI nY b]).map eP=ps.map eP++[.tup [.int b,.tup ((nY.map fun _=>(1:Int)).map D.int),.tup ((nY.map fun _=>(0:Int)).map D.int)]]:=fun b=>by
   rw[VA];rfl
  have OY:∀b:Int,∀p∈ps++[gI nY b],Ka p nY.length:=fun b p hp=>by
   rcases kB hp with hp|hp
   ·exact T7 p hp
   ·rw[iC hp];exact⟨bu _,bu _⟩
  have MG:∀b:Int,(ps++[gI nY b]).length<=9:=fun b=>by
   rw[jb,VC];lia
  have R6:∀b:Int,ps++[gI nY b]≠[]:=fun b h=>by simp at h
  have T8:=fun d=>IF ps (by lia) d
  have lo:((ps.map eP).length)<=100:=by rw[bu];lia
  rcases B7 nY n3 (ps++[gI nY 2]) (by have:=MG 2;lia) (OY 2) with⟨S,A,m,r,hA,er2⟩|⟨er2,_⟩
  ·refine⟨nY,ps++[gI nY 2],S,A,⟨n0,n3,nn,nw,R6 2,MG 2,OY 2,hA,⟨m,r⟩⟩,?_,er2⟩;unfold eN at er2 ⊢;rw[Pm]at er2 ⊢;simp only[pv,seval,op,T8,er2,Qw,dJ,o_isnT,EI,EJ]
  ·rcases B7 nY n3 (ps++[gI nY 1]) (by have:=MG 1;lia) (OY 1) with⟨S,A,m,r,hA,er3⟩|⟨_,S,A,m,r,h8⟩
   ·refine⟨nY,ps++[gI nY 1],S,A,⟨n0,n3,nn,nw,R6 1,MG 1,OY 1,hA,⟨m,r⟩⟩,?_,er3⟩;unfold eN at er2 ⊢;rw[Pm]at er2 ⊢;rw[av (env':=[fq (.lst (ns.map D.int)),fq (.int (first:Int)),fq (.tup (nY.map D.str)),fq (.int (nY.length:Int)),fq (.lst (ps.map eP)),fq (.tup ((nY.map fun _=>(1:Int)).map D.int)),fq (.tup ((nY.map fun _=>(0:Int)).map D.int))]) (by simp only[pv,seval,op,T8,er2,SR,mT,dJ])];simp only[pv,seval,op,T8]
   ·have:=y1 r;lia
theorem Nt.ra{S:List (List Int)}(n:Nt nY ps S A):Ra nY A S.length:=by
 obtain⟨m,r⟩:=n.rm;have h8:=r.le;have NT:=n.al;have h0:=(kl r.z).1;refine⟨by lia,by lia,fun a ha=>?_,fun a ha=>(r.ab a ha).1,r.rc⟩;obtain⟨_,i,j,_,e1,e2,s,t,hs,ht,_⟩:=r.ab a ha;have h1:=(kl hs).1;have h2:=(kl ht).1;lia
theorem EZ(a b:Int):IU (.int a) (.int b)=decide (a=b):=by
 rw[IU,VT];simp
theorem xp(a:Int):plainD 40 (.int a)=true:=rfl
theorem tH(l:List Int):plainDs 40 (l.map D.int)=true:=fS _ _
structure Bd(nY:LNN)(ap:List IY):Prop where
 b:∀a∈ap,(0<=a.1/\a.1<12)/\0<=a.2.2/\a.2.2<12
 n:∀a∈ap,a.2.1∈nY
structure Od(ap:List IY)(O1:List Int)(d:Nat)(pre:List IY):Prop where
 nd:O1.Nodup
 z:O1[0]?=some 0
 bd:∀x∈O1,0<=x/\x<12
 rc:∀j:Nat,1<=j->∀x,O1[j]?=some x->∃a∈ap,a.2.2=x/\∃b:Nat,b<j/\O1[b]?=some a.1
 clo:∀i:Nat,i<d->∀x,O1[i]?=some x->∀a∈ap,a.1=x->a.2.2∈O1
 cur:∀x,O1[d]?=some x->∀a∈pre,a.1=x->a.2.2∈O1
variable{O1:List Int}{pre:List IY}
theorem Od.le(o:Od ap O1 d pre):O1.length<=12:=jI 12 o.nd o.bd
variable{c:Int}
theorem Od.skip(o:Od ap O1 d pre)(hc:O1[d]?=some c)(h:a.1≠c\/a.2.2∈O1):Od ap O1 d (pre++[a]):=by
 refine⟨o.nd,o.z,o.bd,o.rc,o.clo,fun x hx b hb e=>?_⟩;rw[hc,Ys]at hx;subst hx;rcases kB hb with hb|hb
 ·exact o.cur c hc b hb e
 ·rw[Vx]at hb;subst hb;exact h.resolve_left fun n=>n e
theorem Od.take(o:Od ap O1 d pre)(hc:O1[d]?=some c)(ha:a∈ap)(hb:0<=a.2.2/\a.2.2<12)(h1:a.1=c)(h2:a.2.2∉O1):Od ap (O1++[a.2.2]) d (pre++[a]):=by
 have up:∀{i:Nat}{x:Int},O1[i]?=some x->(O1++[a.2.2])[i]?=some x:=fun h=>xl h
 have hd:=(kl hc).1;refine⟨VE.mpr ⟨o.nd,VN.mpr ⟨Wn,Wu⟩,fun x hx y hy=>?_⟩,up o.z,fun x hx=>?_,fun j j1 x hx=>?_,fun i hi x hx b hb e=>?_,fun x hx b hb e=>?_⟩
 ·rw[iC hy];rintro rfl;exact h2 hx
 ·rcases kB hx with hx|hx
  ·exact o.bd x hx
  ·rw[iC hx];exact hb
 ·rcases mU hx with hx|⟨rfl,rfl⟩
  ·obtain⟨b,hb,e1,k,hk,e2⟩:=o.rc j j1 x hx;exact⟨b,hb,e1,k,hk,up e2⟩
  ·exact⟨a,ha,rfl,d,hd,by rw[h1];exact up hc⟩
 ·rw[V1 (by lia)]at hx;exact Vj _ (o.clo i hi x hx b hb e)
 ·rw[V1 hd]at hx;rcases kB hb with hb|hb
  ·exact Vj _ (o.cur x hx b hb e)
  ·rw[Vx]at hb;subst hb;exact Vd _ (Vx.mpr rfl)
theorem Od.next{L:List IY}(o:Od ap O1 d L)(hL:∀a∈ap,a∈L):Od ap O1 (d+1) []:=by
 refine⟨o.nd,o.z,o.bd,o.rc,fun i hi x hx b hb e=>?_,fun x _ b hb=>nomatch hb⟩;by_cases h:i=d
 ·subst h;exact o.cur x hx b (hL b hb) e
 ·exact o.clo i (by lia) x hx b hb e
theorem E1(ap:List IY)(O1:List Int)(hO:O1.length<=12)(d:Nat)(c:Int)(hc:O1[d]?=some c)(a:IY):c5 [fq (.lst (ap.map eA)),some (.l .f,.lst (O1.map D.int)),fq (.int (d:Int)),fq (.int a.1),fq (.str a.2.1),fq (.int a.2.2),none,none]=.ok (.nx [fq (.lst (ap.map eA)),some (.l .f,.lst ((if a.1=c/\a.2.2∉O1 then O1++[a.2.2] else O1).map D.int)),fq (.int (d:Int)),fq (.int a.1),fq (.str a.2.1),fq (.int a.2.2),none,none]):=by
 have LC:JV (O1.map D.int) (d:Int)=some (.int c):=fB (by rw[Vs,hc];rfl);have hz:(O1.map D.int).length<sizeLine:=jH (by rw[bu];lia);unfold c5;by_cases h1:a.1=c
 ·have e1:(a.1==c)=true:=V5.mpr h1;by_cases h2:a.2.2∈O1
  ·rw[Vt (fun z=>z.2 h2)];simp only[pv,seval,op,LC,e1,h2,XC,V4,dJ]
  ·rw[Vn ⟨h1,h2⟩,VA];simp only[pv,seval,op,LC,e1,h2,W3,We,hz]
 ·rw[Vt (fun z=>h1 z.1)];have e1:(a.1==c)=false:=Wf.mpr h1;simp only[pv,seval,op,LC,e1,dJ]
theorem B9(ap:List IY)(hl:ap.length<64)(hb:∀a∈ap,0<=a.2.2/\a.2.2<12):∃O1 t3 t4 t5,Od ap O1 O1.length []/\eR [fq (.lst (ap.map eA)),some (.l .f,.lst [.int 0]),fq (.int 0),none,none,none,none,none]=.ok (.nx [fq (.lst (ap.map eA)),some (.l .f,.lst (O1.map D.int)),fq (.int (O1.length:Int)),t3,t4,t5,none,none]):=by
 have mem:∀{a:IY},a∈isort arcLt ap<->a∈ap:=qu arcLt;have R7:=rD ap hl;generalize isort arcLt ap=L at mem R7;obtain⟨env',ew,O1,d,t3,t4,t5,o,hd,rfl⟩:=qp (c:=(Jf (az Mb (ao 2) (aj (aY gH (ag (ao 1) aB)))))) (g:=d9)
  (fun k env=>∃O1 d t3 t4 t5,Od ap O1 d []/\d<=O1.length/\k=13-d/\env=[fq (.lst (ap.map eA)),some (.l .f,.lst (O1.map D.int)),fq (.int ((d:Nat):Int)),t3,t4,t5,none,none]) (fun env=>∃O1 d t3 t4 t5,Od ap O1 d []/\d=O1.length/\env=[fq (.lst (ap.map eA)),some (.l .f,.lst (O1.map D.int)),fq (.int ((d:Nat):Int)),t3,t4,t5,none,none]) (by
  rintro k env ⟨O1,d,t3,t4,t5,o,hd,rfl,rfl⟩;have T9:=o.le;by_cases Jv:d<O1.length
  ·refine .inr ⟨[fq (.lst (ap.map eA)),some (.l .f,.lst (O1.map D.int)),fq (.int ((d:Nat):Int)),t3,t4,t5,none,none],?_,?_⟩
   ·have:(d:Int)<(O1.length:Int):=by lia
    simp only[pv,seval,op,bu,this,XC]
   ·obtain⟨c,hc⟩:∃c,O1[d]?=some c:=⟨O1[d],mf Jv⟩
    obtain⟨env',ef,O2,Ua,t4',Qv,o',N1,rfl⟩:=for_list (a:=iJ 3 (aH (ay 3) (aH (ay 4) (aH (ay 5) df)))) (g:=c5) (e:=eA) L (fun j env=>∃O1 t3 t4 t5,Od ap O1 d (L.take j)/\O1[d]?=some c/\env=[fq (.lst (ap.map eA)),some (.l .f,.lst (O1.map D.int)),fq (.int ((d:Nat):Int)),t3,t4,t5,none,none]) (by
     rintro j a env hj ⟨O1,t3,t4,t5,o,hc,rfl⟩;have R8:=mem.mp (VF hj);have ht:L.take (j+1)=L.take j++[a]:=by rw[XT,hj];rfl
     refine⟨[fq (.lst (ap.map eA)),some (.l .f,.lst (O1.map D.int)),fq (.int ((d:Nat):Int)),fq (.int a.1),fq (.str a.2.1),fq (.int a.2.2),none,none],by unfold eA;simp only[pv,seval],_,E1 ap O1 o.le d c hc a,_,_,_,_,?_,?_,rfl⟩
     ·rw[ht];split
      ·rename_i h;exact o.take hc R8 (hb a R8) h.1 h.2
      ·rename_i h;exact o.skip hc (by
        by_cases h1:a.1=c
        ·exact .inr (Decidable.not_not.mp fun h2=>h ⟨h1,h2⟩)
        ·exact .inl h1)
     ·split
      ·exact xl hc
      ·exact hc) _ ⟨O1,t3,t4,t5,by rw[Yu];exact o,hc,rfl⟩
    rw[WZ]at o';have hlt':=(kl N1).1;refine⟨_,13-(d+1),?_,by lia,O2,d+1,Ua,t4',Qv,o'.next fun a ha=>mem.mpr ha,by lia,rfl,rfl⟩;unfold d9;rw[av (env':=_) (by
     unfold g8;simp only[pv,seval,op,R7];exact ef)]
    unfold gA;simp only[pv,seval,op,YO,Yn]
  ·refine .inl ⟨_,?_,O1,d,t3,t4,t5,o,by lia,rfl⟩;have:¬ (d:Int)<(O1.length:Int):=by lia
   simp only[pv,seval,op,bu,this,W3]) 100000 13 _ (by decide) ⟨[0],0,none,none,none,⟨VN.mpr ⟨Wn,Wu⟩,rfl,fun x hx=>by rw[iC hx];lia,fun j j1 x hx=>by
    have:=(kl hx).1;rw[VC]at this;lia,fun i hi=>absurd hi (ZH _),fun x _ b hb=>nomatch hb⟩,V0 _,rfl,rfl⟩
 subst hd;refine⟨O1,t3,t4,t5,o,?_⟩;unfold eR;exact ew
structure Kp(nY:LNN)(ap:List IY)(O1:List Int)(pre:List IY)(K:List IY):Prop where
 b:∀a∈K,a.2.1∈nY/\(0<=a.1/\a.1<(O1.length:Int))/\0<=a.2.2/\a.2.2<(O1.length:Int)
 h:∀a∈pre,∀i k:Nat,O1[i]?=some a.1->O1[k]?=some a.2.2->((i:Int),a.2.1,(k:Int))∈K
 l:K.length<=pre.length
 nd:K.Nodup
theorem y3(nd:l.Nodup)(h1:l[i]?=some x)(h2:l[j]?=some x):i=j:=by
 obtain⟨a1,e1⟩:=kl h1;obtain⟨a2,e2⟩:=kl h2;have h3:=nd.idxOf_getElem i a1;have h4:=nd.idxOf_getElem j a2;rw[e1]at h3;rw[e2]at h4;exact h3.symm.trans h4
theorem E2(nY:LNN)(ap:List IY)(O1:List Int)(o:Od ap O1 O1.length [])(pre K:List IY)(kp:Kp nY ap O1 pre K)(JS:pre.length<=100)(a:IY)(ha:a∈ap)(hn:a.2.1∈nY)(D2 t7:Option R):∃K' u7,Kp nY ap O1 (pre++[a]) K'/\cZ [fq (.lst (ap.map eA)),some (.l .f,.lst (O1.map D.int)),D2,fq (.int a.1),fq (.str a.2.1),fq (.int a.2.2),some (.l .f,.lst (K.map eA)),t7]=.ok (.nx [fq (.lst (ap.map eA)),some (.l .f,.lst (O1.map D.int)),D2,fq (.int a.1),fq (.str a.2.1),fq (.int a.2.2),some (.l .f,.lst (K'.map eA)),u7]):=by
 have JO:=tf a.1 O1;have QX:=kp.l;unfold cZ;by_cases h1:a.1∈O1
 ·rw[VB h1]at JO;obtain⟨i,hi,ei⟩:=T5 EZ tH xp O1 a.1 h1;have h2:=o.clo i (kl hi).1 _ hi a ha rfl;obtain⟨k,hk,ek⟩:=T5 EZ tH xp O1 a.2.2 h2;have li:=(kl hi).1;have lk:=(kl hk).1;have R9:=yX K ((i:Int),a.2.1,(k:Int));have hz:(K.map eA).length<sizeLine:=jH (by rw[bu];lia);have ee:eA ((i:Int),a.2.1,(k:Int))=.tup [.int (i:Int),.str a.2.1,.int (k:Int)]:=rfl;rw[ee]at R9;by_cases hm:((i:Int),a.2.1,(k:Int))∈K
  ·rw[VB hm]at R9;refine⟨K,fq (.tup [.int (i:Int),.str a.2.1,.int (k:Int)]),⟨kp.b,fun b hb i' k' e1 e2=>?_,by rw[jb];lia,kp.nd⟩,?_⟩
   ·rcases kB hb with hb|hb
    ·exact kp.h b hb i' k' e1 e2
    ·rw[Vx]at hb;subst hb;rw[y3 o.nd e1 hi,y3 o.nd e2 hk];exact hm
   ·simp only[pv,seval,op,JO,ti,ei,ek,R9,V4,dJ]
  ·rw[VM hm]at R9;refine⟨K++[((i:Int),a.2.1,(k:Int))],fq (.tup [.int (i:Int),.str a.2.1,.int (k:Int)]),⟨fun b hb=>?_,fun b hb i' k' e1 e2=>?_,by rw[jb,jb];simp only[VC];lia,VE.mpr ⟨kp.nd,by simp,fun x hx y hy e=>hm (by rw[<-iC hy,<-e];exact hx)⟩⟩,?_⟩
   ·rcases kB hb with hb|hb
    ·exact kp.b b hb
    ·rw[iC hb];exact⟨hn,by dsimp only;lia,by dsimp only;lia,by dsimp only;lia⟩
   ·rcases kB hb with hb|hb
    ·exact Vj _ (kp.h b hb i' k' e1 e2)
    ·rw[Vx]at hb;subst hb;rw[y3 o.nd e1 hi,y3 o.nd e2 hk];exact Vd _ (Vx.mpr rfl)
   ·rw[VA,gE,V8,ee];simp only[pv,seval,op,JO,ti,ei,ek,R9,We,hz]
 ·rw[VM h1]at JO;refine⟨K,t7,⟨kp.b,fun b hb i' k' e1 e2=>?_,by rw[jb];lia,kp.nd⟩,?_⟩
  ·rcases kB hb with hb|hb
   ·exact kp.h b hb i' k' e1 e2
   ·rw[Vx]at hb;subst hb;exact absurd (VF e1) h1
  ·simp only[pv,seval,op,JO,dJ]
theorem tI(nY:LNN)(ap:List IY)(hl:ap.length<=60)(bd:Bd nY ap):∃K mZ,Ra nY K mZ/\K.Nodup/\K.length<=ap.length/\cc [.lst (ap.map eA)]=.ok (.l .f,.lst ((isort arcLt K).map eA)):=by
 obtain⟨O1,t3,t4,t5,o,ew⟩:=B9 ap (by lia) fun a ha=>(bd.b a ha).2
 have T9:=o.le;have hz0:=(kl o.z).1;unfold cc jB;rw[bB (h:=by rfl)];rw[av (env':=[fq (.lst (ap.map eA)),some (.l .f,.lst [.int 0]),none,none,none,none,none,none]) (by simp only[pv,seval,op])];rw[av (env':=[fq (.lst (ap.map eA)),some (.l .f,.lst [.int 0]),fq (.int 0),none,none,none,none,none]) (by simp only[pv,seval,op])];rw[av ew];unfold gB;rw[av (env':=[fq (.lst (ap.map eA)),some (.l .f,.lst (O1.map D.int)),fq (.int (O1.length:Int)),t3,t4,t5,some (.l .f,.lst []),none]) (by simp only[pv,seval,op])];obtain⟨env',ef,K,u3,u4,u5,u7,kp,rfl⟩:=for_list (a:=iJ 3 (aH (ay 3) (aH (ay 4) (aH (ay 5) df)))) (g:=cZ) (e:=eA) ap (fun j env=>∃K t3 t4 t5 t7,Kp nY ap O1 (ap.take j) K/\env=[fq (.lst (ap.map eA)),some (.l .f,.lst (O1.map D.int)),fq (.int (O1.length:Int)),t3,t4,t5,some (.l .f,.lst (K.map eA)),t7]) (by
  rintro j a env hj ⟨K,t3,t4,t5,t7,kp,rfl⟩;have R8:=VF hj;have ht:ap.take (j+1)=ap.take j++[a]:=by rw[XT,hj];rfl
  obtain⟨K',u7,kp',e⟩:=E2 nY ap O1 o (ap.take j) K kp (by rw[VZ];lia) a R8 (bd.n a R8) (fq (.int (O1.length:Int))) t7;exact⟨_,by unfold eA;simp only[pv,seval],_,e,K',_,_,_,u7,by rw[ht];exact kp',rfl⟩) _ ⟨[],t3,t4,t5,none,⟨(fun _ h=>nomatch h),(fun _ h=>by rw[Yu]at h;exact nomatch h),V0 _,Wu⟩,rfl⟩
 rw[WZ]at kp;have QX:=kp.l;rw[V8]at ef;rw[av (env':=_) (by
  unfold g0;simp only[pv,seval,op];exact ef)]
 unfold gy;refine⟨K,O1.length,⟨by lia,by lia,fun a ha=>(kp.b a ha).2,fun a ha=>(kp.b a ha).1,fun j j1 j2=>?_⟩,kp.nd,QX,by simp only[pv,seval,op,rD K (by lia)]⟩;obtain⟨a,ha,e1,b,Ub,e2⟩:=o.rc j j1 _ (mf j2);exact⟨_,kp.h a ha b j e2 (by rw[e1];exact mf j2),rfl,b,Ub,rfl⟩
theorem E4(ap:List IY):eqO (.lst (ap.map eA)) (.lst [])=.ok (.f,.bl ap.isEmpty):=by
 unfold eqO;rw[plainD,mV 36 ap];cases ap <;> rfl
theorem y4(nY:LNN)(h0:nY≠[])(x:Int):∃m∈nY,IZ (.tup (nY.map D.str)) (.int (x%(nY.length:Int)))=.ok (.f,.str m):=by
 have hp:=YJ.mpr h0;have hb:=eY x (nY.length:Int) (by lia);obtain⟨k,ek⟩:=VP hb.1;have hk:k<nY.length:=by lia
 refine⟨nY[k],XG hk,?_⟩;rw[ek,Eu,ED hk]
theorem xq(x y:List D)(h:x.length+y.length<=1000):cU (.lst x) (.lst y)=.ok (.l .f,.lst (x++y)):=by
 rw[xc,Vn (line_le (by lia))]
theorem zV(h:l≠[]):PV.maxD [.lst (l.map D.int)]=.ok (.f,.int (maxOf l)):=by
 unfold PV.maxD;dsimp only;rw[zT];cases l with
 |nil=>exact absurd rfl h
 |cons a l=>rfl
def tops(ap:List IY):List Int:=0::ap.map iE
theorem E5(nY:LNN)(h0:nY≠[])(hn:nY.length<=3)(ap:List IY)(hl:ap.length<=55)(bd:Bd nY ap)(nb:Int):∃Lr,Bd nY Lr/\Lr.length<=ap.length+1/\dR [.tup (nY.map D.str),.lst (ap.map eA),.int nb]=.ok (.l .f,.lst (Lr.map eA)):=by
 have hc:cV (ay 0) fU (aY PV.maxD (ag (aj (az IZ (ao 0) (aj (aD (.int 0))))) (ag (aj (az IZ (ao 0) (aj (aD (.int 2))))) aB))) (ap.map eA) [none]=.ok ((ap.map iE).map D.int):=by
  rw[bX (r:=fun a:IY=>D.int (iE a)) (fun env=>∃t,env=[t]) ap ?_ _ ⟨none,rfl⟩]
  ·rw[VU];rfl
  ·rintro a _ env ⟨t,rfl⟩;refine⟨[fq (eA a)],rfl,.f,[fq (eA a)],?_,_,rfl⟩;unfold eA;simp only[pv,seval,op,at2];rfl
 have K0:((ap.map iE).map D.int).length<=sizeLine:=bS (by rw[bu,bu];lia);have Qw:=IW (ap.map iE);have Ls:=xq [.int 0] ((ap.map iE).map D.int) (by rw[bu,bu,VC];lia);have M1:PV.maxD [.lst ([.int 0]++(ap.map iE).map D.int)]=.ok (.f,.int (maxOf (tops ap))):=zV (l:=tops ap) (by unfold tops;simp);have hM0:0<=maxOf (tops ap):=jJ (ns:=tops ap) (x:=0) (by unfold tops;exact Va);have hM12:maxOf (tops ap)<12:=by
  have:=oJ (ns:=tops ap) (by unfold tops;simp);unfold tops at this;rcases Vo.mp this with e|e
  ·unfold tops;lia
  ·obtain⟨a,ha,e2⟩:=l5 e;have hb:=bd.b a ha;have h3:=(j3 a).2.2;unfold tops;lia
 have UT:∀a∈ap,a.1<=maxOf (tops ap)/\a.2.2<=maxOf (tops ap):=fun a ha=>by
  have h1:iE a<=maxOf (tops ap):=jJ (by unfold tops;exact Vb _ (Wz.mpr ⟨a,ha,rfl⟩));have h2:=j3 a;lia
 unfold dR lK;rw[bB (h:=by rfl)];rw[av (env':=[fq (.tup (nY.map D.str)),fq (.lst (ap.map eA)),fq (.int nb),fq (.int (1+maxOf (tops ap))),none,none,none,none,none,none,none]) (by
  generalize (aY PV.maxD (ag (aj (az IZ (ao 0) (aj (aD (.int 0))))) (ag (aj (az IZ (ao 0) (aj (aD (.int 2))))) aB)))=GG at hc ⊢;generalize (ap.map iE).map D.int=TT at *;simp only[pv,seval,op,hc,K0,Qw];simp only[Wy,Xt]at Ls M1;simp only[pv,seval,op,Ls,M1])]
 have hcb:1<=1+maxOf (tops ap)/\1+maxOf (tops ap)<=12:=by lia
 have Uc:∀a∈ap,a.1<1+maxOf (tops ap)/\a.2.2<1+maxOf (tops ap):=fun a ha=>by
  have:=UT a ha;lia
 generalize 1+maxOf (tops ap)=c at hcb Uc;clear hM0 hM12 UT M1 Ls hc K0 Qw;have Qx:0<(if 12<c+1 then 12 else c+1)/\(if 12<c+1 then 12 else c+1)<=12:=by split <;> lia
 have PR:=eY (nb / 128) (if 12<c+1 then 12 else c+1) Qx.1;have UU:=jG (nb / 128) (if 12<c+1 then 12 else c+1) Qx.1;rw[av (env':=[fq (.tup (nY.map D.str)),fq (.lst (ap.map eA)),fq (.int nb),fq (.int c),fq (.int (nb / 128%(if 12<c+1 then 12 else c+1))),none,none,none,none,none,none]) (by simp only[pv,seval,op,gk _ 128 (by decide) (by decide),UU])];have hot:0<=nb / 128%(if 12<c+1 then 12 else c+1)/\nb / 128%(if 12<c+1 then 12 else c+1)<12:=by lia
 generalize nb / 128%(if 12<c+1 then 12 else c+1)=ot at hot;clear PR UU Qx;obtain⟨mv,LI,emv⟩:=y4 nY h0 (nb / 2048);have hp:=YJ.mpr h0;rw[av (env':=[fq (.tup (nY.map D.str)),fq (.lst (ap.map eA)),fq (.int nb),fq (.int c),fq (.int ot),fq (.str mv),none,none,none,none,none]) (by simp only[pv,seval,op,gk _ 2048 (by decide) (by decide),bu,jG _ (nY.length:Int) (by lia),emv])];have QY:=E4 ap;have m5:=jG nb 5 (by decide);have mc:=eY (nb / 8) c (by lia);have m8:=jG (nb / 8) c (by lia);have d8:=gk nb 8 (by decide) (by decide);have app:∀(l:List IY) (a:IY),l.length<=60->cU (.lst (l.map eA)) (.lst [eA a])=.ok (.l .f,.lst ((l++[a]).map eA)):=fun l a h=>by
  rw[xq _ _ (by rw[bu,VC];lia),VA];rfl
 have Qy:∀(l:List IY) (a:IY),(∀x∈l,x∈ap)->((0<=a.1/\a.1<12)/\0<=a.2.2/\a.2.2<12)->a.2.1∈nY->Bd nY (l++[a]):=fun l a LS hb hnm=>by
  refine⟨fun x hx=>?_,fun x hx=>?_⟩
  ·rcases kB hx with hx|hx
   ·exact bd.b x (LS x hx)
   ·rw[iC hx];exact hb
  ·rcases kB hx with hx|hx
   ·exact bd.n x (LS x hx)
   ·rw[iC hx];exact hnm
 by_cases h3:ap.isEmpty=true\/(nb%5==3)=true
 ·have ha:=app ap (nb / 8%c,mv,ot) (by lia);refine⟨ap++[(nb / 8%c,mv,ot)],Qy ap _ (fun x hx=>hx) (by dsimp only;lia) LI,by rw[jb];exact Vl _,?_⟩;rw[show eA (nb / 8%c,mv,ot)=.tup [.int (nb / 8%c),.str mv,.int ot] from rfl]at ha;cases hE:ap.isEmpty with
  |true=>
   rw[hE]at QY;simp only[pv,seval,op,QY,m8,d8,ha]
  |false=>
   rw[hE]at QY h3;have h3:=h3.resolve_left Vg;simp only[pv,seval,op,QY,m5,h3,m8,d8,ha,dJ]
 ·have hE:ap.isEmpty=false:=Xs.mpr fun h=>h3 (.inl h)
  have e3:(nb%5==3)=false:=Xs.mpr fun h=>h3 (.inr h)
  rw[hE]at QY;have hpos:0<ap.length:=by
   cases ap with
   |nil=>cases hE
   |cons _ _=>exact Nat.succ_pos _
  rw[av (env':=[fq (.tup (nY.map D.str)),fq (.lst (ap.map eA)),fq (.int nb),fq (.int c),fq (.int ot),fq (.str mv),none,none,none,none,none]) (by simp only[pv,seval,op,QY,m5,e3,dJ])];have ms:=eY (nb / 16384) (ap.length:Int) (by lia);obtain⟨sp,es⟩:=VP ms.1;have Nh:sp<ap.length:=by lia
  rw[av (env':=[fq (.tup (nY.map D.str)),fq (.lst (ap.map eA)),fq (.int nb),fq (.int c),fq (.int ot),fq (.str mv),fq (.int (sp:Int)),none,none,none,none]) (by simp only[pv,seval,op,gk _ 16384 (by decide) (by decide),bu,jG _ (ap.length:Int) (by lia),es])];have LC:JV (ap.map eA) (sp:Int)=some (eA ap[sp]):=fB (by rw[Vs,mf Nh];rfl);have PF:=XG Nh;generalize ap[sp]=a at LC PF;rw[av (env':=[fq (.tup (nY.map D.str)),fq (.lst (ap.map eA)),fq (.int nb),fq (.int c),fq (.int ot),fq (.str mv),fq (.int (sp:Int)),fq (eA a),none,none,none]) (by simp only[pv,seval,op,LC])];have Sa:jm (ap.map eA) none (some (sp:Int))=(ap.take sp).map eA:=by rw[oH,Ze]
  have NH:jm (ap.map eA) (some ((sp:Int)+1)) none=(ap.drop (sp+1)).map eA:=by rw[show(sp:Int)+1=((sp+1:Nat):Int) by lia,yU,List.map_drop]
  have LS:∀x∈ap.take sp++ap.drop (sp+1),x∈ap:=fun x hx=>by
   rcases kB hx with h|h
   ·exact X2 h
   ·exact YC h
  have Tw:(ap.take sp++ap.drop (sp+1)).length<=ap.length:=by
   rw[jb,VZ,WY];lia
  have Sb:=xq ((ap.take sp).map eA) ((ap.drop (sp+1)).map eA) (by rw[bu,bu];rw[jb]at Tw;lia);rw[<-VA]at Sb;generalize ap.take sp++ap.drop (sp+1)=cN at *;rw[av (env':=[fq (.tup (nY.map D.str)),fq (.lst (ap.map eA)),fq (.int nb),fq (.int c),fq (.int ot),fq (.str mv),fq (.int (sp:Int)),fq (eA a),some (.l .f,.lst (cN.map eA)),none,none]) (by simp only[pv,seval,op,Sa,NH,Sb])];cases e0:(nb%5==0) with
  |true=>
   refine⟨cN,⟨fun x hx=>bd.b x (LS x hx),fun x hx=>bd.n x (LS x hx)⟩,by lia,?_⟩;simp only[pv,seval,op,m5,e0]
  |false=>
   rw[av (env':=[fq (.tup (nY.map D.str)),fq (.lst (ap.map eA)),fq (.int nb),fq (.int c),fq (.int ot),fq (.str mv),fq (.int (sp:Int)),fq (eA a),some (.l .f,.lst (cN.map eA)),none,none]) (by simp only[pv,seval,op,m5,e0,dJ])];have hba:=bd.b a PF;have hna:=bd.n a PF;cases e1:(nb%5==1) with
   |true=>
    have ha:=app cN (a.1,a.2.1,ot) (by lia);refine⟨cN++[(a.1,a.2.1,ot)],Qy cN _ LS (by dsimp only;lia) hna,by rw[jb,VC];lia,?_⟩;rw[show eA (a.1,a.2.1,ot)=.tup [.int a.1,.str a.2.1,.int ot] from rfl]at ha;rw[show eA a=.tup [.int a.1,.str a.2.1,.int a.2.2] from rfl];simp only[pv,seval,op,m5,e1,ha]
   |false=>
    rw[av (env':=[fq (.tup (nY.map D.str)),fq (.lst (ap.map eA)),fq (.int nb),fq (.int c),fq (.int ot),fq (.str mv),fq (.int (sp:Int)),fq (eA a),some (.l .f,.lst (cN.map eA)),none,none]) (by simp only[pv,seval,op,m5,e1,dJ])];by_cases h2:(nb%5==2)=true\/(c==1)=true
    ·have ha:=app cN (a.1,mv,a.2.2) (by lia);refine⟨cN++[(a.1,mv,a.2.2)],Qy cN _ LS (by dsimp only;lia) LI,by rw[jb,VC];lia,?_⟩;rw[show eA (a.1,mv,a.2.2)=.tup [.int a.1,.str mv,.int a.2.2] from rfl]at ha;rw[show eA a=.tup [.int a.1,.str a.2.1,.int a.2.2] from rfl];cases e2:(nb%5==2) with
     |true=>simp only[pv,seval,op,m5,e2,at2,ha]
     |false=>
      rw[e2]at h2;have h2:=h2.resolve_left Vg;simp only[pv,seval,op,m5,e2,h2,at2,ha,dJ]
    ·have e2:(nb%5==2)=false:=Xs.mpr fun h=>h2 (.inl h)
     have ec:(c==1)=false:=Xs.mpr fun h=>h2 (.inr h)
     have hc1:c≠1:=Wf.mp ec;rw[av (env':=[fq (.tup (nY.map D.str)),fq (.lst (ap.map eA)),fq (.int nb),fq (.int c),fq (.int ot),fq (.str mv),fq (.int (sp:Int)),fq (eA a),some (.l .f,.lst (cN.map eA)),none,none]) (by simp only[pv,seval,op,m5,e2,ec,dJ])];have mg:=eY (nb / 8) (c-1) (by lia);obtain⟨gn,eg⟩:=VP (show 0<=1+nb / 8%(c-1) by lia);rw[av (env':=[fq (.tup (nY.map D.str)),fq (.lst (ap.map eA)),fq (.int nb),fq (.int c),fq (.int ot),fq (.str mv),fq (.int (sp:Int)),fq (eA a),some (.l .f,.lst (cN.map eA)),fq (.int (gn:Int)),none]) (by simp only[pv,seval,op,d8,jG _ (c-1) (by lia),eg])];obtain⟨cn,rfl⟩:=VP (show 0<=c by lia);have hce:cV (ay 0) fU (aJ 0) ((List.range cn).map fun(k:Nat)=>D.int (k:Int)) [none]=.ok (((List.range cn).map fun(k:Nat)=>(k:Int)).map D.int):=by
      rw[bX (r:=fun k:Nat=>D.int (k:Int)) (fun env=>∃t,env=[t]) (List.range cn) ?_ _ ⟨none,rfl⟩]
      ·rw[VU];rfl
      ·rintro k _ env ⟨t,rfl⟩;exact⟨[fq (.int (k:Int))],rfl,.f,_,rfl,_,rfl⟩
     have hle:(((List.range cn).map fun(k:Nat)=>(k:Int)).map D.int).length<=sizeLine:=bS (by rw[bu,bu,VG];lia);have hfe:=IW ((List.range cn).map fun(k:Nat)=>(k:Int));have RN:((List.range cn).map fun(k:Nat)=>(k:Int)).length=cn:=by rw[bu,VG]
     have hev:∀x∈((List.range cn).map fun(k:Nat)=>(k:Int)),0<=x/\x<(cn:Int):=fun x hx=>by
      obtain⟨k,hk,rfl⟩:=l5 hx;have:=VD.mp hk;lia
     generalize ((List.range cn).map fun(k:Nat)=>(k:Int))=en at *;rw[av (env':=[fq (.tup (nY.map D.str)),fq (.lst (ap.map eA)),fq (.int nb),fq (.int (cn:Int)),fq (.int ot),fq (.str mv),fq (.int (sp:Int)),fq (eA a),some (.l .f,.lst (cN.map eA)),fq (.int (gn:Int)),some (.l .f,.lst (en.map D.int))]) (by
      simp only[pv,seval,op];rw[Vn (by lia)];simp only[pv,seval,op,W6,hce,hle,hfe])]
     have Kc:ixN en.length (gn:Int)=some gn:=xh _ _ (by lia);have mo:=eY ot (cn:Int) (by lia);rw[av (env':=[fq (.tup (nY.map D.str)),fq (.lst (ap.map eA)),fq (.int nb),fq (.int (cn:Int)),fq (.int ot),fq (.str mv),fq (.int (sp:Int)),fq (eA a),some (.l .f,.lst (cN.map eA)),fq (.int (gn:Int)),some (.l .f,.lst ((en.set gn (ot%(cn:Int))).map D.int))]) (by
      rw[List.map_set];simp only[pv,seval,op,jG ot (cn:Int) (by lia),bu,Kc])]
     have Tx:(en.set gn (ot%(cn:Int))).length=cn:=by rw[Wc];exact RN
     have UW:∀x∈en.set gn (ot%(cn:Int)),0<=x/\x<(cn:Int):=fun x hx=>by
      rcases YZ hx with h|h
      ·exact hev x h
      ·rw[h];exact mo
     generalize en.set gn (ot%(cn:Int))=LJ at Tx UW;have OZ:∀s:Int,0<=s->s<(cn:Int)->JV (LJ.map D.int) s=some (.int (LJ.getD s.toNat 0))/\0<=LJ.getD s.toNat 0/\LJ.getD s.toNat 0<(cn:Int):=fun s hs0 Pd=>by
      obtain⟨k,rfl⟩:=VP hs0;have hk:k<LJ.length:=by lia
      rw[W6];refine⟨lT hk,?_⟩;rw[Vi,mf hk];exact UW _ (XG hk)
     have N3:cV (iJ 3 (aH (ay 0) (aH (ay 1) (aH (ay 2) df)))) fU (fO (ax (az IZ (ao 3) (ao 0)) (ax (aJ 1) (ax (az IZ (ao 3) (ao 2)) a7)))) (ap.map eA) [none,none,none,fq (.lst (LJ.map D.int))]=.ok ((ap.map fun a=>((LJ.getD a.1.toNat 0,a.2.1,LJ.getD a.2.2.toNat 0):IY)).map eA):=by
      rw[bX (r:=fun a:IY=>eA (LJ.getD a.1.toNat 0,a.2.1,LJ.getD a.2.2.toNat 0)) (fun env=>∃t u v,env=[t,u,v,fq (.lst (LJ.map D.int))]) ap ?_ _ ⟨none,none,none,rfl⟩]
      ·rw[VU];rfl
      ·rintro b hb env ⟨t,u,v,rfl⟩;have Nj:=bd.b b hb;have NW:=Uc b hb;have i1:=(OZ b.1 Nj.1.1 NW.1).1;have i2:=(OZ b.2.2 Nj.2.1 NW.2).1;refine⟨[fq (.int b.1),fq (.str b.2.1),fq (.int b.2.2),fq (.lst (LJ.map D.int))],by unfold eA;simp only[pv,seval],.f,[fq (.int b.1),fq (.str b.2.1),fq (.int b.2.2),fq (.lst (LJ.map D.int))],?_,_,_,_,rfl⟩;unfold eA;simp only[pv,seval,op,i1,i2]
     refine⟨ap.map fun a=>((LJ.getD a.1.toNat 0,a.2.1,LJ.getD a.2.2.toNat 0):IY),⟨fun x hx=>?_,fun x hx=>?_⟩,by rw[bu];lia,?_⟩
     ·obtain⟨b,hb,rfl⟩:=l5 hx;have Nj:=bd.b b hb;have NW:=Uc b hb;have i1:=(OZ b.1 Nj.1.1 NW.1).2;have i2:=(OZ b.2.2 Nj.2.1 NW.2).2;dsimp only;lia
     ·obtain⟨b,hb,rfl⟩:=l5 hx;exact bd.n b hb
     ·have hlc:((ap.map fun a=>((LJ.getD a.1.toNat 0,a.2.1,LJ.getD a.2.2.toNat 0):IY)).map eA).length<=sizeLine:=bS (by rw[bu,bu];lia);have hfc:=oI (ap.map fun a=>((LJ.getD a.1.toNat 0,a.2.1,LJ.getD a.2.2.toNat 0):IY));generalize (fO (ax (az IZ (ao 3) (ao 0)) (ax (aJ 1) (ax (az IZ (ao 3) (ao 2)) a7))))=GG at N3 ⊢;simp only[pv,seval,op,N3,hlc,hfc]
def Nd(k:Nat)(p:Pl):Int:=p.2.1.getD k 0
def SU(k:Nat)(p:Pl):Int:=p.2.2.getD k 0
def E6(k:Nat)(zs:List (Int×Pl)):Bool:=zs.all fun z=>decide (Nd k z.2<=z.1)
theorem tJ(k:Nat):∀zs:List (Int×Pl),br k zs=if E6 k zs then some (zs.map fun z=>z.1-Nd k z.2+SU k z.2) else none
 |[]=>rfl
 |z::zs=>by
  rw[br,tJ k zs];unfold E6;rw[XY];by_cases h:z.1<z.2.2.1.getD k 0
  ·have h2:decide (Nd k z.2<=z.1)=false:=VM (by unfold Nd;lia);rw[Vn h,h2,YV,Vt Vg]
  ·have h2:decide (Nd k z.2<=z.1)=true:=VB (by unfold Nd;lia);rw[Vt h,h2,aad];cases(zs.all fun z=>decide (Nd k z.2<=z.1)) with
   |true=>rw[Vn rfl,Vn rfl];rfl
   |false=>rw[Vt Vg,Vt Vg];rfl
theorem Ca(nY:LNN)(ps:List Pl)(hl:ps.length<=100):bZ [eN nY ps]=.ok (.f,eM (ps.map (·.1))):=by
 have hc:cV (ay 0) fU (az IZ (ao 0) (aj (aD (.int 0)))) (ps.map eP) [none]=.ok ((ps.map (·.1)).map D.int):=by
  rw[VU];refine bX (fun env=>∃t,env=[t]) _ ?_ _ ⟨_,rfl⟩;rintro p _ env ⟨t,rfl⟩;refine⟨[fq (eP p)],by simp only[pv,seval],?_⟩;unfold eP;simp only[pv,seval,op,Na];exact⟨_,_,rfl,_,rfl⟩
 have NU:((ps.map (·.1)).map D.int).length<=sizeLine:=line_le (by rw[bu,bu];lia);unfold bZ gT eN;rw[bB (h:=by rfl)];simp only[pv,seval,op,L0,hc,NU,IW];rfl
variable{p:Pl}
theorem E8{k:Nat}(h:Ka p cnt)(hk:k<cnt):JV (p.2.1.map D.int) (k:Int)=some (.int (Nd k p)):=lT (by rw[h.1];exact hk)
theorem GV{k:Nat}(h:Ka p cnt)(hk:k<cnt):JV (p.2.2.map D.int) (k:Int)=some (.int (SU k p)):=lT (by rw[h.2];exact hk)
theorem y6(nY:LNN)(ps:List Pl)(hl:ps.length<=100)(hp:∀p∈ps,Ka p nY.length)(m:List Int)(mv:List Nat)(hm:mv∈nY):iA [eN nY ps,eM m,.str mv]=.ok (.f,.bl (E6 (nY.idxOf mv) (m.zip ps))):=by
 have Kc:=rE hm;have hk:=WG hm;generalize nY.idxOf mv=k at Kc hk;have hc:cV (iJ 2 (aH (ay 0) (aH (ay 1) df))) fU (az SF (ao 0) (aj (az IZ (aj (az IZ (ao 1) (aj (aD (.int 1))))) (ao 2)))) ((m.zip ps).map fun z=>D.tup [.int z.1,eP z.2]) [none,none,fq (.int (k:Int))]=.ok (((m.zip ps).map fun z=>decide (Nd k z.2<=z.1)).map D.bl):=by
  rw[VU];refine bX (fun env=>∃t u,env=[t,u,fq (.int (k:Int))]) _ ?_ _ ⟨_,_,rfl⟩;rintro⟨x,p⟩ hz env ⟨t,u,rfl⟩;have e1:=E8 (hp p (Xr hz).2) hk;refine⟨_,lU _ _ _ _ _,?_⟩;unfold eP;simp only[pv,seval,op,L0,e1];exact⟨_,_,rfl,_,_,rfl⟩
 have NU:(((m.zip ps).map fun z=>decide (Nd k z.2<=z.1)).map D.bl).length<=sizeLine:=line_le (by rw[bu,bu,XS];lia);unfold iA sV eN eM;rw[bB (h:=by rfl)];rw[av (env':=[fq (.tup [.tup (nY.map D.str),.lst (ps.map eP)]),fq (.tup (m.map D.int)),fq (.str mv),fq (.int (k:Int))]) (by simp only[pv,seval,op,Na,Kc])];simp only[pv,seval,op,L0,kI,hc,NU,sZ,zS];unfold E6;rw[WU];rfl
def eO:Option (List Int)->D
 |none=>.non
 |some r=>eM r
theorem oO(o:Option (List Int)):cw (eO o)=true:=by
 cases o with
 |none=>rfl
 |some r=>exact gF r
theorem Cb(nY:LNN)(ps:List Pl)(hl:ps.length<=100)(hp:∀p∈ps,Ka p nY.length)(m:List Int)(mv:List Nat)(hm:mv∈nY):jW [eN nY ps,eM m,.str mv]=.ok (.f,eO (br (nY.idxOf mv) (m.zip ps))):=by
 have hg:=y6 nY ps hl hp m mv hm;have Kc:=rE hm;have hk:=WG hm;rw[tJ];generalize nY.idxOf mv=k at Kc hk hg;have hc:cV (iJ 2 (aH (ay 0) (aH (ay 1) df))) fU (az cU (aj (az xP (ao 0) (aj (az IZ (aj (az IZ (ao 1) (aj (aD (.int 1))))) (ao 2))))) (aj (az IZ (aj (az IZ (ao 1) (aj (aD (.int 2))))) (ao 2)))) ((m.zip ps).map fun z=>D.tup [.int z.1,eP z.2]) [none,none,fq (.int (k:Int))]=.ok (((m.zip ps).map fun z=>z.1-Nd k z.2+SU k z.2).map D.int):=by
  rw[VU];refine bX (fun env=>∃t u,env=[t,u,fq (.int (k:Int))]) _ ?_ _ ⟨_,_,rfl⟩;rintro⟨x,p⟩ hz env ⟨t,u,rfl⟩;have e1:=E8 (hp p (Xr hz).2) hk;have e2:=GV (hp p (Xr hz).2) hk;refine⟨_,lU _ _ _ _ _,?_⟩;unfold eP;simp only[pv,seval,op,L0,at2,e1,e2];exact⟨_,_,rfl,_,_,rfl⟩
 have NU:(((m.zip ps).map fun z=>z.1-Nd k z.2+SU k z.2).map D.int).length<=sizeLine:=line_le (by rw[bu,bu,XS];lia);unfold jW wX;rw[bB (h:=by rfl)];cases hz:E6 k (m.zip ps) with
 |false=>
  rw[hz]at hg;simp only[pv,seval,hg,dU,rq,We,dJ];rfl
 |true=>
  rw[hz]at hg;unfold eN eM at hg ⊢;rw[av (env':=[fq (.tup [.tup (nY.map D.str),.lst (ps.map eP)]),fq (.tup (m.map D.int)),fq (.str mv),none]) (by simp only[pv,seval,hg,dU,rq,V4,dJ])];rw[av (env':=[fq (.tup [.tup (nY.map D.str),.lst (ps.map eP)]),fq (.tup (m.map D.int)),fq (.str mv),fq (.int (k:Int))]) (by simp only[pv,seval,op,Na,Kc])];simp only[pv,seval,op,L0,kI,hc,NU,IW];rfl
theorem rF(nY:LNN)(ps:List Pl)(hl:ps.length<=100)(hp:∀p∈ps,Ka p nY.length)(m:List Int)(mv:List Nat)(hm:mv∈nY):ba [eN nY ps,eM m,.str mv]=.ok (.f,eO (br (nY.idxOf mv) (m.zip ps))):=by
 rcases zU nY ps hl hp m mv hm with⟨e1,e2⟩|⟨r,e1,e2⟩
 ·rw[e1,e2];rfl
 ·rw[e1,e2];rfl
abbrev Gt:=Int×List Int×LNN
def wD(w:LNN):D:=.tup (w.map D.str)
def vG(n:Gt):D:=.tup [eM n.2.1,wD n.2.2]
def dG(N:List Gt):D:=.dct false (N.map fun n=>D.int n.1) (N.map vG)
theorem Cc:∀(N:List Gt) (s:Int),getD (N.map fun n=>D.int n.1) (N.map vG) (.int s)=(N.find? fun n=>n.1==s).map vG
 |[],s=>rfl
 |z::L,s=>by
  have ih:=Cc L s;unfold getD at ih ⊢;rw[gE,gE,XJ];by_cases e:z.1=s
  ·rw[WI (by show IU (.int s) (.int z.1)=true;rw[IU,V5];exact e.symm),WI (by simpa using e)];rfl
  ·rw[WJ (by show ¬ IU (.int s) (.int z.1)=true;rw[IU,V5];exact fun q=>e q.symm),WJ (by simpa using e)];exact ih
theorem tL:∀{N:List Gt},(N.map (·.1)).Nodup->∀{n:Gt},n∈N->(N.find? fun z=>z.1==n.1)=some n
 |z::N,nd,n,h=>by
  rw[gE,VN]at nd;rcases Vo.mp h with e|h
  ·subst e;rw[WI (by simp)]
  ·rw[WJ (by
    simp only[V5];intro e;exact nd.1 (e▸Wz.mpr ⟨n,h,rfl⟩))]
   exact tL nd.2 h
variable{s:Int}{N:List Gt}{n:Gt}
theorem Fy(h:(N.find? fun z=>z.1==s)=some n):MV (dG N) (.int s)=.ok (.f,vG n):=by
 unfold MV dG;dsimp only;rw[Vn (show dO false (.int s)=true from rfl),Cc,h];rfl
theorem GW(N:List Gt)(s:Int):pT (.int s) (dG N)=.ok (.f,.bl (N.find? fun z=>z.1==s).isNone):=by
 unfold pT dG;dsimp only;rw[Vn (show dO false (.int s)=true from rfl),Cc];cases(N.find? fun z=>z.1==s) <;> rfl
theorem GX(h:(N.find? fun z=>z.1==s)=none)(m:List Int)(w:LNN):qX (N.map fun n=>D.int n.1) (N.map vG) (.int s) (.tup [eM m,wD w])=((N++[(s,m,w)]).map (fun n=>D.int n.1),(N++[(s,m,w)]).map vG):=by
 rw[Xj]at h;have e:(N.map fun n=>D.int n.1).any (IU (.int s))=false:=by
  rw[Xx,List.any_eq_false];intro x hx;show ¬ IU (.int s) (.int x.1)=true;rw[IU,V5];intro q;exact h x hx (by simp[q])
 unfold qX;rw[e,Vt Vg,VA,VA];rfl
theorem d6(w:LNN):cw (wD w)=true:=by
 unfold wD;rw[c8,PV.flat_strs]
theorem Cd(n:Gt):cw (vG n)=true:=by
 unfold vG;rw[c8];simp only[flatDs,gF,d6,Wx]
theorem y7(N:List Gt):flatDs (N.map vG)=true:=tj fun n=>Cd n
theorem Ce(i:Nat)(f g:FX)(env:PV.Env):sPutP i f g env=Res.bnd (g env) (f:=⟨fun(p:R×PV.Env)=>Res.bnd (f p.2) (f:=⟨fun(q:R×PV.Env)=>match p.2[i]?,q.2[i]? with
 |some (some _),some (some (.pin pp .d,.dct tk ks vs))=>if dO tk q.1.2&&decide (ks.length<sizeLine) then .ok (.nx (q.2.set i (some (.pin pp .d,.dct tk (qX ks vs q.1.2 p.1.2).1 (qX ks vs q.1.2 p.1.2).2)))) else .bad
 |_,_=>.bad⟩)⟩):=id rfl
def xT(w w':LNN):D:=.tup [.str [111,110,101],wD w,wD w']
def Fz(w w':LNN):D:=.tup [.str [116,119,111],wD w,wD w']
def uI(s:Int)(m:List Int)(n:Gt):Bool:=!(n.1==s)&&decide (n.2.1=m)
noncomputable def kC(N:List Gt)(s:Int)(m:List Int)(w:LNN):D ⊕ List Gt:=match N.find? (uI s m) with
 |some n=>.inl (xT n.2.2 w)
 |none=>match N.find? (fun n=>n.1==s) with
  |none=>.inr (N++[(s,m,w)])
  |some n=>if n.2.1=m then .inr N else .inl (Fz n.2.2 w)
theorem GY(a b:List Int):eqO (eM a) (eM b)=.ok (.f,.bl (decide (a=b))):=by
 unfold eqO;rw[eV,eV,uH];rfl
theorem E9(a b:List Int):Kr (eM a) (eM b)=.ok (.f,.bl (!decide (a=b))):=by
 unfold Kr;rw[eV,eV,uH];rfl
theorem QZ(a b:D):IZ (.tup [a,b]) (.int 0)=.ok (.f,a):=rfl
theorem NY(a b:D):IZ (.tup [a,b]) (.int 1)=.ok (.f,b):=rfl
theorem Cf(N:List Gt)(nd:(N.map (·.1)).Nodup)(s:Int)(m:List Int)(w:LNN)(p:Addr)(n:Gt)(hn:n∈N):
  eL [some (.pin p .f,dG N),fq (.int s),fq (eM m),fq (wD w),fq (.int n.1)]=if uI s m n then .ok (.rt (.t [.f,.pin p .f],.tup [xT n.2.2 w,dG N])) else .ok (.nx [some (.pin p .f,dG N),fq (.int s),fq (eM m),fq (wD w),fq (.int n.1)]):=by
 have hd:=Fy (tL nd hn);have he:=GY n.2.1 m;have f1:=d6 n.2.2;unfold vG at hd;unfold eL uI;generalize hG:dG N=GG at hd ⊢;cases h1:(n.1==s) with
 |true=>simp only[pv,seval,op,h1,V4,YV,dJ]
 |false=>
  cases h2:decide (n.2.1=m) with
  |false=>simp only[pv,seval,op,h1,h2,hd,QZ,he,We,aad,dJ]
  |true=>
   simp only[pv,seval,op,ic,h1,h2,hd,QZ,NY,he,We,aad];rfl
theorem qB(N:List Gt)(nd:(N.map (·.1)).Nodup)(s:Int)(m:List Int)(w:LNN)(p:Addr):∀(L:List Gt),(∀n∈L,n∈N)->∀t4:Option R,
  match L.find? (uI s m) with
  |some n=>eW (ay 4) eL (L.map fun n=>D.int n.1) [some (.pin p .f,dG N),fq (.int s),fq (eM m),fq (wD w),t4]=.ok (.rt (.t [.f,.pin p .f],.tup [xT n.2.2 w,dG N]))
  |none=>∃t,(t=t4\/∃k:Int,t=fq (.int k))/\eW (ay 4) eL (L.map fun n=>D.int n.1) [some (.pin p .f,dG N),fq (.int s),fq (eM m),fq (wD w),t4]=.ok (.nx [some (.pin p .f,dG N),fq (.int s),fq (eM m),fq (wD w),t])
 |[],_,t4=>⟨t4,.inl rfl,rfl⟩
 |n::L,h,t4=>by
  have hi:=Cf N nd s m w p n (h n Va);have ha:ay 4 (.int n.1) [some (.pin p .f,dG N),fq (.int s),fq (eM m),fq (wD w),t4]=.ok [some (.pin p .f,dG N),fq (.int s),fq (eM m),fq (wD w),fq (.int n.1)]:=rfl;cases hc:uI s m n with
  |true=>
   rw[WI hc];rw[hc,Vn rfl]at hi;show eW _ _ (D.int n.1::L.map _) _=_;rw[dH,ha,Jp,hi,Jp]
  |false=>
   rw[WJ (by rw[hc];exact Vg)];rw[hc,Vt Vg]at hi;have ih:=qB N nd s m w p L (fun n hn=>h n (Vb _ hn)) (fq (.int n.1));cases hf:L.find? (uI s m) with
   |some n'=>
    rw[hf]at ih;dsimp only at ih ⊢;show eW _ _ (D.int n.1::L.map _) _=_;rw[dH,ha,Jp,hi,Jp];exact ih
   |none=>
    rw[hf]at ih;dsimp only at ih ⊢;obtain⟨t,ht,e⟩:=ih;refine⟨t,.inr (ht.elim (fun z=>⟨n.1,z⟩) id),?_⟩;show eW _ _ (D.int n.1::L.map _) _=_;rw[dH,ha,Jp,hi,Jp];exact e
def Cg(N:List Gt):D ⊕ List Gt->D×D
 | .inl d=>(d,dG N)
 | .inr N'=>(.non,dG N')
theorem Fb(N:List Gt)(nd:(N.map (·.1)).Nodup)(hN:N.length<=100)(s:Int)(m:List Int)(w:LNN)(p:Addr):lH p [dG N,.int s,eM m,wD w]=.ok (.t [.f,.pin p .d],.tup [(Cg N (kC N s m w)).1,(Cg N (kC N s m w)).2]):=by
 have fm:=gF m;have fw:=d6 w;have Pn:=qB N nd s m w p N (fun _ h=>h) none;unfold lH zQ;rw[yT (h:=by rfl)];have e0:(dG N)=.dct false (N.map fun n=>D.int n.1) (N.map vG):=rfl;unfold kC;cases hf:N.find? (uI s m) with
 |some n=>
  rw[hf]at Pn;dsimp only at Pn ⊢;have e:jv [some (.pin p .d,dG N),fq (.int s),fq (eM m),fq (wD w),none]=.ok (.rt (.t [.f,.pin p .d],.tup [xT n.2.2 w,dG N])):=by
   unfold jv;show(eW (ay 4) eL (N.map fun n=>D.int n.1) [some (.pin p .f,dG N),fq (.int s),fq (eM m),fq (wD w),none]).bind (uB 0 p (dG N))=_;rw[Pn];show(if decide (p=p)&&aS .f (xT n.2.2 w) then Res.ok (Out.rt (.t [.f,.pin p .d],.tup [xT n.2.2 w,dG N])) else .bad)=_;have fr:aS .f (xT n.2.2 w)=true:=by
    unfold xT;rw[aS,c8];simp only[flatDs,d6,cw,Wx]
   rw[fr,VB rfl];rfl
  simp only[List.map,List.replicate,Wy,Xt];rw[Jq,e,Jp];rfl
 |none=>
  rw[hf]at Pn;dsimp only at Pn ⊢;obtain⟨t,ht,Pn⟩:=Pn;have e:jv [some (.pin p .d,dG N),fq (.int s),fq (eM m),fq (wD w),none]=.ok (.nx [some (.pin p .d,dG N),fq (.int s),fq (eM m),fq (wD w),t]):=by
   unfold jv;show(eW (ay 4) eL (N.map fun n=>D.int n.1) [some (.pin p .f,dG N),fq (.int s),fq (eM m),fq (wD w),none]).bind (uB 0 p (dG N))=_;rw[Pn];show(if yK 0 p [some (.pin p .f,dG N),fq (.int s),fq (eM m),fq (wD w),t]&&cleanE 0 [some (.pin p .f,dG N),fq (.int s),fq (eM m),fq (wD w),t] then Res.ok (Out.nx [some (.pin p .d,dG N),fq (.int s),fq (eM m),fq (wD w),t]) else .bad)=_;have f1:yK 0 p [some (.pin p .f,dG N),fq (.int s),fq (eM m),fq (wD w),t]=true:=by
    show decide (p=p)=true;exact VB rfl
   have f2:cleanE 0 [some (.pin p .f,dG N),fq (.int s),fq (eM m),fq (wD w),t]=true:=by
    rcases ht with e|⟨k,e⟩ <;> subst e <;> simp only[cleanE,List.set_cons_zero,XY,List.all_nil,aS,fm,fw,cw,Wx]
   rw[f1,f2];rfl
  simp only[List.map,List.replicate,Wy,Xt];rw[av e];have hn:=GW N s;unfold p7;cases hs:N.find? fun n=>n.1==s with
  |none=>
   rw[hs]at hn;have hp:=GX hs m w;have hz:(N.map fun n=>D.int n.1).length<sizeLine:=jH (by rw[bu];lia);have e2:sPutP 0 (aJ 1) (fO (ax (aJ 2) (ax (aJ 3) a7))) [some (.pin p .d,dG N),fq (.int s),fq (eM m),fq (wD w),t]=.ok (.nx [some (.pin p .d,dG (N++[(s,m,w)])),fq (.int s),fq (eM m),fq (wD w),t]):=by
    rw[Ce];unfold dG;simp only[pv,seval,op,hp,hz,XC];rfl
   rw[av (env':=[some (.pin p .d,dG (N++[(s,m,w)])),fq (.int s),fq (eM m),fq (wD w),t]) (by
    generalize dG (N++[(s,m,w)])=G2 at e2 ⊢;generalize dG N=G1 at e2 hn ⊢;generalize (sPutP 0 (aJ 1) (fO (ax (aJ 2) (ax (aJ 3) a7))))=TT at e2 ⊢;simp only[pv,seval,op,hn,Option.isNone_none,e2])]
   show _=Res.ok (O.t [.f,.pin p .d],D.tup [.non,dG (N++[(s,m,w)])]);generalize dG (N++[(s,m,w)])=G2;simp only[pv,seval,op,ic]
  |some n=>
   rw[hs]at hn;have hd:=Fy hs;unfold vG at hd;have KH:=E9 n.2.1 m;by_cases hm:n.2.1=m
   ·rw[VB hm]at KH;dsimp only;rw[Vn hm];show _=Res.ok (O.t [.f,.pin p .d],D.tup [.non,dG N]);generalize dG N=G1 at hd hn ⊢;rw[av (env':=[some (.pin p .d,G1),fq (.int s),fq (eM m),fq (wD w),t]) (by simp only[pv,seval,op,hn,YU,hd,QZ,KH,V4,dJ])];simp only[pv,seval,op,ic]
   ·rw[VM hm]at KH;dsimp only;rw[Vt hm];show _=Res.ok (O.t [.f,.pin p .d],D.tup [Fz n.2.2 w,dG N]);generalize dG N=G1 at hd hn ⊢;rw[Jq];simp only[pv,seval,op,ic,hn,YU,hd,QZ,NY,KH,We,dJ];rfl
def jN(ap:List IY)(s:Int)(m:List Nat):List Int:=(ap.filter fun a=>a.1==s&&a.2.1==m).map fun a=>a.2.2
theorem xr(nY:LNN)(ap:List IY)(s:Int)(m:List Nat)(hl:ap.length<=16777216):fQ [Jb nY ap,.int s,.str m]=.ok (.l .f,.lst ((jN ap s m).map D.int)):=by
 unfold fQ p6;rw[bB (h:=by rfl)];simp only[pv,seval,op,Jb];rw[jF (p:=fun a:IY=>a.1==s&&a.2.1==m) (r:=fun a:IY=>D.int a.2.2) (fun env=>∃t1 t2 t3,env=[t1,t2,t3,fq (.int s),fq (.str m)]) ap ?_ _ ⟨_,_,_,rfl⟩]
 ·rw[Jp,Vn (yW hl),Jp];unfold jN;rw[VU];rfl
 ·rintro a _ env ⟨t1,t2,t3,rfl⟩;refine⟨_,i8 a t1 t2 t3 _,?_⟩;simp only[pv,seval,op];cases h1:a.1==s with
  |true=>
   cases h2:a.2.1==m with
   |true=>exact⟨_,rfl,_,_,rfl,_,_,_,rfl⟩
   |false=>exact⟨_,rfl,_,_,_,rfl⟩
  |false=>exact⟨_,rfl,_,_,_,rfl⟩
def xt(w:LNN)(mv:List Nat):D:=.tup [.str [115,116,117,99,107],wD w,.str mv]
def y8(w:LNN)(mv:List Nat):D:=.tup [.str [102,114,101,101],wD w,.str mv]
abbrev So:=Option D×List Gt
def cA(N:List Gt)(s:Int)(m:List Int)(w:LNN):So:=match kC N s m w with
 | .inl d=>(some d,N)
 | .inr N'=>(none,N')
def bU(m:List Int)(w:LNN):List Int->List Gt->So
 |[],N=>(none,N)
 |s::ss,N=>match cA N s m w with
  |(some d,N')=>(some d,N')
  |(none,N')=>bU m w ss N'
noncomputable def dI(nY:LNN)(ps:List Pl)(ap:List IY)(n:Gt)(mv:List Nat)(N:List Gt):So:=match br (nY.idxOf mv) (n.2.1.zip ps),jN ap n.1 mv with
 |none,[]=>(none,N)
 |none,_::_=>(some (xt n.2.2 mv),N)
 |some _,[]=>(some (y8 n.2.2 mv),N)
 |some t,s::ss=>bU t (n.2.2++[mv]) (s::ss) N
def a9(nY:LNN)(ps:List Pl)(ap:List IY)(n:Gt):LNN->List Gt->So
 |[],N=>(none,N)
 |mv::r,N=>match dI nY ps ap n mv N with
  |(some d,N')=>(some d,N')
  |(none,N')=>a9 nY ps ap n r N'
structure Iv(N:List Gt):Prop where
 nd:(N.map (·.1)).Nodup
 bd:∀n∈N,0<=n.1/\n.1<12
 wl:∀(k:Nat) (n:Gt),N[k]?=some n->n.2.2.length<=k
theorem Iv.le(i:Iv N):N.length<=12:=by
 have:=jI 12 i.nd (fun x hx=>by
  obtain⟨n,hn,e⟩:=l5 hx;rw[<-e];exact i.bd n hn)
 rwa [bu]at this
structure Gr(N N':List Gt)(o:Option D):Prop where
 iv:Iv N'
 ex:∃more,N'=N++more
 fl:cw (o.getD .non)=true
theorem Gr.refl(i:Iv N):Gr N N none:=⟨i,⟨[],(VH N).symm⟩,rfl⟩
variable{N':List Gt}{o:Option D}
theorem Gr.trans{N2:List Gt}{o':Option D}(a:Gr N N' o)(b:Gr N' N2 o'):Gr N N2 o':=by
 obtain⟨m1,e1⟩:=a.ex;obtain⟨m2,e2⟩:=b.ex;exact⟨b.iv,⟨m1++m2,by rw[e2,e1,Wd]⟩,b.fl⟩
theorem Gr.le(a:Gr N N' o):N.length<=N'.length:=by
 obtain⟨m,e⟩:=a.ex;rw[e,jb];lia
theorem qC(l:List Nat)(a b:D)(ha:cw a=true)(hb:cw b=true):cw (.tup [.str l,a,b])=true:=by
 rw[c8];simp only[flatDs,ha,hb,cw,Wx]
variable{w:LNN}
theorem oP(i:Iv N)(hs:0<=s/\s<12)(m:List Int)(hw:w.length<=N.length):Gr N (cA N s m w).2 (cA N s m w).1:=by
 unfold cA kC;split
 ·rename_i d hd;refine⟨i,⟨[],(VH N).symm⟩,?_⟩;split at hd
  ·cases hd;exact qC _ _ _ (d6 _) (d6 _)
  ·split at hd
   ·cases hd
   ·split at hd
    ·cases hd
    ·cases hd;exact qC _ _ _ (d6 _) (d6 _)
 ·rename_i N' hd;split at hd
  ·cases hd
  ·split at hd
   ·rename_i hf;cases hd;rw[Xj]at hf;refine⟨⟨?_,fun n hn=>?_,fun k n hk=>?_⟩,⟨_,rfl⟩,rfl⟩
    ·rw[VA];refine VE.mpr ⟨i.nd,VN.mpr ⟨Wn,Wu⟩,fun x hx y hy e=>?_⟩;obtain⟨n,hn,en⟩:=l5 hx;have hy:y=s:=iC hy;exact hf n hn (by rw[V5,en,e,hy])
    ·rcases kB hn with hn|hn
     ·exact i.bd n hn
     ·rw[iC hn];exact hs
    ·rcases mU hk with h|⟨e1,e2⟩
     ·exact i.wl k n h
     ·rw[e2,e1];exact hw
   ·split at hd
    ·cases hd;exact Gr.refl i
    ·cases hd
theorem oQ(m:List Int)(w:LNN):∀(ss:List Int) {N:List Gt},Iv N->(∀s∈ss,0<=s/\s<12)->w.length<=N.length->Gr N (bU m w ss N).2 (bU m w ss N).1
 |[],N,i,_,_=>Gr.refl i
 |s::ss,N,i,hs,hw=>by
  have g:=oP i (hs s Va) m hw;unfold bU;split
  ·rename_i d N' e;rw[e]at g;exact g
  ·rename_i N' e;rw[e]at g;exact g.trans (oQ m w ss g.iv (fun x hx=>hs x (Vb _ hx)) (VR hw g.le))
theorem rH(hb:∀a∈ap,0<=a.2.2/\a.2.2<12)(mv:List Nat)(i:Iv N)(hw:n.2.2.length+1<=N.length):Gr N (dI nY ps ap n mv N).2 (dI nY ps ap n mv N).1:=by
 unfold dI;have hg:∀s∈jN ap n.1 mv,0<=s/\s<12:=fun s hs=>by
  unfold jN at hs;obtain⟨a,ha,e⟩:=l5 hs;rw[<-e];exact hb a (V7.mp ha).1
 split
 ·exact Gr.refl i
 ·exact⟨i,⟨[],(VH N).symm⟩,qC _ _ _ (d6 _) rfl⟩
 ·exact⟨i,⟨[],(VH N).symm⟩,qC _ _ _ (d6 _) rfl⟩
 ·rename_i t s ss _ e;rw[e]at hg;exact oQ t _ (s::ss) i hg (by rw[jb];exact hw)
theorem gm{nY:LNN}{ps:List Pl}{ap:List IY}(hb:∀a∈ap,0<=a.2.2/\a.2.2<12){n:Gt}:∀(l:LNN) {N:List Gt},Iv N->n.2.2.length+1<=N.length->Gr N (a9 nY ps ap n l N).2 (a9 nY ps ap n l N).1
 |[],N,i,_=>Gr.refl i
 |mv::l,N,i,hw=>by
  have g:=rH (nY:=nY) (ps:=ps) hb mv i hw;unfold a9;split
  ·rename_i d N' e;rw[e]at g;exact g
  ·rename_i N' e;rw[e]at g;exact g.trans (gm hb l g.iv (VR hw g.le))
theorem Ci(N:List Gt)(s:Int)(m:List Int)(w:LNN):Cg N (kC N s m w)=((cA N s m w).1.getD .non,dG (cA N s m w).2):=by
 unfold cA;cases kC N s m w <;> rfl
theorem xu(N:List Gt)(i:Iv N)(s:Int)(m:List Int)(w:LNN):jV lH .d (dG N) [.int s,eM m,wD w]=.ok ((.f,(cA N s m w).1.getD .non),dG (cA N s m w).2):=sP (r:=(.f,(cA N s m w).1.getD .non)) fun p=>by
 have:=i.le;have h:=Fb N i.nd (by lia) s m w p;rw[Ci]at h;exact h
theorem tM(N:List Gt):aS .d (dG N)=true:=by
 unfold dG;rw[aS];exact y7 N
theorem zW(ds:List D):isnO (.tup ds) (.non)=.ok (.f,.bl true):=id rfl
theorem mX(N:List Gt)(s:Int)(m:List Int)(w:LNN):(cA N s m w).1=none\/∃ds,(cA N s m w).1=some (.tup ds):=by
 unfold cA kC;split
 ·rename_i d hd;right;split at hd
  ·cases hd;exact⟨_,rfl⟩
  ·split at hd
   ·cases hd
   ·split at hd
    ·cases hd
    ·cases hd;exact⟨_,rfl⟩
 ·exact .inl rfl
theorem Fc(CH NE:D)(p:Addr)(N:List Gt)(i:Iv N)(st:Int)(m0:List Int)(w:LNN)(hw:w.length+1<=N.length)(mv:List Nat)(t:List Int)(s:Int)(hs:0<=s/\s<12)(t8 JX:Option R):
  match(cA N s t (w++[mv])).1 with
  |some d=>cJ [fq CH,fq NE,some (.pin p .d,dG N),fq (.int st),fq (eM m0),fq (wD w),fq (.str mv),fq (eM t),t8,fq (.int s),JX]=.ok (.rt (.t [.f,.pin p .d],.tup [d,dG (cA N s t (w++[mv])).2]))
  |none=>cJ [fq CH,fq NE,some (.pin p .d,dG N),fq (.int st),fq (eM m0),fq (wD w),fq (.str mv),fq (eM t),t8,fq (.int s),JX]=.ok (.nx [fq CH,fq NE,some (.pin p .d,dG (cA N s t (w++[mv])).2),fq (.int st),fq (eM m0),fq (wD w),fq (.str mv),fq (eM t),t8,fq (.int s),fq .non]):=by
 have hle:=i.le;have ha:=HG w mv (by lia);have hc:=xu N i s t (w++[mv]);have gr:=oP i hs t (w:=w++[mv]) (by rw[jb];exact hw);have cl:=tM (cA N s t (w++[mv])).2;have fl:=gr.fl;have sh:=mX N s t (w++[mv]);revert hc cl fl sh;generalize (cA N s t (w++[mv])).1=o;generalize dG (cA N s t (w++[mv])).2=G2;generalize dG N=G1;intro hc cl fl sh;unfold wD at hc ⊢;have cf:aS .f (o.getD .non)=true:=by rw[aS];exact fl
 unfold cJ;rw[av (env':=[fq CH,fq NE,some (.pin p .d,G2),fq (.int st),fq (eM m0),fq (.tup (w.map D.str)),fq (.str mv),fq (eM t),t8,fq (.int s),fq (o.getD .non)]) (by
  simp only[pv,seval,op,BY,ha,hc,cl,cf,Wx];rfl)]
 rcases sh with e|⟨ds,e⟩
 ·subst e;simp only[pv,seval,op,mT,XD,dJ]
 ·subst e;simp only[pv,seval,op,ic,zW,XE]
theorem xv(CH NE:D)(p:Addr)(st:Int)(m0:List Int)(w:LNN)(mv:List Nat)(t:List Int)(t8:Option R):∀(ss:List Int) (N:List Gt),Iv N->w.length+1<=N.length->(∀s∈ss,0<=s/\s<12)->∀t9 JX:Option R,
  match(bU t (w++[mv]) ss N).1 with
  |some d=>eW (ay 9) cJ (ss.map D.int) [fq CH,fq NE,some (.pin p .d,dG N),fq (.int st),fq (eM m0),fq (wD w),fq (.str mv),fq (eM t),t8,t9,JX]=.ok (.rt (.t [.f,.pin p .d],.tup [d,dG (bU t (w++[mv]) ss N).2]))
  |none=>∃u9 MH,eW (ay 9) cJ (ss.map D.int) [fq CH,fq NE,some (.pin p .d,dG N),fq (.int st),fq (eM m0),fq (wD w),fq (.str mv),fq (eM t),t8,t9,JX]=.ok (.nx [fq CH,fq NE,some (.pin p .d,dG (bU t (w++[mv]) ss N).2),fq (.int st),fq (eM m0),fq (wD w),fq (.str mv),fq (eM t),t8,u9,MH])
 |[],N,_,_,_,t9,JX=>⟨t9,JX,rfl⟩
 |s::ss,N,i,hw,hs,t9,JX=>by
  have h1:=Fc CH NE p N i st m0 w hw mv t s (hs s Va) t8 JX;have gr:=oP i (hs s Va) t (w:=w++[mv]) (by rw[jb];exact hw);have ha:ay 9 (.int s) [fq CH,fq NE,some (.pin p .d,dG N),fq (.int st),fq (eM m0),fq (wD w),fq (.str mv),fq (eM t),t8,t9,JX]=.ok [fq CH,fq NE,some (.pin p .d,dG N),fq (.int st),fq (eM m0),fq (wD w),fq (.str mv),fq (eM t),t8,fq (.int s),JX]:=rfl;unfold bU;cases hg:cA N s t (w++[mv]) with
  |mk o N'=>
   rw[hg]at h1 gr;cases o with
   |some d=>
    dsimp only at h1 ⊢;rw[gE,dH,ha,Jp,h1,Jp]
   |none=>
    dsimp only at h1 ⊢;have ih:=xv CH NE p st m0 w mv t t8 ss N' gr.iv (VR hw gr.le) (fun x hx=>hs x (Vb _ hx)) (fq (.int s)) (fq .non);cases hgs:(bU t (w++[mv]) ss N').1 with
    |some d=>
     rw[hgs]at ih;dsimp only at ih ⊢;rw[gE,dH,ha,Jp,h1,Jp];exact ih
    |none=>
     rw[hgs]at ih;dsimp only at ih ⊢;obtain⟨u9,MH,ih⟩:=ih;refine⟨u9,MH,?_⟩;rw[gE,dH,ha,Jp,h1,Jp];exact ih
theorem y9(t:List Int):Ml (eM t) .non=.ok (.f,.bl false):=id rfl
theorem xw(t:List Int):isnO (eM t) .non=.ok (.f,.bl true):=id rfl
theorem zX:Ml .non .non=.ok (.f,.bl true):=id rfl
theorem Fd(nY:LNN)(ps:List Pl)(hl:ps.length<=100)(hp:∀q∈ps,Ka q nY.length)(ap:List IY)(NT:ap.length<=60)(hb:∀a∈ap,0<=a.2.2/\a.2.2<12)(p:Addr)(N:List Gt)(i:Iv N)(n:Gt)(hw:n.2.2.length+1<=N.length)(mv:List Nat)(hm:mv∈nY)(t7 t8 t9 JX:Option R):
  match(dI nY ps ap n mv N).1 with
  |some d=>cK [fq (Jb nY ap),fq (eN nY ps),some (.pin p .d,dG N),fq (.int n.1),fq (eM n.2.1),fq (wD n.2.2),fq (.str mv),t7,t8,t9,JX]=.ok (.rt (.t [.f,.pin p .d],.tup [d,dG (dI nY ps ap n mv N).2]))
  |none=>∃u7 u8 u9 MH,cK [fq (Jb nY ap),fq (eN nY ps),some (.pin p .d,dG N),fq (.int n.1),fq (eM n.2.1),fq (wD n.2.2),fq (.str mv),t7,t8,t9,JX]=.ok (.nx [fq (Jb nY ap),fq (eN nY ps),some (.pin p .d,dG (dI nY ps ap n mv N).2),fq (.int n.1),fq (eM n.2.1),fq (wD n.2.2),fq (.str mv),u7,u8,u9,MH]):=by
 have LI:=Cb nY ps hl hp n.2.1 mv hm;have MI:=xr nY ap n.1 mv (by lia);have UX:=oO (br (nY.idxOf mv) (n.2.1.zip ps));have hfg:=IW (jN ap n.1 mv);have hg:∀s∈jN ap n.1 mv,0<=s/\s<12:=fun s hs=>by
  unfold jN at hs;obtain⟨a,ha,e⟩:=l5 hs;rw[<-e];exact hb a (V7.mp ha).1
 unfold dI;unfold cK;rw[av (env':=[fq (Jb nY ap),fq (eN nY ps),some (.pin p .d,dG N),fq (.int n.1),fq (eM n.2.1),fq (wD n.2.2),fq (.str mv),fq (eO (br (nY.idxOf mv) (n.2.1.zip ps))),t8,t9,JX]) (by
  generalize eN nY ps=NE at LI ⊢;generalize Jb nY ap=CE at MI ⊢;simp only[pv,seval,op,LI,UX])]
 rw[av (env':=[fq (Jb nY ap),fq (eN nY ps),some (.pin p .d,dG N),fq (.int n.1),fq (eM n.2.1),fq (wD n.2.2),fq (.str mv),fq (eO (br (nY.idxOf mv) (n.2.1.zip ps))),some (.l .f,.lst ((jN ap n.1 mv).map D.int)),t9,JX]) (by
  generalize eN nY ps=NE at LI ⊢;generalize Jb nY ap=CE at MI ⊢;simp only[pv,seval,op,MI,hfg])]
 clear LI MI UX;have lp:=fun t=>xv (Jb nY ap) (eN nY ps) p n.1 n.2.1 n.2.2 mv t (fq (.lst ((jN ap n.1 mv).map D.int))) (jN ap n.1 mv) N i hw hg t9 JX
 generalize eN nY ps=NE at lp ⊢;generalize Jb nY ap=CE at lp ⊢;cases br (nY.idxOf mv) (n.2.1.zip ps) with
 |none=>
  cases hgs:jN ap n.1 mv with
  |nil=>
   dsimp only;refine⟨fq .non,fq (.lst []),t9,JX,?_⟩;have c0:((0:Int)<((0:Nat):Int))=False:=by simp
   unfold eO;generalize dG N=G1;rw[av (env':=[fq CE,fq NE,some (.pin p .d,G1),fq (.int n.1),fq (eM n.2.1),fq (wD n.2.2),fq (.str mv),fq .non,some (.l .f,.lst []),t9,JX]) (by simp only[pv,seval,op,zX,V8,Wl,Yn,W3,dJ] <;> rfl)];rw[av (env':=[fq CE,fq NE,some (.pin p .d,G1),fq (.int n.1),fq (eM n.2.1),fq (wD n.2.2),fq (.str mv),fq .non,some (.l .f,.lst []),t9,JX]) (by simp only[pv,seval,op,mT,V8,dJ])];unfold fZ;simp only[pv,seval,op]
  |cons s ss=>
   dsimp only;unfold eO;generalize dG N=G1;have c0:decide ((0:Int)<((ss.length+1:Nat):Int))=true:=VB (by lia);rw[Jq];simp only[pv,seval,op,zX,ic,bu,c0];rfl
 |some t=>
  have Qz:=lp t;clear lp;cases hgs:jN ap n.1 mv with
  |nil=>
   dsimp only;show _=Res.ok (Out.rt (O.t [.f,.pin p .d],D.tup [y8 n.2.2 mv,dG N]));show(sSeq _ _) [fq CE,fq NE,some (.pin p .d,dG N),fq (.int n.1),fq (eM n.2.1),fq (wD n.2.2),fq (.str mv),fq (eM t),some (.l .f,.lst []),t9,JX]=_;generalize dG N=G1;rw[av (env':=[fq CE,fq NE,some (.pin p .d,G1),fq (.int n.1),fq (eM n.2.1),fq (wD n.2.2),fq (.str mv),fq (eM t),some (.l .f,.lst []),t9,JX]) (by simp only[pv,seval,op,y9,dJ])];rw[Jq];simp only[pv,seval,op,xw,ic,Wl];rfl
  |cons s ss=>
   rw[hgs]at Qz;dsimp only;show match(bU t (n.2.2++[mv]) (s::ss) N).1 with
    |some d=>(sSeq _ _) [fq CE,fq NE,some (.pin p .d,dG N),fq (.int n.1),fq (eM n.2.1),fq (wD n.2.2),fq (.str mv),fq (eM t),some (.l .f,.lst ((s::ss).map D.int)),t9,JX]=.ok (.rt (.t [.f,.pin p .d],.tup [d,dG (bU t (n.2.2++[mv]) (s::ss) N).2]))
    |none=>∃u7 u8 u9 MH,(sSeq _ _) [fq CE,fq NE,some (.pin p .d,dG N),fq (.int n.1),fq (eM n.2.1),fq (wD n.2.2),fq (.str mv),fq (eM t),some (.l .f,.lst ((s::ss).map D.int)),t9,JX]=.ok (.nx [fq CE,fq NE,some (.pin p .d,dG (bU t (n.2.2++[mv]) (s::ss) N).2),fq (.int n.1),fq (eM n.2.1),fq (wD n.2.2),fq (.str mv),u7,u8,u9,MH])
   have c0:(((ss.length+1:Nat):Int)==0)=false:=by
    rw[Wf];lia
   rw[av (env':=[fq CE,fq NE,some (.pin p .d,dG N),fq (.int n.1),fq (eM n.2.1),fq (wD n.2.2),fq (.str mv),fq (eM t),some (.l .f,.lst ((s::ss).map D.int)),t9,JX]) (by
    generalize dG N=G1;simp only[pv,seval,op,y9,dJ])]
   rw[av (env':=[fq CE,fq NE,some (.pin p .d,dG N),fq (.int n.1),fq (eM n.2.1),fq (wD n.2.2),fq (.str mv),fq (eM t),some (.l .f,.lst ((s::ss).map D.int)),t9,JX]) (by
    generalize dG N=G1;simp only[pv,seval,op,xw,bu,c0,dJ])]
   have go:∀env':Res Out,eW (ay 9) cJ ((s::ss).map D.int) [fq CE,fq NE,some (.pin p .d,dG N),fq (.int n.1),fq (eM n.2.1),fq (wD n.2.2),fq (.str mv),fq (eM t),fq (.lst ((s::ss).map D.int)),t9,JX]=env'->fZ [fq CE,fq NE,some (.pin p .d,dG N),fq (.int n.1),fq (eM n.2.1),fq (wD n.2.2),fq (.str mv),fq (eM t),some (.l .f,.lst ((s::ss).map D.int)),t9,JX]=env':=fun env' h=>by
    unfold fZ;generalize dG N=G1 at h ⊢;generalize ((s::ss).map D.int)=LL at h ⊢;simp only[pv,seval,op];exact h
   cases MI:(bU t (n.2.2++[mv]) (s::ss) N).1 with
   |some d=>
    rw[MI]at Qz;exact go _ Qz
   |none=>
    rw[MI]at Qz;obtain⟨u9,MH,Qz⟩:=Qz;exact⟨_,_,u9,MH,go _ Qz⟩
structure Nc(nY:LNN)(ps:List Pl)(ap:List IY):Prop where
 pl:ps.length<=100
 po:∀q∈ps,Ka q nY.length
 al:ap.length<=60
 ab:∀a∈ap,0<=a.2.2/\a.2.2<12
theorem xx{nY:LNN}{ps:List Pl}{ap:List IY}(c:Nc nY ps ap)(p:Addr)(n:Gt):∀(l:LNN),(∀mv∈l,mv∈nY)->∀(N:List Gt),Iv N->n.2.2.length+1<=N.length->∀t6 t7 t8 t9 JX:Option R,
  match(a9 nY ps ap n l N).1 with
  |some d=>eW (ay 6) cK (l.map D.str) [fq (Jb nY ap),fq (eN nY ps),some (.pin p .d,dG N),fq (.int n.1),fq (eM n.2.1),fq (wD n.2.2),t6,t7,t8,t9,JX]=.ok (.rt (.t [.f,.pin p .d],.tup [d,dG (a9 nY ps ap n l N).2]))
  |none=>∃u6 u7 u8 u9 MH,eW (ay 6) cK (l.map D.str) [fq (Jb nY ap),fq (eN nY ps),some (.pin p .d,dG N),fq (.int n.1),fq (eM n.2.1),fq (wD n.2.2),t6,t7,t8,t9,JX]=.ok (.nx [fq (Jb nY ap),fq (eN nY ps),some (.pin p .d,dG (a9 nY ps ap n l N).2),fq (.int n.1),fq (eM n.2.1),fq (wD n.2.2),u6,u7,u8,u9,MH])
 |[],_,N,_,_,t6,t7,t8,t9,JX=>⟨t6,t7,t8,t9,JX,rfl⟩
 |mv::l,hm,N,i,hw,t6,t7,t8,t9,JX=>by
  have h1:=Fd nY ps c.pl c.po ap c.al c.ab p N i n hw mv (hm mv Va) t7 t8 t9 JX;have gr:=rH (nY:=nY) (ps:=ps) c.ab mv i hw;have ha:ay 6 (.str mv) [fq (Jb nY ap),fq (eN nY ps),some (.pin p .d,dG N),fq (.int n.1),fq (eM n.2.1),fq (wD n.2.2),t6,t7,t8,t9,JX]=.ok [fq (Jb nY ap),fq (eN nY ps),some (.pin p .d,dG N),fq (.int n.1),fq (eM n.2.1),fq (wD n.2.2),fq (.str mv),t7,t8,t9,JX]:=rfl;unfold a9;cases hg:dI nY ps ap n mv N with
  |mk o N'=>
   rw[hg]at h1 gr;cases o with
   |some d=>
    dsimp only at h1 ⊢;rw[gE,dH,ha,Jp,h1,Jp]
   |none=>
    dsimp only at h1 ⊢;obtain⟨u7,u8,u9,MH,h1⟩:=h1;have ih:=xx c p n l (fun x hx=>hm x (Vb _ hx)) N' gr.iv (VR hw gr.le) (fq (.str mv)) u7 u8 u9 MH;cases hgs:(a9 nY ps ap n l N').1 with
    |some d=>
     rw[hgs]at ih;dsimp only at ih ⊢;rw[gE,dH,ha,Jp,h1,Jp];exact ih
    |none=>
     rw[hgs]at ih;dsimp only at ih ⊢;obtain⟨v6,v7,v8,v9,v10,ih⟩:=ih;refine⟨v6,v7,v8,v9,v10,?_⟩;rw[gE,dH,ha,Jp,h1,Jp];exact ih
theorem uJ(nn:Nat)(c:O)(g:FS)(p:Addr)(d0 d1 d2 d3:D):fBodyJ 2 4 nn c g p [d0,d1,d2,d3]=Res.bnd (g ([fq d1,fq d2,some (.pin p c,d0),fq d3]++List.replicate nn none)) (f:=⟨fun o=>match o with | .rt r=>.ok r|_=>.bad⟩):=by
 unfold fBodyJ;dsimp only;rw[Vn ⟨rfl,(by decide:2<=3)⟩];rfl
theorem xy(c:Nc nY ps ap)(p:Addr)(N:List Gt)(i:Iv N)(n:Gt)(hn:n∈N)(hw:n.2.2.length+1<=N.length):
  d4 p [dG N,Jb nY ap,eN nY ps,.int n.1]=.ok (.t [.f,.pin p .d],.tup [(a9 nY ps ap n nY N).1.getD .non,dG (a9 nY ps ap n nY N).2]):=by
 have hd:=Fy (tL i.nd hn);unfold vG at hd;have fm:=gF n.2.1;have fw:=d6 n.2.2;have lp:=xx c p n nY (fun _ h=>h) N i hw none none none none none;unfold d4 p8;rw[uJ];simp only[List.replicate,Wy,Xt];rw[av (env':=[fq (Jb nY ap),fq (eN nY ps),some (.pin p .d,dG N),fq (.int n.1),fq (eM n.2.1),none,none,none,none,none,none]) (by
  generalize dG N=G1 at hd ⊢;simp only[pv,seval,op,hd,QZ,fm])]
 rw[av (env':=[fq (Jb nY ap),fq (eN nY ps),some (.pin p .d,dG N),fq (.int n.1),fq (eM n.2.1),fq (wD n.2.2),none,none,none,none,none]) (by
  generalize dG N=G1 at hd ⊢;simp only[pv,seval,op,hd,NY,fw])]
 have go:∀r:Res Out,eW (ay 6) cK (nY.map D.str) [fq (Jb nY ap),fq (eN nY ps),some (.pin p .d,dG N),fq (.int n.1),fq (eM n.2.1),fq (wD n.2.2),none,none,none,none,none]=r->iY [fq (Jb nY ap),fq (eN nY ps),some (.pin p .d,dG N),fq (.int n.1),fq (eM n.2.1),fq (wD n.2.2),none,none,none,none,none]=r:=fun r h=>by
  unfold iY;generalize dG N=G1 at h ⊢;unfold Jb at h ⊢;generalize eN nY ps=NE at h ⊢;simp only[pv,seval,op];exact h
 cases MI:(a9 nY ps ap n nY N).1 with
 |some d=>
  rw[MI]at lp;rw[Jq,go _ lp,Jp];rfl
 |none=>
  rw[MI]at lp;obtain⟨u6,u7,u8,u9,MH,lp⟩:=lp;rw[av (go _ lp)];unfold j8;generalize dG (a9 nY ps ap n nY N).2=G2;generalize eN nY ps=NE;generalize Jb nY ap=CE;simp only[pv,seval,op,ic,XD]
theorem Fe(c:Nc nY ps ap)(N:List Gt)(i:Iv N)(n:Gt)(hn:n∈N)(hw:n.2.2.length+1<=N.length):jV d4 .d (dG N) [Jb nY ap,eN nY ps,.int n.1]=.ok ((.f,(a9 nY ps ap n nY N).1.getD .non),dG (a9 nY ps ap n nY N).2):=
 sP (r:=(.f,(a9 nY ps ap n nY N).1.getD .non)) fun p=>xy c p N i n hn hw
def cS(nY:LNN)(ps:List Pl)(ap:List IY):Nat->Nat->List Gt->So
 | 0,_,N=>(none,N)
 |f+1,k,N=>match N[k]? with
  |none=>(none,N)
  |some n=>match a9 nY ps ap n nY N with
   |(some d,N')=>(some d,N')
   |(none,N')=>cS nY ps ap f (k+1) N'
theorem Ff{c:O}{F:Addr->List D->Res R}{fs:FOs}{env e:PV.Env}{o0 o1 o2:Opd}{ow:O}{d0:D}{ds:List D}{x:R×D}(h:fs env=.ok ([o0,o1,.var i,o2],e))(hi:e[i]?=some (some (ow,d0)))(ho:pU c ow=true)(hd:ji (e.set i none) [o0,o1,o2]=.ok ds)(hc:jV F c d0 ds=.ok x)(K0:(aS x.1.1 x.1.2&&aS c x.2)=true):
  wR 2 c F i fs env=.ok (x.1,(e.set i none).set i (some (ow,x.2))):=by
 unfold wR;rw[h];show(match([o0,o1,Opd.var i,o2]:List Opd)[2]? with
  |some (.var j')=>if j'=i then(match e[i]? with
   |some (some (ow,d0))=>if pU c ow then(ji (e.set i none) (([o0,o1,Opd.var i,o2]:List Opd).eraseIdx 2)).bind fun ds=>(jV F c d0 ds).bind fun x=>if aS x.1.1 x.1.2&&aS c x.2 then .ok (x.1,(e.set i none).set i (some (ow,x.2))) else .ok (x.1,((e.set i none).map frz).set i (some (ow,x.2))) else .bad
   |_=>.bad) else .bad
  |_=>.bad)=_
 show(if i=i then(match e[i]? with
   |some (some (ow,d0))=>if pU c ow then(ji (e.set i none) [o0,o1,o2]).bind fun ds=>(jV F c d0 ds).bind fun x=>if aS x.1.1 x.1.2&&aS c x.2 then .ok (x.1,(e.set i none).set i (some (ow,x.2))) else .ok (x.1,((e.set i none).map frz).set i (some (ow,x.2))) else .bad
   |_=>.bad) else .bad)=_
 rw[Vn rfl,hi];dsimp only;rw[Vn ho,hd];show((jV F c d0 ds).bind fun x=>if aS x.1.1 x.1.2&&aS c x.2 then .ok (x.1,(e.set i none).set i (some (ow,x.2))) else .ok (x.1,((e.set i none).map frz).set i (some (ow,x.2))))=_;rw[hc];show(if aS x.1.1 x.1.2&&aS c x.2 then Res.ok (x.1,(e.set i none).set i (some (ow,x.2))) else .ok (x.1,((e.set i none).map frz).set i (some (ow,x.2))))=_;rw[Vn K0]
theorem uK(nY:LNN)(ps:List Pl)(ap:List IY)(n:Gt)(mv:List Nat)(N:List Gt):∀d,(dI nY ps ap n mv N).1=some d->∃ds,d=.tup ds:=by
 have gs:∀(m:List Int) (w:LNN) (ss:List Int) (N:List Gt) d,(bU m w ss N).1=some d->∃ds,d=.tup ds:=by
  intro m w ss;induction ss with
  |nil=>intro N d h;cases h
  |cons s ss ih=>
   intro N d h;unfold bU at h;rcases mX N s m w with e|⟨ds,e⟩
   ·split at h
    ·rename_i d' N' e';rw[e']at e;cases e
    ·exact ih _ d h
   ·split at h
    ·rename_i d' N' e';rw[e']at e;cases e;cases h;exact⟨ds,rfl⟩
    ·rename_i N' e';rw[e']at e;cases e
 intro d h;unfold dI at h;split at h
 ·cases h
 ·cases h;exact⟨_,rfl⟩
 ·cases h;exact⟨_,rfl⟩
 ·exact gs _ _ _ _ d h
theorem lY(nY:LNN)(ps:List Pl)(ap:List IY)(n:Gt):∀(l:LNN) (N:List Gt) d,(a9 nY ps ap n l N).1=some d->∃ds,d=.tup ds
 |[],N,d,h=>by cases h
 |mv::l,N,d,h=>by
  unfold a9 at h;split at h
  ·rename_i d' N' e;cases h;exact uK nY ps ap n mv N d (by rw[e])
  ·exact lY nY ps ap n l _ d h
theorem Cj(N:List Gt):wK [dG N]=.ok (.l .f,.lst (N.map fun n=>D.int n.1)):=rfl
theorem Fg(c:Nc nY ps ap)(N:List Gt)(i:Iv N)(k:Nat)(n:Gt)(hk:N[k]?=some n)(t4:Option R):
  match(a9 nY ps ap n nY N).1 with
  |some d=>fR [fq (Jb nY ap),fq (eN nY ps),some (.d,dG N),fq (.int (k:Int)),t4]=.ok (.rt (.f,d))
  |none=>fR [fq (Jb nY ap),fq (eN nY ps),some (.d,dG N),fq (.int (k:Int)),t4]=.ok (.nx [fq (Jb nY ap),fq (eN nY ps),some (.d,dG (a9 nY ps ap n nY N).2),fq (.int ((k+1:Nat):Int)),fq .non]):=by
 have hn:n∈N:=VF hk;have QX:=(kl hk).1;have N8:=i.wl k n hk;have hw:n.2.2.length+1<=N.length:=by lia
 have gr:=gm (nY:=nY) (ps:=ps) c.ab nY i hw (n:=n);have hc:=Fe c N i n hn hw;have cl:=tM (a9 nY ps ap n nY N).2;have sh:=lY nY ps ap n nY N;have cf:aS .f ((a9 nY ps ap n nY N).1.getD .non)=true:=by rw[aS];exact gr.fl
 have LC:JV (N.map fun n=>D.int n.1) (k:Int)=some (.int n.1):=fB (by rw[Vs,hk];rfl);have UY:=Cj N;revert hc cl sh cf;generalize (a9 nY ps ap n nY N).1=o;generalize dG (a9 nY ps ap n nY N).2=G2;intro hc cl sh cf;unfold fR;have e1:wR 2 (.d) d4 2 (ag (ao 0) (ag (ao 1) (ag (ao 2) (ag (aj (az IZ (aj (aY wK (ag (ao 2) aB))) (ao 3))) aB)))) [fq (Jb nY ap),fq (eN nY ps),some (.d,dG N),fq (.int (k:Int)),t4]=.ok ((.f,o.getD .non),[fq (Jb nY ap),fq (eN nY ps),some (.d,G2),fq (.int (k:Int)),t4]):=by
  generalize dG N=G1 at UY hc ⊢;generalize eN nY ps=NE at hc ⊢;generalize Jb nY ap=CE at hc ⊢;rw[Ff (o0:=.var 0) (o1:=.var 1) (o2:=.val (.int n.1)) (e:=[fq CE,fq NE,some (.d,G1),fq (.int (k:Int)),t4]) (ow:=.d) (d0:=G1) (ds:=[CE,NE,.int n.1]) (by simp only[pv,seval,op,UY,LC]) rfl rfl rfl hc (by
   show(aS .f (o.getD .non)&&aS .d G2)=true;rw[cf,cl];rfl)]
  rfl
 rw[av (env':=[fq (Jb nY ap),fq (eN nY ps),some (.d,G2),fq (.int (k:Int)),fq (o.getD .non)]) (by
  generalize dG N=G1 at e1 ⊢;generalize eN nY ps=NE at e1 ⊢;generalize Jb nY ap=CE at e1 ⊢;rw[ND,e1,Jp];rfl)]
 generalize eN nY ps=NE;generalize Jb nY ap=CE;cases o with
 |some d=>
  obtain⟨ds,rfl⟩:=sh d rfl;dsimp only;rw[Jq];simp only[pv,seval,op,zW,XE]
 |none=>
  dsimp only;rw[av (env':=[fq CE,fq NE,some (.d,G2),fq (.int (k:Int)),fq .non]) (by simp only[pv,seval,op,mT,XD,dJ])];simp only[pv,seval,op,YO,Yn]
theorem Fh(N:List Gt):gH [dG N]=.ok (.f,.int (N.length:Int)):=by
 show Res.ok (O.f,D.int (((N.map fun n=>D.int n.1).length:Nat):Int))=_;rw[bu]
section
variable{f k:Nat}{d:D}
theorem jK(h:N[k]?=none):cS nY ps ap (f+1) k N=(none,N):=by rw[cS,h]
theorem jL(h:N[k]?=some n)(hm:a9 nY ps ap n nY N=(some d,N')):cS nY ps ap (f+1) k N=(some d,N'):=by
 rw[cS,h];dsimp only;rw[hm]
theorem lZ(h:N[k]?=some n)(hm:a9 nY ps ap n nY N=(none,N')):cS nY ps ap (f+1) k N=cS nY ps ap f (k+1) N':=by
 rw[cS,h];dsimp only;rw[hm]
end
theorem held_w{nY:LNN}{ps:List Pl}{ap:List IY}(c:Nc nY ps ap):∀(f F k:Nat) (N:List Gt),Iv N->k<=N.length->13<=f+k->f<=F->∀t4:Option R,
  match(cS nY ps ap f k N).1 with
  |some d=>cT (Jf (az Mb (ao 3) (aj (aY gH (ag (ao 2) aB))))) fR F [fq (Jb nY ap),fq (eN nY ps),some (.d,dG N),fq (.int (k:Int)),t4]=.ok (.rt (.f,d))
  |none=>∃u4,cT (Jf (az Mb (ao 3) (aj (aY gH (ag (ao 2) aB))))) fR F [fq (Jb nY ap),fq (eN nY ps),some (.d,dG N),fq (.int (k:Int)),t4]=.ok (.nx [fq (Jb nY ap),fq (eN nY ps),some (.d,dG (cS nY ps ap f k N).2),fq (.int ((cS nY ps ap f k N).2.length:Int)),u4])
 | 0,F,k,N,i,hk,hf,_,t4=>by
  have:=i.le;lia
 |f+1,0,k,N,i,hk,hf,hF,t4=>by lia
 |f+1,F+1,k,N,i,hk,hf,hF,t4=>by
  have hlen:=Fh N;by_cases Jv:k<N.length
  ·have Lu:N[k]?=some N[k]:=mf Jv;have h1:=Fg c N i k N[k] Lu t4;have N8:=i.wl k _ Lu;have gr:=gm (nY:=nY) (ps:=ps) c.ab nY i (n:=N[k]) (by lia);have hc:(Jf (az Mb (ao 3) (aj (aY gH (ag (ao 2) aB))))) [fq (Jb nY ap),fq (eN nY ps),some (.d,dG N),fq (.int (k:Int)),t4]=.ok (true,[fq (Jb nY ap),fq (eN nY ps),some (.d,dG N),fq (.int (k:Int)),t4]):=by
    have:(k:Int)<(N.length:Int):=by lia
    generalize dG N=G1 at hlen ⊢;generalize eN nY ps=NE;generalize Jb nY ap=CE;simp only[pv,seval,op,hlen,this,XC]
   cases hg:a9 nY ps ap N[k] nY N with
   |mk o N'=>
    rw[hg]at h1 gr;cases o with
    |some d=>
     rw[jL Lu hg];dsimp only at h1 ⊢;rw[eD,hc,Jp];dsimp only;rw[Vn rfl,h1,Jp]
    |none=>
     rw[lZ Lu hg];dsimp only at h1 gr ⊢;have hl:=gr.le;have ih:=held_w c f F (k+1) N' gr.iv (by lia) (by lia) (by lia) (fq .non);cases hgs:(cS nY ps ap f (k+1) N').1 with
     |some d=>
      rw[hgs]at ih;dsimp only at ih ⊢;rw[eD,hc,Jp];dsimp only;rw[Vn rfl,h1,Jp];exact ih
     |none=>
      rw[hgs]at ih;dsimp only at ih ⊢;obtain⟨w4,ih⟩:=ih;refine⟨w4,?_⟩;rw[eD,hc,Jp];dsimp only;rw[Vn rfl,h1,Jp];exact ih
  ·have Lu:N[k]?=none:=WV (by lia);have ek:k=N.length:=by lia
   rw[jK Lu];dsimp only;refine⟨t4,?_⟩;have hc:(Jf (az Mb (ao 3) (aj (aY gH (ag (ao 2) aB))))) [fq (Jb nY ap),fq (eN nY ps),some (.d,dG N),fq (.int (k:Int)),t4]=.ok (false,[fq (Jb nY ap),fq (eN nY ps),some (.d,dG N),fq (.int (k:Int)),t4]):=by
    have:¬ (k:Int)<(N.length:Int):=by lia
    generalize dG N=G1 at hlen ⊢;generalize eN nY ps=NE;generalize Jb nY ap=CE;simp only[pv,seval,op,hlen,this,W3]
   rw[eD,hc,Jp];dsimp only;rw[Vt Vg,ek]
def N0(ps:List Pl):List Gt:=[(0,ps.map (·.1),[])]
theorem SV(ps:List Pl):Iv (N0 ps):=by
 refine⟨?_,fun n hn=>?_,fun k n hk=>?_⟩
 ·show[(0:Int)].Nodup;exact VN.mpr ⟨Wn,Wu⟩
 ·rw[iC hn];exact⟨Zf 0,(by decide:(0:Int)<12)⟩
 ·cases k with
  |zero=>
   cases hk;exact Vl _
  |succ k=>simp[N0]at hk
abbrev walk(nY:LNN)(ps:List Pl)(ap:List IY):So:=cS nY ps ap 13 0 (N0 ps)
def mk(N:List Gt)(s:Int):List Int:=((N.find? fun z=>z.1==s).map (·.2.1)).getD []
theorem Fi(h:(N.find? fun z=>z.1==s)=some n):mk N s=n.2.1:=by
 unfold mk;rw[h];rfl
theorem za(h:s∈N.map (·.1)):∃n,(N.find? fun z=>z.1==s)=some n:=by
 cases hf:N.find? fun z=>z.1==s with
 |none=>
  rw[Xj]at hf;obtain⟨z,hz,e⟩:=l5 h;exact absurd (V5.mpr e) (hf z hz)
 |some n=>exact⟨n,rfl⟩
def GZ(l:List (List Int)):D:=.tup [.str [115,97,109,101],.lst (l.map eM)]
theorem Fj(N:List Gt)(k:Nat)(all:∀s:Nat,s<k->(s:Int)∈N.map (·.1)):cV (ay 0) fU (az IZ (aj (az MV (ao 1) (ao 0))) (aj (aD (.int 0)))) ((List.range k).map fun(s:Nat)=>D.int (s:Int)) [none,fq (dG N)]=.ok (((List.range k).map fun(s:Nat)=>mk N (s:Int)).map eM):=by
 rw[bX (r:=fun s:Nat=>eM (mk N (s:Int))) (fun env=>∃t,env=[t,fq (dG N)]) (List.range k) ?_ _ ⟨none,rfl⟩]
 ·rw[VU];rfl
 ·rintro s hs env ⟨t,rfl⟩;obtain⟨n,hn⟩:=za (all s (VD.mp hs));have hd:=Fy hn;unfold vG at hd;rw[Fi hn];generalize dG N=G1 at hd ⊢;exact⟨[fq (.int (s:Int)),fq G1],rfl,.f,[fq (.int (s:Int)),fq G1],by simp only[pv,seval,op,hd,QZ],_,rfl⟩
theorem tN(nY:LNN)(ps:List Pl)(hl:ps.length<=100):b7 [eN nY ps]=.ok (.f,eM (ps.map (·.1))):=by
 have hc:cV (iJ 3 (aH (ay 0) (aH (ay 1) (aH (ay 2) df)))) fU (aJ 0) (ps.map eP) [none,none,none]=.ok ((ps.map (·.1)).map D.int):=by
  rw[bX (r:=fun p:Pl=>D.int p.1) (fun env=>∃t u w,env=[t,u,w]) ps ?_ _ ⟨none,none,none,rfl⟩]
  ·rw[VU];rfl
  ·rintro p _ env ⟨t,u,w,rfl⟩;exact⟨[fq (.int p.1),fq (.tup (p.2.1.map D.int)),fq (.tup (p.2.2.map D.int))],by unfold eP;simp only[pv,seval],.f,_,rfl,_,_,_,rfl⟩
 have NU:((ps.map (·.1)).map D.int).length<=sizeLine:=line_le (by rw[bu,bu];lia);unfold b7 kh eN;rw[bB (h:=by rfl)];simp only[pv,seval,op,L0,hc,NU,IW];rfl
theorem Fl(c:Nc nY ps ap)(Mx:0<=statesOf ap/\statesOf ap<=12)(all:(walk nY ps ap).1=none->∀s:Nat,s<(statesOf ap).toNat->(s:Int)∈(walk nY ps ap).2.map (·.1)):
  j9 [Jb nY ap,eN nY ps]=.ok (.f,((walk nY ps ap).1).getD (GZ ((List.range (statesOf ap).toNat).map fun(s:Nat)=>mk (walk nY ps ap).2 (s:Int)))):=by
 have JS:=c.pl;have NT:=c.al;have UZ:=Ca nY ps (by lia);have fm:=gF (ps.map (·.1));have R7:=rB nY ap (by lia);have hw:=held_w c 13 100000 0 (N0 ps) (SV ps) (V0 _) (by lia) (by lia) none;have KH:Kr (.tup (nY.map D.str)) (.tup (nY.map D.str))=.ok (.f,.bl false):=lV _ (by rw[plainD];exact mS _ _);have Sd:IZ (Jb nY ap) (.int 0)=.ok (.f,.tup (nY.map D.str)):=rfl;have K6:IZ (eN nY ps) (.int 0)=.ok (.f,.tup (nY.map D.str)):=rfl;unfold j9 zR;rw[bB (h:=by rfl)];rw[av (env':=[fq (Jb nY ap),fq (eN nY ps),none,none,none]) (by
  generalize eN nY ps=NE at K6 ⊢;generalize Jb nY ap=CE at Sd ⊢;simp only[pv,seval,op,Sd,K6,KH,dJ])]
 rw[av (env':=[fq (Jb nY ap),fq (eN nY ps),some (.d,dG (N0 ps)),none,none]) (by
  generalize eN nY ps=NE at UZ ⊢;generalize Jb nY ap=CE;simp only[pv,seval,op,UZ,fm];rfl)]
 rw[av (env':=[fq (Jb nY ap),fq (eN nY ps),some (.d,dG (N0 ps)),fq (.int ((0:Nat):Int)),none]) (by
  generalize dG (N0 ps)=G0;simp only[pv,seval,op])]
 unfold walk at all ⊢;cases MI:(cS nY ps ap 13 0 (N0 ps)).1 with
 |some d=>
  rw[MI]at hw;dsimp only at hw;rw[Jq];unfold om;rw[hw,Jp];rfl
 |none=>
  rw[MI]at hw;obtain⟨u4,hw⟩:=hw;have SW:=Fj (cS nY ps ap 13 0 (N0 ps)).2 (statesOf ap).toNat (all MI)
  rw[av (env':=_) (by
   unfold om;exact hw)]
  unfold qe;have U0:(((List.range (statesOf ap).toNat).map fun(s:Nat)=>mk (cS nY ps ap 13 0 (N0 ps)).2 (s:Int)).map eM).length<=sizeLine:=bS (by
   rw[bu,bu,VG];lia)
  generalize ((List.range (statesOf ap).toNat).map fun(s:Nat)=>mk (cS nY ps ap 13 0 (N0 ps)).2 (s:Int))=RR at SW U0 ⊢;generalize dG (cS nY ps ap 13 0 (N0 ps)).2=G2 at SW ⊢;generalize eN nY ps=NE;generalize Jb nY ap=CE at R7 ⊢;have hr:=ID (statesOf ap) Mx.1 (by lia) (aj (cX cI (ag (ao 0) aB))) [fq CE,fq NE,some (.d,G2),fq (.int ((cS nY ps ap 13 0 (N0 ps)).2.length:Int)),u4] [fq CE,fq NE,some (.d,G2),fq (.int ((cS nY ps ap 13 0 (N0 ps)).2.length:Int)),u4] (.val (.int (statesOf ap))) (by simp only[pv,seval,op,R7]) rfl;generalize fF (aj (cX cI (ag (ao 0) aB)))=IT at hr ⊢;generalize (az IZ (aj (az MV (ao 1) (ao 0))) (aj (aD (.int 0))))=GG at SW ⊢;simp only[pv,seval,op,hr,SW,U0];rfl
theorem fA:s∈jN ap x mv<->((x,mv,s):IY)∈ap:=by
 unfold jN;rw[Wz];constructor
 ·rintro⟨a,ha,e⟩;obtain⟨h1,h2⟩:=V7.mp ha;rw[Vu,V5,V5]at h2;obtain⟨a1,a2,a3⟩:=a;obtain⟨e1,e2⟩:=h2;cases e1;cases e2;cases e;exact h1
 ·intro h;exact⟨(x,mv,s),V7.mpr ⟨h,by simp⟩,rfl⟩
theorem zb{m:List Int}(h:(cA N s m w).1=none):s∈(cA N s m w).2.map (·.1):=by
 unfold cA kC at h ⊢;cases hf:N.find? (uI s m) with
 |some n=>
  rw[hf]at h;cases h
 |none=>
  rw[hf]at h;dsimp only at h ⊢;cases hs:N.find? fun n=>n.1==s with
  |none=>
   dsimp only;rw[VA];exact Vd _ (Vx.mpr rfl)
  |some n=>
   rw[hs]at h;dsimp only at h ⊢;by_cases hm:n.2.1=m
   ·rw[Vn hm];have h1:=Yi hs;have h1:n.1=s:=by simpa using h1
    exact Wz.mpr ⟨n,WQ hs,h1⟩
   ·rw[Vt hm]at h;cases h
theorem Gr.up(g:Gr N N' o)(h:s∈N.map (·.1)):s∈N'.map (·.1):=by
 obtain⟨m,e⟩:=g.ex;rw[e,VA];exact Vj _ h
theorem qD(m:List Int)(w:LNN):∀(ss:List Int) (N:List Gt),Iv N->(∀s∈ss,0<=s/\s<12)->w.length<=N.length->(bU m w ss N).1=none->∀s∈ss,s∈(bU m w ss N).2.map (·.1)
 |[],N,_,_,_,_=>fun _ h=>nomatch h
 |s::ss,N,i,hs,hw,h=>by
  have gr:=oP i (hs s Va) m hw;have gh:=zb (N:=N) (s:=s) (m:=m) (w:=w);unfold bU at h ⊢;cases hg:cA N s m w with
  |mk o N'=>
   rw[hg]at gr gh h;cases o with
   |some d=>cases h
   |none=>
    dsimp only at gr gh h ⊢;have g2:=oQ m w ss gr.iv (fun x hx=>hs x (Vb _ hx)) (VR hw gr.le);have ih:=qD m w ss N' gr.iv (fun x hx=>hs x (Vb _ hx)) (VR hw gr.le) h;intro x hx;rcases Vo.mp hx with e|hx
    ·rw[e];exact g2.up (gh rfl)
    ·exact ih x hx
theorem Cm(hb:∀a∈ap,0<=a.2.2/\a.2.2<12):∀s∈jN ap x mv,0<=s/\s<12:=fun s hs=>hb _ (fA.mp hs)
theorem qE{nY:LNN}{ps:List Pl}{ap:List IY}(hb:∀a∈ap,0<=a.2.2/\a.2.2<12){n:Gt}:∀(l:LNN) (N:List Gt),Iv N->n.2.2.length+1<=N.length->(a9 nY ps ap n l N).1=none->∀mv∈l,∀s∈jN ap n.1 mv,s∈(a9 nY ps ap n l N).2.map (·.1)
 |[],N,_,_,_=>fun _ h=>nomatch h
 |mv::l,N,i,hw,h=>by
  have gr:=rH (nY:=nY) (ps:=ps) hb mv i hw;have mh:(dI nY ps ap n mv N).1=none->∀s∈jN ap n.1 mv,s∈(dI nY ps ap n mv N).2.map (·.1):=fun h=>by
   unfold dI at h ⊢;have hg:=Cm hb (x:=n.1) (mv:=mv);cases hf:br (nY.idxOf mv) (n.2.1.zip ps) with
   |none=>
    rw[hf]at h;cases hgs:jN ap n.1 mv with
    |nil=>exact fun _ h=>nomatch h
    |cons s ss=>rw[hgs]at h;cases h
   |some t=>
    rw[hf]at h;cases hgs:jN ap n.1 mv with
    |nil=>rw[hgs]at h;cases h
    |cons s ss=>
     rw[hgs]at h hg;exact qD t (n.2.2++[mv]) (s::ss) N i hg (by rw[jb];exact hw) h
  unfold a9 at h ⊢;cases hg:dI nY ps ap n mv N with
  |mk o N'=>
   rw[hg]at gr mh h;cases o with
   |some d=>cases h
   |none=>
    dsimp only at gr mh h ⊢;have g2:=gm (nY:=nY) (ps:=ps) hb l gr.iv (n:=n) (VR hw gr.le);have ih:=qE hb l N' gr.iv (VR hw gr.le) h;intro x hx s hs;rcases Vo.mp hx with e|hx
    ·rw[e]at hs;exact g2.up (mh rfl s hs)
    ·exact ih x hx s hs
def Cl(nY:LNN)(ap:List IY)(N:List Gt)(k:Nat):Prop:=∀(j:Nat) (n:Gt),j<k->N[j]?=some n->∀mv∈nY,∀s∈jN ap n.1 mv,s∈N.map (·.1)
theorem tP{nY:LNN}{ps:List Pl}{ap:List IY}(hb:∀a∈ap,0<=a.2.2/\a.2.2<12):∀(f k:Nat) (N:List Gt),Iv N->k<=N.length->13<=f+k->Cl nY ap N k->(cS nY ps ap f k N).1=none->Gr N (cS nY ps ap f k N).2 none/\Cl nY ap (cS nY ps ap f k N).2 (cS nY ps ap f k N).2.length
 | 0,k,N,i,hk,hf,_,_=>by
  have:=i.le;lia
 |f+1,k,N,i,hk,hf,cl,h=>by
  by_cases Jv:k<N.length
  ·have Lu:N[k]?=some N[k]:=mf Jv;have N8:=i.wl k _ Lu;have gr:=gm (nY:=nY) (ps:=ps) hb nY i (n:=N[k]) (by lia);have mh:=qE (nY:=nY) (ps:=ps) hb (n:=N[k]) nY N i (by lia);cases hg:a9 nY ps ap N[k] nY N with
   |mk o N'=>
    rw[hg]at gr mh;cases o with
    |some d=>rw[jL Lu hg]at h;cases h
    |none=>
     rw[lZ Lu hg]at h ⊢;dsimp only at gr mh;have hl:=gr.le;obtain⟨more,em⟩:=gr.ex;have cl':Cl nY ap N' (k+1):=fun j n hj hn mv LI s hs=>by
      have QA:N[j]?=some n:=by rw[em,V1 (by lia)]at hn;exact hn
      by_cases ej:j=k
      ·subst ej;rw[Lu]at QA;cases QA;exact mh rfl mv LI s hs
      ·exact gr.up (cl j n (by lia) QA mv LI s hs)
     obtain⟨g2,c2⟩:=tP hb f (k+1) N' gr.iv (by lia) (by lia) cl' h;exact⟨gr.trans g2,c2⟩
  ·have Lu:N[k]?=none:=WV (by lia);have ek:k=N.length:=by lia
   rw[jK Lu];exact⟨Gr.refl i,ek▸cl⟩
section
variable{P:Int->Prop}
theorem Fm{m:List Int}(h:∀n∈N,P n.1)(hs:P s):∀n∈(cA N s m w).2,P n.1:=by
 unfold cA kC;cases N.find? (uI s m) with
 |some n=>exact h
 |none=>
  dsimp only;cases N.find? fun n=>n.1==s with
  |none=>
   intro n hn;rcases kB hn with hn|hn
   ·exact h n hn
   ·rw[iC hn];exact hs
  |some n=>
   dsimp only;by_cases hm:n.2.1=m
   ·rw[Vn hm];exact h
   ·rw[Vt hm];exact h
theorem xA(m:List Int)(w:LNN):∀(ss:List Int) (N:List Gt),(∀n∈N,P n.1)->(∀s∈ss,P s)->∀n∈(bU m w ss N).2,P n.1
 |[],N,h,_=>h
 |s::ss,N,h,hs=>by
  have g:=Fm (m:=m) (w:=w) h (hs s Va);unfold bU;cases hg:cA N s m w with
  |mk o N'=>
   rw[hg]at g;cases o with
   |some d=>exact g
   |none=>exact xA m w ss N' g fun x hx=>hs x (Vb _ hx)
theorem xB{nY:LNN}{ps:List Pl}{ap:List IY}(ha:∀a∈ap,P a.2.2){n:Gt}:∀(l:LNN) (N:List Gt),(∀n∈N,P n.1)->∀n'∈(a9 nY ps ap n l N).2,P n'.1
 |[],N,h=>h
 |mv::l,N,h=>by
  have g:∀n'∈(dI nY ps ap n mv N).2,P n'.1:=by
   unfold dI;split
   ·exact h
   ·exact h
   ·exact h
   ·rename_i t s ss _ e;exact xA t _ (s::ss) N h fun x hx=>ha _ (fA.mp (by rw[e];exact hx))
  unfold a9;cases hg:dI nY ps ap n mv N with
  |mk o N'=>
   rw[hg]at g;cases o with
   |some d=>exact g
   |none=>exact xB ha l N' g
theorem zY{nY:LNN}{ps:List Pl}{ap:List IY}(ha:∀a∈ap,P a.2.2):∀(f k:Nat) (N:List Gt),(∀n∈N,P n.1)->∀n∈(cS nY ps ap f k N).2,P n.1
 | 0,k,N,h=>h
 |f+1,k,N,h=>by
  cases hk:N[k]? with
  |none=>rw[jK hk];exact h
  |some n=>
   have g:=xB (nY:=nY) (ps:=ps) ha (n:=n) nY N h;cases hg:a9 nY ps ap n nY N with
   |mk o N'=>
    rw[hg]at g;cases o with
    |some d=>rw[jL hk hg];exact g
    |none=>rw[lZ hk hg];exact zY ha f (k+1) N' g
end
theorem walk_all(r:Ra nY ap mZ)(h:(walk nY ps ap).1=none):
  (walk nY ps ap).2.length<=12/\((walk nY ps ap).2.length:Int)=statesOf ap/\∀s:Nat,s<(walk nY ps ap).2.length->(s:Int)∈(walk nY ps ap).2.map (·.1):=by
 have hm:=r.mm;have hb:∀a∈ap,0<=a.2.2/\a.2.2<12:=fun a ha=>by
  have:=r.bd a ha;lia
 have Mx:=qw hm.1 r.bd;obtain⟨g,cl⟩:=tP (nY:=nY) (ps:=ps) hb 13 0 (N0 ps) (SV ps) (V0 _) (by lia) (fun j n hj=>by lia) h;have kp:=zY (P:=fun s=>0<=s/\s<statesOf ap) (nY:=nY) (ps:=ps) (ap:=ap) (fun a ha=>⟨(hb a ha).1,(qr ha).2⟩) 13 0 (N0 ps) (fun n hn=>by
  rw[iC hn];exact⟨Zf 0,by show(0:Int)<_;lia⟩)
 unfold walk at h ⊢;generalize cS nY ps ap 13 0 (N0 ps)=W at h g cl kp ⊢;have z0:(0:Int)∈W.2.map (·.1):=g.up (Vx.mpr rfl);have key:∀j:Nat,j<mZ->(j:Int)∈W.2.map (·.1):=by
  intro j;induction j using Nat.strongRecOn with
  |_ j ih=>
   intro hj;cases j with
   |zero=>exact z0
   |succ j=>
    obtain⟨a,ha,e1,b,Ub,e2⟩:=r.rc (j+1) (by lia) hj;obtain⟨n,hn,en⟩:=l5 (ih b Ub (by lia));obtain⟨x,hx,ex⟩:=X8 hn;have:=cl x n hx (by rw[mf hx,ex]) a.2.1 (r.nm a ha) a.2.2 (fA.mpr (by rw[en,<-e2];exact ha));rw[e1]at this;exact this
 have len:(W.2.length:Int)=statesOf ap:=by
  have l1:W.2.length<=(statesOf ap).toNat:=by
   have:=jI (statesOf ap).toNat g.iv.nd (fun x hx=>by
    obtain⟨n,hn,e⟩:=l5 hx;rw[<-e];have:=kp n hn;lia)
   rwa [bu]at this
  have l2:(statesOf ap).toNat<=W.2.length:=by
   have:=lX ((List.range (statesOf ap).toNat).map fun(s:Nat)=>(s:Int)) (W.2.map (·.1)) (eU _ _ fun i j _ _ e=>by lia) (fun x hx=>by
    obtain⟨s,hs,e⟩:=l5 hx;rw[<-e];exact key s (by have:=VD.mp hs;lia))
   rwa [bu,VG,bu]at this
  lia
 exact⟨g.iv.le,len,fun s hs=>key s (by lia)⟩
structure Or(nY:LNN)(ps:List Pl)(S:List (List Int))(ap:List IY):Prop where
 nd:S.Nodup
 z:S[0]?=some (ps.map (·.1))
 ab:∀(x s:Int) (mv:List Nat),((x,mv,s):IY)∈ap->∃i j:Nat,x=(i:Int)/\s=(j:Int)/\∃a b,S[i]?=some a/\S[j]?=some b/\br (nY.idxOf mv) (a.zip ps)=some b
 fu:∀(i:Nat) (mv:List Nat) (a t:List Int),mv∈nY->S[i]?=some a->br (nY.idxOf mv) (a.zip ps)=some t->∃m:Nat,(((i:Int),mv,(m:Int)):IY)∈ap
def Dj(N:List Gt):Prop:=∀n∈N,∀n'∈N,n.2.1=n'.2.1->n.1=n'.1
def Has(N:List Gt)(s:Int)(m:List Int):Prop:=∃n∈N,n.1=s/\n.2.1=m
theorem Cn{m:List Int}(h:(cA N s m w).1=none)(dj:Dj N):Dj (cA N s m w).2/\Has (cA N s m w).2 s m/\∀n∈N,n∈(cA N s m w).2:=by
 unfold cA kC at h ⊢;cases hf:N.find? (uI s m) with
 |some n=>
  rw[hf]at h;cases h
 |none=>
  rw[hf]at h;rw[Xj]at hf;have no:∀n∈N,n.2.1=m->n.1=s:=fun n hn e=>by
   have:=hf n hn;unfold uI at this;rw[e,VB rfl,YG]at this;simpa using this
  dsimp only at h ⊢;cases hs:N.find? fun n=>n.1==s with
  |none=>
   dsimp only;refine⟨fun n hn n' Pp e=>?_,⟨(s,m,w),Vd _ (Vx.mpr rfl),rfl,rfl⟩,fun n hn=>Vj _ hn⟩;rcases kB hn with h1|h1 <;> rcases kB Pp with h2|h2
   ·exact dj n h1 n' h2 e
   ·rw[iC h2]at e ⊢;exact no n h1 e
   ·rw[iC h1]at e ⊢;exact(no n' h2 e.symm).symm
   ·rw[iC h1,iC h2]
  |some n=>
   rw[hs]at h;dsimp only at h ⊢;have h1:=Yi hs;have h1:n.1=s:=by simpa using h1
   by_cases hm:n.2.1=m
   ·rw[Vn hm];exact⟨dj,⟨n,WQ hs,h1,hm⟩,fun _ h=>h⟩
   ·rw[Vt hm]at h;cases h
theorem Has.up{m:List Int}(h:Has N s m)(u:∀n∈N,n∈N'):Has N' s m:=by
 obtain⟨n,hn,e⟩:=h;exact⟨n,u n hn,e⟩
theorem tR(m:List Int)(w:LNN):∀(ss:List Int) (N:List Gt),(bU m w ss N).1=none->Dj N->Dj (bU m w ss N).2/\(∀s∈ss,Has (bU m w ss N).2 s m)/\∀n∈N,n∈(bU m w ss N).2
 |[],N,_,dj=>⟨dj,(fun _ h=>nomatch h),fun _ h=>h⟩
 |s::ss,N,h,dj=>by
  have g:=Cn (N:=N) (s:=s) (m:=m) (w:=w);unfold bU at h ⊢;cases hg:cA N s m w with
  |mk o N'=>
   rw[hg]at g h;cases o with
   |some d=>cases h
   |none=>
    dsimp only at g h ⊢;obtain⟨g1,g2,g3⟩:=g rfl dj;obtain⟨i1,i2,i3⟩:=tR m w ss N' h g1;refine⟨i1,fun x hx=>?_,fun n hn=>i3 n (g3 n hn)⟩;rcases Vo.mp hx with rfl|hx
    ·exact g2.up i3
    ·exact i2 x hx
section
structure Mk(nY:LNN)(ps:List Pl)(ap:List IY)(N:List Gt)(n:Gt)(mv:List Nat):Prop where
 a:∀s∈jN ap n.1 mv,∃t,br (nY.idxOf mv) (n.2.1.zip ps)=some t/\Has N s t
 b:∀t,br (nY.idxOf mv) (n.2.1.zip ps)=some t->∃s,s∈jN ap n.1 mv
theorem Mk.up{N N':List Gt}{n:Gt}{mv:List Nat}(k:Mk nY ps ap N n mv)(u:∀n∈N,n∈N'):Mk nY ps ap N' n mv:=⟨fun s hs=>by
 obtain⟨t,h1,h2⟩:=k.a s hs;exact⟨t,h1,h2.up u⟩,k.b⟩
theorem Co(h:(dI nY ps ap n mv N).1=none)(dj:Dj N):Dj (dI nY ps ap n mv N).2/\Mk nY ps ap (dI nY ps ap n mv N).2 n mv/\∀x∈N,x∈(dI nY ps ap n mv N).2:=by
 unfold dI at h ⊢;cases hf:br (nY.idxOf mv) (n.2.1.zip ps) with
 |none=>
  rw[hf]at h;cases hgs:jN ap n.1 mv with
  |nil=>exact⟨dj,⟨(fun s hs=>by rw[hgs]at hs;cases hs),(fun t ht=>by rw[hf]at ht;cases ht)⟩,fun _ h=>h⟩
  |cons s ss=>rw[hgs]at h;cases h
 |some t=>
  rw[hf]at h;cases hgs:jN ap n.1 mv with
  |nil=>rw[hgs]at h;cases h
  |cons s ss=>
   rw[hgs]at h;obtain⟨g1,g2,g3⟩:=tR t (n.2.2++[mv]) (s::ss) N h dj;exact⟨g1,⟨fun x hx=>⟨t,hf,g2 x (by rw[hgs]at hx;exact hx)⟩,fun _ _=>⟨s,by rw[hgs];exact Va⟩⟩,g3⟩
theorem tU{n:Gt}:∀(l:LNN) (N:List Gt),(a9 nY ps ap n l N).1=none->Dj N->Dj (a9 nY ps ap n l N).2/\(∀mv∈l,Mk nY ps ap (a9 nY ps ap n l N).2 n mv)/\∀x∈N,x∈(a9 nY ps ap n l N).2
 |[],N,_,dj=>⟨dj,(fun _ h=>nomatch h),fun _ h=>h⟩
 |mv::l,N,h,dj=>by
  have g:=Co (nY:=nY) (ps:=ps) (ap:=ap) (n:=n) (mv:=mv) (N:=N);unfold a9 at h ⊢;cases hg:dI nY ps ap n mv N with
  |mk o N'=>
   rw[hg]at g h;cases o with
   |some d=>cases h
   |none=>
    dsimp only at g h ⊢;obtain⟨g1,g2,g3⟩:=g rfl dj;obtain⟨i1,i2,i3⟩:=tU l N' h g1;refine⟨i1,fun x hx=>?_,fun n hn=>i3 n (g3 n hn)⟩;rcases Vo.mp hx with rfl|hx
    ·exact g2.up i3
    ·exact i2 x hx
def Ck(nY:LNN)(ps:List Pl)(ap:List IY)(N:List Gt)(k:Nat):Prop:=∀(j:Nat) (n:Gt),j<k->N[j]?=some n->∀mv∈nY,Mk nY ps ap N n mv
theorem xC(hb:∀a∈ap,0<=a.2.2/\a.2.2<12):∀(f k:Nat) (N:List Gt),Iv N->k<=N.length->13<=f+k->Dj N->Ck nY ps ap N k->(cS nY ps ap f k N).1=none->Iv (cS nY ps ap f k N).2/\Dj (cS nY ps ap f k N).2/\Ck nY ps ap (cS nY ps ap f k N).2 (cS nY ps ap f k N).2.length/\∀x∈N,x∈(cS nY ps ap f k N).2
 | 0,k,N,i,hk,hf,_,_,_=>by
  have:=i.le;lia
 |f+1,k,N,i,hk,hf,dj,ck,h=>by
  by_cases Jv:k<N.length
  ·have Lu:N[k]?=some N[k]:=mf Jv;have N8:=i.wl k _ Lu;have gr:=gm (nY:=nY) (ps:=ps) hb nY i (n:=N[k]) (by lia);have md:=tU (nY:=nY) (ps:=ps) (ap:=ap) (n:=N[k]) nY N;cases hg:a9 nY ps ap N[k] nY N with
   |mk o N'=>
    rw[hg]at gr md;cases o with
    |some d=>rw[jL Lu hg]at h;cases h
    |none=>
     rw[lZ Lu hg]at h ⊢;dsimp only at gr md;obtain⟨g1,g2,g3⟩:=md rfl dj;have hl:=gr.le;obtain⟨more,em⟩:=gr.ex;obtain⟨i0,i1,i2,i3⟩:=xC hb f (k+1) N' gr.iv (by lia) (by lia) g1 (fun j n hj hn mv LI=>by
      have QA:N[j]?=some n:=by rw[em,V1 (by lia)]at hn;exact hn
      by_cases ej:j=k
      ·subst ej;rw[Lu]at QA;cases QA;exact g2 mv LI
      ·exact(ck j n (by lia) QA mv LI).up g3) h
     exact⟨i0,i1,i2,fun x hx=>i3 x (g3 x hx)⟩
  ·have Lu:N[k]?=none:=WV (by lia);have ek:k=N.length:=by lia
   rw[jK Lu];exact⟨i,dj,ek▸ck,fun _ h=>h⟩
theorem Cp(r:Ra nY ap mZ)(h:(walk nY ps ap).1=none):Or nY ps ((List.range (walk nY ps ap).2.length).map fun(s:Nat)=>mk (walk nY ps ap).2 (s:Int)) ap:=by
 have hm:=r.mm;have hb:∀a∈ap,0<=a.2.2/\a.2.2<12:=fun a ha=>by
  have:=r.bd a ha;lia
 obtain⟨_,w2,w3⟩:=walk_all r h;obtain⟨iv,dj,ck,up⟩:=xC (nY:=nY) (ps:=ps) hb 13 0 (N0 ps) (SV ps) (V0 _) (by lia) (fun n hn n' Pp _=>by rw[iC hn,iC Pp]) (fun j n hj=>by lia) h;unfold walk at h w2 w3 ⊢;generalize cS nY ps ap 13 0 (N0 ps)=W at h w2 w3 iv dj ck up;have ent:∀{s:Int}{m:List Int},Has W.2 s m->mk W.2 s=m:=fun{s m} h=>by
  obtain⟨n,hn,e1,e2⟩:=h;rw[<-e1,Fi (tL iv.nd hn),e2]
 have get:∀s:Nat,s<W.2.length->∃n∈W.2,n.1=(s:Int)/\mk W.2 (s:Int)=n.2.1:=fun s hs=>by
  obtain⟨n,hn,e⟩:=l5 (w3 s hs);exact⟨n,hn,e,ent ⟨n,hn,e,rfl⟩⟩
 have at_:∀s:Nat,s<W.2.length->((List.range W.2.length).map fun(s:Nat)=>mk W.2 (s:Int))[s]?=some (mk W.2 (s:Int)):=fun s hs=>by
  rw[Vs,List.getElem?_range hs];rfl
 have z:((0:Int),ps.map (·.1),([]:LNN))∈W.2:=up _ (Vx.mpr rfl);refine⟨eU _ _ fun i j hi hj e=>?_,?_,fun x s mv ha=>?_,fun i mv a t LI hi hf=>?_⟩
 ·obtain⟨n,hn,e1,e2⟩:=get i hi;obtain⟨n',Pp,PH,Pb⟩:=get j hj;have:=dj n hn n' Pp (by rw[<-e2,<-Pb];exact e);lia
 ·rw[at_ 0 (XI z)];congr 1
  exact ent ⟨_,z,rfl,rfl⟩
 ·have bd:=r.bd _ ha;have lt:=qr ha;dsimp only at bd lt;obtain⟨i,rfl⟩:=VP bd.1.1;obtain⟨j,rfl⟩:=VP bd.2.1;obtain⟨n,hn,e1,e2⟩:=get i (by lia);obtain⟨k,hk,ek⟩:=X8 hn;obtain⟨t,ht,hs⟩:=(ck k n hk (by rw[mf hk,ek]) mv (r.nm _ ha)).a j (fA.mpr (by rw[e1];exact ha));exact⟨i,j,rfl,rfl,_,_,at_ i (by lia),at_ j (by lia),by rw[e2,ent hs];exact ht⟩
 ·have RD:=(kl hi).1;rw[bu,VG]at RD;rw[at_ i RD]at hi;obtain⟨n,hn,e1,e2⟩:=get i RD;obtain⟨k,hk,ek⟩:=X8 hn;rw[<-VQ hi,e2]at hf;obtain⟨s,hs⟩:=(ck k n hk (by rw[mf hk,ek]) mv LI).b t hf;have hs:=fA.mp hs;have bd:=r.bd _ hs;dsimp only at bd;obtain⟨j,rfl⟩:=VP bd.2.1;exact⟨j,by rw[<-e1];exact hs⟩
end
def gon(nY:LNN)(ps:List Pl):List Int->LNN->Option (List Int)
 |m,[]=>some m
 |m,mv::w=>match br (nY.idxOf mv) (m.zip ps) with
  |none=>none
  |some t=>gon nY ps t w
theorem rJ(nY:LNN)(ps:List Pl)(mv:List Nat):∀(w:LNN) (m r:List Int),gon nY ps m w=some r->gon nY ps m (w++[mv])=br (nY.idxOf mv) (r.zip ps)
 |[],m,r,h=>by
  cases h;show(match br (nY.idxOf mv) (m.zip ps) with|none=>none|some t=>gon nY ps t [])=_;cases br (nY.idxOf mv) (m.zip ps) <;> rfl
 |v::w,m,r,h=>by
  rw[Wy];unfold gon at h ⊢;cases hf:br (nY.idxOf v) (m.zip ps) with
  |none=>
   rw[hf]at h;cases h
  |some t=>
   rw[hf]at h;exact rJ nY ps mv w t r h
def mY(S:List Int)(mv:List Nat)(acc:List Int)(a:IY):List Int:=if a.1∈S/\a.2.1=mv/\a.2.2∉acc then acc++[a.2.2] else acc
def uL(ap:List IY)(S:List Int)(mv:List Nat):List Int:=ap.foldl (mY S mv) []
def b6(ap:List IY)(w:LNN):List Int:=w.foldl (uL ap) [0]
theorem Cq(S:List Int)(mv:List Nat)(acc:List Int)(a:IY)(h:x∈acc):x∈mY S mv acc a:=by
 unfold mY;split
 ·exact Vj _ h
 ·exact h
theorem qF(S:List Int)(mv:List Nat):∀(l:List IY) (acc:List Int) {x:Int},x∈acc->x∈l.foldl (mY S mv) acc
 |[],acc,x,h=>h
 |a::l,acc,x,h=>qF S mv l _ (Cq S mv acc a h)
theorem zZ(S:List Int)(mv:List Nat):∀(l:List IY) (acc:List Int) {a:IY},a∈l->a.1∈S->a.2.1=mv->a.2.2∈l.foldl (mY S mv) acc
 |b::l,acc,a,h,h1,h2=>by
  rcases Vo.mp h with rfl|h
  ·refine qF S mv l _ ?_;unfold mY;by_cases h3:a.2.2∈acc
   ·rw[Vt (fun z=>z.2.2 h3)];exact h3
   ·rw[Vn ⟨h1,h2,h3⟩];exact Vd _ (Vx.mpr rfl)
  ·exact zZ S mv l _ h h1 h2
theorem z4(S:List Int)(mv:List Nat):∀(l:List IY) (acc:List Int),acc.Nodup->(∀x∈acc,0<=x/\x<12)->(∀a∈l,0<=a.2.2/\a.2.2<12)->(l.foldl (mY S mv) acc).Nodup/\∀x∈l.foldl (mY S mv) acc,0<=x/\x<12
 |[],acc,n,b,_=>⟨n,b⟩
 |a::l,acc,n,b,h=>by
  have key:(mY S mv acc a).Nodup/\∀x∈mY S mv acc a,0<=x/\x<12:=by
   unfold mY;split
   ·rename_i hc;refine⟨VE.mpr ⟨n,by simp,fun x hx y hy e=>hc.2.2 (by rw[<-iC hy,<-e];exact hx)⟩,fun x hx=>?_⟩;rcases kB hx with hx|hx
    ·exact b x hx
    ·rw[iC hx];exact h a Va
   ·exact⟨n,b⟩
  exact z4 S mv l _ key.1 key.2 fun x hx=>h x (Vb _ hx)
theorem zc(ap:List IY)(w:LNN)(mv:List Nat):b6 ap (w++[mv])=uL ap (b6 ap w) mv:=by
 unfold b6;rw[XU];rfl
theorem xD(h:∀a∈ap,0<=a.2.2/\a.2.2<12)(w:LNN):(b6 ap w).Nodup/\∀x∈b6 ap w,0<=x/\x<12:=by
 have:∀(w:LNN) (S:List Int),S.Nodup->(∀x∈S,0<=x/\x<12)->(w.foldl (uL ap) S).Nodup/\∀x∈w.foldl (uL ap) S,0<=x/\x<12:=by
  intro w;induction w with
  |nil=>exact fun S n b=>⟨n,b⟩
  |cons mv w ih=>
   intro S n b;have:=z4 S mv ap [] Wu (fun _ h=>nomatch h) h;exact ih _ this.1 this.2
 exact this w [0] (by simp) (fun x hx=>by rw[iC hx];exact⟨Zf 0,by decide⟩)
theorem oR(h:∀a∈ap,0<=a.2.2/\a.2.2<12)(w:LNN):(b6 ap w).length<=12:=jI 12 (xD h w).1 (xD h w).2
structure Tt(nY:LNN)(ps:List Pl)(ap:List IY)(s:Int)(m:List Int)(w:LNN):Prop where
 nm:∀mv∈w,mv∈nY
 go:gon nY ps (ps.map (·.1)) w=some m
 le:s∈b6 ap w
 ln:w.length<=20
variable{s':Int}
section
theorem Tt.step{m t:List Int}(x:Tt nY ps ap s m w)(hm:mv∈nY)(hf:br (nY.idxOf mv) (m.zip ps)=some t)(ha:((s,mv,s'):IY)∈ap)(hl:w.length+1<=20):Tt nY ps ap s' t (w++[mv]):=by
 refine⟨fun v hv=>?_,by rw[rJ nY ps mv w _ m x.go,hf],?_,by rw[jb];exact hl⟩
 ·rcases kB hv with h|h
  ·exact x.nm v h
  ·rw[iC h];exact hm
 ·rw[zc];exact zZ (b6 ap w) mv ap [] (a:=(s,mv,s')) ha x.le rfl
inductive Tol(nY:LNN)(ps:List Pl)(ap:List IY):D->Prop
 |stuck (s:Int) (m:List Int) (w:LNN) (mv:List Nat) (s':Int):Tt nY ps ap s m w->mv∈nY->br (nY.idxOf mv) (m.zip ps)=none->((s,mv,s'):IY)∈ap->Tol nY ps ap (xt w mv)
 |free (s:Int) (m:List Int) (w:LNN) (mv:List Nat) (t:List Int):Tt nY ps ap s m w->mv∈nY->br (nY.idxOf mv) (m.zip ps)=some t->(∀s',((s,mv,s'):IY)∉ap)->Tol nY ps ap (y8 w mv)
 |one (s s':Int) (m:List Int) (w w':LNN):Tt nY ps ap s m w->Tt nY ps ap s' m w'->s≠s'->Tol nY ps ap (xT w w')
 |two (s:Int) (m m':List Int) (w w':LNN):Tt nY ps ap s m w->Tt nY ps ap s m' w'->m≠m'->Tol nY ps ap (Fz w w')
def Tr(nY:LNN)(ps:List Pl)(ap:List IY)(N:List Gt):Prop:=∀n∈N,Tt nY ps ap n.1 n.2.1 n.2.2
theorem Cr(h:Tr nY ps ap N){m:List Int}(x:Tt nY ps ap s m w):(∀d,(cA N s m w).1=some d->Tol nY ps ap d)/\Tr nY ps ap (cA N s m w).2:=by
 unfold cA kC;cases hf:N.find? (uI s m) with
 |some n=>
  dsimp only;refine⟨fun d e=>?_,h⟩;cases e;have hn:=WQ hf;have hc:=Yi hf;unfold uI at hc;rw[Vu,Vq]at hc;have hx:=h n hn;rw[hc.2]at hx;exact .one n.1 s m n.2.2 w hx x (by simpa using hc.1)
 |none=>
  dsimp only;cases hs:N.find? fun n=>n.1==s with
  |none=>
   dsimp only;refine⟨fun d e=>(by cases e),fun n hn=>?_⟩;rcases kB hn with hn|hn
   ·exact h n hn
   ·rw[iC hn];exact x
  |some n=>
   dsimp only;have hn:=WQ hs;have h1:=Yi hs;have h1:n.1=s:=by simpa using h1
   by_cases hm:n.2.1=m
   ·rw[Vn hm];exact⟨fun d e=>(by cases e),h⟩
   ·rw[Vt hm];refine⟨fun d e=>?_,h⟩;cases e;have hx:=h n hn;rw[h1]at hx;exact .two s n.2.1 m n.2.2 w hx x hm
theorem tV{m:List Int}{w:LNN}:∀(ss:List Int) {N:List Gt},Tr nY ps ap N->(∀s∈ss,Tt nY ps ap s m w)->(∀d,(bU m w ss N).1=some d->Tol nY ps ap d)/\Tr nY ps ap (bU m w ss N).2
 |[],N,h,_=>⟨fun d e=>(by cases e),h⟩
 |s::ss,N,h,hs=>by
  have g:=Cr h (hs s Va);unfold bU;cases hg:cA N s m w with
  |mk o N'=>
   rw[hg]at g;cases o with
   |some d=>exact g
   |none=>exact tV ss g.2 fun x hx=>hs x (Vb _ hx)
theorem Cs(hn:Tt nY ps ap n.1 n.2.1 n.2.2)(hl:n.2.2.length+1<=20)(hm:mv∈nY)(h:Tr nY ps ap N):(∀d,(dI nY ps ap n mv N).1=some d->Tol nY ps ap d)/\Tr nY ps ap (dI nY ps ap n mv N).2:=by
 unfold dI;cases hf:br (nY.idxOf mv) (n.2.1.zip ps) with
 |none=>
  cases hgs:jN ap n.1 mv with
  |nil=>exact⟨fun d e=>(by cases e),h⟩
  |cons s ss=>
   refine⟨fun d e=>?_,h⟩;cases e;exact .stuck n.1 n.2.1 n.2.2 mv s hn hm hf (fA.mp (by rw[hgs];exact Va))
 |some t=>
  cases hgs:jN ap n.1 mv with
  |nil=>
   refine⟨fun d e=>?_,h⟩;cases e;exact .free n.1 n.2.1 n.2.2 mv t hn hm hf fun s' hs=>by
    have:=fA.mpr hs;rw[hgs]at this;cases this
  |cons s ss=>
   dsimp only;exact tV (s::ss) h fun x hx=>hn.step hm hf (fA.mp (by rw[hgs];exact hx)) hl
theorem tW{n:Gt}(hn:Tt nY ps ap n.1 n.2.1 n.2.2)(hl:n.2.2.length+1<=20):∀(l:LNN),(∀mv∈l,mv∈nY)->∀{N:List Gt},Tr nY ps ap N->(∀d,(a9 nY ps ap n l N).1=some d->Tol nY ps ap d)/\Tr nY ps ap (a9 nY ps ap n l N).2
 |[],_,N,h=>⟨fun d e=>(by cases e),h⟩
 |mv::l,hm,N,h=>by
  have g:=Cs hn hl (hm mv Va) h;unfold a9;cases hg:dI nY ps ap n mv N with
  |mk o N'=>
   rw[hg]at g;cases o with
   |some d=>exact g
   |none=>exact tW hn hl l (fun x hx=>hm x (Vb _ hx)) g.2
theorem xE(hb:∀a∈ap,0<=a.2.2/\a.2.2<12):∀(f k:Nat) (N:List Gt),Iv N->Tr nY ps ap N->∀d,(cS nY ps ap f k N).1=some d->Tol nY ps ap d
 | 0,k,N,_,_,d,h=>by cases h
 |f+1,k,N,i,t,d,h=>by
  cases hk:N[k]? with
  |none=>rw[jK hk]at h;cases h
  |some n=>
   have QX:=(kl hk).1;have N8:=i.wl k n hk;have hle:=i.le;have gr:=gm (nY:=nY) (ps:=ps) hb nY i (n:=n) (by lia);have mt:=tW (t n (VF hk)) (by lia) nY (fun _ h=>h) t;cases hg:a9 nY ps ap n nY N with
   |mk o N'=>
    rw[hg]at gr mt;cases o with
    |some d'=>
     rw[jL hk hg]at h;cases h;exact mt.1 _ rfl
    |none=>
     rw[lZ hk hg]at h;exact xE hb f (k+1) N' gr.iv mt.2 d h
theorem Cu(hb:∀a∈ap,0<=a.2.2/\a.2.2<12){d:D}(h:(walk nY ps ap).1=some d):Tol nY ps ap d:=xE hb 13 0 (N0 ps) (SV ps) (fun n hn=>by
 rw[iC hn];exact⟨(fun _ h=>nomatch h),rfl,Va,V0 _⟩) d h
end
theorem in_strs(a:List Nat)(l:LNN):inP (.str a) (.tup (l.map D.str))=.ok (.f,.bl (decide (a∈l))):=by
 have e:LV (.str a) (.tup (l.map D.str))=LV (.str a) (.lst (l.map D.str)):=rfl;have e2:inP (.str a) (.tup (l.map D.str))=LV (.str a) (.tup (l.map D.str)):=rfl;rw[e2,e,qx]
theorem Cv(a:List Nat)(l:LNN):inP (.str a) (.lst (l.map D.str))=.ok (.f,.bl (decide (a∈l))):=qx a l
theorem zd(a:List Nat)(l:LNN):pT (.str a) (.tup (l.map D.str))=.ok (.f,.bl (!decide (a∈l))):=by
 have e:LV (.str a) (.tup (l.map D.str))=LV (.str a) (.lst (l.map D.str)):=rfl;show sy _ _=_;unfold sy;rw[e,qx];rfl
theorem xF(a:Int)(l:List Int):inP (.int a) (.lst (l.map D.int))=.ok (.f,.bl (decide (a∈l))):=tf a l
theorem ze(a:Int)(l:List Int):pT (.int a) (.lst (l.map D.int))=.ok (.f,.bl (!decide (a∈l))):=by
 show sy _ _=_;unfold sy;rw[tf];rfl
theorem G9(o:Option (List Int)):Ml (eO o) .non=.ok (.f,.bl o.isNone):=by cases o <;> rfl
section
theorem z5(hl:ps.length<=100)(hp:∀p∈ps,Ka p nY.length)(w0:LNN):∀(w:LNN),(∀mv∈w,mv∈nY)->∀(o:Option (List Int)) (t3:Option R),(∃Ua,eW (ay 3) bx (w.map D.str) [fq (eN nY ps),fq (wD w0),fq (eO o),t3]=.ok (.nx [fq (eN nY ps),fq (wD w0),fq (eO (o.bind fun m=>gon nY ps m w)),Ua]))\/((o.bind fun m=>gon nY ps m w)=none/\eW (ay 3) bx (w.map D.str) [fq (eN nY ps),fq (wD w0),fq (eO o),t3]=.ok (.rt (.f,.non)))
 |[],_,o,t3=>.inl ⟨t3,by cases o <;> rfl⟩
 |mv::w,hw,o,t3=>by
  have hm:=hw mv Va;have JO:=zd mv nY;rw[VB hm,V4]at JO;have K6:IZ (eN nY ps) (.int 0)=.ok (.f,.tup (nY.map D.str)):=rfl;have hi:=G9 o;rw[gE,dH];have ea:ay 3 (.str mv) [fq (eN nY ps),fq (wD w0),fq (eO o),t3]=.ok [fq (eN nY ps),fq (wD w0),fq (eO o),fq (.str mv)]:=by simp only[pv,seval]
  rw[ea,Jp];cases o with
  |none=>
   refine .inr ⟨rfl,?_⟩;have eb:bx [fq (eN nY ps),fq (wD w0),fq (eO none),fq (.str mv)]=.ok (.rt (.f,.non)):=by
    unfold bx;generalize eN nY ps=NE at K6 ⊢;simp only[pv,seval,op,K6,JO,hi,Option.isNone_none,dJ]
   rw[eb,Jp]
  |some m=>
   have st:=rF nY ps hl hp m mv hm;have fl:=oO (br (nY.idxOf mv) (m.zip ps));have eb:bx [fq (eN nY ps),fq (wD w0),fq (eO (some m)),fq (.str mv)]=.ok (.nx [fq (eN nY ps),fq (wD w0),fq (eO (br (nY.idxOf mv) (m.zip ps))),fq (.str mv)]):=by
    unfold bx;have e2:eO (some m)=eM m:=rfl;rw[e2]at hi ⊢;generalize eO (br (nY.idxOf mv) (m.zip ps))=ER at st fl ⊢;generalize eN nY ps=NE at K6 st ⊢;generalize eM m=EM at st hi ⊢;simp only[pv,seval,op,K6,JO,hi,YU,st,fl,dU,dJ]
   rw[eb,Jp];have ih:=z5 hl hp w0 w (fun x hx=>hw x (Vb _ hx)) (br (nY.idxOf mv) (m.zip ps)) (fq (.str mv));have eg:((some m).bind fun m=>gon nY ps m (mv::w))=(br (nY.idxOf mv) (m.zip ps)).bind fun m=>gon nY ps m w:=by
    show gon nY ps m (mv::w)=_;rw[gon];cases br (nY.idxOf mv) (m.zip ps) <;> rfl
   rw[eg];exact ih
theorem xG(hl:ps.length<=100)(hp:∀p∈ps,Ka p nY.length)(w:LNN)(hw:∀mv∈w,mv∈nY):bj [eN nY ps,wD w]=.ok (.f,eO (gon nY ps (ps.map (·.1)) w)):=by
 have hf:=tN nY ps hl;have fm:=gF (ps.map (·.1));unfold bj lN;rw[bB (h:=by rfl)];have ls:=z5 hl hp w w hw (some (ps.map (·.1))) none;have e1:((some (ps.map (·.1))).bind fun m=>gon nY ps m w)=gon nY ps (ps.map (·.1)) w:=rfl;rw[e1]at ls;rw[show eO (some (ps.map (·.1)))=eM (ps.map (·.1)) from rfl]at ls;rw[av (env':=[fq (eN nY ps),fq (wD w),fq (eM (ps.map (·.1))),none]) (by
  generalize eN nY ps=NE at hf ⊢;generalize eM (ps.map (·.1))=EM at hf fm ⊢;simp only[pv,seval,op,hf,fm,dU])]
 have fo:f7 [fq (eN nY ps),fq (wD w),fq (eM (ps.map (·.1))),none]=eW (ay 3) bx (w.map D.str) [fq (eN nY ps),fq (wD w),fq (eM (ps.map (·.1))),none]:=by
  unfold f7 wD;generalize bx=GG;simp only[pv,seval,op]
 rcases ls with⟨t3,e⟩|⟨e0,e⟩
 ·rw[av (fo.trans e)];unfold iQ;have fl:=oO (gon nY ps (ps.map (·.1)) w);generalize eO (gon nY ps (ps.map (·.1)) w)=ER at fl ⊢;simp only[pv,seval,op]
 ·rw[Jq,fo,e,Jp,e0];rfl
end
section
theorem Ha(w0:LNN)(o2:O)(ho:shal o2=true)(S:List Int)(mv:List Nat)(acc:List Int)(hl:acc.length<=1000)(a:IY):
  dA [fq (Jb nY ap),fq (wD w0),some (o2,.lst (S.map D.int)),fq (.str mv),some (.l .f,.lst (acc.map D.int)),fq (.int a.1),fq (.str a.2.1),fq (.int a.2.2)]=.ok (.nx [fq (Jb nY ap),fq (wD w0),some (o2,.lst (S.map D.int)),fq (.str mv),some (.l .f,.lst ((mY S mv acc a).map D.int)),fq (.int a.1),fq (.str a.2.1),fq (.int a.2.2)]):=by
 have h1:=xF a.1 S;have h3:=ze a.2.2 acc;have hs:acc.length<sizeLine:=jH (by lia);unfold dA mY;generalize Jb nY ap=CH;generalize S.map D.int=SS at h1 ⊢;by_cases c1:a.1∈S
 ·rw[VB c1]at h1;by_cases c2:a.2.1=mv
  ·have e2:(a.2.1==mv)=true:=V5.mpr c2;by_cases c3:a.2.2∈acc
   ·rw[VB c3]at h3;rw[Vt (fun z=>z.2.2 c3)];simp only[pv,seval,op,h1,e2,h3,V4,dJ,ho]
   ·rw[VM c3]at h3;rw[Vn ⟨c1,c2,c3⟩,VA];simp only[pv,seval,op,h1,e2,h3,We,bu,hs,ho];try rfl
  ·have e2:(a.2.1==mv)=false:=by rw[Wf];exact c2
   rw[Vt (fun z=>c2 z.2.1)];simp only[pv,seval,op,h1,e2,dJ,ho]
 ·rw[VM c1]at h1;rw[Vt (fun z=>c1 z.1)];simp only[pv,seval,op,h1,dJ,ho]
theorem tX(S:List Int)(mv:List Nat):∀(l:List IY) (acc:List Int),(l.foldl (mY S mv) acc).length<=acc.length+l.length
 |[],acc=>Vl _
 |a::l,acc=>by
  have h:=tX S mv l (mY S mv acc a);have h2:(mY S mv acc a).length<=acc.length+1:=by
   unfold mY;split
   ·rw[jb];exact Vl _
   ·exact XO _
  rw[XN,Vm];lia
theorem Hb(hl:ap.length<=60)(w0:LNN)(o2:O)(ho:shal o2=true)(S:List Int)(mv:List Nat)(t4 t5 t6 t7:Option R):
  ∃Qv t6' t7':Option R,dB [fq (Jb nY ap),fq (wD w0),some (o2,.lst (S.map D.int)),fq (.str mv),t4,t5,t6,t7]=.ok (.nx [fq (Jb nY ap),fq (wD w0),fq (.lst ((uL ap S mv).map D.int)),fq (.str mv),fq (.lst ((uL ap S mv).map D.int)),Qv,t6',t7']):=by
 obtain⟨env',hf,u5,u6,u7,rfl⟩:=for_list (a:=iJ 3 (aH (ay 5) (aH (ay 6) (aH (ay 7) df)))) (g:=dA) (e:=eA) ap (fun j env=>∃t5 t6 t7:Option R,env=[fq (Jb nY ap),fq (wD w0),some (o2,.lst (S.map D.int)),fq (.str mv),some (.l .f,.lst (((ap.take j).foldl (mY S mv) []).map D.int)),t5,t6,t7]) (by
  rintro j a env hj ⟨t5,t6,t7,rfl⟩;obtain⟨Ud,Ue⟩:=kl hj;have hle:=tX S mv (ap.take j) [];rw[VZ,Wl]at hle;have e:=Ha (nY:=nY) (ap:=ap) w0 o2 ho S mv ((ap.take j).foldl (mY S mv) []) (by lia) a;refine⟨[fq (Jb nY ap),fq (wD w0),some (o2,.lst (S.map D.int)),fq (.str mv),some (.l .f,.lst (((ap.take j).foldl (mY S mv) []).map D.int)),fq (.int a.1),fq (.str a.2.1),fq (.int a.2.2)],by unfold eA;simp only[pv,seval],_,e,fq (.int a.1),fq (.str a.2.1),fq (.int a.2.2),?_⟩;rw[Xm Ud,XU,Ue];rfl) [fq (Jb nY ap),fq (wD w0),some (o2,.lst (S.map D.int)),fq (.str mv),some (.l .f,.lst []),t5,t6,t7] ⟨t5,t6,t7,rfl⟩
 rw[WZ]at hf;have fo:g9 [fq (Jb nY ap),fq (wD w0),some (o2,.lst (S.map D.int)),fq (.str mv),some (.l .f,.lst []),t5,t6,t7]=.ok (.nx [fq (Jb nY ap),fq (wD w0),some (o2,.lst (S.map D.int)),fq (.str mv),some (.l .f,.lst ((uL ap S mv).map D.int)),u5,u6,u7]):=by
  unfold uL;rw[<-hf];unfold g9 Jb;generalize dA=GG;simp only[pv,seval,op,L0]
 refine⟨u5,u6,u7,?_⟩;unfold dB;rw[av (env':=[fq (Jb nY ap),fq (wD w0),some (o2,.lst (S.map D.int)),fq (.str mv),some (.l .f,.lst []),t5,t6,t7]) (by simp only[pv,seval])];rw[av fo];unfold jC;simp only[pv,seval,op]
theorem Fn(hl:ap.length<=60)(w:LNN):∃o:O,(o=.f\/o=.l .f)/\cR [Jb nY ap,wD w]=.ok (o,.lst ((b6 ap w).map D.int)):=by
 obtain⟨env',hf,o2,t3,t4,t5,t6,t7,ho,rfl⟩:=for_list (a:=ay 3) (g:=dB) (e:=D.str) w (fun j env=>∃(o2:O) (t3 t4 t5 t6 t7:Option R),(o2=.f\/o2=.l .f)/\env=[fq (Jb nY ap),fq (wD w),some (o2,.lst (((w.take j).foldl (uL ap) [0]).map D.int)),t3,t4,t5,t6,t7]) (by
  rintro j mv env hj ⟨o2,t3,t4,t5,t6,t7,ho,rfl⟩;obtain⟨Ud,Ue⟩:=kl hj;obtain⟨u5,u6,u7,e⟩:=Hb (nY:=nY) hl w o2 (by rcases ho with rfl|rfl <;> rfl) ((w.take j).foldl (uL ap) [0]) mv t4 t5 t6 t7;refine⟨[fq (Jb nY ap),fq (wD w),some (o2,.lst (((w.take j).foldl (uL ap) [0]).map D.int)),fq (.str mv),t4,t5,t6,t7],by simp only[pv,seval],_,e,.f,fq (.str mv),fq (.lst ((uL ap ((w.take j).foldl (uL ap) [0]) mv).map D.int)),u5,u6,u7,.inl rfl,?_⟩;rw[Xm Ud,XU,Ue];rfl) [fq (Jb nY ap),fq (wD w),some (.l .f,.lst [.int 0]),none,none,none,none,none] ⟨.l .f,none,none,none,none,none,.inr rfl,rfl⟩
 rw[WZ]at hf;have fo:hJ [fq (Jb nY ap),fq (wD w),some (.l .f,.lst [.int 0]),none,none,none,none,none]=.ok (.nx [fq (Jb nY ap),fq (wD w),some (o2,.lst ((b6 ap w).map D.int)),t3,t4,t5,t6,t7]):=by
  unfold b6;rw[<-hf];unfold hJ wD;generalize dB=GG;simp only[pv,seval,op]
 refine⟨o2,ho,?_⟩;unfold cR mR;rw[bB (h:=by rfl)];rw[av (env':=[fq (Jb nY ap),fq (wD w),some (.l .f,.lst [.int 0]),none,none,none,none,none]) (by simp only[pv,seval])];rw[av fo];unfold jD;rcases ho with rfl|rfl <;> simp only[pv,seval,op]
def i9(ap:List IY)(s:Int):LNN:=(ap.filter fun a=>a.1==s).map fun a=>a.2.1
theorem uM(hl:ap.length<=60)(s:Int):aW [Jb nY ap,.int s]=.ok (.l .f,.lst ((i9 ap s).map D.str)):=by
 have hc:cV (iJ 3 (aH (ay 0) (aH (ay 1) (aH (ay 2) df)))) (Jf (aN eqO (ao 0) (ao 3))) (aJ 1) (ap.map eA) [none,none,none,fq (.int s)]=.ok ((i9 ap s).map D.str):=by
  rw[jF (p:=fun a:IY=>a.1==s) (r:=fun a:IY=>D.str a.2.1) (fun env=>∃t1 t2 t3,env=[t1,t2,t3,fq (.int s)]) ap ?_ _ ⟨_,_,_,rfl⟩]
  ·unfold i9;rw[VU];rfl
  ·rintro a _ env ⟨t1,t2,t3,rfl⟩;refine⟨_,i8 a t1 t2 t3 _,?_⟩;simp only[pv,seval,op];cases h1:a.1==s with
   |true=>exact⟨_,rfl,_,_,rfl,_,_,_,rfl⟩
   |false=>exact⟨_,rfl,_,_,_,rfl⟩
 have l1:(i9 ap s).length<=sizeLine:=by
  have h1:=Xl (fun a:IY=>a.1==s) ap;have:(i9 ap s).length<=100:=by
   unfold i9;rw[bu];lia
  exact line_le (by lia)
 have fl:=PV.flat_strs (i9 ap s);unfold aW hU Jb;rw[bB (h:=by rfl)];simp only[pv,seval,op,L0,hc,bu,l1,fl]
theorem xH:mv∈i9 ap s<->∃s',((s,mv,s'):IY)∈ap:=by
 unfold i9;rw[Wz];constructor
 ·rintro⟨⟨x,y,z⟩,ha,rfl⟩;obtain⟨h1,h2⟩:=V7.mp ha;have h2:x=s:=by simpa using h2
  subst h2;exact⟨z,h1⟩
 ·rintro⟨s',h⟩;exact⟨_,V7.mpr ⟨h,by simp⟩,rfl⟩
end
theorem eq_nilI(S:List Int):eqO (.lst (S.map D.int)) (.lst [])=.ok (.f,.bl S.isEmpty):=by
 unfold eqO;rw[plainD,fS];cases S <;> rfl
theorem xI(S:List Int):Kr (.lst (S.map D.int)) (.lst [])=.ok (.f,.bl (!S.isEmpty)):=by
 unfold Kr;rw[plainD,fS];cases S <;> rfl
theorem Cw:∀(l acc:List Int) {x:Int},x∈acc\/x∈l->x∈l.foldl PyProof.Rows.step_dedup acc
 |[],acc,x,h=>h.resolve_right (by simp)
 |a::l,acc,x,h=>by
  refine Cw l _ ?_;have key:x=a\/x∈acc->x∈PyProof.Rows.step_dedup acc a:=by
   intro h;have:=PyProof.Rows.step_any acc a x;have h2:(PyProof.Rows.step_dedup acc a).any (·== x)=true:=by
    rw[this,Zv,Vq];rcases h with h|h
    ·exact .inr h
    ·exact .inl (Wa.mpr ⟨x,h,V6 x⟩)
   obtain⟨y,hy,e⟩:=Wa.mp h2;rw[<-V5.mp e];exact hy
  rcases h with h|h
  ·exact .inl (key (.inr h))
  ·rcases Vo.mp h with h|h
   ·exact .inl (key (.inl h))
   ·exact .inr h
theorem Cy(l:List Int)(h:l.length<=4000):lenSI [.lst (l.map D.int)]=.ok (.f,.int ((l.foldl PyProof.Rows.step_dedup []).length:Nat)):=by
 unfold lenSI;dsimp only;rw[mH];dsimp only;rw[Vn h]
theorem Cz{y:Int}(hx:x∈l)(hy:y∈l)(h:x≠y):1<l.length:=by
 cases l with
 |nil=>cases hx
 |cons a l=>
  cases l with
  |nil=>
   rw[Vx]at hx hy;exact absurd (hx.trans hy.symm) h
  |cons b l=>
   rw[Vm,Vm];lia
section
def Mr(ap:List IY)(S:List Int)(mv:List Nat):List Int:=S.filter fun s=>decide (mv∈i9 ap s)
theorem Hc(hl:ap.length<=60)(S:List Int)(tag:D)(w:D)(mv:List Nat):cV (ay 0) (Jf (aN inP (aj (az IZ (ao 1) (aj (aD (.int 2))))) (aj (cX aW (ag (ao 2) (ag (ao 0) aB)))))) (aJ 0) (S.map D.int) [none,fq (.tup [tag,w,.str mv]),fq (Jb nY ap)]=.ok ((Mr ap S mv).map D.int):=by
 rw[jF (p:=fun s:Int=>decide (mv∈i9 ap s)) (r:=fun s:Int=>D.int s) (fun env=>∃t1,env=[t1,fq (.tup [tag,w,.str mv]),fq (Jb nY ap)]) S ?_ _ ⟨_,rfl⟩]
 ·rfl
 ·rintro s _ env ⟨t1,rfl⟩;have pm:=uM (nY:=nY) hl s;have JO:=Cv mv (i9 ap s);have fl:=PV.flat_strs (i9 ap s);refine⟨[fq (.int s),fq (.tup [tag,w,.str mv]),fq (Jb nY ap)],by simp only[pv,seval],?_⟩;generalize (i9 ap s).map D.str=MM at pm JO fl;generalize Jb nY ap=CH at pm ⊢;simp only[pv,seval,op,at2,pm,fl,JO];cases h1:decide (mv∈i9 ap s) with
  |true=>exact⟨_,rfl,_,_,rfl,_,rfl⟩
  |false=>exact⟨_,rfl,_,rfl⟩
theorem Hd(S T:List Int)(o8:O)(ho:o8=.f\/o8=.l .f):cV (ay 0) (Jf (aN inP (ao 0) (ao 1))) (aJ 0) (S.map D.int) [none,fq (.lst (T.map D.int))]=.ok ((S.filter fun s=>decide (s∈T)).map D.int):=by
 rw[jF (p:=fun s:Int=>decide (s∈T)) (r:=fun s:Int=>D.int s) (fun env=>∃t1,env=[t1,fq (.lst (T.map D.int))]) S ?_ _ ⟨_,rfl⟩];rintro s _ env ⟨t1,rfl⟩;have JO:=xF s T;refine⟨[fq (.int s),fq (.lst (T.map D.int))],by simp only[pv,seval],?_⟩;generalize T.map D.int=TT at JO ⊢;simp only[pv,seval,op,JO];cases h1:decide (s∈T) with
 |true=>exact⟨_,rfl,_,_,rfl,_,rfl⟩
 |false=>exact⟨_,rfl,_,rfl⟩
noncomputable def uN:FS:=(sSeq (JC (Jf (aN inP (aj (az IZ (ao 2) (aj (aD (.int 0))))) (aj (fO (ax (aD (.str [115,116,117,99,107])) (ax (aD (.str [102,114,101,101])) a7))))))
  (sSeq (bH 5 (cX bj (ag (ao 1) (ag (aj (az cU (aj (az IZ (ao 2) (aj (aD (.int 1))))) (aj (fO (ax (az IZ (ao 2) (aj (aD (.int 2)))) a7))))) aB))))
  (sSeq (bH 6 (cE (Kn (eX 4) (eC (aJ 4))) [none,some 2,some 0] (ay 0) (Jf (aN inP (aj (az IZ (ao 1) (aj (aD (.int 2))))) (aj (cX aW (ag (ao 2) (ag (ao 0) aB)))))) (aJ 0)))
  (sSeq (JC (Jf (aN eqO (aj (az IZ (ao 2) (aj (aD (.int 0))))) (aj (aD (.str [115,116,117,99,107])))))
  (de (nK (aN Ml (ao 5) (aj (aD .non))) (aN Kr (ao 6) (aj (ja a7)))))
  bL)
  (de (nK (aN isnO (ao 5) (aj (aD .non))) (az Mb (aj (aY gH (ag (ao 6) aB))) (aj (aY gH (ag (ao 4) aB)))))))))
  bL)
  (sSeq (bH 7 (cX bj (ag (ao 1) (ag (aj (az IZ (ao 2) (aj (aD (.int 2))))) aB))))
  (sSeq (bH 8 (cX cR (ag (ao 0) (ag (aj (az IZ (ao 2) (aj (aD (.int 2))))) aB))))
  (sSeq (JC (LU (we (Jf (NV "tuple" (aj (az IZ (ao 2) (aj (aD (.int 2)))))))) (LU (Jf (aN Ml (ao 7) (aj (aD .non)))) (Jf (aN eqO (ao 8) (aj (ja a7))))))
  (de (aD (.bl false)))
  bL)
  (sSeq (JC (Jf (aN eqO (aj (az IZ (ao 2) (aj (aD (.int 0))))) (aj (aD (.str [111,110,101])))))
  (de (nK (aN eqO (ao 3) (ao 7)) (az Pj (aj (aY lenSI (ag (aj (az cU (ao 4) (ao 8))) aB))) (aj (aD (.int 1))))))
  bL)
  (de (nK (aN eqO (aj (az IZ (ao 2) (aj (aD (.int 0))))) (aj (aD (.str [116,119,111])))) (nK (aN Kr (ao 3) (ao 7)) (aN Kr (aj (cE (Kn (eX 4) (eC (aJ 4))) [none,some 8] (ay 0) (Jf (aN inP (ao 0) (ao 1))) (aJ 0))) (aj (ja a7)))))))))))
theorem tY(hl:ps.length<=100)(hp:∀p∈ps,Ka p nY.length)(ha:ap.length<=60){m:List Int}(t:Tt nY ps ap s m w)(tag:List Nat)(x:D)(r:R)(h:∀o4,(o4=.f\/o4=.l .f)->uN [fq (Jb nY ap),fq (eN nY ps),fq (.tup [.str tag,wD w,x]),fq (eM m),some (o4,.lst ((b6 ap w).map D.int)),none,none,none,none]=.ok (.rt r)):bo [Jb nY ap,eN nY ps,.tup [.str tag,wD w,x]]=.ok r:=by
 have hg:=xG hl hp w t.nm;rw[t.go]at hg;have hg:bj [eN nY ps,wD w]=.ok (.f,eM m):=hg;obtain⟨o4,ho,K7⟩:=Fn (nY:=nY) ha w;have fm:=gF m;have hi:=y9 m;have NJ:(b6 ap w).isEmpty=false:=by
  have:=t.le;cases h:b6 ap w with
  |nil=>rw[h]at this;cases this
  |cons a l=>rfl
 have he:=eq_nilI (b6 ap w);rw[NJ]at he;have M0:=IW (b6 ap w);have h:=h o4 ho;have Q0:sJ "tuple" (wD w)=true:=rfl;unfold bo ki;unfold uN at h;rw[bB (h:=by rfl)];rw[av (env':=[fq (Jb nY ap),fq (eN nY ps),fq (.tup [.str tag,wD w,x]),fq (eM m),none,none,none,none,none]) (by
  generalize eM m=EM at hg fm ⊢;generalize eN nY ps=NE at hg ⊢;generalize wD w=WD at hg ⊢;simp only[pv,seval,op,L0,hg,fm,dU])]
 rw[av (env':=[fq (Jb nY ap),fq (eN nY ps),fq (.tup [.str tag,wD w,x]),fq (eM m),some (o4,.lst ((b6 ap w).map D.int)),none,none,none,none]) (by
  generalize Jb nY ap=CH at K7 ⊢;generalize wD w=WD at K7 ⊢;generalize (b6 ap w).map D.int=LL at K7 M0 ⊢;rcases ho with rfl|rfl
  ·simp only[pv,seval,op,L0,K7,M0];try rfl
  ·simp only[pv,seval,op,L0,K7,M0];try rfl)]
 rw[av (env':=[fq (Jb nY ap),fq (eN nY ps),fq (.tup [.str tag,wD w,x]),fq (eM m),some (o4,.lst ((b6 ap w).map D.int)),none,none,none,none]) (by
  generalize eM m=EM at hi ⊢;generalize wD w=WD at Q0 ⊢;generalize (b6 ap w).map D.int=LL at he ⊢;rcases ho with rfl|rfl
  ·simp only[pv,seval,op,L0,Q0,hi,he,V4,dJ]
  ·simp only[pv,seval,op,L0,Q0,hi,he,V4,dJ])]
 rw[h,Jp]
end
section
theorem z6(w:LNN)(mv:List Nat)(h:w.length<=1000):cU (wD w) (.tup [.str mv])=.ok (.f,wD (w++[mv])):=HG w mv h
theorem Fo(S:List Int)(mv:List Nat):(Mr ap S mv).length<=S.length:=Xl _ _
theorem z7(hl:ps.length<=100)(hp:∀p∈ps,Ka p nY.length){m:List Int}(t:Tt nY ps ap s m w)(hm:mv∈nY):bj [eN nY ps,wD (w++[mv])]=.ok (.f,eO (br (nY.idxOf mv) (m.zip ps))):=by
 have h:=xG hl hp (w++[mv]) (fun v hv=>by
  rcases kB hv with h|h
  ·exact t.nm v h
  ·rw[iC h];exact hm)
 rw[rJ nY ps mv w _ m t.go]at h;exact h
theorem Fp(ha:ap.length<=60)(hb:∀a∈ap,0<=a.2.2/\a.2.2<12)(tag:List Nat)(w:LNN)(m:List Int)(mv:List Nat)(o4:O)(ho:o4=.f\/o4=.l .f)(t5:Option R):
  (bH 6 (cE (Kn (eX 4) (eC (aJ 4))) [none,some 2,some 0] (ay 0) (Jf (aN inP (aj (az IZ (ao 1) (aj (aD (.int 2))))) (aj (cX aW (ag (ao 2) (ag (ao 0) aB)))))) (aJ 0))) [fq (Jb nY ap),fq (eN nY ps),fq (.tup [.str tag,wD w,.str mv]),fq (eM m),some (o4,.lst ((b6 ap w).map D.int)),t5,none,none,none]=.ok (.nx [fq (Jb nY ap),fq (eN nY ps),fq (.tup [.str tag,wD w,.str mv]),fq (eM m),some (o4,.lst ((b6 ap w).map D.int)),t5,some (.l .f,.lst ((Mr ap (b6 ap w) mv).map D.int)),none,none]):=by
 have hc:=Hc (nY:=nY) ha (b6 ap w) (.str tag) (wD w) mv;have T9:=oR hb w;have l1:(Mr ap (b6 ap w) mv).length<=sizeLine:=line_le (VR (Fo _ mv) (by lia));have fl:=IW (Mr ap (b6 ap w) mv);generalize (Jf (aN inP (aj (az IZ (ao 1) (aj (aD (.int 2))))) (aj (cX aW (ag (ao 2) (ag (ao 0) aB))))))=CC at hc ⊢;generalize (b6 ap w).map D.int=LL at hc ⊢;generalize Jb nY ap=CH at hc ⊢;generalize eN nY ps=NE;generalize wD w=WD at hc ⊢;generalize eM m=EM;rcases ho with rfl|rfl
 ·simp only[pv,seval,op,hc,bu,l1,fl]
 ·simp only[pv,seval,op,hc,bu,l1,fl]
theorem CA(hl:ps.length<=100)(hp:∀p∈ps,Ka p nY.length)(ha:ap.length<=60)(hb:∀a∈ap,0<=a.2.2/\a.2.2<12){m:List Int}(t:Tt nY ps ap s m w)(hm:mv∈nY)(hf:br (nY.idxOf mv) (m.zip ps)=none)(hs:((s,mv,s'):IY)∈ap):bo [Jb nY ap,eN nY ps,xt w mv]=.ok (.f,.bl true):=by
 refine tY hl hp ha t [115,116,117,99,107] (.str mv) (.f,.bl true) fun o4 ho=>?_
 have hg:=z7 hl hp t hm;rw[hf]at hg;have hg:bj [eN nY ps,wD (w++[mv])]=.ok (.f,.non):=hg;have Ls:=z6 w mv (by have:=t.ln;lia);have JO:inP (.str [115,116,117,99,107]) (.tup [.str [115,116,117,99,107],.str [102,114,101,101]])=.ok (.f,.bl true):=in_strs [115,116,117,99,107] [[115,116,117,99,107],[102,114,101,101]];have hq:([115,116,117,99,107]==[115,116,117,99,107])=true:=rfl;have fn:cw .non=true:=rfl;have KH:(Mr ap (b6 ap w) mv).isEmpty=false:=by
  have:s∈Mr ap (b6 ap w) mv:=V7.mpr ⟨t.le,VB (xH.mpr ⟨s',hs⟩)⟩;cases h:Mr ap (b6 ap w) mv with
  |nil=>rw[h]at this;cases this
  |cons a l=>rfl
 have NJ:=xI (Mr ap (b6 ap w) mv);rw[KH,We]at NJ;have h6:=Fp (nY:=nY) (ps:=ps) ha hb [115,116,117,99,107] w m mv o4 ho (fq .non);unfold uN;generalize (bH 6 (cE (Kn (eX 4) (eC (aJ 4))) [none,some 2,some 0] (ay 0) (Jf (aN inP (aj (az IZ (ao 1) (aj (aD (.int 2))))) (aj (cX aW (ag (ao 2) (ag (ao 0) aB)))))) (aJ 0)))=S6 at h6 ⊢;generalize (b6 ap w).map D.int=LL at h6 ⊢;generalize (Mr ap (b6 ap w) mv).map D.int=HH at h6 NJ;generalize Jb nY ap=CH at h6 ⊢;generalize eN nY ps=NE at hg h6 ⊢;generalize wD (w++[mv])=WE at Ls hg;generalize wD w=WD at Ls h6 ⊢;generalize eM m=EM at h6 ⊢;rw[Jq];rw[EH (env':=[fq CH,fq NE,fq (.tup [.str [115,116,117,99,107],WD,.str mv]),fq EM,some (o4,.lst LL),none,none,none,none]) (by rcases ho with rfl|rfl <;> simp only[pv,seval,op,Na,JO])];rw[av (env':=[fq CH,fq NE,fq (.tup [.str [115,116,117,99,107],WD,.str mv]),fq EM,some (o4,.lst LL),fq .non,none,none,none]) (by rcases ho with rfl|rfl <;> simp only[pv,seval,op,L0,at2,Ls,hg,fn,dU])];rw[av h6];rw[Jq,EH (env':=[fq CH,fq NE,fq (.tup [.str [115,116,117,99,107],WD,.str mv]),fq EM,some (o4,.lst LL),fq .non,some (.l .f,.lst HH),none,none]) (by rcases ho with rfl|rfl <;> simp only[pv,seval,op,Na,hq])];have isN:Ml .non .non=.ok (.f,.bl true):=rfl;rcases ho with rfl|rfl <;> simp only[pv,seval,op,isN,NJ]
theorem Fq(hl:ps.length<=100)(hp:∀p∈ps,Ka p nY.length)(ha:ap.length<=60)(hb:∀a∈ap,0<=a.2.2/\a.2.2<12){m:List Int}{r:List Int}(t:Tt nY ps ap s m w)(hm:mv∈nY)(hf:br (nY.idxOf mv) (m.zip ps)=some r)(hs:∀s',((s,mv,s'):IY)∉ap):bo [Jb nY ap,eN nY ps,y8 w mv]=.ok (.f,.bl true):=by
 refine tY hl hp ha t [102,114,101,101] (.str mv) (.f,.bl true) fun o4 ho=>?_
 have hg:=z7 hl hp t hm;rw[hf]at hg;have hg:bj [eN nY ps,wD (w++[mv])]=.ok (.f,eM r):=hg;have Ls:=z6 w mv (by have:=t.ln;lia);have JO:inP (.str [102,114,101,101]) (.tup [.str [115,116,117,99,107],.str [102,114,101,101]])=.ok (.f,.bl true):=in_strs [102,114,101,101] [[115,116,117,99,107],[102,114,101,101]];have hq:([102,114,101,101]==[115,116,117,99,107])=false:=rfl;have Jv:(Mr ap (b6 ap w) mv).length<(b6 ap w).length:=by
  refine List.length_filter_lt_length_iff_exists.mpr ⟨s,t.le,?_⟩;rw[Vq];intro h;obtain⟨s',h⟩:=xH.mp h;exact hs s' h
 have hd:decide (((Mr ap (b6 ap w) mv).length:Int)<((b6 ap w).length:Int))=true:=VB (by lia);have h6:=Fp (nY:=nY) (ps:=ps) ha hb [102,114,101,101] w m mv o4 ho (fq (eM r));have l1:((b6 ap w).map D.int).length=(b6 ap w).length:=bu _;have l2:((Mr ap (b6 ap w) mv).map D.int).length=(Mr ap (b6 ap w) mv).length:=bu _;have U1:=xw r;have fr:=gF r;unfold uN;generalize (bH 6 (cE (Kn (eX 4) (eC (aJ 4))) [none,some 2,some 0] (ay 0) (Jf (aN inP (aj (az IZ (ao 1) (aj (aD (.int 2))))) (aj (cX aW (ag (ao 2) (ag (ao 0) aB)))))) (aJ 0)))=S6 at h6 ⊢;generalize (b6 ap w).map D.int=LL at h6 l1 ⊢;generalize (Mr ap (b6 ap w) mv).map D.int=HH at h6 l2;generalize Jb nY ap=CH at h6 ⊢;generalize eN nY ps=NE at hg h6 ⊢;generalize wD (w++[mv])=WE at Ls hg;generalize wD w=WD at Ls h6 ⊢;generalize eM m=EM at h6 ⊢;generalize eM r=ER at h6 hg U1 fr;rw[Jq];rw[EH (env':=[fq CH,fq NE,fq (.tup [.str [102,114,101,101],WD,.str mv]),fq EM,some (o4,.lst LL),none,none,none,none]) (by rcases ho with rfl|rfl <;> simp only[pv,seval,op,Na,JO])];rw[av (env':=[fq CH,fq NE,fq (.tup [.str [102,114,101,101],WD,.str mv]),fq EM,some (o4,.lst LL),fq ER,none,none,none]) (by rcases ho with rfl|rfl <;> simp only[pv,seval,op,L0,at2,Ls,hg,fr,dU])];rw[av h6];rw[av (env':=[fq CH,fq NE,fq (.tup [.str [102,114,101,101],WD,.str mv]),fq EM,some (o4,.lst LL),fq ER,some (.l .f,.lst HH),none,none]) (by rw[HF (env':=[fq CH,fq NE,fq (.tup [.str [102,114,101,101],WD,.str mv]),fq EM,some (o4,.lst LL),fq ER,some (.l .f,.lst HH),none,none]) (by rcases ho with rfl|rfl <;> simp only[pv,seval,op,Na,hq])];rfl)];rcases ho with rfl|rfl <;> simp only[pv,seval,op,U1,l1,l2,hd]
end
variable{w':LNN}
section
noncomputable def zf:FS:=(sSeq (JC (Jf (aN eqO (aj (az IZ (ao 2) (aj (aD (.int 0))))) (aj (aD (.str [111,110,101])))))
  (de (nK (aN eqO (ao 3) (ao 7)) (az Pj (aj (aY lenSI (ag (aj (az cU (ao 4) (ao 8))) aB))) (aj (aD (.int 1))))))
  bL)
  (de (nK (aN eqO (aj (az IZ (ao 2) (aj (aD (.int 0))))) (aj (aD (.str [116,119,111])))) (nK (aN Kr (ao 3) (ao 7)) (aN Kr (aj (cE (Kn (eX 4) (eC (aJ 4))) [none,some 8] (ay 0) (Jf (aN inP (ao 0) (ao 1))) (aJ 0))) (aj (ja a7)))))))
theorem z8(hl:ps.length<=100)(hp:∀p∈ps,Ka p nY.length)(ha:ap.length<=60){m m':List Int}(t:Tt nY ps ap s' m' w')(tag:List Nat)(JO:inP (.str tag) (.tup [.str [115,116,117,99,107],.str [102,114,101,101]])=.ok (.f,.bl false))(o4:O)(ho:o4=.f\/o4=.l .f)(r:R)
  (h:∀o4,(o4=.f\/o4=.l .f)->∀o8,(o8=.f\/o8=.l .f)->zf [fq (Jb nY ap),fq (eN nY ps),fq (.tup [.str tag,wD w,wD w']),fq (eM m),some (o4,.lst ((b6 ap w).map D.int)),none,none,fq (eM m'),some (o8,.lst ((b6 ap w').map D.int))]=.ok (.rt r)):
  uN [fq (Jb nY ap),fq (eN nY ps),fq (.tup [.str tag,wD w,wD w']),fq (eM m),some (o4,.lst ((b6 ap w).map D.int)),none,none,none,none]=.ok (.rt r):=by
 have hg:=xG hl hp w' t.nm;rw[t.go]at hg;have hg:bj [eN nY ps,wD w']=.ok (.f,eM m'):=hg;obtain⟨o8,NZ,K7⟩:=Fn (nY:=nY) ha w';have fm:=gF m';have hi:=y9 m';have NJ:(b6 ap w').isEmpty=false:=by
  have:=t.le;cases h:b6 ap w' with
  |nil=>rw[h]at this;cases this
  |cons a l=>rfl
 have he:=eq_nilI (b6 ap w');rw[NJ]at he;have M0:=IW (b6 ap w');have h:=fun o4 ho4=>h o4 ho4 o8 NZ
 have Q0:sJ "tuple" (wD w')=true:=rfl;unfold uN;unfold zf at h;generalize (b6 ap w').map D.int=L8 at K7 he M0 h;generalize (b6 ap w).map D.int=L4 at h ⊢;generalize eM m'=E7 at hg fm hi h;generalize eM m=E3 at h ⊢;generalize wD w'=W8 at hg K7 Q0 h ⊢;generalize wD w=W4 at h ⊢;generalize Jb nY ap=CH at K7 h ⊢;generalize eN nY ps=NE at hg h ⊢;rw[av (env':=[fq CH,fq NE,fq (.tup [.str tag,W4,W8]),fq E3,some (o4,.lst L4),none,none,none,none]) (by rcases ho with rfl|rfl <;> simp only[pv,seval,op,Na,JO,dJ])];rw[av (env':=[fq CH,fq NE,fq (.tup [.str tag,W4,W8]),fq E3,some (o4,.lst L4),none,none,fq E7,none]) (by rcases ho with rfl|rfl <;> simp only[pv,seval,op,at2,hg,fm,dU])];have h8:∃o5:O,(o5=.f\/o5=.l .f)/\(bH 8 (cX cR (ag (ao 0) (ag (aj (az IZ (ao 2) (aj (aD (.int 2))))) aB)))) [fq CH,fq NE,fq (.tup [.str tag,W4,W8]),fq E3,some (o4,.lst L4),none,none,fq E7,none]=.ok (.nx [fq CH,fq NE,fq (.tup [.str tag,W4,W8]),fq E3,some (o5,.lst L4),none,none,fq E7,some (o8,.lst L8)]):=by
  rcases NZ with rfl|rfl
  ·refine⟨.f,.inl rfl,?_⟩;rcases ho with rfl|rfl <;> simp only[pv,seval,op,at2,K7,M0] <;> rfl
  ·refine⟨o4,ho,?_⟩;rcases ho with rfl|rfl <;> simp only[pv,seval,op,at2,K7,M0]
 obtain⟨o5,U2,h8⟩:=h8;rw[av h8];rw[av (env':=[fq CH,fq NE,fq (.tup [.str tag,W4,W8]),fq E3,some (o5,.lst L4),none,none,fq E7,some (o8,.lst L8)]) (by
  rcases U2 with rfl|rfl <;> rcases NZ with rfl|rfl <;> simp only[pv,seval,op,at2,Q0,hi,he,V4,dJ])]
 exact h o5 U2
theorem He(hl:ps.length<=100)(hp:∀p∈ps,Ka p nY.length)(ha:ap.length<=60)(hb:∀a∈ap,0<=a.2.2/\a.2.2<12){m:List Int}(t:Tt nY ps ap s m w)(t':Tt nY ps ap s' m w')(hs:s≠s'):bo [Jb nY ap,eN nY ps,xT w w']=.ok (.f,.bl true):=by
 refine tY hl hp ha t [111,110,101] (wD w') (.f,.bl true) fun o4 ho=>z8 hl hp ha t' [111,110,101] (in_strs [111,110,101] [[115,116,117,99,107],[102,114,101,101]]) o4 ho _ fun o4 ho o8 NZ=>?_
 have a4:=oR hb w;have a8:=oR hb w';have Ls:=xq ((b6 ap w).map D.int) ((b6 ap w').map D.int) (by rw[bu,bu];lia);rw[<-VA]at Ls;have Ug:=Cy (b6 ap w++b6 ap w') (by rw[jb];lia);have hgt:1<((b6 ap w++b6 ap w').foldl PyProof.Rows.step_dedup []).length:=Cz (Cw _ _ (.inr (Vj _ t.le))) (Cw _ _ (.inr (Vd _ t'.le))) hs;generalize ((b6 ap w++b6 ap w').foldl PyProof.Rows.step_dedup []).length=ln at Ug hgt;have hd:decide ((1:Int)<(ln:Int))=true:=VB (by lia);have hq:([111,110,101]==[111,110,101])=true:=rfl;have Q1:eqO (eM m) (eM m)=.ok (.f,.bl true):=xg _ (eV _);unfold zf;generalize (b6 ap w++b6 ap w').map D.int=LA at Ls Ug;generalize (b6 ap w').map D.int=L8 at Ls ⊢;generalize (b6 ap w).map D.int=L4 at Ls ⊢;generalize eM m=E3 at Q1 ⊢;generalize wD w'=W8;generalize wD w=W4;generalize Jb nY ap=CH;generalize eN nY ps=NE;rw[Jq,EH (env':=[fq CH,fq NE,fq (.tup [.str [111,110,101],W4,W8]),fq E3,some (o4,.lst L4),none,none,fq E3,some (o8,.lst L8)]) (by rcases ho with rfl|rfl <;> rcases NZ with rfl|rfl <;> simp only[pv,seval,op,Na,hq])];rcases ho with rfl|rfl <;> rcases NZ with rfl|rfl <;> simp only[pv,seval,Er,Q1,Ls,Ug,hd]
theorem Hf(hl:ps.length<=100)(hp:∀p∈ps,Ka p nY.length)(ha:ap.length<=60)(hb:∀a∈ap,0<=a.2.2/\a.2.2<12){m m':List Int}(t:Tt nY ps ap s m w)(t':Tt nY ps ap s m' w')(hs:m≠m'):bo [Jb nY ap,eN nY ps,Fz w w']=.ok (.f,.bl true):=by
 refine tY hl hp ha t [116,119,111] (wD w') (.f,.bl true) fun o4 ho=>z8 hl hp ha t' [116,119,111] (in_strs [116,119,111] [[115,116,117,99,107],[102,114,101,101]]) o4 ho _ fun o4 ho o8 NZ=>?_
 have a4:=oR hb w;have hq:([116,119,111]==[111,110,101])=false:=rfl;have hq2:([116,119,111]==[116,119,111])=true:=rfl;have Q1:Kr (eM m) (eM m')=.ok (.f,.bl true):=by rw[E9,VM hs];rfl
 have hc:=Hd (b6 ap w) (b6 ap w') o8 NZ;have l1:((b6 ap w).filter fun s=>decide (s∈b6 ap w')).length<=sizeLine:=line_le (VR (Xl _ _) (by lia));have fl:=IW ((b6 ap w).filter fun s=>decide (s∈b6 ap w'));have NJ:=xI ((b6 ap w).filter fun s=>decide (s∈b6 ap w'));have KH:((b6 ap w).filter fun s=>decide (s∈b6 ap w')).isEmpty=false:=by
  have:s∈(b6 ap w).filter fun s=>decide (s∈b6 ap w'):=V7.mpr ⟨t.le,VB t'.le⟩
  cases h:(b6 ap w).filter fun s=>decide (s∈b6 ap w') with
  |nil=>rw[h]at this;cases this
  |cons a l=>rfl
 rw[KH,We]at NJ;unfold zf;generalize (b6 ap w).filter (fun s=>decide (s∈b6 ap w'))=FL at hc l1 fl NJ;generalize (b6 ap w').map D.int=L8 at hc ⊢;generalize (b6 ap w).map D.int=L4 at hc ⊢;generalize eM m=E3 at Q1 ⊢;generalize eM m'=E7 at Q1 ⊢;generalize wD w'=W8;generalize wD w=W4;generalize Jb nY ap=CH;generalize eN nY ps=NE;rw[av (env':=[fq CH,fq NE,fq (.tup [.str [116,119,111],W4,W8]),fq E3,some (o4,.lst L4),none,none,fq E7,some (o8,.lst L8)]) (by rw[HF (env':=[fq CH,fq NE,fq (.tup [.str [116,119,111],W4,W8]),fq E3,some (o4,.lst L4),none,none,fq E7,some (o8,.lst L8)]) (by rcases ho with rfl|rfl <;> rcases NZ with rfl|rfl <;> simp only[pv,seval,op,Na,hq])];rfl)];generalize (Jf (aN inP (ao 0) (ao 1)))=CC at hc ⊢;rcases ho with rfl|rfl <;> rcases NZ with rfl|rfl <;> simp only[pv,seval,op,Na,hq2,Q1,hc,bu,l1,fl,NJ]
theorem CB(hl:ps.length<=100)(hp:∀p∈ps,Ka p nY.length)(ha:ap.length<=60)(hb:∀a∈ap,0<=a.2.2/\a.2.2<12){d:D}(h:Tol nY ps ap d):bo [Jb nY ap,eN nY ps,d]=.ok (.f,.bl true)/\∃tag x y,(tag=[115,116,117,99,107]\/tag=[102,114,101,101]\/tag=[111,110,101]\/tag=[116,119,111])/\d=.tup [.str tag,x,y]/\cw d=true:=by
 cases h with
 |stuck s m w mv s' t hm hf hs=>exact⟨CA hl hp ha hb t hm hf hs,_,_,_,.inl rfl,rfl,qC _ _ _ (d6 _) rfl⟩
 |free s m w mv r t hm hf hs=>exact⟨Fq hl hp ha hb t hm hf hs,_,_,_,.inr (.inl rfl),rfl,qC _ _ _ (d6 _) rfl⟩
 |one s s' m w w' t t' hs=>exact⟨He hl hp ha hb t t' hs,_,_,_,.inr (.inr (.inl rfl)),rfl,qC _ _ _ (d6 _) (d6 _)⟩
 |two s m m' w w' t t' hs=>exact⟨Hf hl hp ha hb t t' hs,_,_,_,.inr (.inr (.inr rfl)),rfl,qC _ _ _ (d6 _) (d6 _)⟩
end
theorem maxOf_tops(h:∀a∈ap,0<=a.1/\0<=a.2.2):1+maxOf (tops ap)=statesOf ap:=by
 unfold statesOf;have h1:maxOf (tops ap)<=NX.maxD (ap.map iE) 0:=by
  have JO:=oJ (ns:=tops ap) (by unfold tops;simp);unfold tops at JO ⊢;rcases Vo.mp JO with e|e
  ·rw[e];rcases oK (ap.map iE) 0 with⟨_,e2⟩|e2
   ·rw[e2];exact Zf 0
   ·obtain⟨a,ha,e3⟩:=l5 e2;have:=h a ha;have:=j3 a;lia
  ·exact xk e
 have h2:NX.maxD (ap.map iE) 0<=maxOf (tops ap):=by
  rcases oK (ap.map iE) 0 with⟨_,e2⟩|e2
  ·rw[e2];exact jJ (by unfold tops;exact Va)
  ·exact jJ (by unfold tops;exact Vb _ e2)
 lia
section
variable{S:List (List Int)}
def Lv(nY:LNN)(ps:List Pl)(m:List Int):LNN:=nY.filter fun mv=>(br (nY.idxOf mv) (m.zip ps)).isSome
theorem Hg(hl:ps.length<=100)(hp:∀p∈ps,Ka p nY.length)(m:List Int):cV (ay 0) (Jf (aN isnO (aj (cX ba (ag (ao 1) (ag (ao 2) (ag (ao 0) aB))))) (aj (aD .non)))) (aJ 0) (nY.map D.str) [none,fq (eN nY ps),fq (eM m)]=.ok ((Lv nY ps m).map D.str):=by
 rw[jF (p:=fun mv:List Nat=>(br (nY.idxOf mv) (m.zip ps)).isSome) (r:=fun mv:List Nat=>D.str mv) (fun env=>∃t1,env=[t1,fq (eN nY ps),fq (eM m)]) nY ?_ _ ⟨_,rfl⟩]
 ·rfl
 ·rintro mv hm env ⟨t1,rfl⟩;have st:=rF nY ps hl hp m mv hm;have fl:=oO (br (nY.idxOf mv) (m.zip ps));have hi:isnO (eO (br (nY.idxOf mv) (m.zip ps))) .non=.ok (.f,.bl (br (nY.idxOf mv) (m.zip ps)).isSome):=by cases br (nY.idxOf mv) (m.zip ps) <;> rfl
  refine⟨[fq (.str mv),fq (eN nY ps),fq (eM m)],by simp only[pv,seval],?_⟩;generalize eO (br (nY.idxOf mv) (m.zip ps))=ER at st fl hi;generalize eN nY ps=NE at st ⊢;generalize eM m=EM at st ⊢;simp only[pv,seval,op,st,fl,dU,hi];cases h1:(br (nY.idxOf mv) (m.zip ps)).isSome with
  |true=>exact⟨_,rfl,_,_,rfl,_,rfl⟩
  |false=>exact⟨_,rfl,_,rfl⟩
theorem count_ok(nn:nY.Nodup)(o:Or nY ps S ap)(nm:∀a∈ap,a.2.1∈nY)(nd:ap.Nodup):(S.map fun m=>(Lv nY ps m).length).sum=ap.length:=by
 have lenP:((List.range S.length).flatMap fun i=>(Lv nY ps (S.getD i [])).map fun mv=>((i:Int),mv)).length=(S.map fun m=>(Lv nY ps m).length).sum:=by
  rw[List.length_flatMap];congr 1
  refine List.ext_getElem (by rw[bu,VG,bu]) fun i h1 h2=>?_
  rw[Yy,Yj,Yy,bu];have hi:i<S.length:=by rw[bu]at h2;exact h2
  rw[Vi,mf hi];rfl
 have ndK:(ap.map fun a:IY=>((a.1,a.2.1):Int×List Nat)).Nodup:=by
  show List.Pairwise _ _;rw[Xu];refine nd.imp_of_mem fun{a b} ha hb KH e=>KH ?_
  obtain⟨x,y,z⟩:=a;obtain⟨x',y',z'⟩:=b;injection e with e1 e2;dsimp only at e1 e2;subst e1 e2;obtain⟨i,j,f1,f2,p,q,g1,g2,g3⟩:=o.ab x z y ha;obtain⟨i',j',f1',f2',p',q',U3,g2',U4⟩:=o.ab x z' y hb;have ei:i=i':=by lia
  subst ei;rw[g1]at U3;cases U3;rw[g3]at U4;cases U4;obtain⟨k1,k2⟩:=kl g2;obtain⟨k1',k2'⟩:=kl g2';have:=(List.getElem_inj o.nd).mp (k2.trans k2'.symm);subst this;rw[f2,f2']
 have Sm:((List.range S.length).flatMap fun i=>(Lv nY ps (S.getD i [])).map fun mv=>((i:Int),mv)).Nodup:=by
  rw[List.Nodup,List.pairwise_flatMap];refine⟨fun i _=>?_,List.pairwise_lt_range.imp fun{i j} h x hx y hy e=>?_⟩
  ·rw[Xu];unfold Lv;exact(nn.filter _).imp fun h e=>h (by injection e)
  ·obtain⟨_,_,rfl⟩:=l5 hx;obtain⟨_,_,rfl⟩:=l5 hy;injection e with e1 _;lia
 have le1:=lX _ ((List.range S.length).flatMap fun i=>(Lv nY ps (S.getD i [])).map fun mv=>((i:Int),mv)) ndK (by
  intro x hx;obtain⟨⟨x,mv,s⟩,ha,rfl⟩:=l5 hx;obtain⟨i,j,rfl,rfl,p,q,g1,g2,g3⟩:=o.ab x s mv ha;refine List.mem_flatMap.mpr ⟨i,VD.mpr (kl g1).1,Wz.mpr ⟨mv,V7.mpr ⟨nm _ ha,?_⟩,rfl⟩⟩;rw[Vi,g1,XE,g3];rfl)
 have le2:=lX _ (ap.map fun a:IY=>((a.1,a.2.1):Int×List Nat)) Sm (by
  intro x hx;obtain⟨i,hi,hx⟩:=List.mem_flatMap.mp hx;obtain⟨mv,LI,rfl⟩:=l5 hx;obtain⟨h1,h2⟩:=V7.mp LI;have hi:=VD.mp hi;rw[Vi,mf hi,XE,Wb]at h2;obtain⟨t,ht⟩:=h2;obtain⟨m,hm⟩:=o.fu i mv _ t h1 (mf hi) ht;exact Wz.mpr ⟨_,hm,rfl⟩)
 rw[lenP,bu]at le1 le2;lia
theorem Hh{m:List Int}(h:S[i]?=some m):JV (S.map eM) (i:Int)=some (eM m):=fB (by rw[Vs,h];rfl)
theorem Hi(hl:ps.length<=100)(hp:∀p∈ps,Ka p nY.length)(nm:∀a∈ap,a.2.1∈nY)(o:Or nY ps S ap)(c:Nat)(g:Int)(t5 t6 t7 t8:Option R):
  ∃Qv t6' t7':Option R,dD [fq (Jb nY ap),fq (eN nY ps),fq (.lst (S.map eM)),fq (.int (c:Int)),fq (.int g),t5,t6,t7,t8]=.ok (.nx [fq (Jb nY ap),fq (eN nY ps),fq (.lst (S.map eM)),fq (.int (c:Int)),fq (.int g),Qv,t6',t7',t8]):=by
 obtain⟨env',hf,u5,u6,u7,rfl⟩:=for_list (a:=iJ 3 (aH (ay 5) (aH (ay 6) (aH (ay 7) df)))) (g:=c7) (e:=eA) ap (fun j env=>∃t5 t6 t7:Option R,env=[fq (Jb nY ap),fq (eN nY ps),fq (.lst (S.map eM)),fq (.int (c:Int)),fq (.int g),t5,t6,t7,t8]) (by
  rintro j ⟨x,mv,s⟩ env hj ⟨t5,t6,t7,rfl⟩;have ha:=VF hj;obtain⟨i,k,rfl,rfl,p,q,g1,g2,g3⟩:=o.ab x s mv ha;have st:=rF nY ps hl hp p mv (nm _ ha);rw[g3]at st;have st:ba [eN nY ps,eM p,.str mv]=.ok (.f,eM q):=st;have a1:=Hh g1;have a2:=Hh g2;have fl:=gF q;have KH:Kr (eM q) (eM q)=.ok (.f,.bl false):=lV _ (eV _);refine⟨[fq (Jb nY ap),fq (eN nY ps),fq (.lst (S.map eM)),fq (.int (c:Int)),fq (.int g),fq (.int (i:Int)),fq (.str mv),fq (.int (k:Int)),t8],by unfold eA;simp only[pv,seval],_,?_,fq (.int (i:Int)),fq (.str mv),fq (.int (k:Int)),rfl⟩;unfold c7;generalize S.map eM=SS at a1 a2 ⊢;generalize eN nY ps=NE at st ⊢;generalize Jb nY ap=CH;generalize eM p=EP at st a1;generalize eM q=EQ at st a2 fl KH;simp only[pv,seval,op,a1,a2,st,fl,dU,KH,dJ]) [fq (Jb nY ap),fq (eN nY ps),fq (.lst (S.map eM)),fq (.int (c:Int)),fq (.int g),t5,t6,t7,t8] ⟨t5,t6,t7,rfl⟩
 refine⟨u5,u6,u7,?_⟩;rw[<-hf];unfold dD Jb;generalize c7=GG;simp only[pv,seval,op,L0]
theorem Hj(hl:ps.length<=100)(hp:∀p∈ps,Ka p nY.length)(hn:nY.length<=10)(c:Nat)(t5 t6 t7 t8:Option R):
  ∃t8':Option R,dC [fq (Jb nY ap),fq (eN nY ps),fq (.lst (S.map eM)),fq (.int (c:Int)),fq (.int 0),t5,t6,t7,t8]=.ok (.nx [fq (Jb nY ap),fq (eN nY ps),fq (.lst (S.map eM)),fq (.int (c:Int)),fq (.int (((S.map fun m=>(Lv nY ps m).length).sum:Nat):Int)),t5,t6,t7,t8']):=by
 obtain⟨env',hf,u8,rfl⟩:=for_list (a:=ay 8) (g:=c6) (e:=eM) S (fun j env=>∃t8:Option R,env=[fq (Jb nY ap),fq (eN nY ps),fq (.lst (S.map eM)),fq (.int (c:Int)),fq (.int ((((S.take j).map fun m=>(Lv nY ps m).length).sum:Nat):Int)),t5,t6,t7,t8]) (by
  rintro j m env hj ⟨t8,rfl⟩;obtain⟨h1,h2⟩:=kl hj;have hc:=Hg hl hp m;have fle:(Lv nY ps m).length<=10:=VR (Xl _ _) hn;have l1:(Lv nY ps m).length<=sizeLine:=line_le (by lia);have fl:=PV.flat_strs (Lv nY ps m);have es:((((S.take (j+1)).map fun m=>(Lv nY ps m).length).sum:Nat):Int)=((((S.take j).map fun m=>(Lv nY ps m).length).sum:Nat):Int)+((Lv nY ps m).length:Int):=by
   rw[Xm h1,h2,VA,List.sum_append,YO];simp
  have lf:((Lv nY ps m).map D.str).length=(Lv nY ps m).length:=bu _;have K6:IZ (eN nY ps) (.int 0)=.ok (.f,.tup (nY.map D.str)):=rfl;refine⟨[fq (Jb nY ap),fq (eN nY ps),fq (.lst (S.map eM)),fq (.int (c:Int)),fq (.int ((((S.take j).map fun m=>(Lv nY ps m).length).sum:Nat):Int)),t5,t6,t7,fq (eM m)],by simp only[pv,seval],_,?_,fq (eM m),rfl⟩;rw[es];generalize ((((S.take j).map fun m=>(Lv nY ps m).length).sum:Nat):Int)=z;unfold c6;generalize (Jf (aN isnO (aj (cX ba (ag (ao 1) (ag (ao 2) (ag (ao 0) aB))))) (aj (aD .non))))=CC at hc ⊢;generalize (Lv nY ps m).map D.str=FF at hc fl lf;generalize nY.map D.str=NN at hc K6;generalize eN nY ps=NE at hc K6 ⊢;generalize Jb nY ap=CH;generalize S.map eM=SS;generalize eM m=EM at hc ⊢;simp only[pv,seval,op,K6,hc,l1,fl,lf]) [fq (Jb nY ap),fq (eN nY ps),fq (.lst (S.map eM)),fq (.int (c:Int)),fq (.int 0),t5,t6,t7,t8] ⟨t8,rfl⟩
 rw[WZ]at hf;refine⟨u8,?_⟩;rw[<-hf];unfold dC;generalize c6=GG;simp only[pv,seval,op]
end
theorem keysM:∀r:List Int,keysOfL (r.map D.int)=some (r.map Sum.inl)
 |[]=>rfl
 |x::r=>by
  rw[gE,keysOfL,keysM r];rfl
theorem IG(r:List Int):dO true (eM r)=true:=by
 unfold dO eM;rw[Vn rfl];show(keysOfL (r.map D.int)).isSome=true;rw[keysM];rfl
theorem xJ:∀(l acc:List D),l.Pairwise (fun a b=>IU b a=false)->(∀d∈l,∀x∈acc,IU d x=false)->(dst acc l).length=acc.length+l.length
 |[],acc,_,_=>rfl
 |d::l,acc,p,h=>by
  rw[WX]at p;have e:acc.any (IU d)=false:=by
   rw[List.any_eq_false];intro x hx;rw[h d Va x hx];exact Vg
  rw[dst,e,Vt Vg,xJ l _ p.2 (by
   intro y hy x hx;rcases Vo.mp hx with rfl|hx
   ·exact p.1 y hy
   ·exact h y (Vb _ hy) x hx),Vm,Vm]
  lia
theorem CD{e:α->D}[DecidableEq α](he:∀a b,IU (e a) (e b)=decide (a=b))(hk:∀a,dO true (e a)=true){l:List α}(nd:l.Nodup)(h:l.length<=76):uC [.lst (l.map e)]=.ok (.f,.int (l.length:Int)):=by
 unfold uC;dsimp only;have h1:(l.map e).all (dO true)=true:=by
  rw[WU,VO];exact fun a _=>hk a
 rw[Vn (by rw[h1,bu,YG];exact VB h),xJ _ _ (by
  rw[Xu];exact nd.imp fun{a b} KH=>by rw[he];exact VM fun z=>KH z.symm) (fun _ _ x hx=>by cases hx),bu,Wl,Xw]
theorem Fs{l:List (List Int)}(nd:l.Nodup)(h:l.length<=76):uC [.lst (l.map eM)]=.ok (.f,.int (l.length:Int)):=CD uH IG nd h
section
variable{S:List (List Int)}
theorem zg(hl:ps.length<=100)(hp:∀p∈ps,Ka p nY.length)(hn:nY.length<=10)(nn:nY.Nodup)(nm:∀a∈ap,a.2.1∈nY)(nd:ap.Nodup)(hb:∀a∈ap,0<=a.1/\0<=a.2.2)(ha:ap.length<=60)(o:Or nY ps S ap)(c:Nat)(hc:S.length=c)(hs:statesOf ap=(c:Int))(T9:c<=12):bQ [Jb nY ap,eN nY ps,.lst (S.map eM)]=.ok (.f,.bl true):=by
 have N3:cV (ay 0) fU (aY PV.maxD (ag (aj (az IZ (ao 0) (aj (aD (.int 0))))) (ag (aj (az IZ (ao 0) (aj (aD (.int 2))))) aB))) (ap.map eA) [none]=.ok ((ap.map iE).map D.int):=by
  rw[bX (r:=fun a:IY=>D.int (iE a)) (fun env=>∃t,env=[t]) ap ?_ _ ⟨none,rfl⟩]
  ·rw[VU];rfl
  ·rintro a _ env ⟨t,rfl⟩;refine⟨[fq (eA a)],rfl,.f,[fq (eA a)],?_,_,rfl⟩;unfold eA;simp only[pv,seval,op,at2];rfl
 have K0:((ap.map iE).map D.int).length<=sizeLine:=bS (by rw[bu,bu];lia);have Qw:=IW (ap.map iE);have Ls:=xq [.int 0] ((ap.map iE).map D.int) (by rw[bu,bu,VC];lia);have M1:PV.maxD [.lst ([.int 0]++(ap.map iE).map D.int)]=.ok (.f,.int (maxOf (tops ap))):=zV (l:=tops ap) (by unfold tops;simp);have hmc:1+maxOf (tops ap)=(c:Int):=(maxOf_tops hb).trans hs;have sM:=Fs o.nd (by lia);rw[hc]at sM;have lM:(S.map eM).length=c:=by rw[bu];exact hc
 have bm:((c:Int)==(c:Int))=true:=V6 _;have QB:JV (S.map eM) (0:Int)=some (eM (ps.map (·.1))):=Hh (i:=0) o.z;have pf:=tN nY ps hl;have fm:=gF (ps.map (·.1));have KH:Kr (eM (ps.map (·.1))) (eM (ps.map (·.1)))=.ok (.f,.bl false):=lV _ (eV _);have U5:sJ "list" (.lst (S.map eM))=true:=rfl;obtain⟨u5,u6,u7,e2⟩:=Hi hl hp nm o c 0 none none none none;obtain⟨u8,e1⟩:=Hj (ap:=ap) (S:=S) hl hp hn c u5 u6 u7 none;rw[count_ok nn o nm nd]at e1;have NY:IZ (Jb nY ap) (.int 1)=.ok (.f,.lst (ap.map eA)):=rfl;have lA:(ap.map eA).length=ap.length:=bu _;have bA:((ap.length:Int)==(ap.length:Int))=true:=V6 _;unfold bQ jE gD;rw[bB (h:=by rfl)];rw[av (env':=[fq (Jb nY ap),fq (eN nY ps),fq (.lst (S.map eM)),fq (.int (c:Int)),none,none,none,none,none]) (by
  generalize (aY PV.maxD (ag (aj (az IZ (ao 0) (aj (aD (.int 0))))) (ag (aj (az IZ (ao 0) (aj (aD (.int 2))))) aB)))=GG at N3 ⊢;generalize (ap.map iE).map D.int=TT at *;generalize ap.map eA=AA at N3 NY;generalize Jb nY ap=CH at NY ⊢;generalize eN nY ps=NE;generalize S.map eM=SS;simp only[pv,seval,op,NY,N3,K0,Qw];simp only[Wy,Xt]at Ls M1;simp only[pv,seval,op,Ls,M1,hmc])]
 generalize dD=G2 at e2 ⊢;generalize dC=G1 at e1 ⊢;generalize ap.map eA=AA at NY lA;generalize Jb nY ap=CH at NY e1 e2 ⊢;generalize eN nY ps=NE at pf e1 e2 ⊢;generalize S.map eM=SS at sM lM QB U5 e1 e2 ⊢;generalize eM (ps.map (·.1))=EF at QB pf fm KH;rw[av (env':=[fq CH,fq NE,fq (.lst SS),fq (.int (c:Int)),none,none,none,none,none]) (by
  simp only[pv,seval,op,U5,lM,bm,sM,V4,dJ])]
 rw[av (env':=[fq CH,fq NE,fq (.lst SS),fq (.int (c:Int)),none,none,none,none,none]) (by
  simp only[pv,seval,op,QB,pf,fm,dU,KH,dJ])]
 rw[av (env':=[fq CH,fq NE,fq (.lst SS),fq (.int (c:Int)),fq (.int 0),none,none,none,none]) (by simp only[pv,seval])];rw[av e2,av e1];unfold gC;simp only[pv,seval,op,NY,lA,bA]
end
theorem law_1(ns:List Int){S:List (List Int)}(n:Nt nY ps S A):∃(ap:List IY) (o2:O) (t3 t4:Option R),shal o2=true/\ap.length<=30/\Bd nY ap/\g_law_1 [fq (.lst (ns.map D.int)),fq (eN nY ps),fq (.lst ((isort arcLt A).map eA)),none,none,none,none]=.ok (.nx [fq (.lst (ns.map D.int)),fq (eN nY ps),some (o2,.lst (ap.map eA)),t3,t4,none,none]):=by
 have NT:=n.al;have rs:=n.ra.sort;have b0:Bd nY (isort arcLt A):=⟨fun a ha=>by have:=rs.bd a ha;have:=rs.mm;lia,rs.nm⟩
 obtain⟨env',ef,ap,o2,t3,t4,ho,hl,bd,rfl⟩:=oG (a:=ay 3) (g:=oq) (e:=fun k=>D.int ((2:Int)+(k:Int))) 6 (fun i env=>∃(ap:List IY) (o2:O) (t3 t4:Option R),shal o2=true/\ap.length<=24+i/\Bd nY ap/\env=[fq (.lst (ns.map D.int)),fq (eN nY ps),some (o2,.lst (ap.map eA)),t3,t4,none,none]) (by
  rintro k env hk ⟨ap,o2,t3,t4,ho,hl,bd,rfl⟩;have ck:=mW ns (2+k);have M1:=oM (cell ns (2+k)) (((2+k:Nat)):Int) (by lia) (by lia);rw[show((2+k:Nat):Int)=(2:Int)+(k:Int) by lia]at ck M1;generalize xS (cell ns (2+k)) ((2:Int)+(k:Int))=x at M1;refine⟨[fq (.lst (ns.map D.int)),fq (eN nY ps),some (o2,.lst (ap.map eA)),fq (.int ((2:Int)+(k:Int))),t4,none,none],rfl,?_⟩;unfold oq;rw[av (env':=[fq (.lst (ns.map D.int)),fq (eN nY ps),some (o2,.lst (ap.map eA)),fq (.int ((2:Int)+(k:Int))),fq (.int x),none,none]) (by simp only[pv,seval,op,ck,M1])];cases h3:(x / 64%3==0) with
  |false=>
   refine⟨_,?_,ap,o2,fq (.int ((2:Int)+(k:Int))),fq (.int x),ho,by lia,bd,rfl⟩;simp only[pv,seval,op,gk _ 64 (by decide) (by decide),jG _ 3 (by decide),h3,dJ]
  |true=>
   obtain⟨Lr,bd',hl',eb⟩:=E5 nY n.n0 n.n3 ap (by lia) bd (x / 192);obtain⟨K,mZ,ra,_,QX,et⟩:=tI nY Lr (by lia) bd';have f1:=oI Lr;have f2:=oI (isort arcLt K);have rk:=ra.sort;refine⟨[fq (.lst (ns.map D.int)),fq (eN nY ps),some (.l .f,.lst ((isort arcLt K).map eA)),fq (.int ((2:Int)+(k:Int))),fq (.int x),none,none],?_,isort arcLt K,.l .f,fq (.int ((2:Int)+(k:Int))),fq (.int x),rfl,by rw[ie];lia,⟨fun a ha=>by have:=rk.bd a ha;have:=rk.mm;lia,rk.nm⟩,rfl⟩;unfold eN;simp only[pv,seval,op,gk _ 64 (by decide) (by decide),gk _ 192 (by decide) (by decide),jG _ 3 (by decide),h3,eb,et,f1,f2,ho]) _ ⟨isort arcLt A,.f,none,none,rfl,by rw[ie];lia,b0,rfl⟩
 refine⟨ap,o2,t3,t4,ho,by lia,bd,?_⟩;unfold g_law_1;generalize eN nY ps=NE at ef ⊢;simp only[pv,seval,op];rw[Vn (by decide)];try rw[show((8:Int)-(2:Int)).toNat=6 by rfl]
 simp only[pv,seval,op];exact ef
noncomputable def CJ:FS:=(sSeq (JC (LU (we (Jf (NV "tuple" (ao 6)))) (LU (Jf (aN pT (aj (aY gH (ag (ao 6) aB))) (aj (fO (ax (aD (.int 2)) (ax (aD (.int 3)) a7)))))) (we (Jf (NV "str" (aj (az IZ (ao 6) (aj (aD (.int 0))))))))))
  (de (aD (.bl false)))
  bL)
  (sSeq (JC (Jf (aN eqO (aj (az IZ (ao 6) (aj (aD (.int 0))))) (aj (aD (.str [115,97,109,101])))))
  (de (nK (aN eqO (aj (aY gH (ag (ao 6) aB))) (aj (aD (.int 2)))) (cX bQ (ag (ao 5) (ag (ao 1) (ag (aj (az IZ (ao 6) (aj (aD (.int 1))))) aB))))))
  bL)
  (de (nK (aN eqO (aj (aY gH (ag (ao 6) aB))) (aj (aD (.int 3)))) (cX bo (ag (ao 5) (ag (ao 1) (ag (ao 6) aB))))))))
theorem Hk(A0 A2 A3 A4:Option R)(NE CE x y:D)(tag:List Nat)(ht:tag=[115,116,117,99,107]\/tag=[102,114,101,101]\/tag=[111,110,101]\/tag=[116,119,111])(h:bo [CE,NE,.tup [.str tag,x,y]]=.ok (.f,.bl true)):CJ [A0,fq NE,A2,A3,A4,fq CE,fq (.tup [.str tag,x,y])]=.ok (.rt (.f,.bl true)):=by
 have h1:sJ "tuple" (.tup [.str tag,x,y])=true:=rfl;have h2:pT (.int 3) (.tup [.int 2,.int 3])=.ok (.f,.bl false):=rfl;have h3:sJ "str" (.str tag)=true:=rfl;have h4:(tag==[115,97,109,101])=false:=by rcases ht with rfl|rfl|rfl|rfl <;> rfl
 have h5:((3:Int)==(3:Int))=true:=rfl;have h6:∀a b c:D,(([a,b,c]:List D).length:Int)=3:=fun _ _ _=>rfl
 have a0:∀a b c:D,JV (a::b::c::[]) (0:Int)=some a:=fun _ _ _=>rfl
 have h7:gH [.tup [.str tag,x,y]]=.ok (.f,.int 3):=rfl;have h8:IZ (.tup [.str tag,x,y]) (.int 0)=.ok (.f,.str tag):=rfl;unfold CJ;generalize D.tup [.str tag,x,y]=FD at h h1 h7 h8 ⊢;rw[av (env':=[A0,fq NE,A2,A3,A4,fq CE,fq FD]) (by simp only[pv,seval,op,h1,h7,h2,h8,h3,V4,dJ])];rw[av (env':=[A0,fq NE,A2,A3,A4,fq CE,fq FD]) (by simp only[pv,seval,op,h8,h4,dJ])];simp only[pv,seval,op,h7,h5,h]
theorem Hl(A0 A2 A3 A4:Option R)(NE CE x:D)(h:bQ [CE,NE,x]=.ok (.f,.bl true)):CJ [A0,fq NE,A2,A3,A4,fq CE,fq (.tup [.str [115,97,109,101],x])]=.ok (.rt (.f,.bl true)):=by
 have h1:sJ "tuple" (.tup [.str [115,97,109,101],x])=true:=rfl;have h2:pT (.int 2) (.tup [.int 2,.int 3])=.ok (.f,.bl false):=rfl;have h3:sJ "str" (.str [115,97,109,101])=true:=rfl;have h4:(([115,97,109,101]:List Nat)==[115,97,109,101])=true:=rfl;have h5:((2:Int)==(2:Int))=true:=rfl;have h7:gH [.tup [.str [115,97,109,101],x]]=.ok (.f,.int 2):=rfl;have h8:IZ (.tup [.str [115,97,109,101],x]) (.int 0)=.ok (.f,.str [115,97,109,101]):=rfl;have h9:IZ (.tup [.str [115,97,109,101],x]) (.int 1)=.ok (.f,x):=rfl;unfold CJ;generalize D.tup [.str [115,97,109,101],x]=FD at h1 h7 h8 h9 ⊢;rw[av (env':=[A0,fq NE,A2,A3,A4,fq CE,fq FD]) (by simp only[pv,seval,op,h1,h7,h2,h8,h3,V4,dJ])];rw[Jq,EH (env':=[A0,fq NE,A2,A3,A4,fq CE,fq FD]) (by simp only[pv,seval,op,h8,h4])];simp only[pv,seval,op,h7,h5,h9,h]
theorem Ra.nc(r:Ra nY ap mZ)(hl:ps.length<=100)(hp:∀q∈ps,Ka q nY.length):Nc nY ps ap:=⟨hl,hp,r.len,fun a ha=>by
 have:=r.bd a ha;have:=r.mm;lia⟩
theorem xK(ns:List Int)(h63:ns.length<=63):∃o,BI [.lst (ns.map D.int)]=.ok (o,.bl true):=by
 obtain⟨nY,ps,S,A,n,en,er⟩:=GU ns 8;have en:dQ [.lst (ns.map D.int),.int 8]=.ok (.f,eN nY ps):=en;obtain⟨ap,o2,t3,t4,ho,hl,bd,e1⟩:=law_1 ns n;obtain⟨K,mZ,ra,knd,QX,et⟩:=tI nY ap (by lia) bd;have hp9:=n.p9;have hn3:=n.n3;have rs:=ra.sort;have ndS:(isort arcLt K).Nodup:=(dM arcLt K).nodup_iff.mpr knd;have c:=rs.nc (ps:=ps) (by lia) n.po;have hm:=rs.mm;have Mx:=qw hm.1 rs.bd;have hh:=Fl c ⟨by lia,by lia⟩ fun h s hs=>(walk_all rs h).2.2 s (by have:=(walk_all rs h).2.1;lia)
 have f2:=oI (isort arcLt K);have ML:∀(x:D) (y:List D),cw (.tup [x,.lst y])=false:=fun x y=>by
  rw[c8];simp only[flatDs,cw,YV,X5]
 have a0:∀x y:D,JV (x::y::[]) (0:Int)=some x:=fun _ _=>rfl
 have a1:∀x y:D,JV (x::y::[]) (1:Int)=some y:=fun _ _=>rfl
 refine⟨.f,?_⟩;unfold BI Ej;rw[bB (h:=by rfl)];rw[av (env':=[fq (.lst (ns.map D.int)),fq (eN nY ps),none,none,none,none,none]) (by
  unfold eN at en ⊢;simp only[pv,seval,op,en,ML,dJ,EI,EJ])]
 rw[av (env':=[fq (.lst (ns.map D.int)),fq (eN nY ps),fq (.lst ((isort arcLt A).map eA)),none,none,none,none]) (by
  generalize eN nY ps=NE at er ⊢;simp only[pv,seval,op,er,ML,a0,dJ,EI,EJ])]
 rw[av e1];unfold sW;rw[av (env':=[fq (.lst (ns.map D.int)),fq (eN nY ps),some (o2,.lst (ap.map eA)),t3,t4,fq (Jb nY (isort arcLt K)),none]) (by
  unfold eN Jb;simp only[pv,seval,op,a0,et,f2,ho])]
 cases hw:(walk nY ps (isort arcLt K)).1 with
 |some d=>
  obtain⟨hbn,tag,x,y,ht,rfl,U6⟩:=CB (by lia) n.po rs.len (fun a ha=>by have:=rs.bd a ha;lia) (Cu (fun a ha=>by have:=rs.bd a ha;lia) hw);rw[hw]at hh;have hh:j9 [Jb nY (isort arcLt K),eN nY ps]=.ok (.f,.tup [.str tag,x,y]):=hh;have e:=Hk (fq (.lst (ns.map D.int))) (some (o2,.lst (ap.map eA))) t3 t4 (eN nY ps) (Jb nY (isort arcLt K)) x y tag ht hbn;unfold CJ at e;rw[av (env':=[fq (.lst (ns.map D.int)),fq (eN nY ps),some (o2,.lst (ap.map eA)),t3,t4,fq (Jb nY (isort arcLt K)),fq (.tup [.str tag,x,y])]) (by
   generalize eN nY ps=NE at hh ⊢;generalize Jb nY (isort arcLt K)=CE at hh ⊢;generalize D.tup [.str tag,x,y]=FD at hh U6 ⊢;simp only[pv,seval,op,hh,U6,dU])]
  rw[e,Jp]
 |none=>
  have N8:=(walk_all rs hw).2.1;rw[hw]at hh;have oo:=Cp rs hw;have el:(statesOf (isort arcLt K)).toNat=(walk nY ps (isort arcLt K)).2.length:=by lia
  rw[el]at hh;generalize hS:((List.range (walk nY ps (isort arcLt K)).2.length).map fun(s:Nat)=>mk (walk nY ps (isort arcLt K)).2 (s:Int))=S2 at hh oo;have hlen:S2.length=(walk nY ps (isort arcLt K)).2.length:=by rw[<-hS,bu,VG]
  have hir:=zg (by lia) n.po (by lia) n.nn rs.nm ndS (fun a ha=>by have:=rs.bd a ha;lia) rs.len oo _ hlen (by lia) (by lia);have hh:j9 [Jb nY (isort arcLt K),eN nY ps]=.ok (.f,.tup [.str [115,97,109,101],.lst (S2.map eM)]):=hh;have e:=Hl (fq (.lst (ns.map D.int))) (fq (.lst (ap.map eA))) (frz t3) (frz t4) (eN nY ps) (Jb nY (isort arcLt K)) (.lst (S2.map eM)) hir;unfold CJ at e;have U7:=ML (.str [115,97,109,101]) (S2.map eM);rw[av (env':=[fq (.lst (ns.map D.int)),fq (eN nY ps),fq (.lst (ap.map eA)),frz t3,frz t4,fq (Jb nY (isort arcLt K)),fq (.tup [.str [115,97,109,101],.lst (S2.map eM)])]) (by
   generalize eN nY ps=NE at hh ⊢;generalize Jb nY (isort arcLt K)=CE at hh ⊢;generalize D.tup [.str [115,97,109,101],.lst (S2.map eM)]=FD at hh U7 ⊢;simp only[pv,seval,op,hh,U7,dJ,EI,EJ])]
  rw[e,Jp]
end LW
namespace FIN
open PV LW
theorem Ft{l:PySem.W.OpenLaw}{w:World}{K:W.Frag}{h:Heap}{mg:Str->Option Value}{fa f:Addr}{od an:Option Addr}{sl:Array (Option Value)}{oc kV dc pm cd ct:Value}(X:K.In h)(G:h.Ns mainGlobals mg)(hfa:mg "law" = some (.ref fa))
  (aL:PySem.W.nsIn K mainGlobals "law" = some (some (.ref f))) (lL:K.lookup f=some ⟨oc,od,.func (PySem.W.fnOf "law" "law" (fC oE) (c9 oE) (defScope oE) .none kV dc pm an cd ct),sl⟩) (cL:PySem.W.codeIn K cd "law" = true) (kL:PySem.W.keepIn K (.ref f)=true)
  (KJ:Def K mg "states_of" iZ) (Lw:Def K mg "goes_to" lO) (JT:Def K mg "first_marking" eS) (L1:Def K mg "can_go" ou) (MJ:Def K mg "moved" q5) (NK:Def K mg "give" wZ) (Lx:Def K mg "look_at" lP) (NL:Def K mg "held" w6) (J6:Def K mg "_law_cell_at" fJ) (Ks:Def K mg "_law_mixed" hV) (Kt:Def K mg "_law_names" hW) (KL:Def K mg "_law_step" i4) (K8:Def K mg "_law_run" jX) (KN:Def K mg "_law_fold" i5) (Ku:Def K mg "_law_place" hX) (Kh:Def K mg "_law_scaled" gc) (Ki:Def K mg "_law_places" gd) (Kv:Def K mg "_law_moves" hZ) (K9:Def K mg "_law_net" jY) (Kj:Def K mg "_law_tidied" gf) (KO:Def K mg "_law_bent" i6) (Kw:Def K mg "_law_first" ia) (KP:Def K mg "_law_gone" i7) (La:Def K mg "_law_led" jZ) (JU:Def K mg "_law_moves_of" eT) (Kx:Def K mg "_law_borne" ib) (Kk:Def K mg "_law_is_run" gj)
  (MC:PySem.W.nsIn K mainGlobals "all" = some none) (Jd:PySem.W.nsIn K mainGlobals "isinstance" = some none) (Jh:PySem.W.nsIn K mainGlobals "len" = some none) (KC:PySem.W.nsIn K mainGlobals "list" = some none) (JM:PySem.W.nsIn K mainGlobals "max" = some none) (MD:PySem.W.nsIn K mainGlobals "min" = some none) (Jn:PySem.W.nsIn K mainGlobals "range" = some none) (Lp:PySem.W.nsIn K mainGlobals "set" = some none) (Jy:PySem.W.nsIn K mainGlobals "sorted" = some none) (ME:PySem.W.nsIn K mainGlobals "str" = some none) (Ja:PySem.W.nsIn K mainGlobals "tuple" = some none) (KI:PySem.W.nsIn K mainGlobals "zip" = some none):
  ∃fd:FuncData,(∀(s:Shared) (v:Value),BindsTo s fd ⟨[v],[]⟩ [("_law_script",v)])/\∀base:Heap,K.In base->base.Ns mainGlobals mg->FnOk l.prog w K mg base MP 5 fa fd ["_law_script"] (yG K):=by
 have e:=hfa.symm.trans (PySem.W.mg_of X G aL);cases e;have F:=zl (st:=oE) lL cL kL;have Se:=V9 X G MC;have JR:=V9 X G Jd;have Kl:=V9 X G Jh;have NM:=V9 X G KC;have MK:=V9 X G JM;have Sf:=V9 X G MD;have Kb:=V9 X G Jn;have BV:=V9 X G Lp;have Lb:=V9 X G Jy;have Sg:=V9 X G ME;have JB:=V9 X G Ja;have NO:=V9 X G KI;refine⟨PySem.W.fnOf "law" "law" (fC oE) (c9 oE) (defScope oE) .none kV dc pm an cd ct,fun s v=>.of_eq rfl,fun base KB GB=>?_⟩;have L3:Ct l.prog w K mg base "states_of" 1 (spF K cI):=qg KJ MK;have M3:Ct l.prog w K mg base "goes_to" 1 (spF K fQ):=uE Lw;have KY:Ct l.prog w K mg base "first_marking" 1 (spF K bZ):=ky JT JB;have NP:Ct l.prog w K mg base "can_go" 1 (spF K iA):=wY L1 Se NO;have O0:Ct l.prog w K mg base "moved" 2 (spF K jW):=yN MJ NP JB NO;have xu:Ct l.prog w K mg base "give" 1 (spM K (.d) lH):=BJ NK;have M4:Ct l.prog w K mg base "look_at" 3 (spJ 2 K (.d) d4):=uF Lx xu M3 O0 Kl;have QC:Ct l.prog w K mg base "held" 4 (spF K j9):=BK NL KY M4 L3 Kl NM Kb;have JJ:Ct l.prog w K mg base "_law_cell_at" 1 (spF K aQ):=lS J6 Kl;have JF:Ct l.prog w K mg base "_law_mixed" 1 (spF K bh):=ox Ks;have LK:Ct l.prog w K mg base "_law_names" 2 (spF K dh):=oy Kt JF Kb Lb;have J7:Ct l.prog w K mg base "_law_step" 1 (spF K ba):=qi KL JB NO;have Lc:Ct l.prog w K mg base "_law_run" 2 (spF K b5):=rg K8 J7 Kl Lb JB;have L5:Ct l.prog w K mg base "_law_fold" 2 (spF K dP):=qj KN JF;have LM:Ct l.prog w K mg base "_law_place" 2 (spF K di):=oz Ku JF MK Kb;have Li:Ct l.prog w K mg base "_law_scaled" 1 (spF K cb):=l8 Kh JB;have Lj:Ct l.prog w K mg base "_law_places" 3 (spF K cQ):=l9 Ki JJ L5 LM Li Kb;have LN:Ct l.prog w K mg base "_law_moves" 3 (spF K dk):=oA Kv JJ LK JB;have Ms:Ct l.prog w K mg base "_law_net" 4 (spF K dQ):=rh K9 LN Lj Lc Kl JB;have Lk:Ct l.prog w K mg base "_law_tidied" 1 (spF K cc):=ma Kj Kl Lb;have L6:Ct l.prog w K mg base "_law_bent" 1 (spF K dR):=ql KO Kl MK Sf Kb;have Ky:Ct l.prog w K mg base "_law_first" 1 (spF K b7):=oC Kw JB;have L7:Ct l.prog w K mg base "_law_gone" 2 (spF K bj):=qm KP Ky J7;have Mt:Ct l.prog w K mg base "_law_led" 1 (spF K cR):=rj La;have KZ:Ct l.prog w K mg base "_law_moves_of" 1 (spF K aW):=kA JU;have LO:Ct l.prog w K mg base "_law_borne" 3 (spF K bo):=oD Kx L7 Mt KZ JR Kl BV JB;have Ll:Ct l.prog w K mg base "_law_is_run" 2 (spF K bQ):=me Kk Ky J7 JR Kl NM MK BV;exact(Ek F L6 LO JJ Ll JF Ms Lc Lk QC JR Kl Kb Sg JB).imp (DX xK)
end FIN
def PySem.W.Fast.tw7037921467531842773:=0
def PySem.W.Fast.tw17846888946919035767:=0
def PySem.W.Fast.tw11713961018853404208:=0
def PySem.W.Fast.tw2342066415447670383:=0
def PySem.W.Fast.tw16082377549969624398:=0
def PySem.W.Fast.tw10326059760432423329:=0
def PySem.W.Fast.tw11017447429801300828:=0
def PySem.W.Fast.tw14326540336407249087:=0
def PySem.W.Fast.tw18029458599397424901:=0
def PySem.W.Fast.tw383859076750842963:=0
def PySem.W.Fast.tw6665709664878403699:=0
def PySem.W.Fast.tw14215311893460410203:=0
def PySem.W.Fast.tw3083008896809460403:=0
def PySem.W.Fast.tw2702057879393790647:=0
def PySem.W.Fast.tw10566399417460732992:=0
def PySem.W.Fast.tw16027863956062705217:=0
def PySem.W.Fast.tw12745662849061800113:=0
def PySem.W.Fast.tw4643363634741477536:=0
def PySem.W.Fast.tw3290687755781810074:=0
def PySem.W.Fast.tw16542927968809647802:=0
def PySem.W.Fast.tw4469170767950755283:=0
def PySem.W.Fast.tw17276383664129252392:=0
def PySem.W.Fast.tw6622204101987551706:=0
def PySem.W.Fast.tw6091353639006004104:=0
def PySem.W.Fast.tw14267141581103166139:=0
def PySem.W.Fast.tw13525401646711811622:=0
def PySem.W.Fast.tw14711963539645110167:=0
def PySem.W.Fast.tw7973014161104625627:=0
def PySem.W.Fast.tw1395821797971562552:=0
def PySem.W.Fast.tw18152848046686311049:=0
def PySem.W.Fast.tw7345762421460225332:=0
def PySem.W.Fast.tw5511556252397941272:=0
def PySem.W.Fast.tw12205720872218614644:=0
def PySem.W.Fast.tw7650492767407687284:=0
def PySem.W.Fast.tw5741475333451321570:=0
def PySem.W.Fast.tw13933198054743135738:=0
open PySem.W
set_option maxRecDepth 100000 in
set_option maxHeartbeats 0 in
theorem PySem.Challenge.cw_netfinder_k27_what_is_unlike_holds : PySem.Challenge.rw_netfinder_k27_what_is_unlike.Holds := by
  w_on; o_law; k_head; (case hw => w_witness2)
  k_fill
  refine PV.walk (l := PySem.Challenge.rw_netfinder_k27_what_is_unlike) (k := 5) (x := "_law_script") rfl rfl ⟨rfl, by decide, by decide⟩ (fun w h Y => PySem.W.kIn_of Y) ?F
  case F =>
    intro w mg fa h KX G Rf
    refine' FIN.Ft KX G Rf ?aL ?lL ?cL ?kL ?KJ ?Lw ?JT ?L1 ?MJ ?NK ?Lx ?NL ?J6 ?Ks ?Kt ?KL ?K8 ?KN ?Ku ?Kh ?Ki ?Kv ?K9 ?Kj ?KO ?Kw ?KP ?La ?JU ?Kx ?Kk ?MC ?Jd ?Jh ?KC ?JM ?MD ?Jn ?Lp ?Jy ?ME ?Ja ?KI
    (case aL => k_is); (case lL => k_is); (case cL => k_is); (case kL => k_is)
    iterate 27 (refine' PV.D3 KX G ?a ?l ?c ?k; (case a => k_is); (case l => k_is); (case c => k_is); (case k => k_is))
    iterate 12 k_is
