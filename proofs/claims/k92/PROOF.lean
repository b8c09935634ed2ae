import PyProof.Rows.All
import Wide.All
import OpenK.AllK
import Wide.FinOn
import Lean
import PyProof.EqAt
import PyProof.EqKinds
import PyProof.TupleCall
import PySem.Challenge.RW_netfinder_k92_whole_thinned_nets
set_option Elab.async false
set_option linter.all false
set_option maxRecDepth 100000
set_option compiler.extract_closed false
set_option bootstrap.genMatcherCode false
noncomputable section
theorem Zy{a b:Prop}(x:a)(y:b):a∧b:=⟨x,y⟩
def UQ:=@PySem.wpAny_bind
def UR:=@List.mem_cons_self
def US:=@List.mem_cons_of_mem
def UT:=@List.getElem?_eq_getElem
def UU:=@List.getD_eq_getElem?_getD
def UW:=@List.mem_append_right
def UX:=@List.mem_append_left
def UY:=@Bool.false_ne_true
def UZ:=@PySem.Heap.get?_push_of_some
def U0:=@List.getElem?_eq_some_iff
def U1:=@List.length_map
def U2:=@if_pos
def U3:=@Nat.le_refl
def U4:=@Bool.and_eq_true
def U5:=@List.mem_cons
def U6:=@if_neg
def U7:=@PySem.wpAny_pure
def U8:=@PySem.Heap.lt_size
def U9:=@List.size_toArray
def Va:=@List.length_cons
def Vb:=@Nat.lt_of_lt_of_le
def Vc:=@decide_eq_true_eq
def Vd:=@List.getElem?_map
def Ve:=@PySem.Heap.get?_push_size
def Vf:=@List.length_singleton
def Vg:=@List.all_eq_true
def Vh:=@List.map_append
def Vi:=@List.mem_singleton
def Vj:=@List.map_cons
def Vk:=@Int.eq_ofNat_of_zero_le
def Vl:=@List.length_range
def Vm:=@List.append_nil
def Vn:=@Nat.ne_of_lt
def Vo:=@Nat.le_trans
def Vp:=@List.nodup_append
def Vq:=@Option.some.inj
def Vr:=@Bool.eq_iff_iff
def Vs:=@List.mem_append
def Vt:=@List.nodup_cons
def Vu:=@List.mem_of_getElem?
def Vv:=@List.mem_range
def Vx:=@decide_eq_false
def Vy:=@List.map_map
def Vz:=@beq_iff_eq
def VA:=@decide_eq_true
def VB:=@List.length_take
def VC:=@Option.bind_eq_some_iff
def VD:=@List.length_append
def VE:=@PySem.Heap.get?_update_other
def VF:=@Option.map_eq_some_iff
def VG:=@List.mem_of_mem_eraseIdx
def VH:=@List.append_assoc
def VI:=@beq_self_eq_true
def VJ:=@Nat.zero_le
def VL:=@of_decide_eq_true
def VM:=@List.mem_iff_getElem?
def VN:=@PySem.wpAny_mono
def VO:=@List.map_congr_left
def VP:=@List.mem_filter
def VQ:=@List.eq_nil_of_length_eq_zero
def VR:=@List.not_mem_nil
def VS:=@List.length_set
def VT:=@List.map_nil
def VU:=@List.getElem?_set_self
def VW:=@Bool.and_self
def VX:=@Option.isSome_iff_exists
def VY:=@List.idxOf_lt_length_of_mem
def VZ:=@List.getElem_mem
def V0:=@List.any_eq_true
def V1:=@List.nodup_nil
def V2:=@PySem.wpAny_callSpecial?_slot
def V3:=@PySem.wpAny_field
def V4:=@List.all_map
def V5:=@List.getElem?_append_left
def V6:=@List.lookup_cons
def V7:=@beq_eq_false_iff_ne
def V8:=@Array.length_toList
def V9:=@Int.toNat_natCast
def Wa:=@List.length_filter_le
def Wb:=@PySem.wpAny_seqItems
def Wc:=@PyProof.Rows.callWith_type1
def Wd:=@PySem.wpAny_Call_Name_kw
def We:=@List.length_nil
def Wf:=@decide_eq_false_iff_not
def Wg:=@PySem.W.kia_one
def Wh:=@PySem.wpAny_execs_cons
def Wi:=@List.length_drop
def Wj:=@List.cons_append
def Wl:=@List.find?_cons_of_pos
def Wm:=@List.find?_cons_of_neg
def Wn:=@PySem.sizeLine_eq
def Wo:=@PyProof.Rows.slot_tuple_getitem
def Wq:=@PySem.wpAny_newObj_type
def Wr:=@List.replicate_succ
def Ws:=@List.length_zip
def Wt:=@List.getElem?_eq_none
def Wu:=@Nat.le_succ
def Wv:=@Nat.lt_irrefl
def Wx:=@Ne.symm
def Wy:=@congrArg
def Wz:=@List.length_eraseIdx_le
def WA:=@List.mem_map
def WB:=@List.set_set
def WC:=@List.filterMap_cons
def WD:=@PySem.mem_of_lookup
def WE:=@PyProof.Rows.KeyOrd.kle_refl
def WG:=@List.take_of_length_le
def WH:=@List.getElem?_append_right
def WI:=@PySem.F.slot_tuple_iterator_next
def WJ:=@PySem.wpAny_call_entry
def WK:=@Option.getD_none
def WL:=@Option.getD_some
def WM:=@Nat.lt_succ_self
def WN:=@PySem.F.plain_max_loop
def WO:=@Array.append_assoc
def WQ:=@PySem.wpAny_pyIter_tuple
def WR:=@PySem.wpAny_setField_rec
def WS:=@List.find?_eq_none
def WT:=@List.all_cons
def WU:=@List.getElem?_zip_eq_some
def WV:=@List.pairwise_iff_getElem
def WW:=@List.mem_of_find?_eq_some
def WX:=@PySem.wpAny_passesOwn
def WY:=@PySem.wpAny_pyIter_list
def WZ:=@List.of_mem_zip
def W0:=@List.flatten_cons
def W2:=@PySem.W.hideAll_get
def W3:=@List.getElem_of_mem
def W4:=@Bool.not_true
def W5:=@PySem.Heap.size_push
def W6:=@List.length_pos_of_mem
def W7:=@List.mem_filterMap
def W8:=@Bool.false_eq_true
def W9:=@List.getElem_range
def Xa:=@List.pairwise_cons
def Xb:=@List.zip_cons_cons
def Xc:=@List.length_replicate
def Xd:=@if_true
def Xe:=@List.foldl_cons
def Xf:=@PySem.Heap.get?_update_self
def Xg:=@List.find?_cons
def Xh:=@decide_true
def Xi:=@decide_false
def Xj:=@PySem.wpAny_truthy_bool
def Xk:=@PySem.wpAny_holding
def Xl:=@PySem.W.mg_of
def Xm:=@Bool.and_true
def Xn:=@PySem.F.excBase_ValueError
def Xo:=@List.getElem?_set_ne
def Xp:=@PySem.Calls.evalArgs_plain
def Xq:=@Bool.false_and
def Xr:=@List.drop_eq_getElem_cons
def Xs:=@Bool.not_false
def Xt:=@List.cons_ne_nil
def Xu:=@PySem.wpAny_letGo
def Xv:=@PySem.F.args_tuple_add_2
def Xw:=@PySem.wpAny_typeOf
def Xx:=@List.length_erase_of_mem
def Xy:=@List.any_map
def Xz:=@PySem.wpAny_execs_nil
def XA:=@PySem.F.entry_tuple_add
def XB:=@PySem.Obj.data_mapFields
def XC:=@PySem.tupleKind_room_in1
def XD:=@PySem.F.plainAttrs_list
def XE:=@List.nil_append
def XF:=@Option.isNone_some
def XG:=@PySem.F.slot_tuple_add
def XH:=@PySem.Calls.callWith_builtin
def XI:=@PyProof.Rows.KeyOrd.kle_of_klt
def XJ:=@PySem.wpAny_tryCatch
def XM:=@Nat.zero_add
def XN:=@Classical.choose_spec
def XO:=@List.take_append_drop
def XQ:=@PyProof.Rows.KeyOrd.kle_trans
def XR:=@PySem.Around.under_plainId
def XS:=@PySem.codeAny_call_builtin
def XT:=@PySem.wpAny_updateSeq_pair
def XU:=@PySem.W.looks_findIn
def XW:=@List.mem_of_mem_take
def XX:=@PySem.Paired.length
def XY:=@PySem.F.args_tuple_iterator_next_1
def XZ:=@List.cons.inj
def X0:=@List.toList_toArray
def X1:=@Bool.or_eq_true
def X2:=@PySem.codeAny_builtin
def X3:=@List.length_pos_iff
def X4:=@PySem.F.entry_tuple_iterator_next
def X5:=@PySem.F.slot_zip_next
def X6:=@Array.getD_eq_getD_getElem?
def X7:=@PySem.W.looks_mroIn
def X8:=@List.find?_some
def X9:=@Nat.min_eq_left
def Ya:=@PySem.Calls.Name_function_global
def Yb:=@PySem.W.of_hideAll
def Yc:=@List.contains_cons
def Yd:=@List.getElem_idxOf
def Ye:=@Int.cast_ofNat_Int
def Yf:=@List.getElem?_eq_none_iff
def Yg:=@PySem.Calls.call_function_entry
def Yh:=@Classical.byContradiction
def Yi:=@Bool.and_false
def Yj:=@Option.isNone_iff_eq_none
def Yk:=@PySem.typeIs_str
def Yl:=@List.take_add_one
def Ym:=@bne_self_eq_false
def Yn:=@PySem.wpAny_comprehension_free
def Yo:=@Nat.lt_succ_of_lt
def Yp:=@List.ext_getElem?
def Yq:=@Option.isSome_map
def Yr:=@PySem.F.slot_list_append
def Ys:=@PySem.F.type_list_append
def Yt:=@PySem.F.slot_tuple_index
def Yu:=@List.filterMap_cons_none
def Yv:=@List.filterMap_cons_some
def Yw:=@List.findIdx_cons
def Yx:=@Nat.lt_trichotomy
def Yy:=@PySem.plainId_quiet
def Yz:=@PySem.wpAny_onRaise
def YA:=@List.not_lt
def YB:=@List.getElem?_cons_succ
def YC:=@PySem.F.slot_list_index
def YD:=@List.map_take
def YE:=@Bool.true_and
def YF:=@Prod.mk.injEq
def YG:=@PySem.noFill_tuple_add
def YH:=@List.take_length
def YI:=@PySem.F.entry_max_loop
def YJ:=@List.getElem_map
def YK:=@List.ext_getElem
def YL:=@List.drop_length
def YO:=@PySem.W.cellsFrom_some
def YS:=@List.Perm.append_right
def YT:=@List.range_succ_eq_map
def YU:=@PySem.F.slot_str_index
def YV:=@List.drop_eq_nil_of_le
def YW:=@Nat.le_of_lt
def YY:=@PySem.codeAny_mono
def YZ:=@PySem.concat_meets
def Y0:=@List.forIn_cons
def Y1:=@PySem.wpAny_updateSeq
def Y3:=@List.Perm.append_left
def Y4:=@List.perm_append_comm
def Y5:=@Array.getElem?_toList
def Y6:=@Nat.lt_or_ge
def Y7:=@Nat.min_self
def Y8:=@PySem.PassesOwn.never
def Y9:=@List.all_append
def Za:=@if_false
def Zb:=@PySem.typeIs_int
def Zc:=@PySem.wpAny_rule
def Ze:=@PySem.W.hideAll_none
def Zf:=@List.mem_erase_of_ne
def Zg:=@List.getElem_toArray
def Zh:=@List.findIdx_getElem
def Zi:=@List.mem_of_mem_drop
def Zj:=@List.drop_zero
def Zk:=@PySem.wpAny_setField
def Zl:=@List.take_zero
def Zq:=@List.take_succ_cons
def Zt:=@List.drop_succ_cons
def Zu:=@Int.le_refl
def Zz:=@PySem.W.callWith_K
def ZA:=@PySem.wpAny_standAt
def ZC:=@PySem.seq_tuple_add
def ZE:=@List.getElem?_drop
def ZF:=@PySem.wpAny_attempt
def ZH:=@of_decide_eq_false
def ZI:=@List.any_cons
def ZJ:=@Int.emod_lt_of_pos
def ZK:=@PySem.call_int_int
def ZL:=@List.map_drop
def ZM:=@Option.isNone_none
def Z3:=@Nat.ne_of_gt
def Z5:=@Nat.le_of_eq
def Z6:=@Nat.mul_comm
def aak:=@or_false
namespace L2
open PySem PySem.Spec PyProof.Rows
def IsTupN(h:Heap)(a:Addr)(items:Array Value):Prop:=∃o,h.get? a=some o/\o.cls=.type "tuple"/\(∃n,o.data=.seq items n)/\o.dict=none
variable{h:Heap}{a:Addr}
theorem IsTupN.tup{items:Array Value}(p:IsTupN h a items):IsTup h a items:=by
 obtain⟨o,e,c,n,_⟩:=p;exact⟨o,e,c,n⟩
theorem IsTupN.new(h:Heap)(items:Array Value):IsTupN (h.push {cls:=.type "tuple",data:=.seq items}) h.objs.size items:=⟨_,Ve _ rfl,rfl,⟨_,rfl⟩,rfl⟩
abbrev Key:=Sum Int Str
noncomputable def nH:Key->Value->Bool
 | .inl k,v=>Value.isInt k v
 | .inr x,v=>Value.isStrOf x v
noncomputable def IU(w:World):Key->Int
 | .inl k=>hashInt k
 | .inr x=>hashStr w x
theorem aZ:∀{k:Key}{v:Value},nH k v=true->(∃i t,k=Sum.inl i/\v=Value.int i t)\/(∃x t,k=Sum.inr x/\v=Value.str x t)
 | .inl i,v,h=>by
  obtain⟨t,e⟩:=Value.isInt_shape (k:=i) (v:=v) h;exact .inl ⟨i,t,rfl,e⟩
 | .inr x,v,h=>by
  obtain⟨t,e⟩:=Value.isStrOf_shape (x:=x) (v:=v) h;exact .inr ⟨x,t,rfl,e⟩
theorem rL(i:Int)(t:Tok):nH (.inl i) (.int i t)=true:=by simp[nH,Value.isInt]
theorem rM(x:Str)(t:Tok):nH (.inr x) (.str x t)=true:=by simp[nH,Value.isStrOf]
theorem CT(a b:Int):decide ((Sum.inl a:Key)=Sum.inl b)=(a==b):=by
 by_cases e:a=b
 ·subst e;simp
 ·have h:¬ (Sum.inl a:Key)=Sum.inl b:=fun q=>e (Sum.inl.inj q)
  rw[Vx h];exact(V7.mpr e).symm
theorem CU(a b:Str):decide ((Sum.inr a:Key)=Sum.inr b)=decide (a=b):=by
 by_cases e:a=b
 ·subst e;simp
 ·have h:¬ (Sum.inr a:Key)=Sum.inr b:=fun q=>e (Sum.inr.inj q)
  rw[Vx h,Vx e]
theorem CV(a:Int)(b:Str):decide ((Sum.inl a:Key)=Sum.inr b)=false:=Vx (fun q=>nomatch q)
theorem CW(a:Str)(b:Int):decide ((Sum.inr a:Key)=Sum.inl b)=false:=Vx (fun q=>nomatch q)
def mixKind(prog:Program)(w:World):PySem.KeyKind prog w Key where
 is:=nH
 hash:=IU w
 inj:=fun v a b ha hb=>by
  rcases aZ ha with⟨i,t,rfl,rfl⟩|⟨x,t,rfl,rfl⟩
  ·rcases aZ hb with⟨j,u,rfl,e⟩|⟨y,u,rfl,e⟩
   ·injection e with e1 _;rw[e1]
   ·exact nomatch e
  ·rcases aZ hb with⟨j,u,rfl,e⟩|⟨y,u,rfl,e⟩
   ·exact nomatch e
   ·injection e with e1 _;rw[e1]
 byValue:=fun k v h=>by
  rcases aZ h with⟨i,t,rfl,rfl⟩|⟨x,t,rfl,rfl⟩ <;> rfl
 pyHash:=fun hv h=>by
  rcases aZ hv with⟨i,t,rfl,rfl⟩|⟨x,t,rfl,rfl⟩
  ·exact wpAny_pyHash_int h
  ·exact wpAny_pyHash_str h
 eqBool:=fun hu hv h=>by
  rcases aZ hu with⟨i,t,rfl,rfl⟩|⟨x,t,rfl,rfl⟩
  ·rcases aZ hv with⟨j,u,rfl,rfl⟩|⟨y,u,rfl,rfl⟩
   ·rw[CT]at h;exact wpAny_eqBool_int h
   ·rw[CV]at h;exact SeqAt.EqAt.int_str i t y u _ _ _ _ h
  ·rcases aZ hv with⟨j,u,rfl,rfl⟩|⟨y,u,rfl,rfl⟩
   ·rw[CW]at h;exact SeqAt.EqAt.str_int x t j u _ _ _ _ h
   ·rw[CU]at h;exact wpAny_eqBool_str h
 «strs»:=fun k x t v h=>by
  rcases aZ h with⟨i,u,rfl,e⟩|⟨y,u,rfl,e⟩
  ·exact nomatch e
  ·injection e with e1 _;subst e1;cases v <;> rfl
theorem qz(prog:Program)(w:World)(k:Key)(v:Value):(mixKind prog w).is k v=nH k v:=rfl
theorem nI(prog:Program)(w:World)(i:Int)(t:Tok):(mixKind prog w).is (.inl i) (.int i t)=true:=rL i t
theorem nJ(prog:Program)(w:World)(x:Str)(t:Tok):(mixKind prog w).is (.inr x) (.str x t)=true:=rM x t
inductive V where
 |non|bl (b:Bool)|int (i:Int)|str (x:Str)|byt (b:Array UInt8)|flt (b:UInt64)|ref (a:Addr)|ty (n:String)
 deriving DecidableEq
noncomputable def RelV:V->Value->Prop
 | .non,u=>u=Value.none
 | .bl b,u=>u=Value.bool b
 | .int i,u=>∃t,u=Value.int i t
 | .str x,u=>∃t,u=Value.str x t
 | .byt b,u=>∃t,u=Value.bytes b t
 | .flt b,u=>∃t,u=Value.float b t
 | .ref a,u=>u=Value.ref a
 | .ty n,u=>u=Value.type n
abbrev Vals:List V->List Value->Prop:=Paired RelV
theorem Vals.length{xs:List V}{us:List Value}(r:Vals xs us):xs.length=us.length:=XX r
theorem Vals.get:∀{xs:List V}{us:List Value}{i:Nat}{x:V},Vals xs us->xs[i]?=some x->∃u,us[i]?=some u/\RelV x u
 |_,_,_,_,.nil,e=>by simp at e
 |_,_,0,_,.cons r _,e=>by simp at e;subst e;exact⟨_,rfl,r⟩
 |_,_,i+1,x,.cons _ t,e=>by
  obtain⟨u,h1,h2⟩:=Vals.get (i:=i) (x:=x) t (by simpa using e);exact⟨u,by simpa using h1,h2⟩
theorem Vals.set{x:V}{u:Value}(r:RelV x u):∀{xs:List V}{us:List Value}(i:Nat),Vals xs us->Vals (xs.set i x) (us.set i u)
 |_,_,_,.nil=>.nil
 |_,_,0,.cons _ t=>.cons r t
 |_,_,i+1,.cons q t=>.cons q (Vals.set r i t)
theorem Vals.append:∀{xs ys:List V}{us ws:List Value},Vals xs us->Vals ys ws->Vals (xs++ys) (us++ws)
 |_,_,_,_,.nil,s=>s
 |_,_,_,_,.cons r t,s=>.cons r (Vals.append t s)
theorem Vals.take:∀{xs:List V}{us:List Value}(n:Nat),Vals xs us->Vals (xs.take n) (us.take n)
 |_,_,0,_=>.nil
 |_,_,_+1,.nil=>.nil
 |_,_,n+1,.cons r t=>.cons r (Vals.take n t)
theorem Vals.drop:∀{xs:List V}{us:List Value}(n:Nat),Vals xs us->Vals (xs.drop n) (us.drop n)
 |_,_,0,r=>r
 |_,_,_+1,.nil=>.nil
 |_,_,n+1,.cons _ t=>Vals.drop n t
theorem Vals.none_of:∀{xs:List V}{us:List Value}{i:Nat},Vals xs us->xs[i]?=none->us[i]?=none:=fun{xs us i} r e=>by
 have h1:=r.length;have h2:xs.length<=i:=Yf.mp e;exact Yf.mpr (by lia)
def RelO:Option V->Option Value->Prop
 |some v,some u=>RelV v u
 |none,none=>True
 |_,_=>False
def KV{κ:Type}:List (κ×V)->List (κ×Value)->Prop:=Paired fun(p:κ×V) (q:κ×Value)=>p.1=q.1/\RelV p.2 q.2
noncomputable def kV:Key->V
 | .inl i=>.int i
 | .inr x=>.str x
inductive HO where
 |lst (xs:List V)
 |tup (xs:List V)
 |dK (kvs:List (Key×V))|dT (kvs:List (List Key×V))
 |set (S:Int->Bool) (n:Nat)
 |ins (C dx:Addr) (fs:List (Str×V))
 |own (x:Addr)
 |xd (fs:List (Str×V))
 |met (f x:Addr)
 |rng (lo hi:Int)
 |frz (o:Obj) (u:HO)
 |tbl (ps:Array Value)
 |ext (φ:Heap->Prop)
abbrev Hp:=Addr->Option HO
noncomputable def upd(H:Hp)(a:Addr)(o:HO):Hp:=fun b=>if b=a then some o else H b
variable{H:Hp}{o:HO}
theorem az:upd H a o a=some o:=by unfold upd;rw[U2 rfl]
variable{b:Addr}
theorem ah(h:b≠a):upd H a o b=H b:=by unfold upd;rw[U6 h]
theorem Gx{u:HO}(h:H a=some o)(h':H b=some u)(d:o≠u):a≠b:=by
 intro e;subst e;rw[h]at h';exact d (Vq h')
theorem aH(h:H a=some o)(h':H b=none):a≠b:=by
 intro e;subst e;rw[h]at h';cases h'
section
variable(P:Program)(w:World)
def ObjOk(H:Hp)(h:Heap)(a:Addr):HO->Prop
 | .lst xs=>xs.length<=sizeLine/\∃(JT:List Value) (n:Nat),Vals xs JT/\h.get? a=some {cls:=.type "list",data:=.seq JT.toArray n}
 | .tup xs=>xs.length<=sizeLine/\∃JT:List Value,Vals xs JT/\IsTupN h a JT.toArray
 | .dK kvs=>kvs.length<=sizeLine/\(a==sysModules)=false/\∃vs,KV kvs vs/\h.DictOf (mixKind P w) a vs
 | .dT kvs=>kvs.length<=sizeLine/\(a==sysModules)=false/\∃xs:List (List Key×Addr×Value),
   Paired (fun(p:List Key×V) (q:List Key×Addr×Value)=>p.1=q.1/\H q.2.1=some (.tup (p.1.map kV))/\RelV p.2 q.2.2) kvs xs/\
   ∃o es ep,h.get? a=some o/\o.ExactDict/\o.data=.dict es ep/\es.toList=xs.map (entryOfKey (tupleKind (mixKind P w)))/\(xs.map (·.1)).Nodup
 | .set S n=>h.SetOf (intKind P w) a S n
 | .ins C dx fs=>H dx=some (.own a)/\fs.length<=1000/\dx≠a/\h.get? a=some (PySem.W.instObj C dx)/\
   ∃mA,h.Ns1 dx mA/\(∀f,RelO (fs.lookup f) (mA f))/\PySem.Within mA (fs.map (·.1))
 | .own _=>∃o,h.get? a=some o
 | .xd fs=>∃mA,h.Ns1 a mA/\∀f,RelO (fs.lookup f) (mA f)
 | .rng lo hi=>∃t u v,h.get? a=some {cls:=.type "range",data:=.fields #[.int lo t,.int hi u,.int 1 v]}
 | .frz o u=>h.get? a=some o/\ObjOk H h a u
 | .tbl ps=>h.get? a=some {cls:=.none,data:=.fields ps}
 | .met f x=>h.get? a=some (PySem.W.methodObj (.ref f) (.ref x))
 | .ext φ=>φ h/\(∃o,h.get? a=some o)/\∀h1 h2:Heap,φ h1->(∀o,h1.get? a=some o->h2.get? a=some o)->φ h2
def HOk(H:Hp)(h:Heap):Prop:=∀a o,H a=some o->ObjOk P w H h a o
end
variable{P:Program}{w:World}{H':Hp}{h':Heap}
section
theorem ObjOk.lt(x:ObjOk P w H h a o):a<h.objs.size:=by
 cases o with
 |lst xs=>obtain⟨_,_,_,_,e⟩:=x;exact U8 e
 |tup xs=>obtain⟨_,_,_,p⟩:=x;exact p.tup.lt
 |dK kvs=>obtain⟨_,_,_,_,o,_,_,e,_⟩:=x;exact U8 e
 |dT kvs=>obtain⟨_,_,_,_,o,_,_,e,_⟩:=x;exact U8 e
 |set S n=>obtain⟨o,_,_,_,e,_⟩:=x;exact U8 e
 |ins C dx fs=>obtain⟨_,_,_,e,_⟩:=x;exact U8 e
 |own y=>obtain⟨_,e⟩:=x;exact U8 e
 |xd fs=>obtain⟨_,⟨_,_,_,e,_⟩,_⟩:=x;exact U8 e
 |rng lo hi=>obtain⟨_,_,_,e⟩:=x;exact U8 e
 |frz ob u=>obtain⟨e,_⟩:=x;exact U8 e
 |tbl ps=>exact U8 (show h.get? a=some _ from x)
 |met f y=>exact U8 (show h.get? a=some _ from x)
 |ext φ=>obtain⟨_,⟨_,e⟩,_⟩:=x;exact U8 e
theorem Paired.mapP{α β:Type}{F G:α->β->Prop}:∀{l₁:List α}{l₂:List β},Paired F l₁ l₂->(∀a b,F a b->G a b)->Paired G l₁ l₂
 |_,_,.nil,_=>.nil
 |_,_,.cons r t,f=>.cons (f _ _ r) (Paired.mapP t f)
theorem ObjOk.stay(x:ObjOk P w H h a o)(k:∀b u,(b=a\/H b=some (.own a))->h.get? b=some u->h'.get? b=some u)
  (ho:∀b,H b=some (.own a)->H' b=some (.own a)) (ht:∀b xs,H b=some (.tup xs)->H' b=some (.tup xs)):ObjOk P w H' h' a o:=by
 induction o with
 |lst xs=>obtain⟨z,JT,n,r,e⟩:=x;exact⟨z,JT,n,r,k _ _ (.inl rfl) e⟩
 |tup xs=>obtain⟨z,JT,r,ob,e,c⟩:=x;exact⟨z,JT,r,ob,k _ _ (.inl rfl) e,c⟩
 |dK kvs=>obtain⟨z,y,vs,r,ob,es,ep,e,c⟩:=x;exact⟨z,y,vs,r,ob,es,ep,k _ _ (.inl rfl) e,c⟩
 |dT kvs=>
  obtain⟨z,y,xs,r,ob,es,ep,e,c⟩:=x;exact⟨z,y,xs,Paired.mapP r fun p q z=>⟨z.1,ht _ _ z.2.1,z.2.2⟩,ob,es,ep,k _ _ (.inl rfl) e,c⟩
 |set S n=>obtain⟨ob,es,ep,t,e,c⟩:=x;exact⟨ob,es,ep,t,k _ _ (.inl rfl) e,c⟩
 |ins C dx fs=>
  obtain⟨d,z,ne,e,mA,⟨od,es,ep,e2,c⟩,r⟩:=x;exact⟨ho _ d,z,ne,k _ _ (.inl rfl) e,mA,⟨od,es,ep,k _ _ (.inr d) e2,c⟩,r⟩
 |own y=>obtain⟨ob,e⟩:=x;exact⟨ob,k _ _ (.inl rfl) e⟩
 |xd fs=>obtain⟨mA,⟨od,es,ep,e,c⟩,r⟩:=x;exact⟨mA,⟨od,es,ep,k _ _ (.inl rfl) e,c⟩,r⟩
 |rng lo hi=>obtain⟨t,u,v,e⟩:=x;exact⟨t,u,v,k _ _ (.inl rfl) e⟩
 |frz ob u ih=>obtain⟨e,q⟩:=x;exact⟨k _ _ (.inl rfl) e,ih q⟩
 |tbl ps=>
  have e:h.get? a=some {cls:=.none,data:=.fields ps}:=x;show h'.get? a=some {cls:=.none,data:=.fields ps};exact k a _ (.inl rfl) e
 |met f y=>
  have e:h.get? a=some (PySem.W.methodObj (.ref f) (.ref y)):=x;show h'.get? a=some (PySem.W.methodObj (.ref f) (.ref y));exact k a _ (.inl rfl) e
 |ext φ=>obtain⟨p,⟨o,e⟩,st⟩:=x;exact⟨st _ _ p fun o q=>k _ _ (.inl rfl) q,⟨o,k _ _ (.inl rfl) e⟩,st⟩
theorem HOk.lt(x:HOk P w H h)(e:H a=some o):a<h.objs.size:=(x a o e).lt
theorem HOk.fresh(x:HOk P w H h)(e:h.objs.size<=a):H a=none:=by
 cases q:H a with
 |none=>rfl
 |some u=>exact absurd (Vb (x.lt q) e) (Wv _)
theorem HOk.kept(x:HOk P w H h)(k:∀b u,h.get? b=some u->h'.get? b=some u):HOk P w H h':=fun a o e=>
 (x a o e).stay (fun b u _ q=>k b u q) (fun _ q=>q) fun _ _ q=>q
theorem HOk.laid(x:HOk P w H h)(k:∀b u,h.get? b=some u->h'.get? b=some u)(hp:h.objs.size<=a)(new:ObjOk P w (upd H a o) h' a o):HOk P w (upd H a o) h':=fun b u e=>by
 have hn:=x.fresh hp;by_cases hb:b=a
 ·subst hb;rw[az]at e;cases e;exact new
 ·rw[ah hb]at e;exact(x b u e).stay (fun c v _ q=>k c v q) (fun c q=>by rw[ah (aH q hn)];exact q) fun c xs q=>by rw[ah (aH q hn)];exact q
end
def Rd(H:Hp)(a:Addr)(u:HO):Prop:=H a=some u\/∃o,H a=some (.frz o u)
theorem Rd.ok{u:HO}(r:Rd H a u)(x:HOk P w H h):ObjOk P w H h a u:=by
 rcases r with r|⟨o,r⟩
 ·exact x a u r
 ·obtain⟨_,q⟩:=x a _ r;exact q
noncomputable def Qn:Option HO->Prop
 |some (.lst _)=>True
 |some (.dK _)=>True
 |some (.dT _)=>True
 |some (.set _ _)=>True
 |some (.ins _ _ _)=>True
 |some (.ext _)=>True
 |_=>False
section
variable{x e:Addr}{o':HO}
theorem HOk.write(ok:HOk P w H h)(mu:Qn (H x))(he:e=x\/H e=some (.own x))(k:∀b u,b≠e->h.get? b=some u->h'.get? b=some u)(P0:∃u,h'.get? e=some u)
  (new:ObjOk P w (upd H x o') h' x o'):HOk P w (upd H x o') h':=fun b u q=>by
 have Qo:∀c y,H c=some (.own y)->c≠x:=fun c y r z=>by subst z;rw[r]at mu;exact mu
 have ntup:∀c xs,H c=some (.tup xs)->c≠x:=fun c xs r z=>by subst z;rw[r]at mu;exact mu
 by_cases hb:b=x
 ·subst hb;rw[az]at q;cases q;exact new
 ·rw[ah hb]at q;by_cases hbe:b=e
  ·have q':H b=some (.own x):=by
    rcases he with z|z
    ·exact absurd (hbe.trans z) hb
    ·rw[hbe];exact z
   rw[q]at q';cases q';obtain⟨v,hv⟩:=P0;exact⟨v,by rw[hbe];exact hv⟩
  ·refine(ok b u q).stay (fun c v hc r=>k c v ?_ r) (fun c r=>by rw[ah (Qo c b r)];exact r) fun c xs r=>by rw[ah (ntup c xs r)];exact r
   rcases hc with rfl|hc
   ·exact hbe
   ·rintro rfl;rcases he with z|z
    ·exact Qo c b hc z
    ·rw[hc]at z;cases z;exact hb rfl
end
structure Un(fs ex:List Addr)(H H':Hp)(h h':Heap):Prop where
 keep:∀b o,h.get? b=some o->H b=none->b∉fs->b∉ex->h'.get? b=some o
 slot:∀b o,h.get? b=some o->H b=none->b∈fs->b∉ex->∃sl,h'.get? b=some {o with slots:=sl}
 free:∀b o,h.get? b=some o->H b=none->b∉ex->H' b=none
 there:∀b o,h.get? b=some o->b∉ex->∃o',h'.get? b=some o'
 tups:∀b xs,H b=some (.tup xs)->H' b=some (.tup xs)
 frzs:∀b o u,H b=some (.frz o u)->H' b=some (.frz o u)
 tbls:∀b ps,H b=some (.tbl ps)->∃more,H' b=some (.tbl (ps++more))
section
variable{fs fs' ex ex':List Addr}{H1 H2:Hp}{h1 h2:Heap}{x e:Addr}
theorem Un.any(u:Un fs ex H H1 h h1){ob:Obj}(q:h.get? b=some ob)(n:H b=none)(hx:b∉ex):∃sl,h1.get? b=some {ob with slots:=sl}:=by
 by_cases hb:b∈fs
 ·exact u.slot b ob q n hb hx
 ·exact⟨ob.slots,u.keep b ob q n hb hx⟩
theorem Un.trans(a:Un fs ex H H1 h h1)(b:Un fs ex H1 H2 h1 h2):Un fs ex H H2 h h2 where
 keep:=fun c ob q n hc hx=>b.keep c ob (a.keep c ob q n hc hx) (a.free c ob q n hx) hc hx
 slot:=fun c ob q n hc hx=>by
  obtain⟨sl,e1⟩:=a.slot c ob q n hc hx;obtain⟨RH,e2⟩:=b.slot c _ e1 (a.free c ob q n hx) hc hx;exact⟨RH,e2⟩
 free:=fun c ob q n hx=>by
  obtain⟨o',e1⟩:=a.there c ob q hx;exact b.free c o' e1 (a.free c ob q n hx) hx
 there:=fun c ob q hx=>by
  obtain⟨o',e1⟩:=a.there c ob q hx;exact b.there c o' e1 hx
 tups:=fun c xs q=>b.tups c xs (a.tups c xs q)
 frzs:=fun c ob xs q=>b.frzs c ob xs (a.frzs c ob xs q)
 tbls:=fun c ps q=>by
  obtain⟨m1,e1⟩:=a.tbls c ps q;obtain⟨m2,e2⟩:=b.tbls c _ e1;exact⟨m1++m2,by rw[e2,WO]⟩
theorem Un.kept(k:∀b u,h.get? b=some u->h'.get? b=some u):Un fs ex H H h h':=
 ⟨fun b ob q _ _ _=>k b ob q,fun b ob q _ _ _=>⟨ob.slots,k b ob q⟩,fun _ _ _ n _=>n,fun b ob q _=>⟨ob,k b ob q⟩,fun _ _ q=>q,fun _ _ _ q=>q,fun _ ps q=>⟨#[],by rw[q];simp⟩⟩
theorem Un.refl:Un fs ex H H h h:=Un.kept fun _ _ q=>q
theorem Un.laid(k:∀b u,h.get? b=some u->h'.get? b=some u)(hp:h.objs.size<=a)(hn:H a=none):Un fs ex H (upd H a o) h h' where
 keep:=fun b u q _ _ _=>k b u q
 slot:=fun b u q _ _ _=>⟨u.slots,k b u q⟩
 free:=fun b u q n _=>by rw[ah (Vn (Vb (U8 q) hp))];exact n
 there:=fun b u q _=>⟨u,k b u q⟩
 tups:=fun b xs q=>by rw[ah (aH q hn)];exact q
 frzs:=fun b u xs q=>by rw[ah (aH q hn)];exact q
 tbls:=fun b ps q=>⟨#[],by rw[ah (aH q hn),q];simp⟩
theorem Un.write(mu:Qn (H x))(he:e=x\/H e=some (.own x))(k:∀b u,b≠e->h.get? b=some u->h'.get? b=some u)(P0:∃u,h'.get? e=some u):Un fs ex H (upd H x o) h h':=by
 have hx:∀b,H b=none->b≠x:=fun b n z=>by subst z;rw[n]at mu;exact mu
 have hb:∀b,H b=none->b≠e:=fun b n z=>by
  subst z;rcases he with r|r
  ·exact hx b n r
  ·rw[n]at r;cases r
 have hm:∀b u,H b=some u->¬ Qn (some u)->b≠x:=fun b u q nm z=>by subst z;rw[q]at mu;exact nm mu
 refine⟨fun b u q n _ _=>k b u (hb b n) q,fun b u q n _ _=>⟨u.slots,k b u (hb b n) q⟩,fun b u q n _=>by rw[ah (hx b n)];exact n,fun b u q _=>?_,
  fun b xs q=>by rw[ah (hm b _ q fun z=>z)];exact q,fun b u xs q=>by rw[ah (hm b _ q fun z=>z)];exact q,fun b ps q=>⟨#[],by rw[ah (hm b _ q fun z=>z),q];simp⟩⟩
 by_cases hbe:b=e
 ·subst hbe;exact P0
 ·exact⟨u,k b u hbe q⟩
end
noncomputable def trk(h:Heap)(H:Hp):List Addr:=(List.range h.objs.size).filter fun a=>(H a).isSome
def vU(h:Heap)(H:Hp):Heap:=PySem.W.hideAll h (trk h H)
theorem rN(h:Heap)(H:Hp):(vU h H).objs.size=h.objs.size:=PySem.W.hideAll_size _ _
theorem vV{o:Obj}(e:h.get? b=some o)(n:H b=none):(vU h H).get? b=some o:=
 W2 _ e fun hm=>by
  have q:(H b).isSome=true:=(VP.mp hm).2;rw[n]at q;simp at q
theorem zv{o:Obj}(e:(vU h H).get? b=some o):h.get? b=some o/\H b=none:=by
 have e':h.get? b=some o:=Yb (trk h H) e;refine⟨e',?_⟩;cases q:H b with
 |none=>rfl
 |some x=>
  have hm:b∈trk h H:=VP.mpr ⟨Vv.mpr (U8 e'),by simp[q]⟩;have z:(vU h H).get? b=none:=Ze (trk h H) hm;rw[z]at e;cases e
noncomputable def zw(g h:Heap)(L:Addr):List (Addr×Obj):=(List.range h.objs.size).filterMap fun a=>if a=L\/(g.get? a).isSome=true then none else(h.get? a).map fun o=>(a,o)
def rest(g h:Heap)(L d:Addr):List (Addr×Obj):=(zw g h L).filter fun p=>decide (p.1≠d)
structure Mod(K:W.Frag)(mg:Str->Option Value)(base:Heap):Prop where
 kin:K.In base
 glob:base.Ns mainGlobals mg
 blt:∃mb,base.Ns builtinsNs mb/\∀x:Str,x≠"__name__"->mb x=bootBuiltins x
 nolimit:base.NoLimit
structure Cx where
 prog:Program
 w:World
 K:W.Frag
 mg:Str->Option Value
 base:Heap
 A:Around
 N:List Str
 s₀:Shared
 H₀:Hp
 env:Env
 outer:List Env
 stack:List Env
 ex:List Addr
 fn:Str->Bool
 calm:Bool
 pn:List (Addr×Obj)
 xe:Value->Shared->Prop
noncomputable def Kv(l:List Env):List Addr:=l.filterMap (·.frame)
abbrev Cx.fs(X:Cx):List Addr:=Kv X.outer
def Sk(sc:Scope)(x:Str):Prop:=sc.names.lookup x=some .local\/sc.names.lookup x=some .cell\/sc.names.lookup x=some .free
def Loc(sc:Scope)(x:Str):Prop:=sc.names.lookup x=some .local\/sc.names.lookup x=some .cell
noncomputable def Ir(sc:Scope)(x:Str):Bool:=match sc.names.lookup x with
 |some .local=>true
 |some .cell=>true
 |_=>false
variable{sc:Scope}{x:Str}
theorem lo(h:Ir sc x=true):Loc sc x:=by
 unfold Ir at h;split at h
 ·exact .inl (by assumption)
 ·exact .inr (by assumption)
 ·cases h

def IV(env:Env)(h:Heap)(m:Str->Option Value)(x:Str)(u:Value):Prop:=
 (env.kindOf x=some .local/\m x=some u)\/((env.kindOf x=some .cell\/env.kindOf x=some .free)/\∃c,env.cells.lookup x=some c/\h.IsCell c (some u))
structure Cx.Ok(X:Cx):Prop where
 mod:Mod X.K X.mg X.base
 kind:X.env.scope.kind=.function
 glob:X.env.globals=mainGlobals
 blt:X.env.builtins=builtinsNs
 above:X.s₀.heap.objs.size<=X.env.locals
 inj:∀x y c,X.env.cells.lookup x=some c->X.env.cells.lookup y=some c->x=y
 has:∀x,(X.env.kindOf x=some .cell\/X.env.kindOf x=some .free)->∃c,X.env.cells.lookup x=some c
 cab:∀x c,X.fn x=true->X.env.cells.lookup x=some c->X.s₀.heap.objs.size<=c
 hd:X.calm=true->X.A.handled=none
 frames:X.A.frames=some X.stack
 stk:X.stack=X.outer\/(X.stack=X.env::X.outer/\X.env.frame=some X.env.locals)
 exf:∀b∈X.ex,b≠X.env.locals/\∀x c,X.env.cells.lookup x=some c->c≠b
 bs:∀b o,X.base.get? b=some o->X.s₀.heap.get? b=some o/\X.H₀ b=none
 bsz:X.base.objs.size<=X.s₀.heap.objs.size
 noex:∀b o,X.base.get? b=some o->b∉X.ex
 exfs:∀b∈X.ex,b∉X.fs
 funs:X.s₀.heap.FunFrames X.base X.outer
 frf:∀b∈X.fs,X.H₀ b=none
structure Inv(X:Cx)(pr:List (Addr×Obj))(σ:List (Option V))(H:Hp)(s:Shared):Prop where
 ok:X.Ok
 os:s.os=X.s₀.os
 bare:AllBare s.gens
 base:Un X.fs X.ex X.H₀ H X.s₀.heap s.heap
 loc:∃m,s.heap.Ns X.env.locals m/\∀(i:Nat) (x:Str) (v:V),X.N[i]?=some x->σ[i]?=some (some v)->Sk X.env.scope x->∃u,RelV v u/\IV X.env s.heap m x u
 cell:∀x c,X.env.cells.lookup x=some c->∃v,s.heap.IsCell c v
 free:H X.env.locals=none
 freeC:∀x c,X.env.cells.lookup x=some c->H c=none
 pin:∀p∈X.pn++pr,s.heap.get? p.1=some p.2/\H p.1=none/\p.1≠X.env.locals/\p.1∉X.fs/\∀v,p.2.data≠.cell v
 hok:HOk X.prog X.w H s.heap
 len:σ.length=X.N.length
variable{X:Cx}{pr:List (Addr×Obj)}{s s':Shared}{ch:List Addr}{N:List Str}{i:Nat}{v:V}{u:Value}
section
variable{σ:List (Option V)}
theorem Cx.Ok.nofr(ok:X.Ok){o:Obj}(e:X.base.get? b=some o):b∉X.fs:=fun hb=>by
 have:=(ok.funs.mem hb).1;rw[e]at this;cases this
theorem Inv.bs(I:Inv X pr σ H s):∀b o,X.base.get? b=some o->s.heap.get? b=some o/\H b=none:=fun b o e=>
 ⟨I.base.keep b o (I.ok.bs b o e).1 (I.ok.bs b o e).2 (I.ok.nofr e) (I.ok.noex b o e),I.base.free b o (I.ok.bs b o e).1 (I.ok.bs b o e).2 (I.ok.noex b o e)⟩
theorem Inv.bk(I:Inv X pr σ H s):∀b o,X.base.get? b=some o->s.heap.get? b=some o:=fun b o e=>(I.bs b o e).1
theorem Inv.mod(I:Inv X pr σ H s):Mod X.K X.mg X.base:=I.ok.mod
theorem Inv.kIn(I:Inv X pr σ H s):X.K.In s.heap:=I.ok.mod.kin.keeps I.bk
theorem Inv.fr(I:Inv X pr σ H s):∃m,Fr X.base X.env.locals s.heap m:=
 let⟨m,hn,_⟩:=I.loc
 ⟨m,hn,I.bk,Vo I.ok.bsz I.ok.above⟩
theorem Inv.lt(I:Inv X pr σ H s):X.env.locals<s.heap.objs.size:=let⟨_,hn,_⟩:=I.loc;hn.lt
theorem Inv.sz(I:Inv X pr σ H s):X.s₀.heap.objs.size<=s.heap.objs.size:=Vo I.ok.above (YW I.lt)
theorem Inv.nofs(I:Inv X pr σ H s)(h:s.heap.objs.size<=a):a∉X.fs:=fun hb=>by
 obtain⟨_,o,ho,_⟩:=I.ok.funs.mem hb;exact absurd (Vb (U8 ho) (Vo I.sz h)) (Wv _)
theorem Inv.cne(I:Inv X pr σ H s):∀x c,X.env.cells.lookup x=some c->c≠X.env.locals:=fun x c e z=>by
 obtain⟨v,o,ho,hd⟩:=I.cell x c e;obtain⟨m,⟨o',es,ep,MS,ON,_⟩,_⟩:=I.loc;rw[z,MS]at ho;cases ho;rw[ON]at hd;cases hd
theorem Inv.funs(I:Inv X pr σ H s):s.heap.FunFrames X.base X.outer:=by
 have all:∀(l:List Env),(∀b∈Kv l,b∈X.fs)->X.s₀.heap.FunFrames X.base l->s.heap.FunFrames X.base l:=by
  intro l;induction l with
  |nil=>intro _ _;trivial
  |cons env r ih=>
   intro hs hl;obtain⟨hk,⟨L,o,hf,hn,ho,hd⟩,hr⟩:=hl;have hL:L∈X.fs:=hs L (by unfold Kv;rw[WC,hf];exact UR);obtain⟨sl,e⟩:=I.base.slot L o ho (I.ok.frf L hL) hL fun z=>I.ok.exfs L z hL
   exact⟨hk,⟨L,_,hf,hn,e,hd⟩,ih (fun b hb=>hs b (by unfold Kv;rw[WC,hf];exact US _ hb)) hr⟩
 exact all X.outer (fun _ hb=>hb) I.ok.funs
theorem Inv.stack(I:Inv X pr σ H s):s.heap.FunFrames X.base X.stack:=by
 rcases I.ok.stk with e|⟨e,hf⟩
 ·rw[e];exact I.funs
 ·rw[e];obtain⟨m,hn,_⟩:=I.loc;refine .cons (by rw[I.ok.kind];decide) hf hn ?_ I.funs;exact Heap.get?_none_of_le (Vo I.ok.bsz I.ok.above)
theorem Inv.stkSub(I:Inv X pr σ H s):∀b∈Kv X.stack,b∈X.env.locals::X.fs:=fun b hb=>by
 rcases I.ok.stk with e|⟨e,hf⟩
 ·rw[e]at hb;exact US _ hb
 ·rw[e]at hb;unfold Kv at hb;rw[WC,hf]at hb;exact hb
theorem Inv.stkFree(I:Inv X pr σ H s):∀b∈Kv X.stack,H b=none:=fun b hb=>by
 rcases U5.mp (I.stkSub b hb) with e|hb
 ·rw[e];exact I.free
 ·obtain⟨_,o,ho,_⟩:=I.ok.funs.mem hb;exact I.base.free b o ho (I.ok.frf b hb) fun z=>I.ok.exfs b z hb
theorem Inv.step{g':Array GenState}{t':Nat}{d':Drawn}(I:Inv X pr σ H s)
  (Mz:∀b∈ch,(b∈X.ex\/X.s₀.heap.objs.size<=b)/\b≠X.env.locals/\(∀x c,X.env.cells.lookup x=some c->c≠b)/\∀p∈X.pn++pr,p.1≠b)
  (keep:∀b o,b≠X.env.locals->b∉X.fs->b∉ch->s.heap.get? b=some o->H b=none->h'.get? b=some o)
  (slot:∀b o,b≠X.env.locals->b∈X.fs->b∉ch->s.heap.get? b=some o->H b=none->∃sl,h'.get? b=some {o with slots:=sl}) (free:∀b o,b∉ch->s.heap.get? b=some o->H b=none->H' b=none)
  (there:∀b o,b∉ch->s.heap.get? b=some o->∃o',h'.get? b=some o')
  (tups:∀b xs,H b=some (.tup xs)->H' b=some (.tup xs)) (frzs:∀b o u,H b=some (.frz o u)->H' b=some (.frz o u)) (tbls:∀b ps,H b=some (.tbl ps)->∃more,H' b=some (.tbl (ps++more)))
  (ns:∀m,s.heap.Ns X.env.locals m->h'.Ns X.env.locals m) (hok:HOk X.prog X.w H' h') (hg:AllBare g'):
  Inv X pr σ H' {s with heap:=h',gens:=g',drawn:=d',toks:=t'}:=by
 have TH:∀b o,X.s₀.heap.get? b=some o->b≠X.env.locals:=fun b o e=>Vn (Vb (U8 e) I.ok.above)
 have RI:∀b o,X.s₀.heap.get? b=some o->b∉X.ex->b∉ch:=fun b o e hx hb=>by
  rcases(Mz b hb).1 with z|z
  ·exact hx z
  ·exact absurd (Vb (U8 e) z) (Wv _)
 have cellK:∀x c,X.env.cells.lookup x=some c->∀v,s.heap.IsCell c v->h'.IsCell c v:=fun x c e v J2=>by
  obtain⟨o,ho,hd⟩:=J2;have Qp:c∉ch:=fun z=>(Mz c z).2.2.1 x c e rfl
  by_cases hc:c∈X.fs
  ·obtain⟨sl,q⟩:=slot c o (I.cne x c e) hc Qp ho (I.freeC x c e);exact⟨_,q,hd⟩
  ·exact⟨o,keep c o (I.cne x c e) hc Qp ho (I.freeC x c e),hd⟩
 refine⟨I.ok,I.os,hg,⟨fun b o e n hb hx=>?_,fun b o e n hb hx=>?_,fun b o e n hx=>?_,fun b o e hx=>?_,fun b xs e=>tups b xs (I.base.tups b xs e),fun b o xs e=>frzs b o xs (I.base.frzs b o xs e),fun b ps e=>?_⟩,?_,fun x c e=>?_,?_,fun x c e=>?_,fun p hp=>?_,hok,I.len⟩
 ·exact keep b o (TH b o e) hb (RI b o e hx) (I.base.keep b o e n hb hx) (I.base.free b o e n hx)
 ·obtain⟨sl,e1⟩:=I.base.slot b o e n hb hx;obtain⟨RH,e2⟩:=slot b _ (TH b o e) hb (RI b o e hx) e1 (I.base.free b o e n hx);exact⟨RH,e2⟩
 ·obtain⟨o',e1⟩:=I.base.there b o e hx;exact free b o' (RI b o e hx) e1 (I.base.free b o e n hx)
 ·obtain⟨o',e1⟩:=I.base.there b o e hx;exact there b o' (RI b o e hx) e1
 ·obtain⟨m1,e1⟩:=I.base.tbls b ps e;obtain⟨m2,e2⟩:=tbls b _ e1;exact⟨m1++m2,by rw[e2,WO]⟩
 ·obtain⟨m,hn,hl⟩:=I.loc;refine⟨m,ns m hn,fun i x v e1 e2 e3=>?_⟩;obtain⟨u,r,l⟩:=hl i x v e1 e2 e3;refine⟨u,r,?_⟩;rcases l with l|⟨k,c,e,z⟩
  ·exact .inl l
  ·exact .inr ⟨k,c,e,cellK x c e _ z⟩
 ·obtain⟨v,z⟩:=I.cell x c e;exact⟨v,cellK x c e v z⟩
 ·obtain⟨m,⟨o,_,_,ho,_⟩,_⟩:=I.loc;exact free _ o (fun z=>(Mz _ z).2.1 rfl) ho I.free
 ·obtain⟨v,o,ho,hd⟩:=I.cell x c e;exact free c o (fun z=>(Mz c z).2.2.1 x c e rfl) ho (I.freeC x c e)
 ·obtain⟨e,n,ne,nf,d⟩:=I.pin p hp;have Qp:p.1∉ch:=fun z=>(Mz p.1 z).2.2.2 p hp rfl
  exact⟨keep p.1 p.2 ne nf Qp e n,free p.1 p.2 Qp e n,ne,nf,d⟩
theorem Inv.un{t':Nat}(I:Inv X pr σ H s)(u:Un X.fs [] H H' s.heap h')(hok:HOk X.prog X.w H' h'):Inv X pr σ H' {s with heap:=h',toks:=t'}:=by
 obtain⟨m,⟨o,es,ep,ho,r⟩,_⟩:=id I.loc;obtain⟨sl,hL⟩:=u.any ho I.free (by simp);exact I.step (g':=s.gens) (d':=s.drawn) (ch:=[]) (fun _ z=>nomatch z) (fun b o _ hb _ e n=>u.keep b o e n hb (by simp)) (fun b o _ hb _ e n=>u.slot b o e n hb (by simp)) (fun b o _ e n=>u.free b o e n (by simp)) (fun b o _ e=>u.there b o e (by simp)) u.tups u.frzs u.tbls (fun m' hm=>by
  obtain⟨o',LX,OO,MS,r'⟩:=hm;rw[ho]at MS;cases MS;exact⟨_,LX,OO,hL,r'⟩) hok I.bare
theorem Inv.call{g':Array GenState}{t':Nat}{d':Drawn}(I:Inv X pr σ H s)(u:Un (Kv X.stack) ch H H' s.heap h')(hok:HOk X.prog X.w H' h')(hg:AllBare g')
  (Mz:∀b∈ch,(b∈X.ex\/X.s₀.heap.objs.size<=b)/\b≠X.env.locals/\(∀x c,X.env.cells.lookup x=some c->c≠b)/\∀p∈X.pn++pr,p.1≠b):
  Inv X pr σ H' {s with heap:=h',gens:=g',drawn:=d',toks:=t'}:=by
 obtain⟨m,⟨o,es,ep,ho,r⟩,_⟩:=id I.loc;obtain⟨sl,hL⟩:=u.any ho I.free fun z=>(Mz _ z).2.1 rfl
 exact I.step (ch:=ch) Mz (fun b o hL hb hc e n=>u.keep b o e n (fun z=>(U5.mp (I.stkSub b z)).elim hL hb) hc) (fun b o _ _ hc e n=>u.any e n hc) (fun b o hc e n=>u.free b o e n hc) (fun b o hc e=>u.there b o e hc) u.tups u.frzs u.tbls (fun m' hm=>by
  obtain⟨o',LX,OO,MS,r'⟩:=hm;rw[ho]at MS;cases MS;exact⟨_,LX,OO,hL,r'⟩) hok hg
theorem Inv.turned{t':Nat}{it:Addr}(I:Inv X pr σ H s)(k:∀b o,b≠it->s.heap.get? b=some o->h'.get? b=some o)(hn:H it=none)(hL:it≠X.env.locals)
  (h1:it∈X.ex\/X.s₀.heap.objs.size<=it) (h2:∀x c,X.env.cells.lookup x=some c->c≠it) (h3:∀p∈X.pn++pr,p.1≠it):Inv X pr σ H {s with heap:=h',toks:=t'}:=by
 have TJ:∀b u,H b=some u->b≠it:=fun b u e z=>by rw[z,hn]at e;cases e
 refine I.step (g':=s.gens) (d':=s.drawn) (ch:=[it]) (fun b hb=>?_) (fun b o _ _ hc e _=>k b o (fun z=>hc (by simp[z])) e) (fun b o _ _ hc e _=>⟨o.slots,k b o (fun z=>hc (by simp[z])) e⟩) (fun _ _ _ _ n=>n)
  (fun b o hc e=>⟨o,k b o (fun z=>hc (by simp[z])) e⟩) (fun _ _ e=>e) (fun _ _ _ e=>e) (fun b ps e=>⟨#[],by rw[e];simp⟩) (fun m hm=>?_) (fun b u e=>?_) I.bare
 ·have e:b=it:=by simpa using hb
  subst e;exact⟨h1,hL,h2,h3⟩
 ·obtain⟨o,es,ep,ho,r⟩:=hm;exact⟨o,es,ep,k _ o (Wx hL) ho,r⟩
 ·refine(I.hok b u e).stay (fun c v hc q=>k c v ?_ q) (fun _ q=>q) fun _ _ q=>q
  rcases hc with z|z
  ·rw[z];exact TJ b u e
  ·exact TJ c _ z
theorem Inv.tok(I:Inv X pr σ H s)(t:Nat):Inv X pr σ H {s with toks:=t}:=I.un (h':=s.heap) (t':=t) Un.refl I.hok
theorem Inv.kept{t':Nat}(I:Inv X pr σ H s)(k:∀b u,s.heap.get? b=some u->h'.get? b=some u):Inv X pr σ H {s with heap:=h',toks:=t'}:=I.un (Un.kept k) (I.hok.kept k)
theorem Inv.laid{a:Addr}{o:HO}{t':Nat}(I:Inv X pr σ H s)(k:∀b u,s.heap.get? b=some u->h'.get? b=some u)(hp:s.heap.objs.size<=a)(new:ObjOk X.prog X.w (upd H a o) h' a o):
  Inv X pr σ (upd H a o) {s with heap:=h',toks:=t'}:=I.un (Un.laid k hp (I.hok.fresh hp)) (I.hok.laid k hp new)
theorem Inv.write{x e:Addr}{o:HO}{t':Nat}(I:Inv X pr σ H s)(mu:Qn (H x))(he:e=x\/H e=some (.own x))(k:∀b u,b≠e->s.heap.get? b=some u->h'.get? b=some u)(P0:∃u,h'.get? e=some u)
  (new:ObjOk X.prog X.w (upd H x o) h' x o):Inv X pr σ (upd H x o) {s with heap:=h',toks:=t'}:=I.un (Un.write mu he k P0) (I.hok.write mu he k P0 new)
theorem Inv.pins_of{Mi:List (Addr×Obj)}(I:Inv X pr σ H s)(h:∀p∈Mi,s.heap.get? p.1=some p.2/\H p.1=none/\p.1≠X.env.locals/\p.1∉X.fs/\∀v,p.2.data≠.cell v):Inv X Mi σ H s:=
 ⟨I.ok,I.os,I.bare,I.base,I.loc,I.cell,I.free,I.freeC,fun p hp=>(Vs.mp hp).elim (fun z=>I.pin p (UX _ z)) (h p),I.hok,I.len⟩
theorem j9(hN:N.Nodup){j:Nat}(a:N[i]?=some x)(b:N[j]?=some x):i=j:=by
 obtain⟨h1,e1⟩:=U0.mp a;obtain⟨h2,e2⟩:=U0.mp b;exact(List.getElem_inj hN).mp (e1.trans e2.symm)
theorem lC{M:Model}{A:Around}{E:Value->Shared->Prop}{Q:Unit->Shared->Prop}(I:Inv X pr σ H s)(hN:X.N.Nodup)(hi:X.N[i]?=some x)(hx:Loc X.env.scope x)(r:RelV v u)
  (h:∀s',Inv X pr (σ.set i (some v)) H s'->(∃a,Heap.SameBut a s.heap s'.heap/\(a=X.env.locals\/X.env.cells.lookup x=some a))->Q () s') (hf:X.fn x=true\/X.env.scope.names.lookup x=some .local:=by first|exact .inl rfl|exact .inr rfl|assumption):wpAny M A (storeName X.env x u) Q E s:=by
 obtain⟨m,hn,hl⟩:=id I.loc;have L6:(X.env.scope.kind==.class||(X.env.scope.kind==.module&&X.env.locals != X.env.globals))=false:=by rw[I.ok.kind];rfl
 have hiσ:i<σ.length:=by rw[I.len];exact(U0.mp hi).1
 have cne:=I.cne;have tracked:∀{a:Addr}{h':Heap},(∃o,s.heap.get? a=some o/\H a=none)->Heap.SameBut a s.heap h'->HOk X.prog X.w H h':=fun{a h'} ha hs b ob e=>by
  obtain⟨_,_,Oq⟩:=ha;refine(I.hok b ob e).stay (fun c w' hc q=>(hs.2 c ?_).trans q) (fun _ q=>q) fun _ _ q=>q
  rintro rfl;rcases hc with rfl|hc
  ·rw[Oq]at e;cases e
  ·rw[Oq]at hc;cases hc
 rcases hx with hk|hk
 ·refine wpAny_storeName_local hk hn (fun h' MA hs=>?_) L6;obtain⟨oL,_,_,hoL,_⟩:=id hn;refine h _ ⟨I.ok,I.os,I.bare,⟨fun b o e n hb hx=>?_,fun b o e n hb hx=>?_,I.base.free,fun b o e hx=>?_,I.base.tups,I.base.frzs,I.base.tbls⟩,⟨_,MA,fun j y v' e1 e2 e3=>?_⟩,fun y c e=>?_,I.free,I.freeC,fun p hp=>?_,tracked ⟨oL,hoL,I.free⟩ hs,by simpa using I.len⟩ ⟨_,hs,.inl rfl⟩
  ·exact(hs.2 b (Vn (Vb (U8 e) I.ok.above))).trans (I.base.keep b o e n hb hx)
  ·obtain⟨sl,e1⟩:=I.base.slot b o e n hb hx;exact⟨sl,(hs.2 b (Vn (Vb (U8 e) I.ok.above))).trans e1⟩
  ·obtain⟨o',e1⟩:=I.base.there b o e hx;exact⟨o',(hs.2 b (Vn (Vb (U8 e) I.ok.above))).trans e1⟩
  ·by_cases hj:j=i
   ·subst hj;rw[hi]at e1;cases e1;rw[VU hiσ]at e2;cases e2;exact⟨u,r,.inl ⟨hk,by simp⟩⟩
   ·rw[Xo (Wx hj)]at e2;obtain⟨u',r',q⟩:=hl j y v' e1 e2 e3;refine⟨u',r',?_⟩;rcases q with⟨k,e⟩|⟨k,c,e,z⟩
    ·refine .inl ⟨k,?_⟩;have:y≠x:=fun e=>hj (j9 hN e1 (e▸hi))
     simp[this,e]
    ·exact .inr ⟨k,c,e,z.sameBut hs (cne y c e)⟩
  ·obtain⟨w',z⟩:=I.cell y c e;exact⟨w',z.sameBut hs (cne y c e)⟩
  ·obtain⟨e,n,ne,nf,d⟩:=I.pin p hp;exact⟨(hs.2 p.1 ne).trans e,n,ne,nf,d⟩
 ·have OP:X.fn x=true:=by
   rcases hf with z|z
   ·exact z
   ·rw[z]at hk;cases hk
  obtain⟨c,hc⟩:=I.ok.has x (.inl hk);obtain⟨w',z⟩:=I.cell x c hc;refine wpAny_storeName_cell I.ok.kind hk hc z (fun h' TK hs=>?_);obtain⟨oc,TL,hocd⟩:=id z;refine h {s with heap:=h'} ⟨I.ok,I.os,I.bare,⟨fun b o e n hb hx=>?_,fun b o e n hb hx=>?_,I.base.free,fun b o e hx=>?_,I.base.tups,I.base.frzs,I.base.tbls⟩,⟨m,hn.sameBut hs (Wx (cne x c hc)),fun j y v' e1 e2 e3=>?_⟩,fun y c' e=>?_,I.free,I.freeC,fun p hp=>?_,tracked ⟨oc,TL,I.freeC x c hc⟩ hs,by simpa using I.len⟩ ⟨c,hs,.inr hc⟩
  ·exact(hs.2 b (Vn (Vb (U8 e) (I.ok.cab x c OP hc)))).trans (I.base.keep b o e n hb hx)
  ·obtain⟨sl,e1⟩:=I.base.slot b o e n hb hx;exact⟨sl,(hs.2 b (Vn (Vb (U8 e) (I.ok.cab x c OP hc)))).trans e1⟩
  ·obtain⟨o',e1⟩:=I.base.there b o e hx;exact⟨o',(hs.2 b (Vn (Vb (U8 e) (I.ok.cab x c OP hc)))).trans e1⟩
  ·by_cases hj:j=i
   ·subst hj;rw[hi]at e1;cases e1;rw[VU hiσ]at e2;cases e2;exact⟨u,r,.inr ⟨.inl hk,c,hc,TK⟩⟩
   ·rw[Xo (Wx hj)]at e2;obtain⟨u',r',q⟩:=hl j y v' e1 e2 e3;refine⟨u',r',?_⟩;rcases q with q|⟨k,c',e,z'⟩
    ·exact .inl q
    ·refine .inr ⟨k,c',e,z'.sameBut hs ?_⟩;rintro rfl;exact hj (j9 hN e1 (I.ok.inj _ _ _ e hc▸hi))
  ·by_cases hcc:c'=c
   ·subst hcc;exact⟨_,TK⟩
   ·obtain⟨w2,z2⟩:=I.cell y c' e;exact⟨w2,z2.sameBut hs hcc⟩
  ·obtain⟨e,n,ne,nf,d⟩:=I.pin p hp;refine⟨(hs.2 p.1 ?_).trans e,n,ne,nf,d⟩;intro q;rw[q,TL]at e;have q':oc=p.2:=Vq e;exact d w' (by rw[<-q'];exact hocd)
theorem ka{M:Model}{A:Around}{E:Value->Shared->Prop}{Q:Unit->Shared->Prop}(I:Inv X pr σ H s)(hN:X.N.Nodup)(hi:X.N[i]?=some x)(hx:Loc X.env.scope x)(r:RelV v u)
  (h:∀s',Inv X pr (σ.set i (some v)) H s'->Q () s') (hf:X.fn x=true\/X.env.scope.names.lookup x=some .local:=by first|exact .inl rfl|exact .inr rfl|assumption):wpAny M A (storeName X.env x u) Q E s:=
 lC I hN hi hx r (fun s' I' _=>h s' I') hf
theorem Inv.call'(I:Inv X pr σ H s)(ho:s'.os=s.os)(u:Un (Kv X.stack) ch H H' s.heap s'.heap)(hok:HOk X.prog X.w H' s'.heap)(hg:AllBare s'.gens)
  (Mz:∀b∈ch,(b∈X.ex\/X.s₀.heap.objs.size<=b)/\b≠X.env.locals/\(∀x c,X.env.cells.lookup x=some c->c≠b)/\∀p∈X.pn++pr,p.1≠b):Inv X pr σ H' s':=by
 obtain⟨h',g',d',t',o'⟩:=s';have e:o'=s.os:=ho;subst e;exact I.call (g':=g') (t':=t') (d':=d') u hok hg Mz
end
abbrev XK:=Value->Option Addr->Hp->Prop
abbrev St:=List (Option V)
abbrev VK:=V->Hp->Prop
abbrev TE:=St->Hp->VK->Prop
abbrev TT:=St->Hp->(Bool->Hp->Prop)->Prop
abbrev TA:=St->Hp->(List V->Hp->Prop)->Prop
structure Ends where
 nx:St->Hp->Prop
 rt:VK
 bk:St->Hp->Prop:=fun _ _=>False
 ct:St->Hp->Prop:=fun _ _=>False
abbrev TS:=Ends->St->Hp->Prop
def EP(X:Cx)(pr:List (Addr×Obj))(σ:St)(Q:VK)(u:Value)(s':Shared):Prop:=∃v H',Inv X pr σ H' s'/\RelV v u/\Q v H'
def TP(X:Cx)(pr:List (Addr×Obj))(σ:St)(Q:Bool->Hp->Prop)(b:Bool)(s':Shared):Prop:=∃H',Inv X pr σ H' s'/\Q b H'
def AP(X:Cx)(pr:List (Addr×Obj))(σ:St)(Q:List V->Hp->Prop)(us:List Value)(s':Shared):Prop:=∃vs H',Inv X pr σ H' s'/\Vals vs us/\Q vs H'
def SP(X:Cx)(pr:List (Addr×Obj))(D:Ends)(f:Flow)(s':Shared):Prop:=
 match f with
 | .next=>∃σ' H',Inv X pr σ' H' s'/\D.nx σ' H'
 | .brk=>∃σ' H',Inv X pr σ' H' s'/\D.bk σ' H'
 | .cont=>∃σ' H',Inv X pr σ' H' s'/\D.ct σ' H'
 | .ret u=>∃v σ' H',Inv X pr σ' H' s'/\RelV v u/\D.rt v H'
def PE(X:Cx)(e:Expr)(t:TE):Prop:=
 ∀(pr:List (Addr×Obj)) (s:Shared) (σ:St) (H:Hp) (Q:VK),Inv X pr σ H s->t σ H Q->wpAny (model X.prog X.w) X.A (eval e X.env) (EP X pr σ Q) X.xe s
def PT(X:Cx)(e:Expr)(t:TT):Prop:=
 ∀(pr:List (Addr×Obj)) (s:Shared) (σ:St) (H:Hp) (Q:Bool->Hp->Prop),Inv X pr σ H s->t σ H Q->wpAny (model X.prog X.w) X.A (isTrue e X.env (eval e X.env)) (TP X pr σ Q) X.xe s
def PW(X:Cx)(e:Expr)(t:TT):Prop:=
 ∀(whole:Sem Value) (pr:List (Addr×Obj)) (s:Shared) (σ:St) (H:Hp) (Q:Bool->Hp->Prop),Inv X pr σ H s->t σ H Q->wpAny (model X.prog X.w) X.A (isTrue e X.env whole) (TP X pr σ Q) X.xe s
variable{e:Expr}
theorem PW.pt{t:TT}(h:PW X e t):PT X e t:=h _
def PA(X:Cx)(es:List Expr)(t:TA):Prop:=
 ∀(pos:Pos) (pr:List (Addr×Obj)) (s:Shared) (σ:St) (H:Hp) (Q:List V->Hp->Prop),Inv X pr σ H s->t σ H Q->wpAny (model X.prog X.w) X.A (spliced (backTo pos (starEach es X.env))) (AP X pr σ Q) X.xe s
def PS(X:Cx)(st:Stmt)(t:TS):Prop:=
 ∀(pr:List (Addr×Obj)) (s:Shared) (σ:St) (H:Hp) (D:Ends),Inv X pr σ H s->t D σ H->wpAny (model X.prog X.w) X.A (exec st X.env) (SP X pr D) X.xe s
def PSs(X:Cx)(st:List Stmt)(t:TS):Prop:=
 ∀(pr:List (Addr×Obj)) (s:Shared) (σ:St) (H:Hp) (D:Ends),Inv X pr σ H s->t D σ H->wpAny (model X.prog X.w) X.A (execs st X.env) (SP X pr D) X.xe s
variable{α:Type}{A:Around}{E:Value->Shared->Prop}
theorem Kh{t:Sem α}{Q Q':α->Shared->Prop}{M:Model}(h:wpAny M A t Q E s)(hQ:∀a s,Q a s->Q' a s):wpAny M A t Q' E s:=VN h hQ fun _ _ x=>x
variable{Q:Value->Shared->Prop}{ta:TE}{σ:St}
section
theorem bin{a b:Expr}{tb:TE}(ha:PE X a ta)(hb:PE X b tb){R:V->V->Hp->Prop}(I:Inv X pr σ H s)(h:ta σ H fun x H1=>tb σ H1 fun y H2=>R x y H2)
  {Q:α->Shared->Prop}{f:Value->Value->Sem α}
  (hf:∀v u s2 x y H2,Inv X pr σ H2 s2->RelV x v->RelV y u->R x y H2->wpAny (model X.prog X.w) X.A (f v u) Q X.xe s2):
  wpAny (model X.prog X.w) X.A (eval a X.env) (fun v s₁=>wpAny (model X.prog X.w) X.A (eval b X.env) (fun u s₂=>wpAny (model X.prog X.w) X.A (f v u) Q X.xe s₂) X.xe s₁) X.xe s:=by
 refine Kh (ha pr s σ H _ I h) fun v s1 Kk=>?_
 obtain⟨x,H1,I1,r1,q1⟩:=Kk;refine Kh (hb pr s1 σ H1 _ I1 q1) fun u s2 Kk=>?_
 obtain⟨y,H2,I2,r2,q2⟩:=Kk;exact hf v u s2 x y H2 I2 r1 r2 q2
noncomputable def nK(i:Nat):TE:=fun σ H Q=>∃v,σ[i]?=some (some v)/\Q v H
noncomputable def tC(v:V):TE:=fun _ H Q=>Q v H
theorem yf{pos:Pos}(hN:X.N[i]?=some x)(hv:Sk X.env.scope x)(hd:(x==("__debug__" : Str))=false:=by decide)(LY:(x==("__classdict__" : Str))=false:=by decide):PE X (.Name x pos) (nK i):=by
 intro pr s σ H Q I h;obtain⟨v,e,h⟩:=h;obtain⟨m,hn,hl⟩:=I.loc;obtain⟨u,r,l⟩:=hl i x v hN e hv;have fin:EP X pr σ Q u s:=⟨v,H,I,r,h⟩
 rcases l with⟨hk,hm⟩|⟨hk,c,hc,Ku⟩
 ·exact wpAny_Name (wpAny_loadName_local I.ok.kind hk hn hm fin) hd
 ·rcases hk with hk|hk
  ·exact wpAny_Name (wpAny_loadName_cell I.ok.kind hk hc Ku fin) hd
  ·exact wpAny_Name (wpAny_loadName_free I.ok.kind hk hc Ku fin LY) hd
theorem yg{i j pos}:PE X (.Constant (.int i) j pos) (tC (.int i)):=fun _ _ _ H _ I h=>wpAny_Constant_int ⟨.int i,H,I.tok _,⟨_,rfl⟩,h⟩
theorem Gy{b j pos}:PE X (.Constant (.bool b) j pos) (tC (.bl b)):=fun _ _ _ H _ I h=>Constant_bool ⟨.bl b,H,I,rfl,h⟩
theorem yh{j pos}:PE X (.Constant .none j pos) (tC .non):=fun _ _ _ H _ I h=>Constant_none ⟨.non,H,I,rfl,h⟩
theorem yi{x j pos}:PE X (.Constant (.str x) j pos) (tC (.str x)):=fun _ _ _ H _ I h=>Calls.Constant_str ⟨.str x,H,I.tok _,⟨_,rfl⟩,h⟩
def Gl(X:Cx)(x:Str):Prop:=X.env.kindOf x=some .globalImplicit
theorem iV{E:Value->Shared->Prop}{pos:Pos}(I:Inv X pr σ H s)(hg:Gl X x)(hm:X.mg x=some u)(h:Q u s)
  (hd:(x==("__debug__" : Str))=false:=by decide):wpAny (model X.prog X.w) X.A (eval (.Name x pos) X.env) Q E s:=
 Ya I.ok.kind hg (Calls.loadGlobal_global (by rw[I.ok.glob];exact I.mod.glob.keeps I.bk) hm h) hd
theorem fW{E:Value->Shared->Prop}{pos:Pos}(I:Inv X pr σ H s)(hg:Gl X x)(hm:X.mg x=none)(hv:bootBuiltins x=some u)(h:Q u s)
  (hn:x≠"__name__":=by decide) (hd:(x==("__debug__" : Str))=false:=by decide):wpAny (model X.prog X.w) X.A (eval (.Name x pos) X.env) Q E s:=by
 obtain⟨mb,h1,h2⟩:=I.mod.blt;exact Ya I.ok.kind hg (Calls.loadGlobal_builtin (by rw[I.ok.glob];exact I.mod.glob.keeps I.bk) hm (by rw[I.ok.blt];exact h1.keeps I.bk) ((h2 x hn).trans hv) h) hd
theorem zx{pos:Pos}(hg:Gl X x)(hm:X.mg x=some u)(r:RelV v u)(hd:(x==("__debug__" : Str))=false:=by decide):PE X (.Name x pos) (tC v):=
 fun _ _ _ H _ I h=>iV I hg hm ⟨v,H,I,r,h⟩ hd
theorem rO{pos:Pos}(hg:Gl X x)(hm:X.mg x=none)(hv:bootBuiltins x=some u)(r:RelV v u)(hn:x≠"__name__":=by decide)(hd:(x==("__debug__" : Str))=false:=by decide):PE X (.Name x pos) (tC v):=
 fun _ _ _ H _ I h=>fW I hg hm hv ⟨v,H,I,r,h⟩ hn hd
variable{a b:Expr}{tb:TE}{pos:Pos}
def PC(X:Cx)(op:CmpOp)(a b:Expr)(t:TE):Prop:=
 ∀(pr:List (Addr×Obj)) (s:Shared) (σ:St) (H:Hp) (Q:VK),Inv X pr σ H s->t σ H Q->
  wpAny (model X.prog X.w) X.A (eval a X.env) (fun v s₁=>wpAny (model X.prog X.w) X.A (eval b X.env) (fun u s₂=>wpAny (model X.prog X.w) X.A (compareOp op v u) (EP X pr σ Q) X.xe s₂) X.xe s₁) X.xe s
theorem vW(b:Expr){op:CmpOp}(h:op≠.In)(h2:op≠.NotIn):behindInMarks op b=false:=by
 have e1:(op==CmpOp.In)=false:=by cases op <;> first|rfl|exact absurd rfl h
 have e2:(op==CmpOp.NotIn)=false:=by cases op <;> first|rfl|exact absurd rfl h2
 cases b <;> simp[behindInMarks,e1,e2]
noncomputable def tB(t:TE):TT:=fun σ H Q=>t σ H fun x H1=>∃c,x=.bl c/\Q c H1
theorem Iu{op:CmpOp}{t:TE}(h:PC X op a b t)(h1:behindInMarks op b=false:=by first|exact vW _ (by decide) (by decide)|rfl):PT X (.Compare a [op] [b] pos) (tB t):=by
 intro pr s σ H Q I hw;refine wpAny_isTrue_Compare1 (Kh (h pr s σ H _ I hw) fun v s1 h1=>Kh h1 fun u s2 h2=>Kh h2 fun c s3 ⟨x,H1,I1,r1,q1⟩=>?_) h1;obtain⟨d,rfl,q⟩:=q1;cases r1;exact Xj ⟨H1,I1,q⟩
theorem yj{t:TE}(h:PE X e t)(he:∀whole,isTrue e X.env whole=(do let v <-whole;standAt e.pos;holding [v] (truthy v)):=by intro _;rfl):PT X e (tB t):=by
 intro pr s σ H Q I hw;refine isTrue_plain (Kh (h pr s σ H _ I hw) fun v s1 ⟨x,H1,I1,r1,q1⟩=>?_) (he _);obtain⟨d,rfl,q⟩:=q1;cases r1;exact Xj ⟨H1,I1,q⟩
variable{tA RJ:TT}{rest:List Expr}
noncomputable def IW(t u:TT):TT:=fun σ H Q=>t σ H fun c H1=>if c=true then u σ H1 Q else Q false H1
noncomputable def tOr(t u:TT):TT:=fun σ H Q=>t σ H fun c H1=>if c=true then Q true H1 else u σ H1 Q
noncomputable def IX(t:TT):TT:=fun σ H Q=>t σ H fun c H1=>Q (!c) H1
theorem zy(ha:PT X a tA):PW X (.BoolOp .And [a] pos) tA:=by
 intro wh pr s σ H Q I h;refine isTrue_and (Kh (ha pr s σ H Q I h) fun c s1 e=>?_);cases c with
 |true=>exact isTrue_and_nil e
 |false=>exact e
theorem yk(ha:PT X a tA):PW X (.BoolOp .Or [a] pos) tA:=by
 intro wh pr s σ H Q I h;refine isTrue_or (Kh (ha pr s σ H Q I h) fun c s1 e=>?_);cases c with
 |false=>exact isTrue_or_nil e
 |true=>exact e
theorem CY(ha:PT X a tA)(hb:PW X (.BoolOp .And (b::rest) pos) RJ):PW X (.BoolOp .And (a::b::rest) pos) (IW tA RJ):=by
 intro wh pr s σ H Q I h;refine isTrue_and (Kh (ha pr s σ H _ I h) fun c s1 Kk=>?_);obtain⟨H1,I1,q1⟩:=Kk;cases c with
 |true=>exact hb wh pr s1 σ H1 Q I1 q1
 |false=>exact⟨H1,I1,q1⟩
theorem CZ(ha:PT X a tA)(hb:PW X (.BoolOp .Or (b::rest) pos) RJ):PW X (.BoolOp .Or (a::b::rest) pos) (tOr tA RJ):=by
 intro wh pr s σ H Q I h;refine isTrue_or (Kh (ha pr s σ H _ I h) fun c s1 Kk=>?_);obtain⟨H1,I1,q1⟩:=Kk;cases c with
 |true=>exact⟨H1,I1,q1⟩
 |false=>exact hb wh pr s1 σ H1 Q I1 q1
theorem ym(ha:PT X a tA):PT X (.UnaryOp .Not a pos) (IX tA):=by
 intro pr s σ H Q I h;exact isTrue_not (ha pr s σ H (fun c H1=>Q (!c) H1) I h)
end
def SqL(K:W.Frag)(H:Hp)(a:Addr)(xs:List V):Prop:=
 Rd H a (.lst xs)\/
  ∃(o:Obj) (JT:Array Value) (n:Nat),K.lookup a=some o/\o.cls=.type "list"/\o.dict=none/\o.data=.seq JT n/\JT.size<=sizeLine/\Vals xs JT.toList
def SqT(K:W.Frag)(H:Hp)(a:Addr)(xs:List V):Prop:=
 Rd H a (.tup xs)\/
  ∃(o:Obj) (JT:Array Value) (n:Nat),K.lookup a=some o/\o.cls=.type "tuple"/\o.dict=none/\o.data=.seq JT n/\JT.size<=sizeLine/\Vals xs JT.toList
noncomputable def IY:Value->Option V
 | .none=>some .non
 | .bool b=>some (.bl b)
 | .int i _=>some (.int i)
 | .str x _=>some (.str x)
 | .bytes b _=>some (.byt b)
 | .float b _=>some (.flt b)
 | .ref a=>some (.ref a)
 | .type n=>some (.ty n)
 |_=>none
theorem RelV.abs{x:V}(r:RelV x u):IY u=some x:=by
 cases x with
 |non=>cases r;rfl
 |bl _=>cases r;rfl
 |int _=>obtain⟨t,rfl⟩:=r;rfl
 |str _=>obtain⟨t,rfl⟩:=r;rfl
 |byt _=>obtain⟨t,rfl⟩:=r;rfl
 |flt _=>obtain⟨t,rfl⟩:=r;rfl
 |ref _=>cases r;rfl
 |ty _=>cases r;rfl
theorem RelV.inj{x y:V}(r:RelV x u)(q:RelV y u):x=y:=Vq (r.abs.symm.trans q.abs)
theorem Vals.inj:∀{xs ys:List V}{us:List Value},Vals xs us->Vals ys us->xs=ys
 |_,_,_,.nil,.nil=>rfl
 |_,_,_,.cons r t,.cons r' t'=>by rw[r.inj r',Vals.inj t t']
variable{xs:List V}{K:W.Frag}
section
variable{ys:List V}
theorem SqL.of(h:H a=some (.lst xs)):SqL K H a xs:=.inl (.inl h)
theorem SqT.of(h:H a=some (.tup xs)):SqT K H a xs:=.inl (.inl h)
theorem Inv.list(I:Inv X pr σ H s)(h:SqL X.K H a xs):∃JT:List Value,Vals xs JT/\PlainL s.heap a JT.toArray/\xs.length<=sizeLine:=by
 rcases h with h|⟨o,JT,n,hk,hc,hd,hs,hz,r⟩
 ·obtain⟨z,JT,n,r,e⟩:=h.ok I.hok;exact⟨JT,r,⟨_,n,e,rfl,rfl,rfl⟩,z⟩
 ·refine⟨JT.toList,r,⟨o,n,I.kIn a o hk,hc,hd,by simpa using hs⟩,?_⟩;have e:=r.length;simp only[V8]at e;lia
theorem Inv.tupleN(I:Inv X pr σ H s)(h:SqT X.K H a xs):∃JT:List Value,Vals xs JT/\IsTupN s.heap a JT.toArray/\xs.length<=sizeLine:=by
 rcases h with h|⟨o,JT,n,hk,hc,hdn,hs,hz,r⟩
 ·obtain⟨z,JT,r,p⟩:=h.ok I.hok;exact⟨JT,r,p,z⟩
 ·refine⟨JT.toList,r,⟨o,I.kIn a o hk,hc,⟨n,by simpa using hs⟩,hdn⟩,?_⟩;have e:=r.length;simp only[V8]at e;lia
theorem Inv.tuple(I:Inv X pr σ H s)(h:SqT X.K H a xs):∃JT:List Value,Vals xs JT/\IsTup s.heap a JT.toArray/\xs.length<=sizeLine:=by
 obtain⟨JT,r,p,z⟩:=I.tupleN h;exact⟨JT,r,p.tup,z⟩
theorem Inv.list_inj(I:Inv X pr σ H s)(h:SqL X.K H a xs)(h':SqL X.K H a ys):xs=ys:=by
 obtain⟨JT,r,⟨o,n,e,_,_,d⟩,_⟩:=I.list h;obtain⟨its',r',⟨o',n',e',_,_,d'⟩,_⟩:=I.list h';rw[e]at e';cases e';rw[d]at d';injection d' with d1 _;have:JT=its':=by simpa using Wy Array.toList d1
 subst this;exact r.inj r'
theorem Inv.tuple_inj(I:Inv X pr σ H s)(h:SqT X.K H a xs)(h':SqT X.K H a ys):xs=ys:=by
 obtain⟨JT,r,⟨o,e,_,n,d⟩,_⟩:=I.tuple h;obtain⟨its',r',⟨o',e',_,n',d'⟩,_⟩:=I.tuple h';rw[e]at e';cases e';rw[d]at d';injection d' with d1 _;have:JT=its':=by simpa using Wy Array.toList d1
 subst this;exact r.inj r'
end
abbrev Cx.wish(X:Cx)(E:Value->Shared->Prop):Cx:={X with xe:=E}
abbrev Cx.nox(X:Cx):Cx:=X.wish fun _ _=>False
theorem Cx.Ok.wish{X:Cx}(ok:X.Ok)(E:Value->Shared->Prop):(X.wish E).Ok:=
 ⟨ok.mod,ok.kind,ok.glob,ok.blt,ok.above,ok.inj,ok.has,ok.cab,ok.hd,ok.frames,ok.stk,ok.exf,ok.bs,ok.bsz,ok.noex,ok.exfs,ok.funs,ok.frf⟩
theorem Cx.Ok.unwish(ok:(X.wish E).Ok):X.Ok:=
 ⟨ok.mod,ok.kind,ok.glob,ok.blt,ok.above,ok.inj,ok.has,ok.cab,ok.hd,ok.frames,ok.stk,ok.exf,ok.bs,ok.bsz,ok.noex,ok.exfs,ok.funs,ok.frf⟩
section
theorem Inv.wish(I:Inv X pr σ H s)(E:Value->Shared->Prop):Inv (X.wish E) pr σ H s:=⟨I.ok.wish E,I.os,I.bare,I.base,I.loc,I.cell,I.free,I.freeC,I.pin,I.hok,I.len⟩
theorem Inv.unwish(I:Inv (X.wish E) pr σ H s):Inv X pr σ H s:=⟨I.ok.unwish,I.os,I.bare,I.base,I.loc,I.cell,I.free,I.freeC,I.pin,I.hok,I.len⟩
theorem SP.unwish{D:Ends}{f:Flow}{s':Shared}(h:SP (X.wish E) pr D f s'):SP X pr D f s':=by
 cases f with
 |next=>obtain⟨σ',H',I,q⟩:=h;exact⟨σ',H',I.unwish,q⟩
 |brk=>obtain⟨σ',H',I,q⟩:=h;exact⟨σ',H',I.unwish,q⟩
 |cont=>obtain⟨σ',H',I,q⟩:=h;exact⟨σ',H',I.unwish,q⟩
 |ret u=>obtain⟨v,σ',H',I,r,q⟩:=h;exact⟨v,σ',H',I.unwish,r,q⟩
theorem PT.nox{t:TT}(h:PT X.nox e t):PT X e t:=fun pr s σ H Q I hw=>
 VN (h pr s σ H Q (I.wish _) hw) (fun _ _ ⟨H',I',q⟩=>⟨H',I'.unwish,q⟩) fun _ _ z=>False.elim z
theorem PSs.nox{st:List Stmt}{t:TS}(h:PSs X.nox st t):PSs X st t:=fun pr s σ H D I hw=>
 VN (h pr s σ H D (I.wish _) hw) (fun _ _ q=>q.unwish) fun _ _ z=>False.elim z
end
variable{te:TE}{c:Expr}{tc:TT}
section
variable{st:Stmt}{rest:List Stmt}{t u:TS}{pos:Pos}
noncomputable def Gz:TS:=fun D σ H=>D.nx σ H
noncomputable def IZ(t u:TS):TS:=fun D σ H=>t {D with nx:=u D} σ H
theorem nL:PSs X [] Gz:=fun _ _ σ H _ I h=>Xz ⟨σ,H,I,h⟩
theorem iM(h1:PS X st t)(h2:PSs X rest u):PSs X (st::rest) (IZ t u):=by
 intro pr s σ H D I h;refine Wh (Kh (h1 pr s σ H {D with nx:=u D} I h) fun f s1 q=>?_);cases f with
 |next=>
  obtain⟨σ',H',I',q⟩:=q;exact h2 pr s1 σ' H' D I' q
 |ret v=>exact q
 |brk=>exact q
 |cont=>exact q
theorem zH(h1:PS X st t):PSs X [st] t:=by
 intro pr s σ H D I h;refine Wh (Kh (h1 pr s σ H D I h) fun f s1 q=>?_);cases f with
 |next=>exact Xz q
 |ret v=>exact q
 |brk=>exact q
 |cont=>exact q
theorem Inv.quiet(I:Inv X pr σ H s):interactive X.env=false:=by simp[interactive,I.ok.kind]
noncomputable def GA(te:TE):TS:=fun D σ H=>te σ H fun _ H1=>D.nx σ H1
theorem zI(he:PE X e te)(hs:swapsWith e none pos.line X.env=pure false:=by rfl):PS X (.Expr e pos) (GA te):=by
 intro pr s σ H D I h;exact wpAny_Expr_any (Kh (he pr s σ H _ I h) fun v s1 ⟨x,H1,I1,r1,q1⟩=>⟨σ,H1,I1,q1⟩) I.quiet hs
noncomputable def I0(te:TE):TS:=fun D σ H=>te σ H D.rt
theorem rP(he:PE X e te):PS X (.Return (some e) pos) (I0 te):=by
 intro pr s σ H D I h;exact wpAny_Return_some (Kh (he pr s σ H _ I h) fun v s1 ⟨x,H1,I1,r1,q1⟩=>⟨x,σ,H1,I1,r1,q1⟩)
noncomputable def Ja(c:TT)(t u:TS):TS:=fun D σ H=>c σ H fun b H1=>if b=true then t D σ H1 else u D σ H1
theorem GC{a b:List Stmt}(hc:PT X c tc)(ha:PSs X a t)(hb:PSs X b u):PS X (.If c a b pos) (Ja tc t u):=by
 intro pr s σ H D I h;refine wpAny_If (Kh (hc pr s σ H _ I h) fun d s1 Kk=>?_);obtain⟨H1,I1,q1⟩:=Kk;cases d with
 |true=>exact ha pr s1 σ H1 D I1 q1
 |false=>exact hb pr s1 σ H1 D I1 q1
noncomputable def C0:TS:=fun _ _ _=>False
theorem vX:PS X st C0:=fun _ _ _ _ _ _ h=>h.elim
end
abbrev TG:=V->St->Hp->(St->Hp->Prop)->Prop
abbrev Ot:=List V->St->Hp->(St->Hp->Prop)->Prop
def PG(X:Cx)(target:Expr)(t:TG):Prop:=
 ∀(pr:List (Addr×Obj)) (s:Shared) (σ:St) (H:Hp) (v:V) (u:Value) (Q:St->Hp->Prop),Inv X pr σ H s->RelV v u->t v σ H Q->
  wpAny (model X.prog X.w) X.A (assign target X.env u) (fun _ s'=>∃σ' H',Inv X pr σ' H' s'/\Q σ' H') X.xe s
def OQ(X:Cx)(ts:List Expr)(t:Ot):Prop:=
 ∀(pr:List (Addr×Obj)) (s:Shared) (σ:St) (H:Hp) (vs:List V) (us:List Value) (Q:St->Hp->Prop),Inv X pr σ H s->Vals vs us->t vs σ H Q->
  wpAny (model X.prog X.w) X.A (assignInOrder ((assignEach ts X.env).map (·.2)) us) (fun _ s'=>∃σ' H',Inv X pr σ' H' s'/\Q σ' H') X.xe s
variable{es:List Expr}{n:Nat}{tg:Expr}
section
variable{pos:Pos}
noncomputable def C1(i:Nat):TG:=fun v σ H Q=>Q (σ.set i (some v)) H
theorem zJ(hN:X.N.Nodup)(hi:X.N[i]?=some x)(hx:Loc X.env.scope x)(hf:X.fn x=true\/X.env.scope.names.lookup x=some .local:=by first|exact .inl rfl|exact .inr rfl|assumption):PG X (.Name x pos) (C1 i):=by
 intro pr s σ H v u Q I r h;exact wpAny_assign_Name (ka I hN hi hx r (fun s' I'=>⟨_,H,I',h⟩) hf)
noncomputable def Jb:Ot:=fun vs σ H Q=>vs=[]/\Q σ H
noncomputable def GD(t:TG)(u:Ot):Ot:=fun vs σ H Q=>∃v r,vs=v::r/\t v σ H fun σ' H'=>u r σ' H' Q
theorem zM:OQ X [] Jb:=by
 intro pr s σ H vs us Q I r h;obtain⟨e,h⟩:=h;subst e;cases r;exact assignInOrder_nil ⟨σ,H,I,h⟩
theorem vY{t:TG}{u:Ot}(h1:PG X e t)(h2:OQ X es u)
  (hs:(assignEach (e::es) X.env).map (·.2)=assign e X.env::(assignEach es X.env).map (·.2):=by rfl):OQ X (e::es) (GD t u):=by
 intro pr s σ H vs us Q I r h;obtain⟨v,vr,e1,h⟩:=h;subst e1;cases r with
 |cons r rr=>
  rw[hs];refine assignInOrder_cons (Kh (h1 pr s σ H _ _ _ I r h) fun _ s1 Kk=>?_);obtain⟨σ1,H1,I1,q1⟩:=Kk;exact h2 pr s1 σ1 H1 _ _ Q I1 rr q1
noncomputable def Jc(K:W.Frag)(n:Nat)(t:Ot):TG:=fun v σ H Q=>∃a xs,v=.ref a/\SqT K H a xs/\xs.length=n/\t xs σ H Q
theorem C2{k:Nat}{t:Ot}(hc:X.calm=true)(h:OQ X es t)
  (hn:(assignEach es X.env).length=n:=by rfl) (Lz:(assignEach es X.env).findIdx? (·.1)=none:=by rfl):PG X (.Tuple es k pos) (Jc X.K n t):=by
 intro pr s σ H v u Q I r hw;obtain⟨a,xs,e1,hq,hl,hw⟩:=hw;subst e1;cases r;obtain⟨JT,rv,ht,hz⟩:=I.tuple hq;refine assign_Tuple_tuple (I.ok.hd hc) ht (by simp[hn,<-hl,rv.length]) Lz fun h' hx=>?_
 have I1:Inv X pr σ H {s with heap:=h'}:=I.kept (t':=s.toks) fun b o e=>hx b o (Vn (U8 e)) e
 exact h pr _ σ H xs _ Q I1 (by simpa using rv) hw
noncomputable def Iw(te:TE)(g:TG):TS:=fun D σ H=>te σ H fun x H1=>g x σ H1 D.nx
theorem C3{g:TG}(he:PE X e te)(hg:PG X tg g)(hs:swapsWithSole [tg] e pos.line X.env=pure false:=by rfl)(hw:swappedStores [tg] e X.env=pure none:=by rfl)
  (h1:(assignEach [tg] X.env).map (·.2)=[assign tg X.env]:=by rfl):PS X (.Assign [tg] e pos) (Iw te g):=by
 intro pr s σ H D I h;refine wpAny_Assign_stores (Kh (he pr s σ H _ I h) fun v s1 ⟨x,H1,I1,r1,q1⟩=>?_) hs hw;rw[h1];exact Kh (hg pr s1 σ H1 x v _ I1 r1 q1) fun _ s2 q=>q
theorem rQ{pos':Pos}(hN:X.N.Nodup)(hi:X.N[i]?=some x)(hx:Loc X.env.scope x)(he:PE X e te)(hs:swapsWith e (some (.Name x pos')) pos.line X.env=pure false:=by rfl)(hf:X.fn x=true\/X.env.scope.names.lookup x=some .local:=by first|exact .inl rfl|exact .inr rfl|assumption):
  PS X (.Assign [.Name x pos'] e pos) (Iw te (C1 i)):=by
 intro pr s σ H D I h;refine wpAny_Assign_Name (Kh (he pr s σ H _ I h) fun v s1 ⟨y,H1,I1,r1,q1⟩=>?_) hs;exact ka I1 hN hi hx r1 (fun s2 I2=>⟨_,H1,I2,q1⟩) hf
end
variable{tb:TS}{body:List Stmt}
section
variable{pos:Pos}
noncomputable def C4(c:TT)(tb:TS):TS:=fun D σ H=>∃W:Nat->St->Hp->Prop,(∃m,W m σ H)/\∀m σ H,W m σ H->
 c σ H fun b H1=>if b=true then ∃N:St->Hp->Prop,(∀σ' H',N σ' H'->∃m',m'<m/\W m' σ' H')/\tb {D with nx:=N,ct:=N,bk:=D.nx} σ H1 else D.nx σ H1
theorem vZ(hp:PassesOwn (model X.prog X.w) X.A X.env X.xe)(hc:PT X c tc)(hb:PSs X body tb):PS X (.While c body [] pos) (C4 tc tb):=by
 intro pr s σ H D I h;obtain⟨W,⟨m0,w0⟩,turn⟩:=h;refine wpAny_While (codeAny_whileLoop (fun n s'=>∃σ' H',Inv X pr σ' H' s'/\W n σ' H') ?_ m0 ⟨σ,H,I,w0⟩);rintro n s1 ⟨σ1,H1,I1,w1⟩;refine WX hp (Kh (hc pr s1 σ1 H1 _ I1 (turn n σ1 H1 w1)) fun b s2 Kk=>?_);obtain⟨H2,I2,q2⟩:=Kk;cases b with
 |true=>
  obtain⟨N,hN,q2⟩:=q2;rw[U2 rfl];refine WX hp (Kh (hb pr s2 σ1 H2 _ I2 q2) fun f s3 q3=>?_);cases f with
  |next=>
   obtain⟨σ3,H3,I3,n3⟩:=q3;obtain⟨m',hm,w3⟩:=hN σ3 H3 n3;exact⟨m',hm,σ3,H3,I3,w3⟩
  |cont=>
   obtain⟨σ3,H3,I3,n3⟩:=q3;obtain⟨m',hm,w3⟩:=hN σ3 H3 n3;exact⟨m',hm,σ3,H3,I3,w3⟩
  |brk=>exact q3
  |ret v=>exact q3
 |false=>
  rw[U6 UY];exact Xz ⟨σ1,H2,I2,q2⟩
end
structure It where
 go:Nat->Hp->Prop
 yld:Nat->Hp->V->Hp->Prop
 stop:Nat->Hp->Prop
def qA(X:Cx)(pr:List (Addr×Obj))(H:Hp)(b:Addr):Prop:=
 H b=none/\b≠X.env.locals/\b∉X.fs/\(b∈X.ex\/X.s₀.heap.objs.size<=b)/\(∀x c,X.env.cells.lookup x=some c->c≠b)/\∀p∈X.pn++pr,p.1≠b
theorem Inv.fpOk(I:Inv X pr σ H s)(hb:s.heap.objs.size<=b)(hn:H' b=none):qA X pr H' b:=by
 refine⟨hn,Z3 (Vb I.lt hb),I.nofs hb,.inr (Vo I.sz hb),fun x c e z=>?_,fun p hp z=>?_⟩
 ·obtain⟨v,q⟩:=I.cell x c e;exact absurd (Vb q.lt (by rw[z];exact hb)) (Wv _)
 ·exact absurd (Vb (U8 (I.pin p hp).1) (by rw[z];exact hb)) (Wv _)
structure Turn(P:Program)(w:World)(K:W.Frag)(tg:Expr)(J:It)(fp:List Addr)(it:Addr)(tn:Nat->Heap->Prop):Prop where
 mem:it∈fp
 obj:∀i h,tn i h->∀b∈fp,∃o,h.get? b=some o/\∀v,o.data≠.cell v
 keep:∀i h h',tn i h->(∀b∈fp,∀o,h.get? b=some o->h'.get? b=some o)->tn i h'
 item:∀(X:Cx),X.prog=P->X.w=w->X.K=K->X.calm=true->∀(i:Nat) (pr:List (Addr×Obj)) (s:Shared) (σ:St) (H:Hp) (E:Value->Shared->Prop),Inv X pr σ H s->(∀b∈fp,qA X pr H b)->tn i s.heap->J.go i H->
  wpAny (model P w) X.A (pyNext (.ref it)) (fun r s1=>∃u,r=some u/\
   wpAny (model P w) X.A (letOwnedTupleGo tg (.ref it) u) (fun _ s2=>∃x H',Inv X pr σ H' s2/\RelV x u/\J.yld i H x H'/\tn (i+1) s2.heap/\∀b∈fp,H' b=none) E s1) E s
 done:∀(X:Cx),X.prog=P->X.w=w->X.K=K->X.calm=true->∀(i:Nat) (pr:List (Addr×Obj)) (s:Shared) (σ:St) (H:Hp) (E:Value->Shared->Prop),Inv X pr σ H s->(∀b∈fp,qA X pr H b)->tn i s.heap->J.stop i H->
  wpAny (model P w) X.A (pyNext (.ref it)) (fun r s1=>r=none/\Inv X pr σ H s1) E s
 self:∀(A:Around) (i:Nat) (s:Shared) (Q:Value->Shared->Prop) (E:Value->Shared->Prop),tn i s.heap->Q (.ref it) s->wpAny (model P w) A (pyIter (.ref it)) Q E s
abbrev TI:=St->Hp->(It->Hp->Prop)->Prop
def Sl(X:Cx)(pr:List (Addr×Obj))(σ:St)(tg:Expr)(R:It->Hp->Prop)(RK:Value)(s2:Shared):Prop:=
 ∃(it:Addr) (fp:List Addr) (tn:Nat->Heap->Prop) (J:It) (H':Hp),RK=.ref it/\Inv X pr σ H' s2/\Turn X.prog X.w X.K tg J fp it tn/\tn 0 s2.heap/\(∀b∈fp,qA X pr H' b)/\R J H'
def PI(X:Cx)(tg iter:Expr)(wi:TI):Prop:=
 ∀(pr:List (Addr×Obj)) (s:Shared) (σ:St) (H:Hp) (R:It->Hp->Prop),Inv X pr σ H s->wi σ H R->
  wpAny (model X.prog X.w) X.A (eval iter X.env) (fun v s1=>wpAny (model X.prog X.w) X.A (pyIter v) (Sl X pr σ tg R) X.xe s1) X.xe s
theorem rR {M : Model} {A : Around} {E : Value -> Shared -> Prop} {s : Shared} {tg : Expr} {it : Addr} {u : Value} {o : Obj} {n : String} {vs : Array Value} {Q : Unit -> Shared -> Prop} (ho : s.heap.get? it = some o) (hc : o.cls = .type n) (hd : o.data = .fields vs)
    (hn : ["enumerate", "zip", "dict_itemiterator", "dict_reverseitemiterator", "odict_iterator", "itertools.zip_longest", "itertools.pairwise"].contains n = false) (hQ : Q () s) : wpAny M A (letOwnedTupleGo tg (.ref it) u) Q E s := by
  unfold letOwnedTupleGo
  cases tg <;> first
    | exact U7 hQ
    | (cases u <;> first
        | exact U7 hQ
        | (refine UQ (wpAny_load ho ?_)
           rw [hc, hd]
           show wpAny M A (if (["enumerate", "zip", "dict_itemiterator", "dict_reverseitemiterator", "odict_iterator", "itertools.zip_longest", "itertools.pairwise"].contains n && vs[0]? == some (rawInt _)) = true then _ else _) Q E s
           rw [U6 (by intro h; rw [hn, Xq] at h; cases h)]
           exact U7 hQ))
noncomputable def P1(K:W.Frag)(a:Addr):It:=
 ⟨fun i H=>∃xs x,SqL K H a xs/\xs[i]?=some x,fun i H x H'=>H'=H/\∀xs,SqL K H a xs->xs[i]?=some x,fun i H=>∃xs,SqL K H a xs/\xs.length<=i⟩
noncomputable def Sm(K:W.Frag)(a:Addr):It:=
 ⟨fun i H=>∃xs x,SqT K H a xs/\xs[i]?=some x,fun i H x H'=>H'=H/\∀xs,SqT K H a xs->xs[i]?=some x,fun i H=>∃xs,SqT K H a xs/\xs.length<=i⟩
noncomputable def RL(lo:Int)(n:Nat):It:=⟨fun i _=>i<n,fun i H x H'=>H'=H/\x=.int (lo+i),fun i _=>n<=i⟩
theorem rS(a it:Addr):Turn P w K tg (P1 K a) [it] it (fun i h=>h.IsListIter it a i) where
 mem:=by simp
 obj:=fun i h st b hb=>by
  have e:b=it:=by simpa using hb
  subst e;obtain⟨o,e,c,d⟩:=st;exact⟨o,e,fun v z=>by rw[d]at z;cases z⟩
 keep:=fun i h h' st k=>st.at fun o e=>k it (by simp) o e
 item:=by
  intro X hP hw hK hc i pr s σ H E I hf st hg;subst hP hw hK;obtain⟨xs,x,hq,hx⟩:=hg;obtain⟨JT,rv,p,hz⟩:=I.list hq;obtain⟨u,hu,ru⟩:=rv.get hx;obtain⟨f0,f1,f2,f3,f4,f5⟩:=hf it (by simp);refine wpAny_pyNext_list_item st p.isList (x:=u) (by simpa using hu) fun h' Lm sb=>?_
  have I1:Inv X pr σ H {s with heap:=h'}:=I.turned (t':=s.toks) (fun b o hb e=>(sb.2 b hb).trans e) f0 f1 f3 f4 f5;obtain⟨o,e,c,d⟩:=id Lm;exact⟨u,rfl,rR (s:={s with heap:=h'}) e c d (by decide) ⟨x,H,I1,ru,⟨rfl,fun ys hy=>by rw[I.list_inj hy hq];exact hx⟩,Lm,fun b hb=>(hf b hb).1⟩⟩
 done:=by
  intro X hP hw hK hc i pr s σ H E I hf st hg;subst hP hw hK;obtain⟨xs,hq,hx⟩:=hg;obtain⟨JT,rv,p,hz⟩:=I.list hq;obtain⟨f0,f1,f2,f3,f4,f5⟩:=hf it (by simp);have hl:=rv.length;exact wpAny_pyNext_list_end (I.ok.hd hc) st p.isList (by simp;lia) fun h' eb=>⟨rfl,I.turned (t':=s.toks) (fun b o hb e=>eb b o hb e) f0 f1 f3 f4 f5⟩
 self:=fun _ _ _ _ _ st h=>wpAny_pyIter_listiter st h
theorem qB(a it:Addr):Turn P w K tg (Sm K a) [it] it (fun i h=>h.IsTupleIter it a i) where
 mem:=by simp
 obj:=fun i h st b hb=>by
  have e:b=it:=by simpa using hb
  subst e;obtain⟨o,e,c,d⟩:=st;exact⟨o,e,fun v z=>by rw[d]at z;cases z⟩
 keep:=fun i h h' st k=>st.at fun o e=>k it (by simp) o e
 item:=by
  intro X hP hw hK hc i pr s σ H E I hf st hg;subst hP hw hK;obtain⟨xs,x,hq,hx⟩:=hg;obtain⟨JT,rv,p,hz⟩:=I.tuple hq;obtain⟨u,hu,ru⟩:=rv.get hx;obtain⟨f0,f1,f2,f3,f4,f5⟩:=hf it (by simp);refine wpAny_pyNext_tuple_item st (show s.heap.IsTuple a JT.toArray from p) (x:=u) (by simpa using hu) fun h' Lm sb=>?_
  have I1:Inv X pr σ H {s with heap:=h'}:=I.turned (t':=s.toks) (fun b o hb e=>(sb.2 b hb).trans e) f0 f1 f3 f4 f5;obtain⟨o,e,c,d⟩:=id Lm;exact⟨u,rfl,rR (s:={s with heap:=h'}) e c d (by decide) ⟨x,H,I1,ru,⟨rfl,fun ys hy=>by rw[I.tuple_inj hy hq];exact hx⟩,Lm,fun b hb=>(hf b hb).1⟩⟩
 done:=by
  intro X hP hw hK hc i pr s σ H E I hf st hg;subst hP hw hK;obtain⟨xs,hq,hx⟩:=hg;obtain⟨JT,rv,p,hz⟩:=I.tuple hq;obtain⟨f0,f1,f2,f3,f4,f5⟩:=hf it (by simp);have hl:=rv.length;exact wpAny_pyNext_tuple_end (I.ok.hd hc) st (show s.heap.IsTuple a JT.toArray from p) (by simp;lia) fun h' eb=>⟨rfl,I.turned (t':=s.toks) (fun b o hb e=>eb b o hb e) f0 f1 f3 f4 f5⟩
 self:=fun _ _ _ _ _ st h=>wpAny_pyIter_tupleiter st h
theorem qC(it:Addr)(lo:Int)(n:Nat):Turn P w K tg (RL lo n) [it] it (fun i h=>IsRangeIter h it (lo+(i:Nat)*1) ((n:Int)-(i:Nat)) 1) where
 mem:=by simp
 obj:=fun i h st b hb=>by
  have e:b=it:=by simpa using hb
  subst e;exact⟨_,st,fun v z=>by
   have z':Data.fields _=Data.cell v:=z;cases z'⟩
 keep:=fun i h h' st k=>k it (by simp) _ st
 item:=by
  intro X hP hw hK hc i pr s σ H E I hf st hg;subst hP hw hK;obtain⟨f0,f1,f2,f3,f4,f5⟩:=hf it (by simp);have W:=Walks.range (prog:=X.prog) (w:=X.w) (I.ok.hd hc) it lo 1 n;refine W.item i s _ _ hg st fun v h' tk hv Lm kk=>?_
  obtain⟨t,rfl⟩:=hv;have I1:Inv X pr σ H {s with heap:=h',toks:=tk}:=I.turned (fun b o hb e=>kk b o (by simpa using hb) e) f0 f1 f3 f4 f5;refine⟨_,rfl,rR (s:={s with heap:=h',toks:=tk}) (n:="range_iterator") Lm rfl rfl (by decide) ⟨.int (lo+i),H,I1,⟨t,?_⟩,⟨rfl,rfl⟩,Lm,fun b hb=>(hf b hb).1⟩⟩;rw[Int.mul_one]
 done:=by
  intro X hP hw hK hc i pr s σ H E I hf st hg;subst hP hw hK;obtain⟨f0,f1,f2,f3,f4,f5⟩:=hf it (by simp);exact wpAny_pyNext_range_end (I.ok.hd hc) st (by have:n<=i:=hg;lia) fun h' eb=>⟨rfl,I.turned (t':=s.toks) (fun b o hb e=>eb b o hb e) f0 f1 f3 f4 f5⟩
 self:=fun _ _ _ _ _ st h=>wpAny_pyIter_rangeiter st h
variable{l:Expr}{tl:TE}{fp:List Addr}
section
def GF(K:W.Frag)(tl:TE):TI:=fun σ H R=>tl σ H fun x H1=>∃a,x=.ref a/\(∃xs,SqL K H1 a xs)/\R (P1 K a) H1
def Jd(K:W.Frag)(tl:TE):TI:=fun σ H R=>tl σ H fun x H1=>∃a,x=.ref a/\(∃xs,SqT K H1 a xs)/\R (Sm K a) H1
theorem rT(hl:PE X l tl):PI X tg l (GF X.K tl):=by
 intro pr s σ H R I h;refine Kh (hl pr s σ H _ I h) fun v s1 Kk=>?_
 obtain⟨x,H1,I1,r1,q1⟩:=Kk;obtain⟨a,e,⟨xs,hq⟩,q⟩:=q1;subst e;cases r1;obtain⟨JT,rv,p,hz⟩:=I1.list hq;refine WY p.isList ?_;refine⟨s1.heap.objs.size,[s1.heap.objs.size],_,_,H1,rfl,I1.kept (t':=s1.toks) fun b o e=>UZ _ e,rS a _,⟨_,Ve _ rfl,rfl,rfl⟩,fun b hb=>?_,q⟩;have e:b=s1.heap.objs.size:=by simpa using hb
 subst e;exact I1.fpOk (U3 _) (I1.hok.fresh (U3 _))
theorem C5(hl:PE X l tl):PI X tg l (Jd X.K tl):=by
 intro pr s σ H R I h;refine Kh (hl pr s σ H _ I h) fun v s1 Kk=>?_
 obtain⟨x,H1,I1,r1,q1⟩:=Kk;obtain⟨a,e,⟨xs,hq⟩,q⟩:=q1;subst e;cases r1;obtain⟨JT,rv,p,hz⟩:=I1.tuple hq;refine WQ (show s1.heap.IsTuple a JT.toArray from p) ?_;refine⟨s1.heap.objs.size,[s1.heap.objs.size],_,_,H1,rfl,I1.kept (t':=s1.toks) fun b o e=>UZ _ e,qB a _,⟨_,Ve _ rfl,rfl,rfl⟩,fun b hb=>?_,q⟩;have e:b=s1.heap.objs.size:=by simpa using hb
 subst e;exact I1.fpOk (U3 _) (I1.hok.fresh (U3 _))
theorem wa{R:It->Hp->Prop}{lo hi:Int}{t u v:Tok}{tk:Nat}(I:Inv X pr σ H s)(h1:-(2 ^ 62)<=lo)(h2:lo<2 ^ 62)(h3:-(2 ^ 62)<=hi)(h4:hi<2 ^ 62)
  (q:R (RL lo (hi-lo).toNat) H):wpAny (model X.prog X.w) X.A (pyIter (.ref s.heap.objs.size)) (Sl X pr σ tg R) E {s with heap:=s.heap.push {cls:=.type "range",data:=.fields #[.int lo t,.int hi u,.int 1 v]},toks:=tk}:=by
 refine wpAny_pyIter_range (IsRange.new ..) (small_one h1 h2 h3 h4) ?_;have I1:Inv X pr σ H {s with heap:=s.heap.push {cls:=.type "range",data:=.fields #[.int lo t,.int hi u,.int 1 v]},toks:=tk}:=I.kept fun b o e=>UZ _ e
 refine⟨(s.heap.push {cls:=.type "range",data:=.fields #[.int lo t,.int hi u,.int 1 v]}).objs.size,[(s.heap.push {cls:=.type "range",data:=.fields #[.int lo t,.int hi u,.int 1 v]}).objs.size],_,_,H,rfl,
  I1.kept (t':=tk) fun b o e=>UZ _ e,qC _ lo (hi-lo).toNat,?_,fun b hb=>?_,q⟩
 ·have e1:lo+((0:Nat):Int)*1=lo:=by simp
  have e2:(((hi-lo).toNat:Nat):Int)-((0:Nat):Int)=Builtin.Range.rangeSize lo hi 1:=by rw[rangeSize_one];split <;> lia
  show IsRangeIter _ _ (lo+((0:Nat):Int)*1) ((((hi-lo).toNat:Nat):Int)-((0:Nat):Int)) 1;rw[e1,e2];exact Ve _ rfl
 ·have e:b=(s.heap.push {cls:=.type "range",data:=.fields #[.int lo t,.int hi u,.int 1 v]}).objs.size:=by simpa using hb
  subst e;exact I1.fpOk (U3 _) (I1.hok.fresh (U3 _))
def GH(ta:TA):TI:=fun σ H R=>ta σ H fun vs H1=>∃j:Int,vs=[.int j]/\-(2 ^ 62)<=j/\j<2 ^ 62/\R (RL 0 j.toNat) H1
theorem rV{a:Expr}{ta:TA}{p pos:Pos}(hg:Gl X "range")(hm:X.mg "range" = none)(ha:PA X [a] ta)(hs:starEach [a] X.env=[(false,eval a X.env)]:=by rfl):PI X tg (.Call (.Name "range" p) [a] [] pos) (GH ta):=by
 intro pr s σ H R I h;refine Call_ (fW I hg hm boot_range (Wc (Kh (ha pos pr s σ H _ I h) fun us s1 ⟨vs,H1,I1,r1,q1⟩=>?_) hs rfl));obtain⟨j,e,q1,q2,q⟩:=q1;subst e;cases r1 with
 |cons r rr=>
  cases rr;obtain⟨t,rfl⟩:=r;exact call_range_1 (wa I1 (by lia) (by lia) q1 q2 (by simpa using q))
noncomputable def Je(wi:TI)(g:TG)(tb:TS):TS:=fun D σ H=>wi σ H fun J H1=>∃W:Nat->Nat->St->Hp->Prop,(∃m,W 0 m σ H1)/\∀i m σ H,W i m σ H->
 (J.stop i H/\D.nx σ H)\/(J.go i H/\∃N:St->Hp->Prop,(∀σ' H',N σ' H'->∃m',m'<m/\W (i+1) m' σ' H')/\∀x H',J.yld i H x H'->g x σ H' fun σ2 H2=>tb {D with nx:=N,ct:=N,bk:=D.nx} σ2 H2)
noncomputable def lD(fp:List Addr)(h:Heap):List (Addr×Obj):=fp.filterMap fun b=>(h.get? b).map fun o=>(b,o)
theorem eB{o:Obj}(hb:b∈fp)(e:h.get? b=some o):(b,o)∈lD fp h:=W7.mpr ⟨b,hb,by rw[e];rfl⟩
theorem rW{p:Addr×Obj}(hp:p∈lD fp h):p.1∈fp/\h.get? p.1=some p.2:=by
 obtain⟨b,hb,e⟩:=W7.mp hp;cases q:h.get? b with
 |none=>rw[q]at e;cases e
 |some o=>
  rw[q]at e;have e':(b,o)=p:=Vq e;subst e';exact⟨hb,q⟩
theorem Inv.pinned(I:Inv X pr σ H s)(hf:∀b∈fp,qA X pr H b)(ho:∀b∈fp,∃o,s.heap.get? b=some o/\∀v,o.data≠.cell v):Inv X (pr++lD fp s.heap) σ H s:=
 I.pins_of fun p hp=>(Vs.mp hp).elim (fun z=>I.pin p (UW _ z)) fun z=>by
  obtain⟨hb,e⟩:=rW z;obtain⟨f0,f1,f2,_⟩:=hf p.1 hb;obtain⟨o,e',d⟩:=ho p.1 hb;rw[e]at e';cases e';exact⟨e,f0,f1,f2,d⟩
theorem Inv.unpinned{pl:List (Addr×Obj)}(I:Inv X (pr++pl) σ H s):Inv X pr σ H s:=I.pins_of fun p hp=>I.pin p (UW _ (UX _ hp))
theorem yn{iter:Expr}{wi:TI}{g:TG}{pos:Pos}(hp:PassesOwn (model X.prog X.w) X.A X.env X.xe)(hc:X.calm=true)(hi:PI X tg iter wi)(hg:PG X tg g)(hb:PSs X body tb)
  (hs:∀x,foldedSetIterable iter X.env x=pure x:=by intro _;rfl):PS X (.For tg iter body [] pos) (Je wi g tb):=by
 intro pr s σ H D I h;refine wpAny_For (Kh (hi pr s σ H _ I h) fun v s1 h1=>Kh h1 fun RK s2 h2=>?_) hs;obtain⟨it,fp,tn,J,H2,e,I2,T,JW,f2,W,⟨m0,w0⟩,turn⟩:=h2;subst e;have L7:∀{H':Hp},(∀b∈fp,H' b=none)->∀b∈fp,qA X pr H' b:=fun hn b hb=>⟨hn b hb,(f2 b hb).2⟩
 refine codeAny_forLoop_any (fun n s'=>∃i σ' H',Inv X pr σ' H' s'/\tn i s'.heap/\(∀b∈fp,H' b=none)/\W i n σ' H') ?_ m0 ⟨0,σ,H2,I2,JW,fun b hb=>(f2 b hb).1,w0⟩;rintro n s3 ⟨i,σ3,H3,I3,Kq,Qq,w3⟩;rcases turn i n σ3 H3 w3 with⟨stop,qn⟩|⟨go,N,hN,step⟩
 ·refine WX hp (Kh (T.done X rfl rfl rfl hc i pr s3 σ3 H3 X.xe I3 (L7 Qq) Kq stop) fun r s4 Kk=>?_);obtain⟨hr,I4⟩:=Kk;subst hr;exact Xz ⟨σ3,H3,I4,qn⟩
 ·refine WX hp (Kh (T.item X rfl rfl rfl hc i pr s3 σ3 H3 X.xe I3 (L7 Qq) Kq go) fun r s4 Kk=>?_);obtain⟨u,hr,h4⟩:=Kk;subst hr;refine WX hp (Kh h4 fun _ s5 Kk=>?_);obtain⟨x,H5,I5,r5,y5,LP,Sn⟩:=Kk;have Sq:=I5.pinned (L7 Sn) (T.obj _ _ LP);refine WX hp (Kh (hg _ s5 σ3 H5 x u _ Sq r5 (step x H5 y5)) fun _ s6 Kk=>?_);obtain⟨σ6,H6,I6,q6⟩:=Kk;refine WX hp (Kh (hb _ s6 σ6 H6 _ I6 q6) fun f s7 q7=>?_);have again:∀{σ7:St}{H7:Hp},Inv X (pr++lD fp s5.heap) σ7 H7 s7->N σ7 H7->∃m,m<n/\∃i σ' H',Inv X pr σ' H' s7/\tn i s7.heap/\(∀b∈fp,H' b=none)/\W i m σ' H':=fun{σ7 H7} I7 n7=>by
   obtain⟨m',hm,w7⟩:=hN σ7 H7 n7;refine⟨m',hm,i+1,σ7,H7,I7.unpinned,T.keep _ _ _ LP fun b hb o e=>(I7.pin (b,o) (UW _ (UW _ (eB hb e)))).1,fun b hb=>?_,w7⟩;obtain⟨o,e,d⟩:=T.obj _ _ LP b hb;exact(I7.pin (b,o) (UW _ (UW _ (eB hb e)))).2.1
  cases f with
  |next=>obtain⟨σ7,H7,I7,n7⟩:=q7;exact again I7 n7
  |cont=>obtain⟨σ7,H7,I7,n7⟩:=q7;exact again I7 n7
  |brk=>obtain⟨σ7,H7,I7,q7⟩:=q7;exact⟨σ7,H7,I7.unpinned,q7⟩
  |ret v=>obtain⟨x7,σ7,H7,I7,r7,q7⟩:=q7;exact⟨x7,σ7,H7,I7.unpinned,r7,q7⟩
end
theorem for_list{g:TG}{D:Ends}(Pv:Nat->St->Hp->Prop)(h0:Pv 0 σ H)(hl:∀i σ H,i<=xs.length->Pv i σ H->SqL K H a xs)
  (hs:∀i x σ H,xs[i]?=some x->Pv i σ H->g x σ H fun σ2 H2=>tb {D with nx:=Pv (i+1),ct:=Pv (i+1),bk:=D.nx} σ2 H2) (hd:∀σ H,Pv xs.length σ H->D.nx σ H):
  ∃W:Nat->Nat->St->Hp->Prop,(∃m,W 0 m σ H)/\∀i m σ H,W i m σ H->
   ((P1 K a).stop i H/\D.nx σ H)\/((P1 K a).go i H/\∃N:St->Hp->Prop,(∀σ' H',N σ' H'->∃m',m'<m/\W (i+1) m' σ' H')/\∀x H',(P1 K a).yld i H x H'->g x σ H' fun σ2 H2=>tb {D with nx:=N,ct:=N,bk:=D.nx} σ2 H2):=by
 refine⟨fun i m σ H=>m=xs.length-i/\i<=xs.length/\Pv i σ H,⟨xs.length,by simp,VJ _,h0⟩,?_⟩;rintro i m σ H ⟨rfl,hi,p⟩;have q:=hl i σ H hi p;by_cases Kw:i<xs.length
 ·refine .inr ⟨⟨xs,xs[i],q,by simp[Kw]⟩,Pv (i+1),fun σ' H' p'=>⟨xs.length-(i+1),by lia,rfl,Kw,p'⟩,fun x H' y=>?_⟩;obtain⟨e,y⟩:=y;subst e;exact hs i x σ _ (y xs q) p
 ·have e:i=xs.length:=by lia
  subst e;exact .inl ⟨⟨xs,q,U3 _⟩,hd σ H p⟩
abbrev R2:=V->V->Hp->VK->Prop
def Kz(X:Cx)(f:Value->Value->Sem Value)(r:R2):Prop:=
 ∀(pr:List (Addr×Obj)) (s:Shared) (σ:St) (H:Hp) (x y:V) (v u:Value) (Q:VK),Inv X pr σ H s->RelV x v->RelV y u->r x y H Q->
  wpAny (model X.prog X.w) X.A (f v u) (EP X pr σ Q) X.xe s
def Sr(X:Cx)(f:Value->Sem Value)(r:V->Hp->VK->Prop):Prop:=
 ∀(pr:List (Addr×Obj)) (s:Shared) (σ:St) (H:Hp) (x:V) (v:Value) (Q:VK),Inv X pr σ H s->RelV x v->r x H Q->
  wpAny (model X.prog X.w) X.A (f v) (EP X pr σ Q) X.xe s
def bL(X:Cx)(f:Value)(r:List V->Hp->VK->Prop):Prop:=
 ∀(pr:List (Addr×Obj)) (s:Shared) (σ:St) (H:Hp) (xs:List V) (us:List Value) (Q:VK),Inv X pr σ H s->Vals xs us->r xs H Q->
  wpAny (model X.prog X.w) X.A (call f us) (EP X pr σ Q) X.xe s
noncomputable def P4(r:R2)(ta tb:TE):TE:=fun σ H Q=>ta σ H fun x H1=>tb σ H1 fun y H2=>r x y H2 Q
noncomputable def tUn(r:V->Hp->VK->Prop)(ta:TE):TE:=fun σ H Q=>ta σ H fun x H1=>r x H1 Q
noncomputable def rI(C:Int->Int->Prop)(g:Int->Int->V):R2:=fun x y H Q=>∃i j,x=.int i/\y=.int j/\C i j/\Q (g i j) H
noncomputable def Ou(g:Int->Int->V):R2:=fun x y H Q=>∃i j,x=.int i/\y=.int j/\Q (g i j) H
noncomputable def rU(g:Int->V):V->Hp->VK->Prop:=fun x H Q=>∃i,x=.int i/\Q (g i) H
variable{g:Int->Int->Int}{f:Value->Value->Sem Value}{r:R2}
section
variable{a b:Expr}{tb tc:TE}{pos:Pos}
theorem GI(ha:PE X a ta)(hb:PE X b tb){R:V->V->Hp->Prop}(I:Inv X pr σ H s)
  (h:ta σ H fun x H1=>tb σ H1 fun y H2=>R x y H2) 
  (hf:∀v u s2 x y H2,Inv X pr σ H2 s2->RelV x v->RelV y u->R x y H2->wpAny (model X.prog X.w) X.A (f v u) Q X.xe s2):
  wpAny (model X.prog X.w) X.A (eval a X.env) (fun v s₁=>wpAny (model X.prog X.w) X.A (eval b X.env) (fun u s₂=>wpAny (model X.prog X.w) X.A (f v u) Q X.xe s₂) X.xe s₁) X.xe s:=by
 refine Kh (ha pr s σ H _ I h) fun v s1 Kk=>?_
 obtain⟨x,H1,I1,r1,q1⟩:=Kk;refine Kh (hb pr s1 σ H1 _ I1 q1) fun u s2 Kk=>?_
 obtain⟨y,H2,I2,r2,q2⟩:=Kk;exact hf v u s2 x y H2 I2 r1 r2 q2
theorem zN{op:Operator}(ho:Kz X (binaryOp op) r)(ha:PE X a ta)(hb:PE X b tb):PE X (.BinOp a op b pos) (P4 r ta tb):=by
 intro pr s σ H Q I h;exact wpAny_BinOp (GI ha hb I h fun v u s2 x y H2 I2 rx ry q=>ho pr s2 σ H2 x y v u Q I2 rx ry q)
theorem GJ{op:UnaryOp}{r:V->Hp->VK->Prop}(ho:Sr X (unaryOp op) r)(ha:PE X a ta):PE X (.UnaryOp op a pos) (tUn r ta):=by
 intro pr s σ H Q I h;exact UnaryOp_ (Kh (ha pr s σ H _ I h) fun v s1 ⟨x,H1,I1,r1,q1⟩=>ho pr s1 σ H1 x v Q I1 r1 q1)
theorem RM{f:Value->Value->Sem Value}{C:Int->Int->Prop}
  (rule:∀(i j:Int) (t u:Tok) (s:Shared) (Q:Value->Shared->Prop) (E:Value->Shared->Prop),C i j->Q (.int (g i j) s.toks) {s with toks:=s.toks+1}->wpAny (model X.prog X.w) X.A (f (.int i t) (.int j u)) Q E s):
  Kz X f (rI C fun i j=>.int (g i j)):=by
 intro pr s σ H x y v u Q I rx ry h;obtain⟨i,j,rfl,rfl,hc,q⟩:=h;obtain⟨t,rfl⟩:=rx;obtain⟨t',rfl⟩:=ry;exact rule i j t t' s _ _ hc ⟨.int (g i j),H,I.tok _,⟨_,rfl⟩,q⟩
theorem Iy{f:Value->Value->Sem Value}
  (rule:∀(i j:Int) (t u:Tok) (s:Shared) (Q:Value->Shared->Prop) (E:Value->Shared->Prop),Q (.int (g i j) s.toks) {s with toks:=s.toks+1}->wpAny (model X.prog X.w) X.A (f (.int i t) (.int j u)) Q E s):
  Kz X f (Ou fun i j=>.int (g i j)):=by
 intro pr s σ H x y v u Q I rx ry h;obtain⟨i,j,rfl,rfl,q⟩:=h;obtain⟨t,rfl⟩:=rx;obtain⟨t',rfl⟩:=ry;exact rule i j t t' s _ _ ⟨.int (g i j),H,I.tok _,⟨_,rfl⟩,q⟩
theorem Gi{g:Int->Int->Bool}
  (rule:∀(i j:Int) (t u:Tok) (s:Shared) (Q:Value->Shared->Prop) (E:Value->Shared->Prop),Q (.bool (g i j)) s->wpAny (model X.prog X.w) X.A (f (.int i t) (.int j u)) Q E s):
  Kz X f (Ou fun i j=>.bl (g i j)):=by
 intro pr s σ H x y v u Q I rx ry h;obtain⟨i,j,rfl,rfl,q⟩:=h;obtain⟨t,rfl⟩:=rx;obtain⟨t',rfl⟩:=ry;exact rule i j t t' s _ _ ⟨.bl (g i j),H,I,rfl,q⟩
def Jf(i j:Int):Prop:=0<j/\j<1073741824
def Jg(i j:Int):Prop:=0<=j/\j<=1000000/\i.natAbs<2 ^ 64
def CMul(i j:Int):Prop:=(-(2 ^ 64)<i/\i<2 ^ 64)\/(-(2 ^ 64)<j/\j<2 ^ 64)
theorem CMul.ok{i j:Int}(h:CMul i j):IntMulOk i j:=by
 rcases h with⟨h1,h2⟩|⟨h1,h2⟩
 ·exact .of_left (intBits_le_64 h1 h2)
 ·exact .of_right (intBits_le_64 h1 h2)
theorem C6:Kz X (binaryOp .Add) (Ou fun i j=>.int (i+j)):=Iy fun _ _ _ _ _ _ _ q=>add_int q
theorem C7:Kz X (binaryOp .Sub) (Ou fun i j=>.int (i-j)):=Iy fun _ _ _ _ _ _ _ q=>sub_int q
theorem C8:Kz X (binaryOp .Mult) (rI CMul fun i j=>.int (i*j)):=RM fun _ _ _ _ _ _ _ hc q=>mul_int q hc.ok
theorem zO:Kz X (binaryOp .FloorDiv) (rI Jf fun i j=>.int (i / j)):=RM fun i j _ _ _ _ _ hc q=>by
 have h1:(0:Int)<j:=hc.1;have h2:j<1073741824:=hc.2;exact floordiv_int (by lia) (by rw[Int.fdiv_eq_ediv_of_nonneg i (by lia)];exact q) (.inl (PyProof.noPylong_small (by lia)))
theorem C9:Kz X (binaryOp .Mod) (rI (fun _ j=>0<j) fun i j=>.int (i%j)):=RM fun i j _ _ _ _ _ hc q=>by
 have h1:(0:Int)<j:=hc;exact mod_int' (by lia) (by rw[Int.fmod_eq_emod_of_nonneg i (by lia)];exact q)
theorem Dc:Kz X (binaryOp .Pow) (rI Jg fun i j=>.int (i ^ j.toNat)):=RM fun _ _ _ _ _ _ _ hc q=>pow_int_small hc.1 hc.2.1 hc.2.2 q
theorem unI{f:Value->Sem Value}{g:Int->Int}
  (rule:∀(i:Int) (t:Tok) (s:Shared) (Q:Value->Shared->Prop) (E:Value->Shared->Prop),Q (.int (g i) s.toks) {s with toks:=s.toks+1}->wpAny (model X.prog X.w) X.A (f (.int i t)) Q E s):
  Sr X f (rU fun i=>.int (g i)):=by
 intro pr s σ H x v Q I rx h;obtain⟨i,rfl,q⟩:=h;obtain⟨t,rfl⟩:=rx;exact rule i t s _ _ ⟨.int (g i),H,I.tok _,⟨_,rfl⟩,q⟩
theorem De:Sr X (unaryOp .USub) (rU fun i=>.int (-i)):=unI fun _ _ _ _ _ q=>neg_int q
end
variable{us:List Value}
section
variable{a b:Expr}{tb tc:TE}{pos:Pos}
theorem oV{Q:VK}{k k':Bool}(I:Inv X pr σ H s)(q:Q (.bl k) H)(e:k=k'):EP X pr σ Q (.bool k') s:=by
 subst e;exact⟨.bl k,H,I,rfl,q⟩
theorem GK:Kz X (compareOp .Lt) (Ou fun i j=>.bl (decide (i<j))):=Gi fun _ _ _ _ _ _ _ q=>lt_int q
theorem GL:Kz X (compareOp .LtE) (Ou fun i j=>.bl (decide (i<=j))):=Gi fun _ _ _ _ _ _ _ q=>le_int q
theorem GN:Kz X (compareOp .Gt) (Ou fun i j=>.bl (decide (j<i))):=Gi fun _ _ _ _ _ _ _ q=>gt_int q
theorem GO:Kz X (compareOp .GtE) (Ou fun i j=>.bl (decide (j<=i))):=Gi fun _ _ _ _ _ _ _ q=>ge_int q
theorem rX:Kz X (compareOp .Lt) (fun x y H Q=>∃i j,x=.str i/\y=.str j/\Q (.bl (decide (i.cps.toList<j.cps.toList))) H):=by
 intro pr s σ H x y v u Q I rx ry h;obtain⟨i,j,rfl,rfl,q⟩:=h;obtain⟨t,rfl⟩:=rx;obtain⟨t',rfl⟩:=ry;exact lt_str (oV I q rfl)
theorem rY:Kz X (compareOp .In) (fun x y H Q=>∃i j,x=.str i/\y=.str j/\Q (.bl (!(Builtin.Str.occurrences j i 0 j.length 1).isEmpty)) H):=by
 intro pr s σ H x y v u Q I rx ry h;obtain⟨i,j,rfl,rfl,q⟩:=h;obtain⟨t,rfl⟩:=rx;obtain⟨t',rfl⟩:=ry;exact in_str (oV I q rfl)
theorem lE:Kz X (compareOp .NotIn) (fun x y H Q=>∃i j,x=.str i/\y=.str j/\Q (.bl (!(!(Builtin.Str.occurrences j i 0 j.length 1).isEmpty))) H):=by
 intro pr s σ H x y v u Q I rx ry h;obtain⟨i,j,rfl,rfl,q⟩:=h;obtain⟨t,rfl⟩:=rx;obtain⟨t',rfl⟩:=ry;exact notIn_str (oV I q rfl)
theorem fe(b:Expr){op:CmpOp}(h:op≠.In:=by decide)(h2:op≠.NotIn:=by decide):behindInMarks op b=false:=by
 have e1:(op==CmpOp.In)=false:=by cases op <;> first|rfl|exact absurd rfl h
 have e2:(op==CmpOp.NotIn)=false:=by cases op <;> first|rfl|exact absurd rfl h2
 cases b <;> simp[behindInMarks,e1,e2]
theorem rZ{op:CmpOp}(ho:Kz X (compareOp op) r)(ha:PE X a ta)(hb:PE X b tb)(hm:behindInMarks op b=false):PE X (.Compare a [op] [b] pos) (P4 r ta tb):=by
 intro pr s σ H Q I h;exact wpAny_Compare1 (GI ha hb I h fun v u s2 x y H2 I2 rx ry q=>ho pr s2 σ H2 x y v u Q I2 rx ry q) hm
noncomputable def GP(t:TE):TT:=fun σ H Q=>t σ H fun x H'=>∃k,x=.bl k/\Q k H'
theorem r6{op:CmpOp}(ho:Kz X (compareOp op) r)(ha:PE X a ta)(hb:PE X b tb)(hm:behindInMarks op b=false):PT X (.Compare a [op] [b] pos) (GP (P4 r ta tb)):=by
 intro pr s σ H Q I h;refine wpAny_isTrue_Compare1 (Kh (ha pr s σ H _ I h) fun v s1 ⟨x,H1,I1,r1,q1⟩=>Kh (hb pr s1 σ H1 _ I1 q1) fun u s2 ⟨y,H2,I2,r2,q2⟩=>
  Kh (ho pr s2 σ H2 x y v u _ I2 r1 r2 q2) fun c s3 ⟨z,H3,I3,r3,k,e,q3⟩=>?_) hm
 subst e;cases r3;exact Xj ⟨H3,I3,q3⟩
theorem lF:(sizeLine:Nat)<2 ^ 63:=by rw[Wn];decide
theorem jL:Kz X (binaryOp .Add) (fun x y H Q=>∃i j,x=.str i/\y=.str j/\i.length+j.length<=sizeLine/\Q (.str (i++j)) H):=by
 intro pr s σ H x y v u Q I rx ry h;obtain⟨i,j,rfl,rfl,hz,q⟩:=h;obtain⟨t,rfl⟩:=rx;obtain⟨t',rfl⟩:=ry;exact add_str (fun t' tk=>⟨.str (i++j),H,I.tok _,⟨_,rfl⟩,q⟩) hz
theorem cO{x:V}(r:Vals [x] us):∃u,us=[u]/\RelV x u:=by
 cases r with
 |cons r1 r2=>cases r2;exact⟨_,rfl,r1⟩
theorem nM{x y:V}(r:Vals [x,y] us):∃u w',us=[u,w']/\RelV x u/\RelV y w':=by
 cases r with
 |cons r1 r2=>
  cases r2 with
  |cons r3 r4=>cases r4;exact⟨_,_,rfl,r1,r3⟩
theorem r9(hc:X.calm=true):bL X (.builtin "min") (fun xs H Q=>∃i j,xs=[.int i,.int j]/\Q (.int (if j<i then j else i)) H):=by
 intro pr s σ H xs us Q I r h;obtain⟨i,j,rfl,q⟩:=h;obtain⟨u,w',rfl,⟨t,rfl⟩,⟨t',rfl⟩⟩:=nM r;refine min_two_ints (I.ok.hd hc) fun h' tk k=>⟨_,H,I.kept k,?_,q⟩
 by_cases hj:j<i
 ·rw[U2 hj,U2 hj];exact⟨_,rfl⟩
 ·rw[U6 hj,U6 hj];exact⟨_,rfl⟩
end
variable{C:Addr}{name:Str}
section
variable{prog:Program}{x dx f:Addr}{mA:Str->Option Value}{v:Value}
end
theorem RelO.some_of{o:Option Value}(r:RelO (some v) o):∃u,o=some u/\RelV v u:=by
 cases o with
 |none=>exact(show False from r).elim
 |some u=>exact⟨u,rfl,r⟩
theorem RelO.none_of{o:Option Value}(r:RelO none o):o=none:=by
 cases o with
 |none=>rfl
 |some u=>exact(show False from r).elim
section
variable{dx:Addr}{fs fs':List (Str×V)}
end
structure Cls(K:W.Frag)(C:Addr):Prop where
 pg:PySem.W.plainGet K C Str.empty=true
 hd:PySem.W.hasDictIn K C=true
 po:PySem.W.plainOver K C=true
 sa:PySem.W.findIn K (.ref C) "__setattr__" = some (some (.builtin "object.__setattr__"))
theorem Cls.get(c:Cls K C)(f:Str):PySem.W.plainGet K C f=true:=c.pg
section
variable{dx:Addr}{fs:List (Str×V)}{f:Str}
end
section
variable{o value:Expr}{f:Str}{pos pos' LG:Pos}{tv:TE}
end
section
variable{c:Value}{b:Bool}
end
structure Room(k:Nat)(A:Around):Prop where
 hd:A.handled=none
 dp:A.depth+3*k+5<recursionLimit
 un:A.units+16*k+200<cLine
theorem Room.mono{j k:Nat}(r:Room k A)(h:j<=k):Room j A:=⟨r.hd,by have:=r.dp;lia,by have:=r.un;lia⟩
theorem Room.m{j k:Nat}(r:Room k A)(h:j<=k:=by decide):Room j A:=r.mono h
theorem Room.deeper{k:Nat}{A:Around}(r:Room (k+1) A)(env:Env):Room k (A.deeper env):=
 ⟨r.hd,by have:=r.dp;show A.depth+1+3*k+5<_;lia,by have:=r.un;show A.units+3+16*k+200<_;lia⟩
theorem Room.depth{k:Nat}{A:Around}(r:Room k A):A.depth<recursionLimit:=by have:=r.dp;lia
theorem Room.units{k:Nat}{A:Around}(r:Room k A):A.units+64<cLine:=by have:=r.un;lia
theorem Room.units0{k:Nat}(r:Room k A):A.units<cLine:=by have:=r.un;lia
noncomputable def Gj:TA:=fun _ H Q=>Q [] H
noncomputable def wb(ta:TE)(tr:TA):TA:=fun σ H Q=>ta σ H fun x H1=>tr σ H1 fun xs H2=>Q (x::xs) H2
section
variable{t:TA}{pos:Pos}
theorem dN:PA X [] Gj:=fun _ _ _ _ H Q I h=>Calls.spliced_nil ⟨[],H,I,.nil,h⟩
theorem a9(ha:PE X e te)(hr:PA X es t)(hs:starEach (e::es) X.env=(false,eval e X.env)::starEach es X.env:=by rfl):PA X (e::es) (wb te t):=by
 intro pos pr s σ H Q I h;rw[hs];show wpAny _ _ (spliced ((false,eval e X.env)::backTo pos (starEach es X.env))) _ _ s;refine Calls.spliced_cons (Kh (ha pr s σ H _ I h) fun u s1 Kk=>?_);obtain⟨x,H1,I1,r1,q1⟩:=Kk;exact Kh (hr pos pr s1 σ H1 _ I1 q1) fun us s2 ⟨xs,H2,I2,r2,q2⟩=>⟨x::xs,H2,I2,.cons r1 r2,q2⟩
def Jh(t:TA):TE:=fun σ H Q=>t σ H fun xs H1=>xs.length<=sizeLine/\∀p,H1 p=none->Q (.ref p) (upd H1 p (.tup xs))
def Ji(t:TA):TE:=fun σ H Q=>t σ H fun xs H1=>xs.length<=sizeLine/\∀p,H1 p=none->Q (.ref p) (upd H1 p (.lst xs))
theorem sd{x1}(h:PA X es t):PE X (.Tuple es x1 pos) (Jh t):=by
 intro pr s σ H Q I hq;refine wpAny_Tuple_spliced (Kh (h pos pr s σ H _ I hq) fun us s1 ⟨xs,H1,I1,r,z,q⟩=>⟨by rw[<-r.length];exact z,?_⟩);have hf:H1 s1.heap.objs.size=none:=I1.hok.fresh (U3 _);refine⟨.ref s1.heap.objs.size,upd H1 s1.heap.objs.size (.tup xs),I1.laid (t':=s1.toks) (fun b u e=>UZ _ e) (U3 _) ?_,rfl,q _ hf⟩;exact⟨z,us,r,⟨_,Ve _ rfl,rfl,⟨_,rfl⟩,rfl⟩⟩
theorem Dg(h:PA X es t):PE X (.List es pos) (Ji t):=by
 intro pr s σ H Q I hq;refine wpAny_List_spliced (Kh (h pos pr s σ H _ I hq) fun us s1 ⟨xs,H1,I1,r,z,q⟩=>⟨by rw[<-r.length];exact z,?_⟩);have hf:H1 s1.heap.objs.size=none:=I1.hok.fresh (U3 _);refine⟨.ref s1.heap.objs.size,upd H1 s1.heap.objs.size (.lst xs),I1.laid (t':=s1.toks) (fun b u e=>UZ _ e) (U3 _) ?_,rfl,q _ hf⟩;exact⟨z,us,0,r,Ve _ rfl⟩
end
abbrev Sp:=List V->Hp->VK->XK->Prop
abbrev MB:=List Env->Hp->Shared->XK->Value->Shared->Prop
structure Env0(P:Program)(w:World)(K:W.Frag)(mg:Str->Option Value)(base:Heap)(A:Around)(outer:List Env)(s:Shared)(H:Hp):Prop where
 frames:A.frames=some outer
 mod:Mod K mg base
 bs:∀b o,base.get? b=some o->s.heap.get? b=some o/\H b=none
 bsz:base.objs.size<=s.heap.objs.size
 funs:s.heap.FunFrames base outer
 frf:∀b∈Kv outer,H b=none
 hok:HOk P w H s.heap
 bare:AllBare s.gens
def CE(outer:List Env)(P:Program)(w:World)(H:Hp)(s:Shared)(Q:VK)(u:Value)(s':Shared):Prop:=
 ∃v H',s'.os=s.os/\AllBare s'.gens/\Un (Kv outer) [] H H' s.heap s'.heap/\HOk P w H' s'.heap/\RelV v u/\Q v H'
def CR(CX:MB)(outer:List Env)(P:Program)(w:World)(H:Hp)(s:Shared)(Q:VK)(E:XK)(r:Result)(s':Shared):Prop:=
 match r with
 | .ok (.ret u)=>CE outer P w H s Q u s'
 | .ok _=>False
 | .error e=>CX outer H s E e s'
structure FnOk(P:Program)(w:World)(K:W.Frag)(mg:Str->Option Value)(base:Heap)(CX:MB)(k:Nat)(f:Addr)(fd:FuncData)(ps:List Str)(sp:Sp):Prop where
 len:∀vs H Q E,sp vs H Q E->vs.length=ps.length
 run:∀(A:Around) (outer:List Env) (s:Shared) (H:Hp) (args:Args) (us:List Value) (vs:List V) (Q:VK) (E:XK),Room k A->Env0 P w K mg base A outer s H->BindsTo s fd args (ps.zip us)->Vals vs us->sp vs H Q E->
  codeAny (model P w) A (.call (.ref f) args) (CR CX outer P w H s Q E) s
variable{mg:Str->Option Value}{base:Heap}{CX:MB}{fd:FuncData}{ps:List Str}{sp:Sp}
theorem FnOk.imp{k:Nat}{f:Addr}{TM:Sp}(F:FnOk P w K mg base CX k f fd ps sp)
  (h:∀vs H Q E,TM vs H Q E->sp vs H Q E):FnOk P w K mg base CX k f fd ps TM:=
 ⟨fun vs H Q E q=>F.len vs H Q E (h _ _ _ _ q),fun A outer s H args us vs Q E hr he hb hv hs=>F.run A outer s H args us vs Q E hr he hb hv (h _ _ _ _ hs)⟩
section
theorem Inv.env0(I:Inv X pr σ H s):Env0 X.prog X.w X.K X.mg X.base X.A X.stack s H:=
 ⟨I.ok.frames,I.ok.mod,I.bs,Vo I.ok.bsz I.sz,I.stack,I.stkFree,I.hok,I.bare⟩
theorem Inv.after{Q:VK}(I:Inv X pr σ H s)(h:CE X.stack X.prog X.w H s Q u s'):EP X pr σ Q u s':=by
 obtain⟨v,H',os,bare,un,hok,r,q⟩:=h;obtain⟨hh,g,d,t,TN⟩:=s';obtain rfl:TN=s.os:=os;exact⟨v,H',I.call (h':=hh) (g':=g) (d':=d) (t':=t) (ch:=[]) un hok bare (fun b z=>absurd z (by simp)),r,q⟩
end
noncomputable def tCall(sp:Sp)(Ov:List V)(E:XK)(t:TA):TE:=fun σ H Q=>t σ H fun vs H1=>sp (vs++Ov) H1 Q E
def Binds(K:W.Frag)(fd:FuncData)(ps:List Str)(ds:List Value):Prop:=
 ∀(s:Shared) (us:List Value),K.In s.heap->(us++ds).length=ps.length->BindsTo s fd ⟨us,[]⟩ (ps.zip (us++ds))
theorem Binds.all(h:∀us:List Value,us.length=ps.length->bindArgs fd ⟨us,[]⟩=pure (ps.zip us)):Binds K fd ps []:=fun s us _ hl=>by
 rw[Vm]at hl ⊢;exact .of_eq (h us hl)
def se(CX:MB)(X:Cx)(E:XK):Prop:=∀(pr:List (Addr×Obj)) (σ:St) (H:Hp) (s:Shared) (e:Value) (s':Shared),Inv X pr σ H s->CX X.stack H s E e s'->X.xe e s'
variable{p:Pos}{vs:List V}
section
variable{k:Nat}{f:Addr}{Ov:List V}{ds:List Value}{E:XK}{m:Str}{pos apos:Pos}{o:Expr}{t:TA}
theorem Dh{Q:VK}(F:FnOk X.prog X.w X.K X.mg X.base CX k f fd ps sp)(hr:Room k X.A)(hb:Binds X.K fd ps ds)(hd:Vals Ov ds)(hx:se CX X E)
  (I:Inv X pr σ H s) (r:Vals vs us) (h:sp (vs++Ov) H Q E):wpAny (model X.prog X.w) X.A (call (.ref f) us) (EP X pr σ Q) X.xe s:=by
 have r2:Vals (vs++Ov) (us++ds):=r.append hd;have hl:(us++ds).length=ps.length:=by rw[<-r2.length];exact F.len _ _ _ _ h
 refine wpAny_call (YY (F.run X.A X.stack s H ⟨us,[]⟩ (us++ds) (vs++Ov) Q E hr I.env0 (hb s us I.kIn hl) r2 h) fun r s' hq=>?_);cases r with
 |error e=>exact hx pr σ H s e s' I hq
 |ok fl=>
  cases fl with
  |ret u=>exact I.after hq
  |next=>exact False.elim hq
  |brk=>exact False.elim hq
  |cont=>exact False.elim hq
theorem zP(F:FnOk X.prog X.w X.K X.mg X.base CX k f fd ps sp)(hr:Room k X.A)(hg:Gl X x)(hm:X.mg x=some (.ref f))(hk:PySem.W.keepIn X.K (.ref f)=true)(hb:Binds X.K fd ps ds)(hd:Vals Ov ds)(hx:se CX X E)
  (ha:PA X (e::es) t) (KN:(x==("__debug__" : Str))=false:=by decide) (he:starEach (e::es) X.env=(false,eval e X.env)::starEach es X.env:=by rfl) (KA:(backTo pos (starEach es X.env)).any (·.1)=false:=by rfl):
  PE X (.Call (.Name x p) (e::es) [] pos) (tCall sp Ov E t):=by
 intro pr s σ H Q I h;refine Wd (iV I hg hm ?_ KN);refine Zz (h₀:=X.base) I.ok.mod.kin hk (Kh (ha pos pr s σ H _ I h) fun us s1 ⟨vs,H1,I1,r,q⟩=>⟨I1.kIn,?_⟩) he KA;exact Dh F hr hb hd hx I1 r q
structure Mk(K:W.Frag)(C f:Addr):Prop where
 makes:PySem.W.makesIn K C=true
 init:PySem.W.findIn K (.ref C) "__init__" = some (some (.ref f))
 fn:PySem.W.isFn K (.ref f)=true
 kp:PySem.W.keepIn K (.ref C)=true
end
def PK(X:Cx)(Qr:List Keyword)(t:TA):Prop:=
 ∀(pos:Pos) (pr:List (Addr×Obj)) (s:Shared) (σ:St) (H:Hp) (Q:List V->Hp->Prop),Inv X pr σ H s->t σ H Q->wpAny (model X.prog X.w) X.A (evalAll ((backToKw pos (keywordEach Qr X.env)).map (·.2))) (AP X pr σ Q) X.xe s
section
variable{k:Nat}{f:Addr}{ks:List Str}{E:XK}{m:Str}{pos apos MC:Pos}{o:Expr}{Qr:List Keyword}{t tk:TA}{nm:Option Str}
theorem Di:PK X [] Gj:=fun _ _ _ _ H Q I h=>wpAny_evalAll_nil ⟨[],H,I,.nil,h⟩
theorem zQ(ha:PE X e te)(hr:PK X Qr t):PK X (⟨nm,e,MC⟩::Qr) (wb te t):=by
 intro pos pr s σ H Q I h;show wpAny _ _ (evalAll ((do let v <-eval e X.env;standAt pos;pure v)::(backToKw pos (keywordEach Qr X.env)).map (·.2))) _ _ s;refine wpAny_evalAll_cons (UQ (Kh (ha pr s σ H _ I h) fun u s1 ⟨x,H1,I1,r1,q1⟩=>UQ (ZA (U7 ?_))));exact Kh (hr pos pr s1 σ H1 _ I1 q1) fun us s2 ⟨xs,H2,I2,r2,q2⟩=>⟨x::xs,H2,I2,.cons r1 r2,q2⟩
variable{g:List Value->List Value->List Value}{gV:List V->List V->List V}
end
structure FnScope(N P:List Str)(sc:Scope):Prop where
 kind:sc.kind=.function
 co:sc.isCoroutine=false
 gen:sc.isGenerator=false
 nd:N.Nodup
 pre:N.take P.length=P
 par:∀x∈P,sc.names.lookup x=some .local\/sc.names.lookup x=some .cell
 nofree:∀y∈sc.names,y.2≠.free
theorem fs{N P:List Str}(a:sc.kind=.function:=by rfl)(b:sc.isCoroutine=false:=by rfl)(c:sc.isGenerator=false:=by rfl)(d:N.Nodup:=by decide +kernel)(e:N.take P.length=P:=by rfl)(f:∀x∈P,sc.names.lookup x=some .local\/sc.names.lookup x=some .cell:=by decide +kernel)(g:∀y∈sc.names,y.2≠.free:=by decide +kernel):FnScope N P sc:=⟨a,b,c,d,e,f,g⟩
theorem lG{kindOf:Str->Option NameKind}{x:Str}:∀{binds:List (Str×Value)}{m:Str->Option Value},(∀v,(x,v)∉binds)->bindL kindOf binds m x=m x
 |[],_,_=>rfl
 |(n,v)::r,m,h=>by
  unfold bindL;rw[lG fun w hw=>h w (US _ hw)];split
  ·have:x≠n:=by rintro rfl;exact h v UR
   simp[this]
  ·rfl
theorem lH{kindOf:Str->Option NameKind}{x:Str}:∀{binds:List (Str×Value)}{m:Str->Option Value},(∀v,(x,v)∉binds)->bindC kindOf binds m x=m x
 |[],_,_=>rfl
 |(n,v)::r,m,h=>by
  unfold bindC;rw[lH fun w hw=>h w (US _ hw)];split
  ·rfl
  ·have:x≠n:=by rintro rfl;exact h v UR
   simp[this]
theorem lI{kindOf:Str->Option NameKind}{x:Str}{v:Value}:∀{P:List Str}{vs:List Value}{i:Nat}{m:Str->Option Value},P.Nodup->P[i]?=some x->vs[i]?=some v->kindOf x=some .local->
  bindL kindOf (P.zip vs) m x=some v
 |[],_,_,_,_,h,_,_=>by simp at h
 |_::_,[],_,_,_,_,h,_=>by simp at h
 |p::P,w::vs,0,m,nd,h1,h2,hk=>by
  simp at h1 h2;subst h1;subst h2;show bindL kindOf ((p,w)::P.zip vs) m p=_;unfold bindL;rw[lG fun v hv=>(Vt.mp nd).1 (WZ hv).1,U2 hk];simp
 |p::P,w::vs,i+1,m,nd,h1,h2,hk=>by
  show bindL kindOf ((p,w)::P.zip vs) m x=_;unfold bindL;exact lI (i:=i) (Vt.mp nd).2 (by simpa using h1) (by simpa using h2) hk
theorem lJ{kindOf:Str->Option NameKind}{x:Str}{v:Value}:∀{P:List Str}{vs:List Value}{i:Nat}{m:Str->Option Value},P.Nodup->P[i]?=some x->vs[i]?=some v->kindOf x≠some .local->
  bindC kindOf (P.zip vs) m x=some v
 |[],_,_,_,_,h,_,_=>by simp at h
 |_::_,[],_,_,_,_,h,_=>by simp at h
 |p::P,w::vs,0,m,nd,h1,h2,hk=>by
  simp at h1 h2;subst h1;subst h2;show bindC kindOf ((p,w)::P.zip vs) m p=_;unfold bindC;rw[lH fun v hv=>(Vt.mp nd).1 (WZ hv).1,U6 hk];simp
 |p::P,w::vs,i+1,m,nd,h1,h2,hk=>by
  show bindC kindOf ((p,w)::P.zip vs) m x=_;unfold bindC;exact lJ (i:=i) (Vt.mp nd).2 (by simpa using h1) (by simpa using h2) hk
noncomputable def fE(N:List Str)(vs:List V):St:=vs.map some++List.replicate (N.length-vs.length) none
noncomputable def lK(CX:MB)(P:Program)(w:World)(K:W.Frag)(mg:Str->Option Value)(base:Heap)(N:List Str)(qual:Str)(scope:Scope)(f:Addr)(cd:Value)(A:Around)(outer:List Env)(s:Shared)(H:Hp)(E:XK):Cx where
 prog:=P
 w:=w
 K:=K
 mg:=mg
 base:=base
 A:=A.deeper (envOfC qual scope s.heap.objs.size f cd)
 N:=N
 s₀:=s
 H₀:=H
 env:=envOfC qual scope s.heap.objs.size f cd
 outer:=outer
 stack:=envOfC qual scope s.heap.objs.size f cd::outer
 ex:=[]
 calm:=true
 fn:=fun _=>true
 pn:=[]
 xe:=fun e s'=>wpAny (model P w) (A.deeper (envOfC qual scope s.heap.objs.size f cd)) (leaving (envOfC qual scope s.heap.objs.size f cd) e) (fun _ Ss=>CX outer H s E e Ss) (fun e' Ss=>CX outer H s E e' Ss) s'
theorem oW(h:sc.names.lookup x=some .cell):∃c,(cellsFrom n sc.names []).lookup x=some c:=by
 have q:=YO sc.names n [] (.inl h);exact VX.mp q
variable{qual:Str}{scope:Scope}
theorem sf{f:Addr}{cd:Value}{outer:List Env}{s1:Shared}{E:XK}
  (S:FnScope N ps scope) (hd:A.handled=none) (e0:Env0 P w K mg base A outer s H) (hl:vs.length=ps.length) (r:Vals vs us)
  (x:InCallC s s.heap.objs.size (bindL (envOfC qual scope s.heap.objs.size f cd).kindOf (ps.zip us) fun _=>none) (cellsFrom (s.heap.objs.size+1) scope.names []) (bindC (envOfC qual scope s.heap.objs.size f cd).kindOf (ps.zip us) fun _=>none) s1):
  Inv (lK CX P w K mg base N qual scope f cd A outer s H E) [] (fE N vs) H s1:=by
 have KA:ps.length<=N.length:=by have:=Wy List.length S.pre;rw[VB]at this;lia
 obtain⟨h1,tk,rfl,hk⟩:=x.done;have Qs:∀b:Addr,b∉(lK CX P w K mg base N qual scope f cd A outer s H E).ex:=fun b z=>absurd (show b∈([]:List Addr) from z) (by simp)
 refine⟨⟨e0.mod,S.kind,rfl,rfl,U3 _,fun y z c h1 h2=>?_,fun y hy=>?_,fun y c _ h=>?_,fun _=>hd,Around.frames_deeper e0.frames,.inr ⟨rfl,rfl⟩,fun b z=>absurd z (Qs b),e0.bs,e0.bsz,fun b _ _=>Qs b,fun b z=>absurd z (Qs b),e0.funs,e0.frf⟩,
  rfl,e0.bare,Un.kept hk,⟨_,x.toInCall.ns,fun i y v h1 h2 h3=>?_⟩,fun y c h=>⟨_,x.cell y c h⟩,e0.hok.fresh (U3 _),fun y c h=>?_,fun p hp=>absurd (show p∈([]:List (Addr×Obj)) from hp) (by simp),e0.hok.kept hk,?_⟩
 ·exact name_of_addr x.apart (WD h1) (WD h2)
 ·have hy:scope.names.lookup y=some .cell\/scope.names.lookup y=some .free:=hy;rcases hy with hy|hy
  ·exact oW hy
  ·exact absurd rfl (S.nofree _ (WD hy))
 ·exact YW (x.above y c (WD h))
 ·have hi:i<vs.length:=by
   unfold fE at h2;by_cases hi:i<vs.length
   ·exact hi
   ·rw[WH (by simpa using hi)]at h2;rw[List.getElem?_replicate]at h2;split at h2 <;> cases h2
  have ha:vs[i]?=some v:=by
   unfold fE at h2;rw[V5 (by simpa using hi),Vd]at h2;cases e:vs[i]? with
   |none=>rw[e]at h2;cases h2
   |some a=>rw[e]at h2;cases h2;rfl
  obtain⟨u,hu,rv⟩:=r.get ha;have hp:ps[i]?=some y:=by
   rw[<-S.pre,List.getElem?_take_of_lt (by lia)];exact h1
  have TQ:ps.Nodup:=by rw[<-S.pre];exact S.nd.sublist (List.take_sublist _ _)
  refine⟨u,rv,?_⟩;rcases S.par y (Vu hp) with k|k
  ·exact .inl ⟨k,lI TQ hp hu k⟩
  ·obtain⟨c,e⟩:=oW (n:=s.heap.objs.size+1) k;refine .inr ⟨.inl k,c,e,?_⟩;have q:=x.cell y c e;rw[lJ TQ hp hu (by show scope.names.lookup y≠_;rw[k];decide)]at q;exact q
 ·exact e0.hok.fresh (YW (x.above y c (WD h)))
 ·unfold fE;show _=N.length;rw[VD,U1,Xc];lia
theorem Dk{k:Nat}{f:Addr}{params:Arguments}{dV kV doc pm Kc ct oc:Value}{an od:Option Addr}
  {MT:Array (Option Value)}(lk:K.lookup f=some ⟨oc,od,.func (PySem.W.fnOf name qual params body scope dV kV doc pm an Kc ct),MT⟩) (LY:PySem.W.codeIn K Kc qual=true) (S:FnScope N ps scope)
  (len:∀vs H Q E,sp vs H Q E->vs.length=ps.length)
  (LZ:∀(A:Around) (outer:List Env) (s:Shared) (H:Hp) (vs:List V) (Q:VK) (E:XK),Room k (A.deeper (envOfC qual scope s.heap.objs.size f Kc))->sp vs H Q E->
   ∃t,PSs (lK CX P w K mg base N qual scope f Kc A outer s H E) body t/\t {nx:=fun _ H'=>Q .non H',rt:=Q} (fE N vs) H):
  FnOk P w K mg base CX (k+1) f (PySem.W.fnOf name qual params body scope dV kV doc pm an Kc ct) ps sp:=by
 refine⟨len,fun A outer s H args us vs Q E hr e0 hb r Nf=>?_⟩;have hl:=len _ _ _ _ Nf;have KX:K.In s.heap:=e0.mod.kin.keeps fun b o e=>(e0.bs b o e).1
 have lim:s.heap.NoLimit:=e0.mod.nolimit.keeps fun b o e=>(e0.bs b o e).1
 have L0:∀y∈ps.zip us,scope.names.lookup y.1=some .local\/(scope.names.lookup y.1=some .cell/\((cellsFrom (s.heap.objs.size+1) scope.names []).lookup y.1).isSome=true):=fun J2 hy=>by
  obtain⟨n,v⟩:=J2;rcases S.par n (WZ hy).1 with q|q
  ·exact .inl q
  ·exact .inr ⟨q,YO _ _ _ (.inl q)⟩
 refine codeAny_call_function hr.depth (KX _ _ lk) rfl S.co S.gen rfl (PySem.W.codeRec_of KX LY) (hb _ _ _ _ ?_);refine wpAny_newFunctionEnv_cells S.kind L0 fun env he s1 x=>?_
 subst he;refine⟨lim.keeps x.toInCall.keep,codeAny_func ?_⟩;obtain⟨t,ht,hq⟩:=LZ A outer s H vs Q E (hr.deeper _) Nf;have I:Inv (lK CX P w K mg base N qual scope f Kc A outer s H E) [] (fE N vs) H s1:=sf S hr.hd e0 hl r x;refine VN (ht [] s1 (fE N vs) H _ I hq) (fun fl s' hs=>?_) fun e s' hs=>hs
 have fin:∀{σ':St}{H':Hp}{v:V}{u:Value},Inv (lK CX P w K mg base N qual scope f Kc A outer s H E) [] σ' H' s'->RelV v u->Q v H'->CE outer P w H s Q u s':=
  fun{σ' H' v u} J rv q=>⟨v,H',J.os,J.bare,J.base,J.hok,rv,q⟩
 cases fl with
 |ret u=>
  obtain⟨v,σ',H',J,rv,q⟩:=hs;exact fin J rv q
 |next=>
  obtain⟨σ',H',J,q⟩:=hs;exact fin (v:=V.non) (u:=Value.none) J rfl q
 |brk=>
  obtain⟨_,_,_,q⟩:=hs;exact False.elim q
 |cont=>
  obtain⟨_,_,_,q⟩:=hs;exact False.elim q
section
variable{pos:Pos}{t:TA}{id T:String}{r:List V->Hp->VK->Prop}
noncomputable def Su(r:List V->Hp->VK->Prop)(t:TA):TE:=fun σ H Q=>t σ H fun vs H1=>r vs H1 Q
theorem iN(hc:bL X (.builtin id) r)(hg:Gl X x)(hm:X.mg x=none)(hv:bootBuiltins x=some (.builtin id))(ha:PA X (e::es) t)(hn:x≠"__name__":=by decide)(KN:(x==("__debug__" : Str))=false:=by decide)
  (he:starEach (e::es) X.env=(false,eval e X.env)::starEach es X.env:=by rfl) (KA:(backTo pos (starEach es X.env)).any (·.1)=false:=by rfl):PE X (.Call (.Name x p) (e::es) [] pos) (Su r t):=by
 intro pr s σ H Q I h;refine Wd (fW I hg hm hv ?_ hn KN);exact PyProof.Rows.callWith_builtin1 (Kh (ha pos pr s σ H _ I h) fun us s1 ⟨vs,H1,I1,r1,q1⟩=>hc pr s1 σ H1 vs us Q I1 r1 q1) he KA
theorem lM(hc:bL X (.type T) r)(hg:Gl X x)(hm:X.mg x=none)(hv:bootBuiltins x=some (.type T))(ha:PA X (e::es) t)(hn:x≠"__name__":=by decide)(KN:(x==("__debug__" : Str))=false:=by decide)
  (he:starEach (e::es) X.env=(false,eval e X.env)::starEach es X.env:=by rfl) (KA:(backTo pos (starEach es X.env)).any (·.1)=false:=by rfl):PE X (.Call (.Name x p) (e::es) [] pos) (Su r t):=by
 intro pr s σ H Q I h;refine Wd (fW I hg hm hv ?_ hn KN);exact Wc (Kh (ha pos pr s σ H _ I h) fun us s1 ⟨vs,H1,I1,r1,q1⟩=>hc pr s1 σ H1 vs us Q I1 r1 q1) he KA
end
end L2
namespace HT
open PySem PyProof.Rows
section
open PySem.SeqAt
open PySem.AutoSeq1 (wpAny_loadPart')
open PySem.MeetsSeq PySem.MeetsSeq2 PySem.MeetsSeq3
end
section
variable{prog:Program}{w:World}{A:Around}{E:Value->Shared->Prop}{s:Shared}
theorem zR{t b:Addr}{vs ws:List Value}{Q:Value->Shared->Prop}(ht:IsTup s.heap t vs.toArray)(hb:IsTup s.heap b ws.toArray)(hv:vs≠[])
  (h1:ws=[]->Q (.ref t) s) (h2:ws≠[]->Q (.ref s.heap.objs.size) {s with heap:=s.heap.push {cls:=.type "tuple",data:=.seq (vs++ws).toArray}})
  (hsz:vs.length+ws.length<=sizeLine):wpAny (model prog w) A (binaryOp .Add (.ref t) (.ref b)) Q E s:=by
 obtain⟨⟨cls,dd,data,sl⟩,ho,hc,n,hd⟩:=id ht;obtain⟨⟨Qt,P5,data2,P6⟩,Mj,Ng,n2,hd2⟩:=id hb;simp only at hc hd Ng hd2;subst hc hd Ng hd2;have e:vs.toArray++ws.toArray=(vs++ws).toArray:=by simp
 by_cases hw:ws=[]
 ·exact YZ ⟨_,ho,rfl⟩ ⟨_,Mj,rfl⟩ YG ZC XG XA (Xv _ _)
   (tuple_addW1 t b vs.toArray ws.toArray n n2 dd P5 sl P6 (by simpa using hv) (by simp[hw])) ⟨ho,Mj,h1 hw⟩
 ·refine YZ ⟨_,ho,rfl⟩ ⟨_,Mj,rfl⟩ YG ZC XG XA (Xv _ _)
   (tuple_addW2 t b vs.toArray ws.toArray n n2 dd P5 sl P6 (by simpa using hv) (by simpa using hw) (by rw[U9,U9];exact hsz)) ⟨ho,Mj,?_⟩
  rw[e];exact h2 hw
noncomputable def sIx(n d:Nat):Option Int->Nat
 |none=>d
 |some v=>if v<0 then(v+(n:Int)).toNat else min v.toNat n
theorem oX(n d:Nat):sIx n d none=d:=rfl
theorem kc(n d k:Nat):sIx n d (some (k:Int))=min k n:=by
 show(if(k:Int)<0 then((k:Int)+(n:Int)).toNat else min (k:Int).toNat n)=min k n;rw[U6 (by lia),V9]
theorem si(n d:Nat)(hd:d<=n)(o:Option Int):sIx n d o<=n:=by
 cases o with
 |none=>exact hd
 |some v=>
  show(if v<0 then(v+(n:Int)).toNat else min v.toNat n)<=n;by_cases hv:v<0
  ·rw[U2 hv];lia
  ·rw[U6 hv];exact Nat.min_le_right _ _
theorem sj(v:Int)(n d:Nat):(if v<0 then max (v+(n:Int)) 0 else min v (n:Int))=((sIx n d (some v):Nat):Int):=by
 show(if v<0 then max (v+(n:Int)) 0 else min v (n:Int))=(((if v<0 then(v+(n:Int)).toNat else min v.toNat n):Nat):Int)
 by_cases hv:v<0
 ·simp only[U2 hv];lia
 ·simp only[U6 hv];lia
theorem qD(lo hi:Option Int)(n:Nat):Builtin.Slice.sliceAdjust lo hi 1 (n:Int)=(((sIx n 0 lo:Nat):Int),((sIx n n hi:Nat):Int)):=by
 have h1:¬ ((1:Int)<0):=by lia
 unfold Builtin.Slice.sliceAdjust;simp only[h1,Za];refine Prod.ext ?_ ?_
 ·cases lo with
  |none=>rfl
  |some v=>exact sj v n 0
 ·cases hi with
  |none=>rfl
  |some v=>exact sj v n n
theorem qE(i j:Nat):Builtin.Slice.slicePlaces (i:Int) (j:Int) 1=j-i:=by
 unfold Builtin.Slice.slicePlaces;have h1:(1:Int)>0:=by lia
 simp only[h1,Xd,Int.ediv_one];split <;> lia
theorem jM{v:Value}{o:Option Int}{Q:Option Int->Shared->Prop}(p:IsPart v o)(h:Q o s):wpAny (model prog w) A (Builtin.Slice.slicePartIndex v) Q E s:=by
 cases p with
 |none=>exact slicePart_none h
 |int i t=>exact slicePart_int h
theorem dD{sl:Addr}{vl vu:Value}{lo hi:Option Int}{n:Nat}{Q:Int×Int×Nat->Shared->Prop}(hs:s.heap.IsSliceOf sl vl vu .none)(pl:IsPart vl lo)(pu:IsPart vu hi)
  (h:Q (((sIx n 0 lo:Nat):Int),1,sIx n n hi-sIx n 0 lo) s):wpAny (model prog w) A (Builtin.Slice.sliceApplied (.ref sl) (pure (n:Int))) Q E s:=by
 obtain⟨os,MU,RN,Nm⟩:=id hs;unfold Builtin.Slice.sliceApplied Builtin.Slice.sliceFields;refine UQ (UQ (V3 MU Nm (x:=vl) rfl (UQ (V3 MU Nm (x:=vu) rfl (UQ (V3 MU Nm (x:=.none) rfl (U7 ?_)))))));refine UQ (slicePart_none ?_);show wpAny _ _ (if((1:Int)==0)=true then _ else _) _ _ s;rw[U6 (by decide)];refine UQ (jM pl (UQ (jM pu (UQ (U7 ?_)))));show wpAny _ _ (match Builtin.Slice.sliceAdjust lo hi 1 (n:Int) with|(lo,hi)=>pure (lo,(1:Int),Builtin.Slice.slicePlaces lo hi 1)) _ _ s;rw[qD lo hi n];show wpAny _ _ (pure (((sIx n 0 lo:Nat):Int),(1:Int),Builtin.Slice.slicePlaces ((sIx n 0 lo:Nat):Int) ((sIx n n hi:Nat):Int) 1)) _ _ s;rw[qE];exact U7 h
theorem wc(xs:Array Value)(i k:Nat):((List.range k).filterMap fun(m:Nat)=>xs[((i:Int)+(m:Int)*1).toNat]?).toArray=((xs.toList.drop i).take k).toArray:=by
 have e:(fun(m:Nat)=>xs[((i:Int)+(m:Int)*1).toNat]?)=fun m=>xs[i+m]?:=by
  funext m
  have:((i:Int)+(m:Int)*1).toNat=i+m:=by lia
  rw[this]
 rw[e];have:=pick_run xs i k;rw[List.filterMap_map]at this;have e2:((fun x=>xs[x]?)∘fun x=>i+x)=fun m=>xs[i+m]?:=rfl
 rw[e2]at this;rw[this]
theorem gO{t sl:Addr}{items:Array Value}{vl vu:Value}{lo hi:Option Int}{Q:Value->Shared->Prop}(ht:IsTup s.heap t items)(hs:s.heap.IsSliceOf sl vl vu .none)(pl:IsPart vl lo)(pu:IsPart vu hi)
  (hw:¬ (sIx items.size 0 lo=0/\sIx items.size items.size hi=items.size))
  (h:Q (.ref s.heap.objs.size) {s with heap:=s.heap.push {cls:=.type "tuple",data:=.seq ((items.toList.drop (sIx items.size 0 lo)).take (sIx items.size items.size hi-sIx items.size 0 lo)).toArray}})
  (hsz:items.size<=sizeLine):wpAny (model prog w) A (getItem (.ref t) (.ref sl)) Q E s:=by
 have Ml:sizeOk (.seq ((items.toList.drop (sIx items.size 0 lo)).take (sIx items.size items.size hi-sIx items.size 0 lo)).toArray):=by
  show((items.toList.drop (sIx items.size 0 lo)).take (sIx items.size items.size hi-sIx items.size 0 lo)).toArray.size<=sizeLine;rw[U9,VB,Wi,V8];lia
 have hj:sIx items.size items.size hi<=items.size:=si _ _ (U3 _) hi;obtain⟨os,MU,RN,Nm⟩:=id hs;have Sv:s.TypeIs (.ref sl) "slice":=⟨os,MU,RN⟩
 unfold getItem;try with_reducible refine Xk ?_
 first|refine UQ (U7 ?_)|skip
 refine UQ (wpAny_sequenceKey ht.typeIs (by decide) ?_);refine UQ (V2 (name:=Str.ofString "__getitem__") ht.typeIs Wo
  (WJ Wo ht.typeIs entry_tuple_getitem ?_ (args_tuple_getitem _ _)))
 show wpAny _ _ (Builtin.Tuple.tupleItemsOf (.ref t) >>= _) _ _ s;refine UQ (tupleItemsOf_ ht ?_);refine UQ (Xw Sv ?_);rw[U2 (by decide)];refine UQ (dD hs pl pu ?_);have P7:¬ ((((sIx items.size 0 lo:Nat):Int)==0&&(1:Int)==1&&(sIx items.size items.size hi-sIx items.size 0 lo)==items.size)=true):=by
  intro q;rw[U4,U4]at q;have q1:((sIx items.size 0 lo:Nat):Int)=0:=eq_of_beq q.1.1;have q2:sIx items.size items.size hi-sIx items.size 0 lo=items.size:=eq_of_beq q.2;exact hw ⟨by lia,by lia⟩
 show wpAny _ _ (if(((sIx items.size 0 lo:Nat):Int)==0&&(1:Int)==1&&(sIx items.size items.size hi-sIx items.size 0 lo)==items.size)=true then _ else _) _ _ s;rw[U6 P7,wc];first
  |exact UQ (m:=Builtin.Tuple.tupleExact _) (Wq (U7 ⟨_,rfl,U7 h⟩) Ml)
  |exact UQ (m:=Builtin.Tuple.tupleExact _) (Wq (UQ (U7 (U7 ⟨_,rfl,U7 h⟩))) Ml)
  |exact UQ (UQ (m:=Builtin.Tuple.tupleExact _) (Wq (U7 (U7 ⟨_,rfl,U7 h⟩)) Ml))
  |exact UQ (UQ (m:=Builtin.Tuple.tupleExact _) (Wq (U7 ⟨_,rfl,U7 h⟩) Ml))
end
end HT
namespace L2
open PySem PySem.Spec PyProof.Rows
abbrev TO:=St->Hp->(Option Int->Hp->Prop)->Prop
def PO(X:Cx)(e:Option Expr)(t:TO):Prop:=
 ∀(pr:List (Addr×Obj)) (s:Shared) (σ:St) (H:Hp) (Q:Option Int->Hp->Prop),Inv X pr σ H s->t σ H Q->
  wpAny (model X.prog X.w) X.A (evalPart e X.env) (fun u s'=>∃o H',Inv X pr σ H' s'/\IsPart u o/\Q o H') X.xe s
noncomputable def zS:TO:=fun _ H Q=>Q none H
noncomputable def GQ(t:TE):TO:=fun σ H Q=>t σ H fun x H1=>∃i,x=.int i/\Q (some i) H1
variable{X:Cx}{xs:List V}
section
variable{e:Expr}{te:TE}{lo hi:Option Expr}{tl th:TO}{pos p2:Pos}
theorem zT:PO X none zS:=by
 intro pr s σ H Q I h;rw[evalPart_none];exact U7 ⟨none,H,I,.none,h⟩
theorem zU(h:PE X e te):PO X (some e) (GQ te):=by
 intro pr s σ H Q I hw;rw[evalPart_some];refine Kh (h pr s σ H _ I hw) fun u s1 Kk=>?_
 obtain⟨x,H1,I1,r1,q1⟩:=Kk;obtain⟨i,rfl,q⟩:=q1;obtain⟨t,rfl⟩:=r1;exact⟨some i,H1,I1,.int i t,q⟩
def OR(X:Cx)(r:V->Option Int->Option Int->Hp->VK->Prop):Prop:=
 ∀(pr:List (Addr×Obj)) (s:Shared) (σ:St) (H:Hp) (x:V) (v vl vu:Value) (lo hi:Option Int) (sl:Addr) (Q:VK),Inv X pr σ H s->RelV x v->s.heap.IsSliceOf sl vl vu .none->IsPart vl lo->IsPart vu hi->r x lo hi H Q->
  ∃T id,typeLookup (.type T) "__getitem__" = pure (some (.builtin id))/\s.TypeIs v T/\wpAny (model X.prog X.w) X.A (getItem v (.ref sl)) (EP X pr σ Q) X.xe s
noncomputable def tSl(r:V->Option Int->Option Int->Hp->VK->Prop)(te:TE)(tl th:TO):TE:=fun σ H Q=>te σ H fun x H1=>tl σ H1 fun l H2=>th σ H2 fun u H3=>r x l u H3 Q
theorem wd{r:V->Option Int->Option Int->Hp->VK->Prop}(hr:OR X r)(he:PE X e te)(hl:PO X lo tl)(hu:PO X hi th):PE X (.Subscript e (.Slice lo hi none p2) pos) (tSl r te tl th):=by
 intro pr s σ H Q I h;refine Subscript_ (Kh (he pr s σ H _ I h) fun v s1 Kk=>?_);obtain⟨x,H1,I1,r1,q1⟩:=Kk;refine wpAny_Slice (Kh (hl pr s1 σ H1 _ I1 q1) fun vl s2 ⟨l,H2,I2,pl,q2⟩=>Kh (hu pr s2 σ H2 _ I2 q2) fun vu s3 Kk=>?_);obtain⟨u,H3,I3,pu,q3⟩:=Kk;rw[evalPart_none];refine U7 ?_;have I4:Inv X pr σ H3 {s3 with heap:=s3.heap.push {cls:=.type "slice",data:=.fields #[vl,vu,.none]}}:=I3.kept (t':=s3.toks) fun b ob q=>UZ _ q
 obtain⟨T,id,hT,ht,hg⟩:=hr pr {s3 with heap:=s3.heap.push {cls:=.type "slice",data:=.fields #[vl,vu,.none]}} σ H3 x v vl vu l u s3.heap.objs.size Q I4 r1 (Heap.IsSliceOf.new ..) pl pu q3;show wpAny (model X.prog X.w) X.A (subscriptTail e (.Slice lo hi none p2) v (.ref s3.heap.objs.size)) (EP X pr σ Q) X.xe {s3 with heap:=s3.heap.push {cls:=.type "slice",data:=.fields #[vl,vu,.none]}};exact tail_any (ops:=[.ref s3.heap.objs.size,v]) ht hT hg (by with_unfolding_all rfl)
def yo(xs:List V)(lo hi:Option Int):List V:=(xs.drop (HT.sIx xs.length 0 lo)).take (HT.sIx xs.length xs.length hi-HT.sIx xs.length 0 lo)
theorem iW(xs:List V)(lo hi:Option Int):(yo xs lo hi).length<=xs.length:=by
 unfold yo;rw[VB,Wi];lia
def Jj(K:W.Frag):V->Option Int->Option Int->Hp->VK->Prop:=fun x lo hi H Q=>∃a xs,x=.ref a/\SqT K H a xs/\
 ¬ (HT.sIx xs.length 0 lo=0/\HT.sIx xs.length xs.length hi=xs.length)/\∀p,H p=none->Q (.ref p) (upd H p (.tup (yo xs lo hi)))
theorem Dl:OR X (Jj X.K):=by
 intro pr s σ H x v vl vu lo hi sl Q I rx hs pl pu h;obtain⟨a,xs,rfl,hx,hw,q⟩:=h;cases rx;obtain⟨JT,r,ht,hz⟩:=I.tuple hx;have hlen:JT.toArray.size=xs.length:=by rw[U9];exact r.length.symm
 refine⟨"tuple",_,PyProof.Rows.slot_tuple_getitem.lookup,ht.typeIs,?_⟩;refine HT.gO ht hs pl pu (by rw[hlen];exact hw) ?_ (by rw[hlen];exact hz);rw[hlen];refine⟨.ref s.heap.objs.size,_,I.laid (t':=s.toks) (o:=.tup (yo xs lo hi)) (fun b ob q=>UZ _ q) (U3 _) ?_,rfl,q _ (I.hok.fresh (U3 _))⟩;exact⟨Vo (iW xs lo hi) hz,_,(r.drop (HT.sIx xs.length 0 lo)).take (HT.sIx xs.length xs.length hi-HT.sIx xs.length 0 lo),IsTupN.new _ _⟩
def GR(K:W.Frag):R2:=fun x y H Q=>∃a b xs ys,x=.ref a/\y=.ref b/\SqT K H a xs/\SqT K H b ys/\xs≠[]/\xs.length+ys.length<=sizeLine/\
 (ys=[]->Q (.ref a) H)/\(ys≠[]->∀p,H p=none->Q (.ref p) (upd H p (.tup (xs++ys))))
theorem Vals.nil_iff{us:List Value}(r:Vals xs us):us=[]<->xs=[]:=by
 cases r with
 |nil=>simp
 |cons _ _=>simp
theorem zV:Kz X (binaryOp .Add) (GR X.K):=by
 intro pr s σ H x y v u Q I rx ry h;obtain⟨a,b,xs,ys,rfl,rfl,ha,hb,hx,hz,q1,q2⟩:=h;cases rx;cases ry;obtain⟨JT,r1,p1,_⟩:=I.tuple ha;obtain⟨MV,r2,p2,_⟩:=I.tuple hb;refine HT.zR p1 p2 (fun z=>hx (r1.nil_iff.mp z)) (fun z=>⟨.ref a,H,I,rfl,q1 (r2.nil_iff.mp z)⟩) (fun z=>?_) (by rw[<-r1.length,<-r2.length];exact hz);refine⟨.ref s.heap.objs.size,_,I.laid (t':=s.toks) (o:=.tup (xs++ys)) (fun b ob q=>UZ _ q) (U3 _) ?_,rfl,q2 (fun w=>z (r2.nil_iff.mpr w)) _ (I.hok.fresh (U3 _))⟩;exact⟨by rw[VD];exact hz,_,r1.append r2,IsTupN.new _ _⟩
end
noncomputable def ixN(n:Nat)(i:Int):Option Nat:=if 0<=i then(if i<n then some i.toNat else none) else if -(n:Int)<=i then some (i+n).toNat else none
def atI{α:Type}(xs:List α)(i:Int):Option α:=(ixN xs.length i).bind fun j=>xs[j]?
variable{j n:Nat}{i:Int}
theorem zW(h:ixN n i=some j):seqIndex? i n=some j/\j<n/\-(n:Int)<=i/\i<n:=by
 unfold ixN at h;by_cases h0:0<=i
 ·rw[U2 h0]at h;by_cases h1:i<n
  ·rw[U2 h1]at h;have e:i.toNat=j:=Vq h;exact⟨by rw[seqIndex_of h0 h1,e],by lia,by lia,h1⟩
  ·rw[U6 h1]at h;cases h
 ·rw[U6 h0]at h;by_cases h1:-(n:Int)<=i
  ·rw[U2 h1]at h;have e:(i+n).toNat=j:=Vq h;exact⟨by rw[seqIndex_neg (by lia) h1,e],by lia,h1,by lia⟩
  ·rw[U6 h1]at h;cases h
variable{α:Type}
theorem nN{xs:List α}{v:α}(h:atI xs i=some v):∃j,seqIndex? i xs.length=some j/\xs[j]?=some v/\j<xs.length/\-(xs.length:Int)<=i/\i<xs.length:=by
 unfold atI at h;cases e:ixN xs.length i with
 |none=>rw[e]at h;cases h
 |some j=>
  rw[e]at h;obtain⟨h1,h2,h3,h4⟩:=zW e;exact⟨j,h1,h,h2,h3,h4⟩
theorem di{xs:List α}{v:α}(h:xs[j]?=some v):atI xs (j:Int)=some v:=by
 have hj:j<xs.length:=(U0.mp h).1;have e:ixN xs.length (j:Int)=some j:=by
  unfold ixN;rw[U2 (by lia),U2 (by lia)];simp
 unfold atI;rw[e];exact h
def sk(b:Expr):Prop:=∀o i,subscripted b false o i=operate [o,i] (getItem o i)
def Qu(X:Cx)(r:R2):Prop:=
 ∀(value slice:Expr) (pr:List (Addr×Obj)) (s:Shared) (σ:St) (H:Hp) (x y:V) (v u:Value) (Q:VK),Inv X pr σ H s->RelV x v->RelV y u->r x y H Q->
  subscripted slice false v u=operate [v,u] (getItem v u)->wpAny (model X.prog X.w) X.A (subscriptTail value slice v u) (EP X pr σ Q) X.xe s
def Ox(X:Cx)(id:String)(r:V->List V->Hp->VK->Prop):Prop:=
 ∀(pr:List (Addr×Obj)) (s:Shared) (σ:St) (H:Hp) (x:V) (xs:List V) (v:Value) (us:List Value) (Q:VK),Inv X pr σ H s->RelV x v->Vals xs us->r x xs H Q->
  wpAny (model X.prog X.w) X.A (call (.builtin id) (v::us)) (EP X pr σ Q) X.xe s
variable{pr:List (Addr×Obj)}{σ:St}{H:Hp}{s:Shared}{A:Around}{T:String}
section
variable{a b:Expr}{ta tb:TE}{pos:Pos}
theorem Dm{r:R2}(hr:Qu X r)(ha:PE X a ta)(hb:PE X b tb)(hs:sk b):PE X (.Subscript a b pos) (P4 r ta tb):=by
 intro pr s σ H Q I h;exact Subscript_ (GI ha hb I h fun v u s2 x y H2 I2 rx ry q=>hr a b pr s2 σ H2 x y v u Q I2 rx ry q (hs _ _))
def Jk(K:W.Frag):R2:=fun x y H Q=>∃p xs i v,x=.ref p/\y=.int i/\SqL K H p xs/\atI xs i=some v/\Q v H
def Jl(K:W.Frag):R2:=fun x y H Q=>∃p xs i v,x=.ref p/\y=.int i/\SqT K H p xs/\atI xs i=some v/\Q v H
def Jm:R2:=fun x y H Q=>∃z i c,x=.str z/\y=.int i/\z.length<=sizeLine/\atI z.cps.toList i=some c/\Q (.str ⟨#[c]⟩) H
theorem zX:Qu X (Jk X.K):=by
 intro value slice pr s σ H x y v u Q I rx ry h hs;obtain⟨p,xs,i,z,rfl,rfl,hq,he,q⟩:=h;cases rx;obtain⟨t,rfl⟩:=ry;obtain⟨JT,r,pl,hz⟩:=I.list hq;obtain⟨j,h1,h2,h3,h4,h5⟩:=nN he;obtain⟨w,ew,MD⟩:=r.get h2;have hl:=r.length;have hn:=lF;have fin:EP X pr σ Q w s:=⟨z,H,I,MD,q⟩
 by_cases h0:0<=i
 ·have hj:i.toNat=j:=by
   rw[seqIndex_of h0 h5]at h1;exact Vq h1
  exact item_listR pl.isList h0 (by lia) (by rw[hj];simpa using ew) fin hs
 ·have hj:(i+(JT.toArray.size:Int)).toNat=j:=by
   rw[seqIndex_neg (by lia) h4]at h1;rw[U9,<-hl];exact Vq h1
  exact subscriptTail_builtinR (x:=w) pl.isList.typeIs slot_list_getitem.lookup
   (wpAny_getItem_list_neg (Q:=fun r s'=>r=w/\EP X pr σ Q r s') pl.isList (by lia) (by rw[U9] <;> lia) (by lia) (by rw[hj];simpa using ew) ⟨rfl,fin⟩) hs
theorem yp:Qu X (Jl X.K):=by
 intro value slice pr s σ H x y v u Q I rx ry h hs;obtain⟨p,xs,i,z,rfl,rfl,hq,he,q⟩:=h;cases rx;obtain⟨t,rfl⟩:=ry;obtain⟨JT,r,pl,hz⟩:=I.tuple hq;obtain⟨j,h1,h2,h3,h4,h5⟩:=nN he;obtain⟨w,ew,MD⟩:=r.get h2;have hl:=r.length;have hn:=lF;have fin:EP X pr σ Q w s:=⟨z,H,I,MD,q⟩
 exact subscriptTail_builtinR (x:=w) pl.typeIs slot_tuple_getitem.lookup
  (getItem_tuple (j:=j) (Q:=fun r s'=>r=w/\EP X pr σ Q r s') pl (by lia) (by lia) (by rw[U9,<-hl];exact h1) (by simpa using ew) ⟨rfl,fin⟩) hs
theorem Dn:Qu X Jm:=by
 intro value slice pr s σ H x y v u Q I rx ry h hs;obtain⟨z,i,c,rfl,rfl,hz,he,q⟩:=h;obtain⟨t,rfl⟩:=rx;obtain⟨t',rfl⟩:=ry;obtain⟨j,h1,h2,h3,h4,h5⟩:=nN he;have hl:z.cps.toList.length=z.length:=by simp[Str.length]
 rw[hl]at h1 h4 h5;have hn:=lF;exact tail_any (Yk s z t) slot_str_getitem.lookup (getItem_str (c:=c) (by
  have e1:decide (i < -(2 ^ 63:Int))=false:=Vx (by lia);have e2:decide (i>=2 ^ 63)=false:=Vx (by lia);rw[e1,e2,Bool.or_false]) (by rw[h1];simpa using h2) ⟨.str ⟨#[c]⟩,H,I.tok _,⟨_,rfl⟩,q⟩) hs
theorem Inv.lst{p:Addr}(I:Inv X pr σ H s)(h:H p=some (.lst xs)):
  ∃(JT:List Value) (n:Nat),Vals xs JT/\s.heap.get? p=some {cls:=.type "list",data:=.seq JT.toArray n}/\xs.length<=sizeLine:=by
 obtain⟨z,JT,n,r,e⟩:=I.hok p _ h;exact⟨JT,n,r,e,z⟩
theorem lN(lo hi:Option Int)(n:Nat):(sliceBounds lo hi none n).1=((HT.sIx n 0 lo:Nat):Int)/\(sliceBounds lo hi none n).2.1=((HT.sIx n n hi:Nat):Int)/\(sliceBounds lo hi none n).2.2=1:=by
 refine⟨?_,?_,rfl⟩
 ·cases lo with
  |none=>simp[sliceBounds,HT.sIx]
  |some i=>
   simp only[sliceBounds,HT.sIx,WK,show(1:Int)>0 by decide,Xd];by_cases h:i<0
   ·simp only[h,Xd] <;> lia
   ·simp only[h,Za] <;> lia
 ·cases hi with
  |none=>simp[sliceBounds,HT.sIx]
  |some i=>
   simp only[sliceBounds,HT.sIx,WK,show(1:Int)>0 by decide,Xd];by_cases h:i<0
   ·simp only[h,Xd] <;> lia
   ·simp only[h,Za] <;> lia
theorem ke(JT:List Value)(lo hi:Option Int):slicePick JT.toArray lo hi none=((JT.drop (HT.sIx JT.length 0 lo)).take (HT.sIx JT.length JT.length hi-HT.sIx JT.length 0 lo)).toArray:=by
 obtain⟨h1,h2,h3⟩:=lN lo hi JT.toArray.size;unfold slicePick;rw[h1,h2,h3];simp only[sliceRange_one,pick_run,U9] <;> rfl
def Jn(K:W.Frag):V->Option Int->Option Int->Hp->VK->Prop:=fun x lo hi H Q=>∃a xs,x=.ref a/\SqL K H a xs/\∀p,H p=none->Q (.ref p) (upd H p (.lst (yo xs lo hi)))
theorem zY:OR X (Jn X.K):=by
 intro pr s σ H x v vl vu lo hi sl Q I rx hs pl pu h;obtain⟨a,xs,rfl,hx,q⟩:=h;cases rx;obtain⟨JT,r,ht,hz⟩:=I.list hx;have hlen:=r.length;refine⟨"list",_,slot_list_getitem.lookup,ht.isList.typeIs,?_⟩;refine wpAny_getItem_list_slice ht.isList hs pl pu .none (by simp) ?_ (by rw[U9] <;> lia);rw[ke,<-hlen];refine⟨.ref s.heap.objs.size,_,I.laid (t':=s.toks) (o:=.lst (yo xs lo hi)) (fun b ob q=>UZ _ q) (U3 _) ?_,rfl,q _ (I.hok.fresh (U3 _))⟩;exact⟨Vo (iW xs lo hi) hz,_,0,(r.drop (HT.sIx xs.length 0 lo)).take (HT.sIx xs.length xs.length hi-HT.sIx xs.length 0 lo),Ve _ rfl⟩
noncomputable def wg:V->Bool
 | .non=>true
 | .bl _=>true
 | .int _=>true
 | .str _=>true
 |_=>false
noncomputable def Sw:V->V->Bool
 | .non,.non=>true
 | .bl a,.bl b=>a==b
 | .bl a,.int b=>(if a then 1 else 0)==b
 | .int a,.bl b=>a==(if b then 1 else 0)
 | .int a,.int b=>a==b
 | .str a,.str b=>a==b
 |_,_=>false
theorem Dp{y x:V}{u v:Value}(ry:RelV y u)(rx:RelV x v)(fy:wg y=true)(fx:wg x=true):SeqAt.EqAt A s u v (Sw y x):=by
 cases y with
 |non=>
  cases ry;cases x with
  |non=>cases rx;exact SeqAt.EqAt.same _
  |bl b=>cases rx;exact SeqAt.EqAt.none_bool b
  |int b=>obtain⟨t,rfl⟩:=rx;exact SeqAt.EqAt.none_int b t
  |str b=>obtain⟨t,rfl⟩:=rx;exact SeqAt.EqAt.none_str b t
  |_=>exact absurd (show false=true from fx) UY
 |bl a=>
  cases ry;cases x with
  |non=>cases rx;exact SeqAt.EqAt.bool_none a
  |bl b=>cases rx;exact SeqAt.EqAt.bool_bool a b
  |int b=>obtain⟨t,rfl⟩:=rx;exact SeqAt.EqAt.bool_int a b t
  |str b=>obtain⟨t,rfl⟩:=rx;exact SeqAt.EqAt.bool_str a b t
  |_=>exact absurd (show false=true from fx) UY
 |int a=>
  obtain⟨t',rfl⟩:=ry;cases x with
  |non=>cases rx;exact SeqAt.EqAt.int_none a t'
  |bl b=>cases rx;exact SeqAt.EqAt.int_bool a t' b
  |int b=>obtain⟨t,rfl⟩:=rx;exact SeqAt.EqAt.int_int a t' b t
  |str b=>obtain⟨t,rfl⟩:=rx;exact SeqAt.EqAt.int_str a t' b t
  |_=>exact absurd (show false=true from fx) UY
 |str a=>
  obtain⟨t',rfl⟩:=ry;cases x with
  |non=>cases rx;exact SeqAt.EqAt.str_none a t'
  |bl b=>cases rx;exact SeqAt.EqAt.str_bool a t' b
  |int b=>obtain⟨t,rfl⟩:=rx;exact SeqAt.EqAt.str_int a t' b t
  |str b=>obtain⟨t,rfl⟩:=rx;exact SeqAt.EqAt.str_str a t' b t
  |_=>exact absurd (show false=true from fx) UY
 |_=>exact absurd (show false=true from fy) UY
theorem hX:bL X (.builtin "len") (fun xs H Q=>∃p ys,xs=[.ref p]/\(SqL X.K H p ys\/SqT X.K H p ys)/\Q (.int ys.length) H):=by
 intro pr s σ H xs us Q I r h;obtain⟨p,ys,rfl,hq,q⟩:=h;obtain⟨u,rfl,rx⟩:=cO r;cases rx;have hn:=lF;rcases hq with hq|hq
 ·obtain⟨JT,r',pl,hz⟩:=I.list hq;have hlen:=r'.length;exact Calls.call_len_list pl.isList (by simp only[U9] <;> lia) ⟨.int ys.length,H,I.tok _,⟨s.toks+1,by rw[U9,hlen]⟩,q⟩
 ·obtain⟨JT,r',pl,hz⟩:=I.tuple hq;have hlen:=r'.length;exact len_tuple pl (by simp only[U9] <;> lia) ⟨.int ys.length,H,I.tok _,⟨s.toks+1,by rw[U9,hlen]⟩,q⟩
theorem lO:bL X (.builtin "len") (fun xs H Q=>∃z,xs=[.str z]/\z.length<=sizeLine/\Q (.int z.length) H):=by
 intro pr s σ H xs us Q I r h;obtain⟨z,rfl,hz,q⟩:=h;obtain⟨u,rfl,t,rfl⟩:=cO r;have hn:=lF;exact len_str (by lia) ⟨.int z.length,H,I.tok _,⟨_,rfl⟩,q⟩
theorem hZ:bL X (.type "list") (fun xs H Q=>∃p ys,xs=[.ref p]/\(SqL X.K H p ys\/SqT X.K H p ys)/\∀l,H l=none->Q (.ref l) (upd H l (.lst ys))):=by
 intro pr s σ H xs us Q I r h;obtain⟨p,ys,rfl,hq,q⟩:=h;obtain⟨u,rfl,rx⟩:=cO r;cases rx;have fin:∀(JT:List Value),Vals ys JT->ys.length<=sizeLine->∀(h':Heap) (c':Nat),(∀b o',s.heap.get? b=some o'->h'.get? b=some o')->
   h'.get? s.heap.objs.size=some {cls:=.type "list",dict:=none,data:=.seq JT.toArray c',slots:=#[]}->EP X pr σ Q (.ref s.heap.objs.size) {s with heap:=h'}:=fun JT r' hz h' c' kp e=>
  ⟨.ref s.heap.objs.size,_,I.laid (t':=s.toks) kp (U3 _) (show ObjOk X.prog X.w _ h' _ (.lst ys) from⟨hz,JT,c',r',e⟩),rfl,q _ (I.hok.fresh (U3 _))⟩
 rcases hq with hq|hq
 ·obtain⟨JT,r',pl,hz⟩:=I.list hq;have hlen:=r'.length;obtain⟨o,ho,hc,n,hd⟩:=pl.isList;exact call_list_seq p (.inl rfl) ho hc hd (fun h' c' kp e=>fin JT r' hz h' c' kp e) (by simp only[U9] <;> lia)
 ·obtain⟨JT,r',pl,hz⟩:=I.tuple hq;have hlen:=r'.length;obtain⟨o,ho,hc,n,hd⟩:=pl;exact call_list_seq p (.inr rfl) ho hc hd (fun h' c' kp e=>fin JT r' hz h' c' kp e) (by simp only[U9] <;> lia)
theorem fX:bL X (.type "tuple") (fun xs H Q=>∃p ys,xs=[.ref p]/\((SqL X.K H p ys/\∀l,H l=none->Q (.ref l) (upd H l (.tup ys)))\/(SqT X.K H p ys/\Q (.ref p) H))):=by
 intro pr s σ H xs us Q I r h;obtain⟨p,ys,rfl,h⟩:=h;obtain⟨u,rfl,rx⟩:=cO r;cases rx;rcases h with⟨hq,q⟩|⟨hq,q⟩
 ·obtain⟨JT,r',pl,hz⟩:=I.list hq;have hlen:=r'.length;refine call_tuple_list pl.isList (fun h' kp=>?_) (by simp only[U9] <;> lia);have I1:Inv X pr σ H {s with heap:=h'}:=I.kept (t':=s.toks) kp;have I2:Inv X pr σ (upd H h'.objs.size (.tup ys)) {s with heap:=h'.push {cls:=.type "tuple",data:=.seq JT.toArray}}:=
   I1.laid (t':=s.toks) (fun b o e=>UZ _ e) (U3 _) (show ObjOk X.prog X.w _ _ _ (.tup ys) from⟨hz,JT,r',IsTupN.new _ _⟩)
  exact⟨.ref h'.objs.size,_,I2,rfl,q _ (I1.hok.fresh (U3 _))⟩
 ·obtain⟨JT,r',pl,hz⟩:=I.tuple hq;exact call_tuple_same pl ⟨.ref p,H,I,rfl,q⟩
def Sy(K:W.Frag)(T:String)(x:V)(H:Hp):Prop:=match x with
 | .str _=>T = "str"
 | .int _=>T = "int"
 | .ref p=>(T = "list"/\∃xs,SqL K H p xs)\/(T = "tuple"/\∃o,K.lookup p=some o/\o.cls=.type "tuple"/\o.dict=none)\/
   (T = "dict"/\((∃kvs,H p=some (.dK kvs))\/∃kvs,H p=some (.dT kvs)))\/(T = "set"/\∃S n,H p=some (.set S n))
 |_=>False
theorem Dq{x:V}{v:Value}(I:Inv X pr σ H s)(r:RelV x v)(ty:Sy X.K T x H):
  s.TypeIs v T/\∀a,v=.ref a->∃ob,s.heap.get? a=some ob/\ob.dict=none:=by
 cases x with
 |str z=>
  obtain⟨t,rfl⟩:=r;cases(show T = "str" from ty);exact⟨Yk s z t,fun _ e=>nomatch e⟩
 |int i=>
  obtain⟨t,rfl⟩:=r;cases(show T = "int" from ty);exact⟨Zb s i t,fun _ e=>nomatch e⟩
 |ref p=>
  cases r;rcases ty with⟨rfl,xs,hq⟩|⟨rfl,o,hk,hc,hd⟩|⟨rfl,hk⟩|⟨rfl,S,n,hk⟩
  ·obtain⟨JT,_,pl,_⟩:=I.list hq;refine⟨pl.isList.typeIs,fun a e=>?_⟩;cases e;obtain⟨o,n,e,c,hd,_⟩:=pl;exact⟨o,e,hd⟩
  ·refine⟨⟨o,I.kIn p o hk,hc⟩,fun a e=>?_⟩;cases e;exact⟨o,I.kIn _ o hk,hd⟩
  ·have z:∃o,s.heap.get? p=some o/\o.ExactDict:=by
    rcases hk with⟨kvs,hk⟩|⟨kvs,hk⟩
    ·obtain⟨_,_,_,_,o,_,_,e,ex,_⟩:=I.hok p _ hk;exact⟨o,e,ex⟩
    ·obtain⟨_,_,_,_,o,_,_,e,ex,_⟩:=I.hok p _ hk;exact⟨o,e,ex⟩
   obtain⟨o,e,ex⟩:=z;refine⟨⟨o,e,ex.1⟩,fun a e2=>?_⟩;cases e2;exact⟨o,e,ex.2.1⟩
  ·obtain⟨o,_,_,_,e,ex,_⟩:=I.hok p _ hk;refine⟨⟨o,e,ex.1⟩,fun a e2=>?_⟩;cases e2;exact⟨o,e,ex.2.1⟩
 |_=>exact False.elim ty
noncomputable def tBM(K:W.Frag)(T:String)(r:V->List V->Hp->VK->Prop)(to:TE)(t:TA):TE:=fun σ H Q=>to σ H fun x H1=>Sy K T x H1/\t σ H1 fun xs H2=>r x xs H2 Q
variable{o e:Expr}{es:List Expr}{to:TE}{t:TA}{name:Str}{apos J3:Pos}{id:String}{r:V->List V->Hp->VK->Prop}
theorem wj(pa:PlainAttrs T)(slot:Slot T name id)(Nn:typeOf (.builtin id)=pure (.type "method_descriptor"))(hm:Ox X id r)(ho:PE X o to)(ha:PA X (e::es) t)
  (KG:attributeBase o name X.env (eval o X.env)=eval o X.env:=by rfl)
  (Lo:((backTo J3 (starEach (e::es) X.env)).all (fun x=>!x.1)&&(backToKw J3 (keywordEach [] X.env)).all (fun x=>x.1.isSome)
   && decide ((e::es).length+([]:List Keyword).length+(if([]:List Keyword).isEmpty then 0 else 1)<30))=true:=by rfl)
  (KO:(apos.endLine==J3.line)=true:=by rfl) (hs:starEach (e::es) X.env=(false,eval e X.env)::starEach es X.env:=by rfl) (Kx:(backTo J3 (starEach es X.env)).any (·.1)=false:=by rfl):
  PE X (.Call (.Attribute o name apos) (e::es) [] J3) (tBM X.K T r to t):=by
 intro pr s σ H Q I h;refine wpAny_Call_method_late KG Lo KO rfl (Kh (ho pr s σ H _ I h) fun v s1 Kk=>?_);obtain⟨x,H1,I1,r1,ty,q1⟩:=Kk;obtain⟨h1,h2⟩:=Dq I1 r1 ty;refine⟨T,id,pa,slot,Nn,h1,h2,?_⟩;have hA:=ha J3 pr s1 σ H1 _ I1 q1;rw[hs]at hA ⊢;refine XH (by show(false||(backTo J3 (starEach es X.env)).any (·.1))=false;rw[Kx] <;> rfl) (Xp ?_);exact Kh hA fun us s2 ⟨vs,H2,I2,r2,q2⟩=>hm pr s2 σ H2 x vs v us Q I2 r1 r2 q2
end
def MtM(X:Cx)(id:String)(r:V->List V->Hp->VK->Prop):Prop:=
 ∀(pr:List (Addr×Obj)) (s:Shared) (σ:St) (H:Hp) (x:V) (xs:List V) (v:Value) (us:List Value) (Q:VK),Inv X pr σ H s->RelV x v->Vals xs us->r x xs H Q->
  wpAny (model X.prog X.w) X.A (call (.builtin id) (v::us)) (EP X pr σ Q) X.xe s
theorem Vals.one:∀{x:V}{us:List Value},Vals [x] us->∃u,us=[u]/\RelV x u
 |_,_,.cons r .nil=>⟨_,rfl,r⟩
theorem Vals.rep{xs:List V}{us:List Value}(h:Vals xs us):∀k:Nat,Vals (List.replicate k xs).flatten (List.replicate k us).flatten
 | 0=>.nil
 |k+1=>by
  rw[Wr,Wr,W0,W0];exact Vals.append h (Vals.rep h k)
theorem lP(JT:List Value):∀(k:Nat) (acc:List Value),
  List.foldl (fun x1 x2=>x1++x2) acc.toArray (List.replicate k JT.toArray)=(acc++(List.replicate k JT).flatten).toArray
 | 0,acc=>by simp
 |k+1,acc=>by
  have e:acc.toArray++JT.toArray=(acc++JT).toArray:=by simp
  have e2:(acc++JT)++(List.replicate k JT).flatten=acc++(List.replicate (k+1) JT).flatten:=by
   rw[Wr,W0,VH]
  rw[<-e2,<-lP JT k (acc++JT),<-e,Wr,Xe]
section
variable{l b:Addr}{ys zs:List V}
theorem Inv.lset{JT its':List Value}{n:Nat}{f:Array Value->Array Value}{t':Nat}(I:Inv X pr σ H s)(hH:H l=some (.lst xs))
  (e:s.heap.get? l=some {cls:=.type "list",data:=.seq JT.toArray n}) (hf:f JT.toArray=its'.toArray) (hv:Vals ys its') (hz:ys.length<=sizeLine):
  Inv X pr σ (upd H l (.lst ys)) {s with heap:=s.heap.update l (Obj.mapSeq f),toks:=t'}:=by
 have q:=PySem.IsL.update e f;rw[hf]at q;refine I.write (x:=l) (e:=l) (by rw[hH];exact trivial) (.inl rfl) (fun b' u hb hu=>(VE s.heap (Obj.mapSeq f) (Wx hb)).trans hu) ⟨_,q⟩ ?_;exact⟨hz,its',_,hv,q⟩
theorem Inv.lnew{JT:List Value}{t':Nat}(I:Inv X pr σ H s)(hv:Vals ys JT)(hz:ys.length<=sizeLine):
  Inv X pr σ (upd H s.heap.objs.size (.lst ys)) {s with heap:=s.heap.push {cls:=.type "list",data:=.seq JT.toArray},toks:=t'}:=
 I.laid (fun _ _ q=>UZ _ q) (U3 _) ⟨hz,JT,0,hv,Ve _ rfl⟩
theorem Inv.fresh(I:Inv X pr σ H s):H s.heap.objs.size=none:=I.hok.fresh (U3 _)
theorem Inv.lstM(I:Inv X pr σ H s)(hH:H l=some (.lst xs)):xs.length<=sizeLine/\∃(JT:List Value) (n:Nat),Vals xs JT/\xs.length=JT.length/\s.heap.get? l=some {cls:=.type "list",data:=.seq JT.toArray n}:=by
 obtain⟨z,JT,n,r,e⟩:=I.hok l _ hH;exact⟨z,JT,n,r,r.length,e⟩
theorem wm(h:n<=sizeLine):Builtin.List.listTooLong n=false:=by
 unfold Builtin.List.listTooLong;exact Vx (by lia)
end
section
def zZ:V->List V->Hp->VK->Prop:=fun x vs H Q=>∃l xs y,x=.ref l/\vs=[y]/\H l=some (.lst xs)/\xs.length<sizeLine/\Q .non (upd H l (.lst (xs++[y])))
theorem iX:MtM X "list.append" zZ:=by
 intro pr s σ H x vs v us Q I rx rv h;obtain⟨l,xs,y,rfl,rfl,hH,hz,q⟩:=h;cases rx;obtain⟨u,rfl,ru⟩:=rv.one;obtain⟨z,JT,n,r,hl,e⟩:=I.lstM hH;refine call_meets F.slot_list_append ⟨_,e,rfl⟩ F.entry_list_append (F.args_list_append_2 _ _) (PySem.list_append l JT.toArray n u (by rw[U9];lia)) ⟨e,?_⟩;refine⟨.non,_,I.lset (its':=JT++[u]) hH e (by simp) (r.append (.cons ru .nil)) ?_,rfl,q⟩;rw[VD,Vf];lia
theorem so(xs:List α)(k:Nat):(List.replicate k xs).flatten.length=k*xs.length:=by
 induction k with
 |zero=>simp
 |succ k ih=>rw[Wr,W0,VD,ih,Nat.succ_mul,Nat.add_comm]
end
section
variable{prog:Program}{w:World}{E:Value->Shared->Prop}
end
section
end
end L2
namespace Att
open PySem PySem.W PySem.Calls PyProof.Rows
theorem iY{P:Params}{h:Heap}:∀(ns:List Int) (vs:List Value),WellAll P h vs (ns.map WData.int)->IntsAre vs ns:=by
 intro ns;induction ns with
 |nil=>
  intro vs w;rw[VT]at w;cases w;exact .nil
 |cons n ns ih=>
  intro vs w;rw[Vj]at w;cases w with
  |cons a b=>
   cases a;exact .cons _ _ (ih _ b)
theorem sr{l:OpenLaw}{n:Nat}(hn:l.most=some n){P:Params}{h:Heap}{args:List WData}{vals:List Value}
  (Np:l.row.toRowW.claim.pre args=true) (OS:WellAll P h vals args):
  ∃a vs ns,vals=[Value.ref a]/\args=[WData.list (ns.map WData.int)]/\h.get? a=some {cls:=.type "list",data:=.seq vs.toArray}/\IntsAre vs ns/\ns.length<=n:=by
 have hsh:WShape.hasAll [] args [.list .int]=true:=(pre_splitW Np).1;have hc:l.pre.holds [] {args:=args}=true:=(pre_splitW Np).2;obtain⟨d,r,rfl,h1,h2⟩:=hasAllW_cons hsh;obtain rfl:=hasAllW_nil h2;obtain⟨xs,rfl,h3⟩:=hasW_list h1;obtain⟨ns,rfl⟩:=items_int h3;have hlen:ns.length<=n:=by
  unfold OpenLaw.pre at hc;have h4:(WTm.not (.lt (.lit (.int (n:Int))) (.len (.arg 0)))).holds [] {args:=[.list (ns.map .int)]}=true:=by
   have h4:=(holds_andW hc).1;rw[hn]at h4;exact h4
  have h5:=condW_of h4 (w_not (w_lt w_lit (w_len_list (w_arg rfl))));rw[U1]at h5;refine Nat.le_of_not_lt fun q=>?_
  have q':(n:Int)<((ns.length:Nat):Int):=by lia
  first
   |(rw[VA q']at h5;exact absurd h5 (by decide))
   |(simp at h5;lia)
 cases OS with
 |cons w1 w2=>
  cases w2;cases w1 with
  |list ho OT=>exact⟨_,_,ns,rfl,rfl,ho,iY ns _ OT,hlen⟩
theorem su(l:OpenLaw)(args:List WData):l.row.toRowW.claim.post args (.bool true) args=true:=
 postW_of (r:=l.row.toRowW) (X:=(true==true))
  (show WShape.has [] (.bool true) .bool=true by first|rfl|decide|simp[WShape.has,WShape.arms,WShape.armsAll])
  (show(WTm.eq .res (.lit (.bool true))).value [] {args:=args,res:=some (.bool true),after:=args}=some (.bool (true==true)) from w_eq_bool (w_res rfl) w_lit) rfl
theorem attach_call{l:OpenLaw}{n:Nat}{q:Program}{loose:List Str}{XP:(Str->Option Value)->Heap->Prop}{YP:World->Heap->Prop}{d:DefRec}
  (hn:l.most=some n) (Qv:d.params.defaults=[])
  (call:∀(w:World) (s₀ s₁:Shared) (mg mb:Str->Option Value) (fa:Addr) (o:Obj) (pm cd doc:Value) (a:Addr) (vs:List Value) (ns:List Int),
   Ground q loose [] XP w s₀ mg mb s₁.heap->YP w s₁.heap->
   s₁.heap.get? fa=some o->o.data=.func (docDef d.name d.params d.body d.scope pm cd doc)->s₁.heap.CodeRec cd d.name->mg d.name=some (.ref fa)->
   s₁.heap.get? a=some {cls:=.type "list",data:=.seq vs.toArray}->IntsAre vs ns->ns.length<=n->s₁.gens = #[]->
   codeAny (model l.prog w) callerA (.call (.ref fa) ⟨[.ref a],[]⟩) (fun r s'=>r=.ok (.ret (.bool true))/\OldK s₁.heap s'.heap/\s'.os=s₁.os/\AllBare s'.gens) s₁):
  WalkO q loose XP YP l.row.toRowW d [] (fun f vs=>PySem.call f vs):=by
 intro w s₀ s₁ mg mb G Y fa o pm cd doc dV kV ho hd LY hD Qw hg args vals as Np hlay hrd OS TR;obtain rfl:dV=.none:=Dflts.none hD Qv;obtain rfl:kV=.none:=Dflts.noKw hD;obtain⟨a,vs,ns,rfl,rfl,OU,hints,hlen⟩:=sr hn Np OS;refine enter_call (YY (call w s₀ s₁ mg mb fa o pm cd doc a vs ns G Y ho (fd_plain hd) LY Qw OU hints hlen hg) fun r s' hq=>?_);obtain⟨rfl,h2,h3,h4⟩:=hq;exact⟨.inl ⟨.bool true,.bool true,[],rfl,fun _=>rfl,.bool true,su l _,fun _=>⟨List.Pairwise.nil,fun _ hm=>(nomatch hm)⟩⟩,h2,h3,h4⟩
section
variable{prog:Program}{w:World}{A:Around}{E:Value->Shared->Prop}{s:Shared}{K:Frag}
end
end Att
namespace L2
open PySem PySem.Spec PyProof.Rows
theorem lQ:∀{vs:List Value}{ns:List Int},IntsAre vs ns->Vals (ns.map V.int) vs
 |_,_,.nil=>.nil
 |_,_,.cons n t h=>.cons ⟨t,rfl⟩ (lQ h)
def GS(H:Hp):Prop:=∀b,H b=none\/∃o xs,H b=some (.frz o (.lst xs))
variable{K:W.Frag}{mg:Str->Option Value}{x:Str}
theorem wo{P:Program}{w:World}{mb:Str->Option Value}{CX:MB}{k:Nat}{fa a:Addr}{fd:FuncData}{sp:Sp}{s₁:Shared}{vs:List Value}{ns:List Int}
  (KX:K.In s₁.heap) (MM:s₁.heap.Ns mainGlobals mg) (hb:s₁.heap.Ns builtinsNs mb) (hbb:∀x:Str,x≠"__name__"->mb x=bootBuiltins x) (hlim:s₁.heap.NoLimit) (hg:s₁.gens = #[])
  (ha:s₁.heap.get? a=some {cls:=.type "list",data:=.seq vs.toArray}) (hi:IntsAre vs ns) (hl:ns.length<=sizeLine) (hr:Room k callerA)
  (F:∀base:Heap,K.In base->base.Ns mainGlobals mg->FnOk P w K mg base CX k fa fd [x] sp) (Qx:∀(s:Shared) (u:Value),BindsTo s fd ⟨[u],[]⟩ [(x,u)])
  (Nf:∀H:Hp,GS H->SqL K H a (ns.map V.int)->sp [.ref a] H (fun v _=>v=.bl true) fun _ _ _=>False)
  (Sz:∀H e s',CX [] H s₁ (fun _ _ _=>False) e s'->False):
  codeAny (model P w) callerA (.call (.ref fa) ⟨[.ref a],[]⟩) (fun r s'=>r=.ok (.ret (.bool true))/\OldK s₁.heap s'.heap/\s'.os=s₁.os/\AllBare s'.gens) s₁:=by
 have rv:=lQ hi;have lenV:=hi.length;have core:∀H:Hp,GS H->SqL K H a (ns.map V.int)->HOk P w H s₁.heap->(∀b,H b≠none->b=a)->(H a≠none->K.lookup a=none)->
   codeAny (model P w) callerA (.call (.ref fa) ⟨[.ref a],[]⟩) (fun r s'=>r=.ok (.ret (.bool true))/\OldK s₁.heap s'.heap/\s'.os=s₁.os/\AllBare s'.gens) s₁:=by
  intro H hO hS hok hA hK;have Mm:∀{b:Addr}{o:Obj},s₁.heap.get? b=some o->H b=none->(vU s₁.heap H).get? b=some o:=fun e n=>vV e n
  have Qs:∀{b:Addr}{o:Obj}{es:Array DictEntry}{ep:Nat},s₁.heap.get? b=some o->o.data=.dict es ep->H b=none:=fun{b o es ep} e d=>by
   cases q:H b with
   |none=>rfl
   |some u=>
    have e':b=a:=hA b (by rw[q];simp);subst e';rw[ha]at e;cases e;have d':Data.seq vs.toArray _=Data.dict es ep:=d;cases d'
  have RO:∀{b:Addr}{m:Str->Option Value},s₁.heap.Ns b m->(vU s₁.heap H).Ns b m:=fun{b m} ⟨o,es,ep,e,d,r⟩=>⟨o,es,ep,Mm e (Qs e d),d,r⟩
  have TU:K.In (vU s₁.heap H):=fun b o e=>Mm (KX b o e) (by
   cases q:H b with
   |none=>rfl
   |some u=>
    have e':b=a:=hA b (by rw[q];simp);subst e';rw[hK (by rw[q];simp)]at e;cases e)
  have hM:Mod K mg (vU s₁.heap H):=⟨TU,RO MM,⟨mb,RO hb,hbb⟩,let⟨mc,h1,h2⟩:=hlim;⟨mc,RO h1,h2⟩⟩
  have e0:Env0 P w K mg (vU s₁.heap H) callerA [] s₁ H:=⟨rfl,hM,fun b o e=>zv e,Z5 (rN _ _),trivial,fun b hb=>absurd (show b∈([]:List Addr) from hb) (by simp),hok,.of_eq hg⟩
  refine YY ((F _ TU (RO MM)).run callerA [] s₁ H ⟨[.ref a],[]⟩ [.ref a] [.ref a] _ _ hr e0 (Qx s₁ (.ref a)) (.cons rfl .nil) (Nf H hO hS)) fun r s' h=>?_
  cases r with
  |error e=>exact(Sz H e s' h).elim
  |ok fl=>
   cases fl with
   |next=>exact False.elim h
   |brk=>exact False.elim h
   |cont=>exact False.elim h
   |ret u=>
    obtain⟨v,H',os,bare,un,hok',r',q⟩:=h;have q':v=.bl true:=q;subst q';obtain rfl:u=Value.bool true:=r';refine⟨rfl,OldK.of_keep fun b o e=>?_,os,bare⟩;cases q:H b with
    |none=>exact un.keep b o e q (by intro z;exact absurd (show b∈([]:List Addr) from z) (by simp)) (by simp)
    |some u=>
     rcases hO b with z|⟨ob,xs,z⟩
     ·rw[q]at z;cases z
     ·have z2:=un.frzs b ob _ z;obtain⟨e1,_⟩:=hok b _ z;obtain⟨e2,_⟩:=hok' b _ z2;rw[e]at e1;cases e1;exact e2
 cases hk:K.lookup a with
 |some o=>
  have e:=KX a o hk;rw[ha]at e;cases e;refine core (fun _=>none) (fun _=>.inl rfl) (.inr ⟨_,vs.toArray,_,hk,rfl,rfl,rfl,by rw[U9,lenV];exact hl,by simpa using rv⟩) (fun b u z=>by have z':(none:Option HO)=some u:=z;cases z') (fun b z=>absurd rfl z) fun z=>absurd rfl z
 |none=>
  refine core (fun b=>if b=a then some (.frz {cls:=.type "list",data:=.seq vs.toArray} (.lst (ns.map V.int))) else none) (fun b=>?_) (.inl (.inr ⟨{cls:=.type "list",data:=.seq vs.toArray},U2 rfl⟩)) (fun b u z=>?_) (fun b z=>?_) fun _=>hk
  ·by_cases hb:b=a
   ·exact .inr ⟨_,_,U2 hb⟩
   ·exact .inl (U6 hb)
  ·by_cases hb:b=a
   ·have z':=(U2 hb).symm.trans z;cases z';subst hb;exact⟨ha,by rw[U1];exact hl,vs,_,rv,ha⟩
   ·have z':=(U6 hb).symm.trans z;cases z'
  ·by_cases hb:b=a
   ·exact hb
   ·exact absurd (U6 hb) z
theorem z7{l:PySem.W.OpenLaw}{n k:Nat}{q:Program}{loose:List Str}{XP:(Str->Option Value)->Heap->Prop}{YP:World->Heap->Prop}{d:DefRec}{K:Params->W.Frag}{CX:World->MB}{sp:World->Sp}
  (hn:l.most=some n) (RP:n<=sizeLine) (Qv:d.params.defaults=[]) (hr:Room k callerA)
  (hY:∀(w:World) (h:Heap),YP w h->(K w.params).In h)
  (F:∀(w:World) (mg:Str->Option Value) (fa:Addr) (h:Heap),(K w.params).In h->h.Ns mainGlobals mg->mg d.name=some (.ref fa)->
   ∃fd:FuncData,(∀(s:Shared) (u:Value),BindsTo s fd ⟨[u],[]⟩ [(x,u)])/\
    ∀base:Heap,(K w.params).In base->base.Ns mainGlobals mg->FnOk l.prog w (K w.params) mg base (CX w) k fa fd [x] (sp w))
  (Nf:∀(w:World) (H:Hp) (a:Addr) (ns:List Int),ns.length<=n->GS H->SqL (K w.params) H a (ns.map V.int)->sp w [.ref a] H (fun v _=>v=.bl true) fun _ _ _=>False)
  (Sz:∀(w:World) (H:Hp) (s:Shared) (e:Value) (s':Shared),CX w [] H s (fun _ _ _=>False) e s'->False):
  PySem.W.WalkO q loose XP YP l.row.toRowW d [] (fun f vs=>PySem.call f vs):=by
 refine Att.attach_call hn Qv fun w s₀ s₁ mg mb fa o pm cd doc a vs ns G Y ho hd LY Qw OU hints hlen hg=>?_
 have KX:=hY w _ Y;obtain⟨fd,hb,hF⟩:=F w mg fa _ KX G.T.g Qw;exact wo KX G.T.g G.T.b G.T.builtins G.T.nolimit hg OU hints (Vo hlen RP) hr hF hb (fun H hO hS=>Nf w H a ns hlen hO hS) fun H e s'=>Sz w H s₁ e s'
noncomputable def bO(s:Stmt):Arguments:=match s with
 | .FunctionDef _ a _ _ _ _ _ _ _ _=>a
 |_=>{posonlyargs:=[],args:=[],vararg:=none,kwonlyargs:=[],kw_defaults:=[],kwarg:=none,defaults:=[]}
noncomputable def aU(s:Stmt):List Stmt:=match s with
 | .FunctionDef _ _ b _ _ _ _ _ _ _=>b
 |_=>[]
noncomputable def defScope(s:Stmt):Scope:=match s with
 | .FunctionDef _ _ _ _ _ _ sc _ _ _=>sc
 |_=>{kind:=.function,names:=[],isGenerator:=false,isCoroutine:=false}
abbrev L4:MB:=fun _ _ _ _ _ _=>False
abbrev E0:XK:=fun _ _ _=>False
variable{X:Cx}
theorem GU:se L4 X E0:=fun _ _ _ _ _ _ _ h=>h.elim
structure Fun(K:W.Frag)(x qual:Str)(st:Stmt)(f:Addr)(fd:FuncData):Prop where
 ex:∃(oc:Value) (od:Option Addr) (kV doc pm:Value) (an:Option Addr) (Kc ct:Value) (MT:Array (Option Value)),
  fd=PySem.W.fnOf x qual (bO st) (aU st) (defScope st) .none kV doc pm an Kc ct/\K.lookup f=some ⟨oc,od,.func fd,MT⟩/\PySem.W.codeIn K Kc qual=true
 kp:PySem.W.keepIn K (.ref f)=true
variable{qual:Str}{st:Stmt}{f:Addr}{fd:FuncData}{ps:List Str}
section
variable{P:Program}{w:World}{base:Heap}
theorem Fun.ok{N:List Str}{k:Nat}{sp:Sp}(F:Fun K x qual st f fd)(S:FnScope N ps (defScope st))(len:∀vs H Q E,sp vs H Q E->vs.length=ps.length)
  (LZ:∀(Kc:Value) (A:Around) (outer:List Env) (s:Shared) (H:Hp) (vs:List V) (Q:VK) (E:XK),Room k (A.deeper (envOfC qual (defScope st) s.heap.objs.size f Kc))->sp vs H Q E->
   ∃t,PSs (lK L4 P w K mg base N qual (defScope st) f Kc A outer s H E).nox (aU st) t/\t {nx:=fun _ H'=>Q .non H',rt:=Q} (fE N vs) H):FnOk P w K mg base L4 (k+1) f fd ps sp:=by
 obtain⟨oc,od,kV,doc,pm,an,Kc,ct,MT,rfl,lk,LY⟩:=F.ex;refine Dk lk LY S len fun A outer s H vs Q E hr Nf=>?_
 obtain⟨t,h,q⟩:=LZ Kc A outer s H vs Q E hr Nf;exact⟨t,h.nox,q⟩
theorem Fun.binds(F:Fun K x qual st f fd)
  (h:∀(kV doc pm:Value) (an:Option Addr) (Kc ct:Value) (us:List Value),us.length=ps.length->bindArgs (PySem.W.fnOf x qual (bO st) (aU st) (defScope st) .none kV doc pm an Kc ct) ⟨us,[]⟩=pure (ps.zip us)):Binds K fd ps []:=by
 obtain⟨oc,od,kV,doc,pm,an,Kc,ct,MT,rfl,lk,LY⟩:=F.ex;exact .all (h kV doc pm an Kc ct)
theorem yq{oc:Value}{od an:Option Addr}{MT:Array (Option Value)}{kV doc pm Kc ct:Value}(l:K.lookup f=some ⟨oc,od,.func (PySem.W.fnOf x qual (bO st) (aU st) (defScope st) .none kV doc pm an Kc ct),MT⟩)
  (c:PySem.W.codeIn K Kc qual=true) (k:PySem.W.keepIn K (.ref f)=true):Fun K x qual st f (PySem.W.fnOf x qual (bO st) (aU st) (defScope st) .none kV doc pm an Kc ct):=⟨⟨oc,od,kV,doc,pm,an,Kc,ct,MT,rfl,l,c⟩,k⟩
end
theorem hu_of{A:Around}{k:Nat}(hr:Room k A):A.units+1<cLine:=Nat.lt_of_le_of_lt (Nat.add_le_add_left (by decide:1<=64) _) hr.units
section
theorem pv(i:Nat){pos:Pos}(hN:X.N[i]?=some x:=by rfl)(hv:Sk X.env.scope x:=by first|exact Or.inl rfl|exact Or.inr (Or.inl rfl)|exact Or.inr (Or.inr rfl))(hd:(x==("__debug__" : Str))=false:=by decide)
  (LY:(x==("__classdict__" : Str))=false:=by decide):PE X (.Name x pos) (nK i):=yf hN hv hd LY
end
theorem iteF{A B:Prop}(h:B):if false=true then A else B:=by
 rw[U6 UY];exact h
theorem GV{A B:Prop}(h:A):if true=true then A else B:=by
 rw[U2 rfl];exact h
def Same(H H':Hp):Prop:=∀b o,H b=some o->H' b=some o
theorem Same.refl(H:Hp):Same H H:=fun _ _ h=>h
variable{H:Hp}
theorem Same.trans{H1 H2:Hp}(a:Same H H1)(b:Same H1 H2):Same H H2:=fun c o h=>b c o (a c o h)
theorem Same.free{H':Hp}(e:Same H H'){l:Addr}(h:H' l=Option.none):H l=Option.none:=by
 cases q:H l with
 |none=>rfl
 |some o=>
  rw[e l o q]at h;cases h
theorem Same.seq{H':Hp}{a:Addr}{xs:List V}(e:Same H H')(h:SqL K H a xs):SqL K H' a xs:=by
 rcases h with(h|⟨o,h⟩)|h
 ·exact .inl (.inl (e _ _ h))
 ·exact .inl (.inr ⟨o,e _ _ h⟩)
 ·exact .inr h
end L2
set_option maxHeartbeats 4000000
namespace NX
open PySem PySem.Spec PyProof.Rows L2
variable{X:Cx}
section
theorem sv:Kz X (compareOp .LtE) (fun x y H Q=>∃i j,x=.str i/\y=.str j/\Q (.bl (!decide (j.cps.toList<i.cps.toList))) H):=by
 intro pr s σ H x y v u Q I rx ry h;obtain⟨i,j,rfl,rfl,q⟩:=h;obtain⟨t,rfl⟩:=rx;obtain⟨t',rfl⟩:=ry;exact PySem.P.le_str (oV I q rfl)
theorem wq(v:Int)(n:Nat):max (0:Int) (min (if v<0 then v+(n:Int) else v) (n:Int))=((HT.sIx n 0 (some v):Nat):Int):=by
 show _=(((if v<0 then(v+(n:Int)).toNat else min v.toNat n):Nat):Int)
 split <;> lia
theorem Dr(a b:Nat):sliceRange (a:Int) (b:Int) 1=(List.range (b-a)).map (fun k=>a+k):=by
 unfold sliceRange;rw[U2 (by decide:(1:Int)>0)];by_cases Kw:(a:Int)<b
 ·have e3:(((b:Int)-a+1-1) / 1).toNat=b-a:=by first|lia|(simp;done)|(simp;lia)
  simp only[Kw,Xd,e3];refine VO fun k _=>?_
  lia
 ·have:b-a=0:=by lia
  simp[Kw,this]
theorem Jo(lo hi:Option Int)(n:Nat):Builtin.Str.strSliceIndices lo hi 1 n=(List.range (HT.sIx n n hi-HT.sIx n 0 lo)).map (fun k=>HT.sIx n 0 lo+k):=by
 rw[<-Dr];unfold Builtin.Str.strSliceIndices;simp only[show(1:Int)>0 from by decide,Xd];cases lo with
 |none=>
  cases hi with
  |none=>rfl
  |some v=>exact Wy (fun z=>sliceRange 0 z 1) (wq v n)
 |some u=>
  cases hi with
  |none=>exact Wy (fun z=>sliceRange z (n:Int) 1) (wq u n)
  |some v=>exact(Wy (fun z=>sliceRange z _ 1) (wq u n)).trans (Wy (fun z=>sliceRange _ z 1) (wq v n))
def Ds(xs:List Nat)(lo hi:Option Int):List Nat:=(xs.drop (HT.sIx xs.length 0 lo)).take (HT.sIx xs.length xs.length hi-HT.sIx xs.length 0 lo)
theorem yr{α:Type}(l:List α):∀(n a:Nat),a+n<=l.length->((List.range n).map (fun k=>a+k)).filterMap (l[·]?)=(l.drop a).take n
 | 0,_,_=>by simp
 |n+1,a,h=>by
  have Kw:a+n<l.length:=by lia
  rw[List.range_succ,Vh,List.filterMap_append,yr l n a (by lia),Yl,ZE];simp[UT Kw]
theorem sx(x:Str)(lo hi:Option Int):(Txt.slice x lo hi).cps.toList=Ds x.cps.toList lo hi:=by
 have hl:x.cps.toList.length=x.length:=V8;have ha:=HT.si x.length 0 (VJ _) lo;have hb:=HT.si x.length x.length (U3 _) hi;unfold Txt.slice Ds;rw[Jo,hl];split
 ·rename_i h;have h2:HT.sIx x.length x.length hi-HT.sIx x.length 0 lo=x.length:=by simpa using h
  have ez:HT.sIx x.length 0 lo=0\/x.length=0:=by lia
  rcases ez with e|e
  ·rw[h2,e,Zj,WG (by lia)]
  ·have:x.cps.toList=[]:=VQ (by lia);rw[this];simp
 ·have hk:∀(f:List Nat),f.filterMap (x.cps[·]?)=f.filterMap (x.cps.toList[·]?):=fun f=>by
   congr 1
   funext i
   simp
  show(List.filterMap _ _).toArray.toList=_;rw[X0,hk];by_cases hle:HT.sIx x.length 0 lo<=HT.sIx x.length x.length hi
  ·rw[yr _ _ _ (by lia)]
  ·have e0:HT.sIx x.length x.length hi-HT.sIx x.length 0 lo=0:=by lia
   rw[e0];rfl
abbrev S(l:List Nat):Str:=⟨l.toArray⟩
theorem lR(x:Str):S x.cps.toList=x:=by cases x;simp[S]
theorem S_inj{a b:List Nat}(h:S a=S b):a=b:=by
 have:=Wy (fun z:Str=>z.cps.toList) h;simpa[S] using this
theorem lS(l:List Nat):(S l).length=l.length:=by simp[S,Str.length]
theorem cj(l:List Nat):(S l).cps.toList=l:=by simp[S]
theorem Dt(a b:List Nat):S a++S b=S (a++b):=by
 rw[<-lR (S a++S b),PySem.W.KT.app_list,cj,cj]
def Jp:V->Option Int->Option Int->Hp->VK->Prop:=fun x lo hi H Q=>∃l,x=.str (S l)/\l.length<=sizeLine/\Q (.str (S (Ds l lo hi))) H
theorem Du:OR X Jp:=by
 intro pr s σ H x v vl vu lo hi sl Q I rx hs pl pu h;obtain⟨l,rfl,hz,q⟩:=h;obtain⟨t,rfl⟩:=rx;have Oy:(S l).length<=sizeLine:=by rw[lS];exact hz
 have e:∀t' k,EP X pr σ Q (.str (Txt.slice (S l) lo hi) t') {s with toks:=k}:=fun t' k=>by
  refine⟨.str (S (Ds l lo hi)),H,I.tok _,⟨t',?_⟩,q⟩;have e1:=sx (S l) lo hi;rw[cj]at e1;rw[<-e1,lR]
 refine⟨"str",_,PySem.F.slot_str_getitem.lookup,Yk _ _ _,?_⟩;have key:∀(OV RQ:Option (Int×Tok)),partValue OV=vl->partValue RQ=vu->OV.map (·.1)=lo->RQ.map (·.1)=hi->
   wpAny (model X.prog X.w) X.A (getItem (.str (S l) t) (.ref sl)) (EP X pr σ Q) X.xe s:=by
  rintro OV RQ rfl rfl rfl rfl;exact wpAny_getItem_str_slice (l:=OV) (u:=RQ) (st:=none) hs rfl (post_val_or_str ⟨Vo (Txt.slice_le (S l) _ _) Oy,fun t' k=>e t' k⟩)
 cases pl with
 |none=>
  cases pu with
  |none=>exact key none none rfl rfl rfl rfl
  |int j uj=>exact key none (some (j,uj)) rfl rfl rfl rfl
 |int i ui=>
  cases pu with
  |none=>exact key (some (i,ui)) none rfl rfl rfl rfl
  |int j uj=>exact key (some (i,ui)) (some (j,uj)) rfl rfl rfl rfl
theorem Aa{xs:List V}{j:Nat}{x:V}(h:xs[j]?=some x):xs.getD j .non=x:=by rw[UU,h];rfl
end
def Def(K:W.Frag)(mg:Str->Option Value)(x:Str)(st:Stmt):Prop:=∃f fd,Fun K x x st f fd/\mg x=some (.ref f)
def Ct(P:Program)(w:World)(K:W.Frag)(mg:Str->Option Value)(base:Heap)(x:Str)(k:Nat)(sp:Sp):Prop:=
 ∃f fd ps,FnOk P w K mg base L4 k f fd ps sp/\mg x=some (.ref f)/\PySem.W.keepIn K (.ref f)=true/\Binds K fd ps []
variable{e:Expr}{es:List Expr}{x:Str}
section
variable{t:TA}{p pos:Pos}{k:Nat}{sp:Sp}
theorem wt(C:Ct X.prog X.w X.K X.mg X.base x k sp)(hr:Room k X.A)(hg:Gl X x)(ha:PA X (e::es) t)(KN:(x==("__debug__" : Str))=false:=by decide)
  (he:starEach (e::es) X.env=(false,eval e X.env)::starEach es X.env:=by rfl) (KA:(backTo pos (starEach es X.env)).any (·.1)=false:=by rfl):
  PE X (.Call (.Name x p) (e::es) [] pos) (tCall sp [] E0 t):=by
 obtain⟨f,fd,ps,G,m,kp,b⟩:=C;exact zP G hr hg m kp b .nil GU ha KN he KA
end
theorem bt_len:bootBuiltins "len" = some (.builtin "len"):=by decide +kernel
theorem dk:bootBuiltins "isinstance" = some (.builtin "isinstance"):=by decide +kernel
theorem nO:bootBuiltins "list" = some (.type "list"):=by decide +kernel
theorem Dv:bootBuiltins "int" = some (.type "int"):=by decide +kernel
theorem oY:bootBuiltins "tuple" = some (.type "tuple"):=by decide +kernel
theorem line_eq:sizeLine=16777216:=Wn
theorem flat_strs(a:List (List Nat)):(a.map fun l=>V.str (S l)).all wg=true:=by
 rw[Vg];intro v hv;obtain⟨l,_,rfl⟩:=WA.mp hv;rfl
section
variable{st:Stmt}
end
noncomputable def clOf(scope:Scope)(env:Env):List (Str×Addr):=scope.names.foldl (fun cs y=>if y.2==NameKind.free then(y.1,(env.cells.lookup y.1).getD 0)::cs else cs) []
noncomputable def fY(scope:Scope)(env:Env):Bool:=scope.names.all fun y=>y.2 != NameKind.free||env.kindOf y.1==some .cell||env.kindOf y.1==some .free
theorem eC(env:Env):∀(l:List (Str×NameKind)) (cs:List (Str×Addr)),(∀y∈l,y.2=.free->∃c,env.cells.lookup y.1=some c)->
  (forIn l cs fun(y:Str×NameKind) (r:List (Str×Addr))=>(do
   if y.2==NameKind.free then
    let a <-cellOf env y.1
    pure (ForInStep.yield ((y.1,a)::r))
   else pure (ForInStep.yield r):Sem (ForInStep (List (Str×Addr)))))=pure (l.foldl (fun cs y=>if y.2==NameKind.free then(y.1,(env.cells.lookup y.1).getD 0)::cs else cs) cs)
 |[],cs,_=>by simp
 |y::l,cs,h=>by
  rw[Y0,Xe];by_cases k:y.2=.free
  ·obtain⟨c,e⟩:=h y UR k;have e2:cellOf env y.1=pure c:=by unfold cellOf;rw[e]
   simp only[k,VI,Xd,e2,e,WL,pure_bind];exact eC env l _ fun z hz=>h z (US _ hz)
  ·have kb:(y.2==NameKind.free)=false:=by simpa using k
   simp only[kb,W8,Za,pure_bind];exact eC env l _ fun z hz=>h z (US _ hz)
theorem fg(env:Env)(x:Str)(c:Addr):∀(l:List (Str×NameKind)) (cs:List (Str×Addr)),(∀y∈l,y.2=.free->∃c,env.cells.lookup y.1=some c)->(cs.lookup x=some c->env.cells.lookup x=some c)->
  (l.foldl (fun cs y=>if y.2==NameKind.free then(y.1,(env.cells.lookup y.1).getD 0)::cs else cs) cs).lookup x=some c->env.cells.lookup x=some c
 |[],_,_,h,e=>h e
 |y::l,cs,hf,h,e=>by
  rw[Xe]at e;refine fg env x c l _ (fun z hz=>hf z (US _ hz)) (fun q=>?_) e;split at q
  ·rename_i k;have k:y.2=.free:=by simpa using k
   obtain⟨d,ed⟩:=hf y UR k;rw[V6]at q;cases hx:x==y.1 with
   |true=>
    rw[hx]at q;have exy:x=y.1:=by simpa using hx
    rw[ed,WL]at q;rw[exy,ed];exact q
   |false=>
    rw[hx]at q;exact h q
  ·exact h q
theorem iZ(env:Env)(x:Str):∀(l:List (Str×NameKind)) (cs:List (Str×Addr)),((∃d,cs.lookup x=some d)\/(x,NameKind.free)∈l)->
  ∃d,(l.foldl (fun cs y=>if y.2==NameKind.free then(y.1,(env.cells.lookup y.1).getD 0)::cs else cs) cs).lookup x=some d
 |[],_,h=>by
  rcases h with h|h
  ·exact h
  ·cases h
 |y::l,cs,h=>by
  rw[Xe];refine iZ env x l _ ?_;rcases h with⟨d,h⟩|h
  ·refine .inl ?_;split
   ·rw[V6];cases hx:x==y.1 with
    |true=>exact⟨_,rfl⟩
    |false=>exact⟨d,h⟩
   ·exact⟨d,h⟩
  ·rcases U5.mp h with h|h
   ·refine .inl ?_;rw[<-h];refine⟨(env.cells.lookup x).getD 0,?_⟩;show List.lookup x ((x,_)::cs)=_;rw[V6,VI]
   ·exact .inr h
def aY(X:Cx)(scope:Scope)(N:List Str)(C:Addr)(s:Shared)(H:Hp)(fp:List Addr)(pn:List (Addr×Obj)):Cx:=
 {X with N:=N,s₀:=s,H₀:=H,env:=compEnvC scope (clOf scope X.env) C X.env,outer:=X.stack,ex:=fp,fn:=fun _=>false,pn:=pn,xe:=fun _ _=>False}
noncomputable def jN(ix:List (Option Nat))(σ:L2.St):L2.St:=ix.map fun i=>i.bind fun i=>(σ[i]?).bind id
def Ab(wi:TI)(ix:List (Option Nat))(g:TG)(tc:TT)(te:TE):TE:=fun σ H Q=>wi σ H fun J H1=>∀D,H1 D=none->∃W:Nat->Nat->L2.St->Hp->Prop,(∃m,W 0 m (jN ix σ) (upd H1 D (.lst [])))/\
 ∀i m σ1 H2,W i m σ1 H2->(J.stop i H2/\Q (.ref D) H2)\/(J.go i H2/\∀x H3,J.yld i H2 x H3->g x σ1 H3 fun σ2 H4=>tc σ2 H4 fun b H5=>if b=true then te σ2 H5 fun v H6=>
  ∃ys,H6 D=some (.lst ys)/\ys.length<sizeLine/\∃m',m'<m/\W (i+1) m' σ2 (upd H6 D (.lst (ys++[v]))) else ∃m',m'<m/\W (i+1) m' σ2 H5)
abbrev Nq:Value->Shared->Prop:=fun _ _=>False
variable{α:Type}{A:Around}{E:Value->Shared->Prop}{s:Shared}
theorem P8{M:Model}{t:Sem α}{Q Q':α->Shared->Prop}(h:wpAny M A t Q Nq s)(k:∀a s,Q a s->Q' a s):wpAny M A t Q' E s:=VN h k fun _ _ z=>z.elim
variable{prog:Program}{w:World}{elt iter:Expr}{ifs:List Expr}{scope:Scope}{env:Env}
theorem sy{R:Result->Shared->Prop}{target:Expr}{pos:Pos}{it acc:Value}(I:Nat->Shared->Prop)
  (turn:∀n s,I n s->wpAny (model prog w) A (pyNext it) (fun r s₁=>match r with
   |none=>R (.ok .next) s₁
   |some v=>wpAny (model prog w) A (letOwnedTupleGo target it v) (fun _ s₂=>wpAny (model prog w) A (assign target env v) (fun _ s₃=>
     wpAny (model prog w) A (forIn ifs true fun c r=>if r=true then do let ok <-isTrue c env (eval c env);pure (ForInStep.yield ok) else pure (ForInStep.yield r)) (fun ok s₄=>
      if ok=true then wpAny (model prog w) A (eval elt env) (fun x s₅=>
       wpAny (model prog w) A (call (.builtin "list.append") [acc,x]) (fun _ s₆=>∃m,m<n/\I m s₆) Nq s₅) Nq s₄
      else ∃m,m<n/\I m s₄) Nq s₃) Nq s₂) Nq s₁) Nq s)
  (n:Nat) (h:I n s):codeAny (model prog w) A (.compLoop (.ListComp elt [⟨target,iter,ifs,0⟩] scope pos) 0 it acc env) R s:=by
 refine codeAny_loop rfl I (fun n s hI=>?_) n h;show wpAny _ A ((compTurn (.ListComp elt [⟨target,iter,ifs,0⟩] scope pos) 0 it acc env).onRaise (fun x=>do noteFrame x env;theTreesLotGoes x)) _ _ s;refine wpAny_noted ?_;rw[compTurn_list];refine UQ (ZA (UQ (P8 (turn n s hI) fun r s₁ h₁=>?_)));cases r with
 |none=>exact U7 h₁
 |some v=>
  refine UQ (P8 h₁ fun _ s₂ h₂=>UQ (P8 h₂ fun _ s₃ h₃=>UQ (P8 h₃ fun ok s₄ h₄=>?_)));cases ok with
  |false=>exact U7 ⟨rfl,h₄⟩
  |true=>exact UQ (UQ (P8 h₄ fun x s₅ h₅=>UQ (P8 h₅ fun _ s₆ h₆=>U7 (U7 ⟨rfl,h₆⟩))))
def P9(X:Cx)(ifs:List Expr)(t:TT):Prop:=
 ∀(pr:List (Addr×Obj)) (s:Shared) (σ:L2.St) (H:Hp) (Q:Bool->Hp->Prop),Inv X pr σ H s->t σ H Q->
  wpAny (model X.prog X.w) X.A (forIn ifs true fun c r=>if r=true then do let ok <-isTrue c X.env (eval c X.env);pure (ForInStep.yield ok) else pure (ForInStep.yield r)) (TP X pr σ Q) X.xe s
noncomputable def Jq:TT:=fun _ H Q=>Q true H
theorem Ac:P9 X [] Jq:=fun _ _ _ H _ I h=>wpAny_tests_nil ⟨H,I,h⟩
theorem Ae{c:Expr}{t:TT}(h:PT X c t):P9 X [c] t:=fun pr s σ H Q I k=>wpAny_tests_one (h pr s σ H Q I k)
noncomputable def yt(X:Cx)(scope:Scope)(N:List Str)(ix:List (Option Nat)):Bool:=
 N.length==ix.length&&(N.zip ix).all fun y=>match y.2 with
  |none=>true
  |some j=>X.N[j]?==some y.1&&scope.names.lookup y.1==some .free
theorem lT(h:scope.names.lookup x=some .free):(relabel scope env).names.lookup x=some .cell\/(relabel scope env).names.lookup x=some .free:=by
 unfold relabel;dsimp only;generalize scope.names=l at h;induction l with
 |nil=>cases h
 |cons y l ih=>
  obtain⟨n,k⟩:=y;rw[V6]at h;rw[Vj];cases hx:x==n with
  |true=>
   rw[hx]at h;have hk:k=.free:=Vq h;subst hk;dsimp only;split
   ·exact .inl (by rw[V6,hx])
   ·exact .inr (by rw[V6,hx])
  |false=>
   rw[hx]at h;dsimp only;split
   ·rw[V6,hx];exact ih h
   ·rw[V6,hx];exact ih h
theorem lU(hc:∀y∈scope.names,y.2≠.cell)(h:(relabel scope env).names.lookup x=some .cell\/(relabel scope env).names.lookup x=some .free):(x,NameKind.free)∈scope.names:=by
 unfold relabel at h;dsimp only at h;generalize scope.names=l at h hc;induction l with
 |nil=>rcases h with h|h <;> cases h
 |cons y l ih=>
  obtain⟨n,k⟩:=y;rw[Vj]at h;dsimp only at h;have nk:k≠.cell:=hc (n,k) UR;have TV:=ih (hc:=fun z hz=>hc z (US _ hz));by_cases cnd:(k==NameKind.free&&env.scope.kind==.function&&env.kindOf n==some .cell)=true
  ·rw[U2 cnd,V6]at h;have kf:k=.free:=by
    have:(k==NameKind.free)=true:=by
     simp only[U4]at cnd;exact cnd.1.1
    simpa using this
   cases hx:x==n with
   |true=>
    have:x=n:=by simpa using hx
    rw[this,kf];exact UR
   |false=>
    rw[hx]at h;exact US _ (TV h)
  ·rw[U6 cnd,V6]at h;cases hx:x==n with
   |true=>
    rw[hx]at h;have:x=n:=by simpa using hx
    rcases h with h|h
    ·exact absurd (Vq h) nk
    ·rw[this,<-Vq h];exact UR
   |false=>
    rw[hx]at h;exact US _ (TV h)
variable{pr:List (Addr×Obj)}{σ:L2.St}{H:Hp}{N:List Str}{ix:List (Option Nat)}{fp:List Addr}
section
theorem kg(ok:X.Ok)(hf:fY scope X.env=true):∀y∈scope.names,y.2=.free->∃c,X.env.cells.lookup y.1=some c:=fun y hy k=>by
 have:=Vg.mp hf y hy;rw[k]at this;simp only[Ym,Bool.false_or,X1,Vz]at this;exact ok.has y.1 this
theorem i4(ok:X.Ok)(hf:fY scope X.env=true){c:Addr}(h:(clOf scope X.env).lookup x=some c):X.env.cells.lookup x=some c:=
 fg X.env x c scope.names [] (kg ok hf) (fun z=>nomatch z) h
theorem sH(ok:X.Ok)(hf:fY scope X.env=true)(h:(x,NameKind.free)∈scope.names):∃c,(clOf scope X.env).lookup x=some c/\X.env.cells.lookup x=some c:=by
 obtain⟨c,e⟩:=iZ X.env x scope.names [] (.inr h);exact⟨c,e,i4 ok hf e⟩
theorem _root_.L2.Inv.block(I:Inv X pr σ H s)(hf:fY scope X.env=true)(hk:scope.kind=.function)(Ku:∀y∈scope.names,y.2≠.cell)(Lq:yt X scope N ix=true)(fo:∀b∈fp,qA X pr H b)(fin:∀b∈fp,∃o,s.heap.get? b=some o)
  {h1:Heap}{t1:Nat}{D C:Addr}(hD:D=s.heap.objs.size) (hC:C=s.heap.objs.size+1) (old:∀b o,s.heap.get? b=some o->h1.get? b=some o) {n:Nat}(acc:h1.get? D=some {cls:=.type "list",data:=.seq #[] n})
  {m:Str->Option Value}(ns:h1.Ns C m):Inv (aY X scope N C s H fp (X.pn++pr)) [] (jN ix σ) (upd H D (.lst [])) {s with heap:=h1,toks:=t1}:=by
 have L8:s.heap.objs.size<=C:=by rw[hC];exact Wu _
 have freshD:s.heap.objs.size<=D:=by rw[hD];exact U3 _
 have nD:H D=none:=I.hok.fresh freshD;have DC:D≠C:=by rw[hD,hC];exact Vn (WM _)
 have OW:∀b,H b=none->b≠D->upd H D (.lst []) b=none:=fun b n z=>by rw[ah z];exact n
 have Qa:∀b o,s.heap.get? b=some o->b≠D:=fun b o e=>Vn (Vb (U8 e) freshD)
 have ME:∀b o,s.heap.get? b=some o->b≠C:=fun b o e=>Vn (Vb (U8 e) L8)
 have cellAt:∀x c,(clOf scope X.env).lookup x=some c->∃v o,s.heap.get? c=some o/\o.data=.cell v:=fun x c e=>by
  obtain⟨v,o,ho,hd⟩:=I.cell x c (i4 I.ok hf e);exact⟨v,o,ho,hd⟩
 have okY:(aY X scope N C s H fp (X.pn++pr)).Ok:=by
  refine⟨I.ok.mod,hk,I.ok.glob,I.ok.blt,L8,fun x y c e1 e2=>?_,fun x hx=>?_,fun x c z _=>?_,I.ok.hd,I.ok.frames,.inl rfl,fun b hb=>?_,I.bs,?_,fun b o e hb=>?_,fun b hb hs=>?_,I.stack,I.stkFree⟩
  ·exact I.ok.inj x y c (i4 I.ok hf e1) (i4 I.ok hf e2)
  ·obtain⟨c,e,_⟩:=sH I.ok hf (lU Ku hx);exact⟨c,e⟩
  ·exact absurd (show false=true from z) UY
  ·obtain⟨f0,f1,f2,f3,f4,f5⟩:=fo b hb;refine⟨?_,fun x c e=>f4 x c (i4 I.ok hf e)⟩;intro z;have z:b=C:=z;obtain⟨o,ho⟩:=fin b hb;exact ME b o ho z
  ·exact Vo I.ok.bsz I.sz
  ·obtain⟨f0,f1,f2,f3,f4,f5⟩:=fo b hb;rcases f3 with q|q
   ·exact I.ok.noex b o e q
   ·exact absurd (Vb (U8 e) (Vo I.ok.bsz q)) (Wv _)
  ·obtain⟨f0,f1,f2,_⟩:=fo b hb;exact(U5.mp (I.stkSub b hs)).elim f1 f2
 refine⟨okY,rfl,I.bare,Un.laid old freshD nD,⟨m,ns,fun i x v e1 e2 e3=>?_⟩,fun x c e=>?_,?_,fun x c e=>?_,fun p hp=>?_,I.hok.laid old freshD ⟨VJ _,[],n,.nil,acc⟩,?_⟩
 ·
  have e2:(ix.map fun i=>i.bind fun i=>(σ[i]?).bind id)[i]?=some (some v):=e2;have e1:N[i]?=some x:=e1;unfold yt at Lq;rw[U4]at Lq;rw[Vd]at e2;cases q:ix[i]? with
  |none=>rw[q]at e2;cases e2
  |some o=>
   rw[q]at e2;have e2:(o.bind fun i=>(σ[i]?).bind id)=some v:=Vq e2;cases o with
   |none=>cases e2
   |some j=>
    have e2:(σ[j]?).bind id=some v:=e2;have hσ:σ[j]?=some (some v):=by
     cases w':σ[j]? with
     |none=>rw[w']at e2;cases e2
     |some y=>rw[w']at e2;exact Wy some e2
    have hz:(N.zip ix)[i]?=some (x,some j):=by
     rw[WU];exact⟨e1,q⟩
    have hy:=Vg.mp Lq.2 _ (Vu hz);simp only[U4,Vz]at hy;have TY:(x,NameKind.free)∈scope.names:=WD hy.2;obtain⟨c,c1,c2⟩:=sH I.ok hf TY;have Qy:X.env.kindOf x=some .cell\/X.env.kindOf x=some .free:=by
     have:=Vg.mp hf _ TY;simpa using this
    obtain⟨mo,P7,TR⟩:=I.loc;obtain⟨u,r,l⟩:=TR j x v hy.1 hσ (.inr Qy);refine⟨u,r,.inr ⟨lT hy.2,c,c1,?_⟩⟩;rcases l with⟨k1,_⟩|⟨_,c',e',MS⟩
    ·rcases Qy with k2|k2 <;> (rw[k1]at k2;cases k2)
    ·rw[c2]at e';cases e';obtain⟨o,ho,hd⟩:=MS;exact⟨o,old c o ho,hd⟩
 ·obtain⟨v,o,ho,hd⟩:=cellAt x c e;exact⟨v,o,old c o ho,hd⟩
 ·exact OW C (I.hok.fresh L8) (Wx DC)
 ·obtain⟨v,o,ho,hd⟩:=cellAt x c e;exact OW c (I.freeC x c (i4 I.ok hf e)) (Qa c o ho)
 ·have hp:p∈X.pn++pr:=by
   have:p∈(X.pn++pr)++[]:=hp
   rwa [Vm]at this
  obtain⟨e,nn,ne,nf,d⟩:=I.pin p hp;refine⟨old _ _ e,OW _ nn (Qa _ _ e),ME _ _ e,fun z=>?_,d⟩;exact(U5.mp (I.stkSub p.1 z)).elim ne nf
 ·unfold yt at Lq;rw[U4]at Lq;have:N.length=ix.length:=by simpa using Lq.1
  show(ix.map _).length=N.length;rw[U1,this]
theorem _root_.L2.Inv.unblock{C:Addr}{σ1:L2.St}{H1:Hp}{s1:Shared}{h2:Heap}(I:Inv X pr σ H s)(fo:∀b∈fp,qA X pr H b)(hC:s.heap.objs.size<=C)(J:Inv (aY X scope N C s H fp (X.pn++pr)) [] σ1 H1 s1)(hs:Heap.SameBut C s1.heap h2):
  Inv X pr σ H1 {s1 with heap:=h2}:=by
 have ME:∀b o,s.heap.get? b=some o->b≠C:=fun b o e=>Vn (Vb (U8 e) hC)
 have bb:Un (Kv X.stack) fp H H1 s.heap s1.heap:=J.base;have jf:H1 C=none:=J.free;refine I.call' (s':={s1 with heap:=h2}) (ch:=fp) J.os ⟨fun b o e n hb hx=>?_,fun b o e n hb hx=>?_,bb.free,fun b o e hx=>?_,bb.tups,bb.frzs,bb.tbls⟩ (fun b ob e=>?_) J.bare fun b hb=>?_
 ·exact(hs.2 b (ME b o e)).trans (bb.keep b o e n hb hx)
 ·obtain⟨sl,q⟩:=bb.slot b o e n hb hx;exact⟨sl,(hs.2 b (ME b o e)).trans q⟩
 ·obtain⟨o',q⟩:=bb.there b o e hx;exact⟨o',(hs.2 b (ME b o e)).trans q⟩
 ·refine(J.hok b ob e).stay (fun c w' hc q=>(hs.2 c ?_).trans q) (fun _ q=>q) fun _ _ q=>q
  rintro rfl;rcases hc with rfl|hc
  ·rw[jf]at e;cases e
  ·rw[jf]at hc;cases hc
 ·obtain⟨f0,f1,f2,f3,f4,f5⟩:=fo b hb;exact⟨f3,f1,f4,f5⟩
end
variable{tg:Expr}{wi:TI}{g:TG}{tc:TT}{te:TE}{it:Addr}
section
variable{pos:Pos}
theorem jO{H2:Hp}{s2:Shared}{J:It}{tn:Nat->Heap->Prop}{Q:VK}{RR:Value->Addr->Result->Shared->Prop}{E:Value->Shared->Prop}
  (hc:X.calm=true) (I2:Inv X pr σ H2 s2) (T:Turn X.prog X.w X.K tg J fp it tn) (JW:tn 0 s2.heap) (f2:∀b∈fp,qA X pr H2 b)
  (hg:∀C s H fp pn,PG (aY X scope N C s H fp pn) tg g) (ht:∀C s H fp pn,P9 (aY X scope N C s H fp pn) ifs tc) (he:∀C s H fp pn,PE (aY X scope N C s H fp pn) elt te)
  (hf:fY scope X.env=true) (hk:scope.kind=.function) (Ku:∀y∈scope.names,y.2≠.cell) (Lq:yt X scope N ix=true)
  (q:∀D,H2 D=none->∃W:Nat->Nat->L2.St->Hp->Prop,(∃m,W 0 m (jN ix σ) (upd H2 D (.lst [])))/\
   ∀i m σ1 H3,W i m σ1 H3->(J.stop i H3/\Q (.ref D) H3)\/(J.go i H3/\∀x H4,J.yld i H3 x H4->g x σ1 H4 fun σ2 H5=>tc σ2 H5 fun b H6=>if b=true then te σ2 H6 fun v H7=>
    ∃ys,H7 D=some (.lst ys)/\ys.length<sizeLine/\∃m',m'<m/\W (i+1) m' σ2 (upd H7 D (.lst (ys++[v]))) else ∃m',m'<m/\W (i+1) m' σ2 H6))
  (hRR:∀(D C:Addr) (σ1:L2.St) (H1:Hp) (s1:Shared),s2.heap.objs.size<=C->Inv (aY X scope N C s2 H2 fp (X.pn++pr)) [] σ1 H1 s1->Q (.ref D) H1->RR (.ref D) C (.ok .next) s1):
  wpAny (model X.prog X.w) X.A (newList []) (fun acc s₃=>wpAny (model X.prog X.w) X.A (newFunctionEnv scope X.env.globals (clOf scope X.env) [] X.env.qual none .none (some X.env)) (fun MF s₄=>
   codeAny (model X.prog X.w) X.A (.compStart (.ListComp elt [⟨tg,iter,ifs,0⟩] scope pos) 0 (.ref it) acc {MF with scope:=relabel scope X.env}) (RR acc MF.locals) s₄) E s₃) E s2:=by
 refine Wq (wpAny_newFunctionEnv Ku (by intro y hy;simp at hy) (fun h₁ hns₁ hsb₁=>?_) hk);dsimp only at hns₁ hsb₁ ⊢;generalize hH2:s2.heap.push {cls:=.type "list",dict:=none,data:=.seq ([]:List Value).toArray}=HH at hns₁ hsb₁ ⊢;have hC:HH.objs.size=s2.heap.objs.size+1:=by rw[<-hH2,W5]
 have hDC:s2.heap.objs.size≠HH.objs.size:=by rw[hC];exact Vn (WM _)
 have Qz:s2.heap.objs.size<=HH.objs.size:=by rw[hC];exact Wu _
 have ME:∀b o,s2.heap.get? b=some o->b≠HH.objs.size:=fun b o e=>Vn (Vb (U8 e) Qz)
 have old:∀b o,s2.heap.get? b=some o->h₁.get? b=some o:=fun b o e=>hsb₁.extBut b o (ME b o e) (UZ _ (hH2▸UZ _ e))
 have Nr:h₁.get? s2.heap.objs.size=some {cls:=.type "list",data:=.seq #[] 0}:=hsb₁.extBut _ _ hDC (UZ _ (hH2▸Ve _ rfl));obtain⟨W,⟨m0,w0⟩,turn⟩:=q s2.heap.objs.size (I2.hok.fresh (U3 _));have fin:∀b∈fp,∃o,s2.heap.get? b=some o:=fun b hb=>let⟨o,e,_⟩:=T.obj 0 _ JW b hb;⟨o,e⟩
 have L7:∀{H':Hp},(∀b∈fp,H' b=none)->∀b∈fp,qA (aY X scope N HH.objs.size s2 H2 fp (X.pn++pr)) [] H' b:=fun{H'} hn b hb=>by
  obtain⟨f0,f1,ff,f3,f4,f5⟩:=f2 b hb;refine⟨hn b hb,?_,fun z=>?_,.inl hb,fun x c e=>f4 x c (i4 I2.ok hf e),fun p hp=>?_⟩
  ·intro z;have z:b=HH.objs.size:=z;obtain⟨o,ho⟩:=fin b hb;exact ME b o ho z
  ·exact(U5.mp (I2.stkSub b z)).elim f1 ff
  ·have hp:p∈X.pn++pr:=by
    have:p∈(X.pn++pr)++[]:=hp
    rwa [Vm]at this
   exact f5 p hp
 have loop:∀s₃:Shared,s₃={s2 with heap:=h₁,toks:=s2.toks+([]:List (Str×Value)).length}->
   codeAny (model X.prog X.w) X.A (.compLoop (.ListComp elt [⟨tg,iter,ifs,0⟩] scope pos) 0 (.ref it) (.ref s2.heap.objs.size) (compEnvC scope (clOf scope X.env) HH.objs.size X.env)) (RR (.ref s2.heap.objs.size) HH.objs.size) s₃:=by
  rintro s₃ rfl;refine sy (fun n s'=>∃i σ' H',Inv (aY X scope N HH.objs.size s2 H2 fp (X.pn++pr)) [] σ' H' s'/\tn i s'.heap/\(∀b∈fp,H' b=none)/\W i n σ' H') ?_ m0
   ⟨0,_,_,I2.block hf hk Ku Lq f2 fin rfl hC old Nr hns₁,T.keep 0 _ _ JW fun b _ o e=>old b o e,fun b hb=>?_,w0⟩
  ·rintro n s3 ⟨i,σ3,H3,I3,Kq,Qq,w3⟩;rcases turn i n σ3 H3 w3 with⟨stop,qn⟩|⟨go,step⟩
   ·refine Kh (T.done (aY X scope N HH.objs.size s2 H2 fp (X.pn++pr)) rfl rfl rfl hc i [] s3 σ3 H3 Nq I3 (L7 Qq) Kq stop) fun r s4 Kk=>?_
    obtain⟨hr,I4⟩:=Kk;subst hr;exact hRR _ _ σ3 H3 s4 Qz I4 qn
   ·refine Kh (T.item (aY X scope N HH.objs.size s2 H2 fp (X.pn++pr)) rfl rfl rfl hc i [] s3 σ3 H3 Nq I3 (L7 Qq) Kq go) fun r s4 Kk=>?_
    obtain⟨u,hr,h4⟩:=Kk;subst hr;refine Kh h4 fun _ s5 Kk=>?_
    obtain⟨x,H5,I5,r5,y5,LP,Sn⟩:=Kk;have Sq:=I5.pinned (L7 Sn) (T.obj _ _ LP);refine Kh (hg _ _ _ _ _ _ s5 σ3 H5 x u _ Sq r5 (step x H5 y5)) fun _ s6 Kk=>?_
    obtain⟨σ6,H6,I6,q6⟩:=Kk;refine Kh (ht _ _ _ _ _ _ s6 σ6 H6 _ I6 q6) fun ok s7 Kk=>?_
    obtain⟨H7,I7,q7⟩:=Kk;have again:∀{H8:Hp}{s8:Shared},Inv (aY X scope N HH.objs.size s2 H2 fp (X.pn++pr)) ([]++lD fp s5.heap) σ6 H8 s8->(∃m',m'<n/\W (i+1) m' σ6 H8)->
      ∃m,m<n/\∃i σ' H',Inv (aY X scope N HH.objs.size s2 H2 fp (X.pn++pr)) [] σ' H' s8/\tn i s8.heap/\(∀b∈fp,H' b=none)/\W i m σ' H':=fun{H8 s8} I8 ⟨m',hm,w8⟩=>by
     refine⟨m',hm,i+1,σ6,H8,I8.unpinned,T.keep _ _ _ LP fun b hb o e=>(I8.pin (b,o) (UW _ (UW _ (eB hb e)))).1,fun b hb=>?_,w8⟩;obtain⟨o,e,d⟩:=T.obj _ _ LP b hb;exact(I8.pin (b,o) (UW _ (UW _ (eB hb e)))).2.1
    cases ok with
    |false=>exact again I7 q7
    |true=>
     show wpAny _ _ _ _ _ _;refine Kh (he _ _ _ _ _ _ s7 σ6 H7 _ I7 q7) fun x8 s8 Kk=>?_
     obtain⟨v8,H8,I8,r8,ys,hys,Kw,q8⟩:=Kk;refine Kh (iX _ s8 σ6 H8 (.ref s2.heap.objs.size) [v8] (.ref s2.heap.objs.size) [x8] (fun _ H9=>∃m',m'<n/\W (i+1) m' σ6 H9) I8 rfl (.cons r8 .nil) ⟨_,ys,v8,rfl,rfl,hys,Kw,q8⟩) fun _ s9 Kk=>?_
     obtain⟨_,H9,I9,_,q9⟩:=Kk;exact again I9 q9
  ·rw[ah (fun z=>by
    obtain⟨o,ho⟩:=fin b hb;exact absurd z (Vn (U8 ho)))]
   exact(f2 b hb).1
 exact codeAny_compStart_list (loop _ rfl) (T.self _ 0 _ _ _ (T.keep 0 _ _ JW fun b _ o e=>old b o e) (loop _ rfl))
theorem Af(ix:List (Option Nat))(N:List Str)(hc:X.calm=true)(hi:PI X tg iter wi)(hg:∀C s H fp pn,PG (aY X scope N C s H fp pn) tg g)(ht:∀C s H fp pn,P9 (aY X scope N C s H fp pn) ifs tc)(he:∀C s H fp pn,PE (aY X scope N C s H fp pn) elt te)
  (hf:fY scope X.env=true:=by rfl) (hk:scope.kind=.function:=by rfl) (Ku:∀y∈scope.names,y.2≠.cell:=by decide +kernel) (Lc:∀y∈scope.names,y.2=.local->scope.names.lookup y.1=some .local:=by decide +kernel) (Lq:yt X scope N ix=true:=by rfl)
  (hs:∀x,foldedSetIterable iter X.env x=pure x:=by intro _;rfl):PE X (.ListComp elt [⟨tg,iter,ifs,0⟩] scope pos) (Ab wi ix g tc te):=by
 intro pr s σ H Q I h;rw[eval_ListComp];have MW:closureFor scope X.env=pure (clOf scope X.env):=by
  unfold closureFor clOf;have:=eC X.env scope.names [] (kg I.ok hf);simpa using this
 refine Yn (use:=none) rfl hs MW hk Lc (Kh (hi pr s σ H _ I h) fun v s1 h1=>Kh h1 fun RK s2 h2=>?_);obtain⟨it,fp,tn,J,H2,e,I2,T,JW,f2,q⟩:=h2;subst e;refine jO (RR:=fun acc C=>compPost (model X.prog X.w) X.A X.xe none (EP X pr σ Q) acc C) (Q:=Q) (iter:=iter) hc I2 T JW f2 hg ht he hf hk Ku Lq q fun D C σ1 H1 s1 hC J1 q1=>?_
 obtain⟨m,ns,_⟩:=J1.loc;exact⟨m,ns,fun h' SA=>⟨.ref D,H1,I2.unblock f2 hC J1 SA,rfl,q1⟩⟩
end
variable{i:Nat}
section
variable{pos:Pos}
theorem Ag{y:Str}{py Lx:Pos}(ix:List (Option Nat))(N:List Str)(hN:X.N.Nodup)(SD:X.N[i]?=some y)(hy:Loc X.env.scope y)(hc:X.calm=true)(hi:PI X tg iter wi)(hg:∀C s H fp pn,PG (aY X scope N C s H fp pn) tg g)(ht:∀C s H fp pn,P9 (aY X scope N C s H fp pn) ifs tc)
  (he:∀C s H fp pn,PE (aY X scope N C s H fp pn) elt te) (OX:swapsWith (.ListComp elt [⟨tg,iter,ifs,0⟩] scope pos) (some (.Name y py)) Lx.line X.env=pure true:=by rfl)
  (hf:fY scope X.env=true:=by rfl) (hk:scope.kind=.function:=by rfl) (Ku:∀y∈scope.names,y.2≠.cell:=by decide +kernel) (Lc:∀y∈scope.names,y.2=.local->scope.names.lookup y.1=some .local:=by decide +kernel) (Lq:yt X scope N ix=true:=by rfl)
  (hs:∀x,foldedSetIterable iter X.env x=pure x:=by intro _;rfl) (OP:X.fn y=true\/X.env.scope.names.lookup y=some .local:=by first|exact .inl rfl|exact .inr rfl):
  PS X (.Assign [.Name y py] (.ListComp elt [⟨tg,iter,ifs,0⟩] scope pos) Lx) (fun D σ H=>Ab wi ix g tc te σ H fun v H'=>D.nx (σ.set i (some v)) H'):=by
 intro pr s σ H Dd I h;rw[exec_Assign_Name_used _ _ _ _ OX];have MW:closureFor scope X.env=pure (clOf scope X.env):=by
  unfold closureFor clOf;have:=eC X.env scope.names [] (kg I.ok hf);simpa using this
 refine UQ (ZA (UQ ?_));show wpAny _ X.A (do let _ <-comprehension (.ListComp elt [⟨tg,iter,ifs,0⟩] scope pos) scope X.env _ (newList []) false (eval iter X.env) (some (assign (.Name y py) X.env))) _ _ s;refine UQ (VN (Yn (use:=some (assign (.Name y py) X.env)) (Q:=fun _ s'=>SP X pr Dd .next s') rfl hs MW hk Lc
  (Kh (hi pr s σ H _ I h) fun v s1 h1=>Kh h1 fun RK s2 h2=>?_)) (fun _ s' hq=>U7 (U7 hq)) fun _ _ e=>e)
 obtain⟨it,fp,tn,J,H2,e,I2,T,JW,f2,q⟩:=h2;subst e;refine jO (RR:=fun acc C=>compPost (model X.prog X.w) X.A X.xe (some (assign (.Name y py) X.env)) (fun _ s'=>SP X pr Dd .next s') acc C) (Q:=fun v H'=>Dd.nx (σ.set i (some v)) H') (iter:=iter) hc I2 T JW f2 hg ht he hf hk Ku Lq q fun D C σ1 H1 s1 hC J1 q1=>?_
 obtain⟨m,ns,_⟩:=id J1.loc;have ns:s1.heap.Ns C m:=ns;have I3:Inv X pr σ H1 s1:=I2.unblock f2 hC J1 (.refl ..);show wpAny _ X.A (assign (.Name y py) X.env (.ref D)) _ _ s1;refine wpAny_assign_Name (lC I3 hN SD hy (v:=.ref D) rfl (fun s4 I4 ⟨a,sb,ha⟩=>?_) OP);have aC:C≠a:=by
  intro z;rcases ha with ha|ha
  ·exact Vn (Vb I2.lt hC) (ha▸z.symm)
  ·obtain⟨v,o,ho,_⟩:=I2.cell y a ha;exact Vn (Vb (U8 ho) hC) z.symm
 refine⟨m,ns.sameBut sb aC,fun h' SA=>?_⟩;have jf:H1 C=none:=J1.free;have kk:∀b o,b≠C->s4.heap.get? b=some o->h'.get? b=some o:=fun b o hb e=>(SA.2 b hb).trans e
 refine⟨σ.set i (some (.ref D)),H1,?_,q1⟩;have z:=I4.turned (t':=s4.toks) kk jf (fun z=>Vn (Vb I2.lt hC) z.symm) (.inr (Vo I2.sz hC)) (fun x c e z=>by
  obtain⟨v,o,ho,_⟩:=I2.cell x c e;exact Vn (Vb (U8 ho) hC) z) (fun p hp z=>Vn (Vb (U8 (I2.pin p hp).1) hC) z)
 exact z
end
variable{h':Heap}{us:List Value}{ns:List Int}
section
theorem iO{p:Addr}{xs:List V}{E:Value->Shared->Prop}{R:Value->Shared->Prop}(hc:X.calm=true)(I:Inv X pr σ H s)(h:SqL X.K H p xs\/SqT X.K H p xs)
  (k:∀(it:Addr) (fp:List Addr) (o:Obj) (us:List Value) (Sx:Nat->Heap->Prop),Vals xs us->Walks X.prog X.w X.A.in1 it fp [it] us.length (fun i v=>us[i]?=some v) Sx->Sx 0 (s.heap.push o)->(∀b∈fp,b<(s.heap.push o).objs.size)->it=s.heap.objs.size->R (.ref it) {s with heap:=s.heap.push o}):
  wpAny (model X.prog X.w) X.A.in1 (pyIter (.ref p)) R E s:=by
 have hh:X.A.in1.handled=none:=I.ok.hd hc;rcases h with h|h
 ·obtain⟨us,r,pl,hz⟩:=I.list h;have Kw:p<s.heap.objs.size:=by obtain⟨o,ho,_⟩:=pl.isList;exact U8 ho
  refine WY pl.isList (k s.heap.objs.size [s.heap.objs.size,p] _ us (fun i h=>h.IsListIter s.heap.objs.size p i/\h.IsList p us.toArray) r (by
   have W:=Walks.list (prog:=X.prog) (w:=X.w) hh s.heap.objs.size p (Vn Kw) us.toArray;simpa using W) ⟨⟨_,Ve _ rfl,rfl,rfl⟩,pl.isList.at fun o e=>UZ _ e⟩ (fun b hb=>?_) rfl)
  rw[W5];rcases U5.mp hb with rfl|hb
  ·exact WM _
  ·rw[Vi]at hb;rw[hb];exact Yo Kw
 ·obtain⟨us,r,pl,hz⟩:=I.tuple h;have OV:s.heap.IsTuple p us.toArray:=pl;have Kw:p<s.heap.objs.size:=by obtain⟨o,ho,_⟩:=pl;exact U8 ho
  refine WQ OV (k s.heap.objs.size [s.heap.objs.size,p] _ us (fun i h=>h.IsTupleIter s.heap.objs.size p i/\h.IsTuple p us.toArray) r (by
   have W:=Walks.tuple (prog:=X.prog) (w:=X.w) hh s.heap.objs.size p (Vn Kw) us.toArray;simpa using W) ⟨⟨_,Ve _ rfl,rfl,rfl⟩,OV.at fun o e=>UZ _ e⟩ (fun b hb=>?_) rfl)
  rw[W5];rcases U5.mp hb with rfl|hb
  ·exact WM _
  ·rw[Vi]at hb;rw[hb];exact Yo Kw
theorem eD{o:Obj}{tk:Nat}(I:Inv X pr σ H s)(kk:∀b ob,b∉[s.heap.objs.size]->(s.heap.push o).get? b=some ob->h'.get? b=some ob):
  Inv X pr σ H {s with heap:=h',toks:=tk}:=I.kept fun b ob e=>kk b ob (fun z=>Vn (U8 e) (by simpa using z)) (UZ _ e)
theorem aX(l:List α)(i:Nat)(d:α)(h:i<l.length):l.getD i d=l[i]:=by
 rw[UU,UT h];rfl
noncomputable def Dw:V->Bool
 | .bl b=>b
 |_=>false
noncomputable def GW:V->Bool
 | .bl _=>true
 |_=>false
theorem wu{xs:List V}(r:Vals xs us)(hb:xs.all GW=true):TruthOf X.prog X.w X.A.in1 (fun i v=>us[i]?=some v) (fun i=>Dw (xs.getD i .non)):=by
 intro i v s Q E hv q;have hl:=r.length;obtain⟨hi,_⟩:=U0.mp hv;have e1:xs[i]?=some (xs[i]'(by lia)):=UT _;obtain⟨u,hu,ru⟩:=r.get e1;rw[hv]at hu;cases hu;have q:Q (Dw (xs.getD i .non)) s:=q;rw[Aa e1]at q;have bl:=Vg.mp hb _ (Vu e1);generalize xs[i]'(by lia)=x at ru q bl;cases x <;> first|(exact absurd (show false=true from bl) UY)|skip
 cases ru;exact Xj q
theorem sI{xs:List V}(f:V->Bool):(List.range xs.length).all (fun i=>f (xs.getD i .non))=xs.all f:=by
 rw[Vr,Vg,Vg];constructor
 ·intro h x hx;obtain⟨i,hi,rfl⟩:=W3 hx;have:=h i (Vv.mpr hi)
  rwa [aX _ _ _ hi]at this
 ·intro h i hi;have hi:=Vv.mp hi;rw[aX _ _ _ hi];exact h _ (VZ hi)
theorem wx(hc:X.calm=true):bL X (.builtin "all") (fun vs H Q=>∃p xs,vs=[.ref p]/\(SqL X.K H p xs\/SqT X.K H p xs)/\xs.all GW=true/\Q (.bl (xs.all Dw)) H):=by
 intro pr s σ H vs us Q I r h;obtain⟨p,xs,rfl,hp,hb,q⟩:=h;obtain⟨u,rfl,r1⟩:=cO r;cases r1;refine call_all_walk (iO hc I hp fun it fp o ws Sx rv W st hf hit=>⟨it,fp,[it],_,_,Sx,_,rfl,W,st,wu rv hb,fun h' tk kk=>?_⟩);subst hit;refine⟨.bl (xs.all Dw),H,eD (s:=s) I kk,?_,q⟩;rw[<-rv.length,sI];rfl
theorem cP(r:Vals (ns.map V.int) us){v:Value}(h:us[i]?=some v):∃t,v=.int (ns.getD i 0) t:=by
 have hl:=r.length;rw[U1]at hl;obtain⟨hi,_⟩:=U0.mp h;have e1:(ns.map V.int)[i]?=some (.int (ns.getD i 0)):=by
  rw[Vd,UT (by lia),aX _ _ _ (by lia)];rfl
 obtain⟨u,hu,t,rfl⟩:=r.get e1;rw[h]at hu;exact⟨t,Vq hu⟩
theorem oZ(r:Vals (ns.map V.int) us)(A:Around):CmpOf X.prog X.w A .Gt (fun i v=>us[i]?=some v) (fun i j=>decide (ns.getD j 0<ns.getD i 0)):=by
 intro i j vi vj s Q E hi hj q;obtain⟨t,rfl⟩:=cP r hi;obtain⟨t',rfl⟩:=cP r hj;exact gt_int q
theorem sJ(r:Vals (ns.map V.int) us)(A:Around):CmpOf X.prog X.w A .Lt (fun i v=>us[i]?=some v) (fun i j=>decide (ns.getD i 0<ns.getD j 0)):=by
 intro i j vi vj s Q E hi hj q;obtain⟨t,rfl⟩:=cP r hi;obtain⟨t',rfl⟩:=cP r hj;exact lt_int q
noncomputable def lV(ns:List Int):Int:=ns.foldl max (ns.headD 0)
noncomputable def Ah(ns:List Int):Int:=ns.foldl min (ns.headD 0)
theorem kh(ns:List Int):∀k,k<ns.length->argBest (fun i j=>decide (ns.getD j 0<ns.getD i 0)) k<ns.length/\ns.getD (argBest (fun i j=>decide (ns.getD j 0<ns.getD i 0)) k) 0=(ns.take (k+1)).foldl max (ns.headD 0)
 | 0,h=>by
  refine⟨h,?_⟩;cases ns with
  |nil=>cases h
  |cons a l=>show a=max a a;lia
 |k+1,h=>by
  obtain⟨SF,SG⟩:=kh ns k (by lia);have et:ns.take (k+1+1)=ns.take (k+1)++[ns.getD (k+1) 0]:=by
   rw[Yl,UT h,aX _ _ _ h];rfl
  rw[et,List.foldl_append,<-SG];show(if decide (ns.getD (argBest (fun i j=>decide (ns.getD j 0<ns.getD i 0)) k) 0<ns.getD (k+1) 0)=true then k+1 else argBest (fun i j=>decide (ns.getD j 0<ns.getD i 0)) k)<ns.length/\
   ns.getD (if decide (ns.getD (argBest (fun i j=>decide (ns.getD j 0<ns.getD i 0)) k) 0<ns.getD (k+1) 0)=true then k+1 else argBest (fun i j=>decide (ns.getD j 0<ns.getD i 0)) k) 0=max _ _
  split
  ·rename_i hd;have:=VL hd;exact⟨h,by lia⟩
  ·rename_i hd;rw[Vc]at hd;exact⟨SF,by lia⟩
theorem o3(ns:List Int):∀k,k<ns.length->argBest (fun i j=>decide (ns.getD i 0<ns.getD j 0)) k<ns.length/\ns.getD (argBest (fun i j=>decide (ns.getD i 0<ns.getD j 0)) k) 0=(ns.take (k+1)).foldl min (ns.headD 0)
 | 0,h=>by
  refine⟨h,?_⟩;cases ns with
  |nil=>cases h
  |cons a l=>show a=min a a;lia
 |k+1,h=>by
  obtain⟨SF,SG⟩:=o3 ns k (by lia);have et:ns.take (k+1+1)=ns.take (k+1)++[ns.getD (k+1) 0]:=by
   rw[Yl,UT h,aX _ _ _ h];rfl
  rw[et,List.foldl_append,<-SG];show(if decide (ns.getD (k+1) 0<ns.getD (argBest (fun i j=>decide (ns.getD i 0<ns.getD j 0)) k) 0)=true then k+1 else argBest (fun i j=>decide (ns.getD i 0<ns.getD j 0)) k)<ns.length/\
   ns.getD (if decide (ns.getD (k+1) 0<ns.getD (argBest (fun i j=>decide (ns.getD i 0<ns.getD j 0)) k) 0)=true then k+1 else argBest (fun i j=>decide (ns.getD i 0<ns.getD j 0)) k) 0=min _ _
  split
  ·rename_i hd;have:=VL hd;exact⟨h,by lia⟩
  ·rename_i hd;rw[Vc]at hd;exact⟨SF,by lia⟩
theorem sL(hc:X.calm=true):bL X (.builtin "max") (fun vs H Q=>∃(p:Addr) (ns:List Int),vs=[.ref p]/\(SqL X.K H p (ns.map V.int)\/SqT X.K H p (ns.map V.int))/\ns≠[]/\Q (.int (lV ns)) H):=by
 intro pr s σ H vs us Q I r h;obtain⟨p,ns,rfl,hp,LA,q⟩:=h;obtain⟨u,rfl,r1⟩:=cO r;cases r1;have hn:0<ns.length:=by cases ns with|nil=>exact absurd rfl LA|cons _ _=>simp
 refine call_max_walk (iO hc I hp fun it fp o ws Sx rv W st hf hit=>?_);have hl:=rv.length;rw[U1]at hl;refine⟨it,fp,[it],_,_,Sx,_,rfl,W,st,hf,by lia,oZ rv _,fun v h' tk hv kk=>?_⟩;subst hit;obtain⟨b1,b2⟩:=kh ns (ns.length-1) (by lia);rw[<-hl]at hv;obtain⟨t,rfl⟩:=cP rv hv;refine⟨.int (lV ns),H,eD (s:=s) I kk,⟨t,?_⟩,q⟩;rw[b2,show ns.length-1+1=ns.length by lia,YH];rfl
theorem sM(hc:X.calm=true):bL X (.builtin "min") (fun vs H Q=>∃(p:Addr) (ns:List Int),vs=[.ref p]/\(SqL X.K H p (ns.map V.int)\/SqT X.K H p (ns.map V.int))/\ns≠[]/\Q (.int (Ah ns)) H):=by
 intro pr s σ H vs us Q I r h;obtain⟨p,ns,rfl,hp,LA,q⟩:=h;obtain⟨u,rfl,r1⟩:=cO r;cases r1;have hn:0<ns.length:=by cases ns with|nil=>exact absurd rfl LA|cons _ _=>simp
 refine call_min_walk (iO hc I hp fun it fp o ws Sx rv W st hf hit=>?_);have hl:=rv.length;rw[U1]at hl;refine⟨it,fp,[it],_,_,Sx,_,rfl,W,st,hf,by lia,sJ rv _,fun v h' tk hv kk=>?_⟩;subst hit;obtain⟨b1,b2⟩:=o3 ns (ns.length-1) (by lia);rw[<-hl]at hv;obtain⟨t,rfl⟩:=cP rv hv;refine⟨.int (Ah ns),H,eD (s:=s) I kk,⟨t,?_⟩,q⟩;rw[b2,show ns.length-1+1=ns.length by lia,YH];rfl
end
variable{kw:List (Str×Value)}
section
variable{R:Result->Shared->Prop}{wr:List Addr}{n:Nat}{Pv:Nat->Value->Prop}{Sx:Nat->Heap->Prop}
theorem ki:(toString "max"++toString ".loop" : String) = "max.loop":=by decide
theorem GX(Wk:Walks prog w A.in1 it fp wr n Pv Sx)(bt:Nat->Nat->Bool)(cm:CmpOf prog w A.in1 .Gt Pv bt)(T:Addr)(nT:T∉fp):∀(k j:Nat) (s:Shared) (vb:Value) (c:Nat),n-(j+1)=k->j+1<=n->Sx (j+1) s.heap->Pv (argBest bt j) vb->
   s.heap.get? T=some {cls:=.type "list",dict:=none,data:=.seq #[vb,vb] c,slots:=#[]}->
   (∀v h' tk,Pv (argBest bt (n-1)) v->(∀b o,b∉wr->b≠T->s.heap.get? b=some o->h'.get? b=some o)->R (.ok (.ret v)) {s with heap:=h',toks:=tk})->codeAny (model prog w) A (.builtin "max.loop" ⟨[.ref it,.none,.ref T],kw⟩) R s:=by
 have RS:T∉wr:=fun z=>nT (Wk.sub _ z)
 intro k;induction k with
 |zero=>
  intro j s vb c hk hj st hp hT fin;have ej:j+1=n:=by lia
  refine X2 YI ?_;rw[XR WN _];show wpAny _ A.in1 (seqItems? (.ref T) >>= _) _ _ s;refine UQ (Wb hT rfl ?_);show wpAny _ A.in1 (tryCatch (pyNext (.ref it)) _ >>= _) _ _ s;refine UQ (XJ (Wk.done s _ _ (ej▸st) fun h' tk kk=>?_));have Oz:=kk T _ RS hT;show wpAny _ A.in1 (updateSeq T (fun _=>#[]) >>= _) _ _ _;refine UQ (Y1 Oz rfl (UQ (Xu (U7 ?_))));exact fin vb _ tk (by rw[<-ej];exact hp) fun b o bw bT e=>(VE _ _ (Wx bT)).trans (kk b o bw e)
 |succ k ih=>
  intro j s vb c hk hj st hp hT fin;have jn:j+1<n:=by lia
  refine X2 YI ?_;rw[XR WN _];show wpAny _ A.in1 (seqItems? (.ref T) >>= _) _ _ s;refine UQ (Wb hT rfl ?_);show wpAny _ A.in1 (tryCatch (pyNext (.ref it)) _ >>= _) _ _ s;refine UQ (XJ (Wk.item (j+1) s _ _ jn st fun v h' tk pv Lm kk=>?_));have Oz:=kk T _ RS hT;show wpAny _ A.in1 (tryCatch (holding [v,v] (richCompare .Gt v vb >>= _)) _ >>= _) _ _ _;refine UQ (XJ (Xk (UQ (cm (j+1) (argBest bt j) v vb _ _ _ pv hp (UQ (Xk (Xj (UQ (Xu (U7 ?_))))))))));cases eb:bt (j+1) (argBest bt j) with
  |true=>
   rw[U2 rfl];refine UQ (Y1 Oz rfl (UQ (Xu ?_)));rw[ki];refine U7 ⟨Yy WN _,ih (j+1) _ v _ (by lia) jn (Wk.frame _ _ _ Lm fun b bf o e=>?_) (by simp only[argBest,eb,Xd];exact pv) (Xf _ Oz rfl) fun v2 h2 t2 p2 k2=>?_⟩
   ·exact(VE _ _ (fun z:T=b=>nT (by rw[z];exact bf))).trans e
   ·exact fin v2 h2 t2 p2 fun b o bw bT e=>k2 b o bw bT ((VE _ _ (Wx bT)).trans (kk b o bw e))
  |false=>
   rw[U6 UY];refine UQ (Xu ?_);rw[ki];refine U7 ⟨Yy WN _,ih (j+1) _ vb c (by lia) jn Lm (by simp only[argBest,eb,W8,Za];exact hp) Oz fun v2 h2 t2 p2 k2=>?_⟩;exact fin v2 h2 t2 p2 fun b o bw bT e=>k2 b o bw bT (kk b o bw e)
theorem wy(Wk:Walks prog w A.in1 it fp wr n Pv Sx)(bt:Nat->Nat->Bool)(cm:CmpOf prog w A.in1 .Gt Pv bt)(T:Addr)(nT:T∉fp){c:Nat}{d:Value}(hkw:kw=[(Str.ofString "default",d)])(st:Sx 0 s.heap)
  (hT:s.heap.get? T=some {cls:=.type "list",dict:=none,data:=.seq #[] c,slots:=#[]}) (fin:∀v h' tk,(if n=0 then v=d else Pv (argBest bt (n-1)) v)->(∀b o,b∉wr->b≠T->s.heap.get? b=some o->h'.get? b=some o)->R (.ok (.ret v)) {s with heap:=h',toks:=tk}):
  codeAny (model prog w) A (.builtin "max.loop" ⟨[.ref it,.none,.ref T],kw⟩) R s:=by
 have RS:T∉wr:=fun z=>nT (Wk.sub _ z)
 refine X2 YI ?_;rw[XR WN _];show wpAny _ A.in1 (seqItems? (.ref T) >>= _) _ _ s;refine UQ (Wb hT rfl ?_);show wpAny _ A.in1 (tryCatch (pyNext (.ref it)) _ >>= _) _ _ s;by_cases hn:n=0
 ·refine UQ (XJ (Wk.done s _ _ (by rw[hn];exact st) fun h' tk kk=>?_));subst hkw;refine UQ (Zc (U7 ?_));exact fin d _ tk (by rw[U2 hn]) fun b o bw bT e=>kk b o bw e
 ·refine UQ (XJ (Wk.item 0 s _ _ (by lia) st fun v h' tk pv Lm kk=>?_));have Oz:=kk T _ RS hT;show wpAny _ A.in1 (updateSeq T (fun _=>#[v,v]) >>= _) _ _ _;refine UQ (Y1 Oz rfl ?_);rw[ki];refine U7 ⟨Yy WN _,GX Wk bt cm T nT _ 0 _ v _ rfl (by lia) (Wk.frame _ _ _ Lm fun b bf o e=>?_) pv (Xf _ Oz rfl) fun v2 h2 t2 p2 k2=>?_⟩
  ·exact(VE _ _ (fun z:T=b=>nT (by rw[z];exact bf))).trans e
  ·exact fin v2 h2 t2 (by rw[U6 hn];exact p2) fun b o bw bT e=>k2 b o bw bT ((VE _ _ (Wx bT)).trans (kk b o bw e))
end
variable{Q:Value->Shared->Prop}
theorem tree_kw{id:String}{bf:Builtin}{args:List Value}(hk:builtinKind id=none)(hp:plainId id=true)
  (hb:entryFor table id=some bf) (ha:argsOk id ⟨args,kw⟩)
  (hc:wpAny (model prog w) A.in1 (bf ⟨args,kw⟩) (fun fin s'=>match fin with
   | .done f=>(match(Except.ok f:Result) with | .ok (.ret v)=>Q v s' | .ok _=>False | .error e=>E e s')
   | .again c'=>c'.quiet=true/\codeAny (model prog w) A c' (fun r s'=>match r with | .ok (.ret v)=>Q v s' | .ok _=>False | .error e=>E e s') s') E s):wpAny (model prog w) A (call (.builtin id) args kw) Q E s:=by
 refine wpAny_call (XS hp hb ?_);simp only[checkBuiltinCall,hk];cases hsig:Manifest.signature? id with
 |none=>exact U7 hc
 |some sig=>
  have ha2:Bind.checkArgs id sig ⟨args,kw⟩=pure ():=by simpa only[argsOk,hsig] using ha
  simp only[ha2];exact U7 hc
theorem sN(a d:Value):argsOk "max" ⟨[a],[(Str.ofString "default",d)]⟩:=by unfold argsOk;kernel_rfl
section
variable{k:Expr}{tk:TE}{p pos MC:Pos}
def maxD(ns:List Int)(d:Int):Int:=if ns=[] then d else lV ns
def GY(K:W.Frag)(te tk:TE):TE:=fun σ H Q=>wb te Gj σ H fun vs H1=>wb tk Gj σ H1 fun ks H2=>∃(a:Addr) (ns:List Int) (d:Int),vs=[.ref a]/\ks=[.int d]/\(SqL K H2 a (ns.map V.int)\/SqT K H2 a (ns.map V.int))/\Q (.int (maxD ns d)) H2
theorem Ai(hc:X.calm=true)(hg:Gl X "max")(hm:X.mg "max" = none)(he:PE X e te)(hk:PE X k tk)(hs:starEach [e] X.env=[(false,eval e X.env)]:=by rfl):
  PE X (.Call (.Name "max" p) [e] [⟨some "default",k,MC⟩] pos) (GY X.K te tk):=by
 intro pr s σ H Q I h;refine Wd (fW I hg hm (by decide +kernel:bootBuiltins "max" = some (.builtin "max")) ?_ (by decide) (by decide));refine callWith_kw (Kh (a9 he dN (hs:=hs) pos pr s σ H _ I h) fun us s1 ⟨vs,H1,I1,r1,q1⟩=>?_) (by rw[hs];rfl) (by rw[hs];rfl);refine Kh (zQ hk Di pos pr s1 σ H1 _ I1 q1) fun ws s2 Kk=>?_
 obtain⟨ks,H2,I2,r2,a,ns,d,e1,e2,hp,q⟩:=Kk;subst e1 e2;obtain⟨u,rfl,ru⟩:=cO r1;obtain⟨w',rfl,t,rfl⟩:=cO r2;cases ru;show wpAny _ _ (call (.builtin "max") [.ref a] [(Str.ofString "default",.int d t)]) _ _ s2;refine tree_kw F.kind_max F.plain_max F.entry_max (sN _ _) ?_;show wpAny _ X.A.in1 (Builtin.Builtins.bindParams "max" ["key","default"] 0 ⟨[],[(Str.ofString "default",.int d t)]⟩ >>= _) _ _ s2;refine UQ (wpAny_of_eq (show Builtin.Builtins.bindParams "max" ["key","default"] 0 ⟨[],[(Str.ofString "default",.int d t)]⟩=pure [none,some (.int d t)] from rfl) ?_);refine UQ (U7 ?_);refine UQ (iO hc I2 hp fun it fp o ws Sx rv Wk st hf hit=>?_);have hl:=rv.length;rw[U1]at hl;refine UQ (Wq ?_);have nT:(s2.heap.push o).objs.size∉fp:=fun z=>Wv _ (hf _ z)
 rw[ki];refine U7 ⟨Yy WN _,wy Wk _ (oZ rv _) (s2.heap.push o).objs.size nT rfl (Wk.frame _ _ _ st fun b _ ob e=>UZ _ e) (Ve _ rfl) fun v h' tk' hv kk=>?_⟩;subst hit;have I3:Inv X pr σ H2 {s2 with heap:=h',toks:=tk'}:=eD (s:=s2) (o:=o) I2 fun b ob nb e=>kk b ob nb (Vn (U8 e)) (UZ _ e)
 refine⟨.int (maxD ns d),H2,I3,?_,q⟩;unfold maxD;by_cases hn:ns=[]
 ·rw[U2 (by rw[<-hl,hn];rfl)]at hv;rw[U2 hn,hv];exact⟨t,rfl⟩
 ·have h0:0<ns.length:=X3.mpr hn;rw[U6 (by lia)]at hv;rw[U6 hn];obtain⟨b1,b2⟩:=kh ns (ns.length-1) (by lia);rw[<-hl]at hv;obtain⟨t2,rfl⟩:=cP rv hv;refine⟨t2,?_⟩;rw[b2,show ns.length-1+1=ns.length by lia,YH];rfl
end
variable{items xs ys:Array Value}{h:Heap}{l l1 l2:Addr}{k1 k2:Bool}
section
theorem wz{t:Addr}{x:Value}(hi:s.heap.IsTupleIter it t i)(ht:s.heap.IsTuple t items)(hx:items[i]?=some x)
  (k:∀h',h'.IsTupleIter it t (i+1)->Heap.SameBut it s.heap h'->Q x {s with heap:=h'}):wpAny (model prog w) A (Builtin.SmallTypes.nextOf (.ref it)) Q E s:=by
 obtain⟨o,ho,oc,od⟩:=id hi;obtain⟨q,hq,_,n,qd⟩:=ht;unfold Builtin.SmallTypes.nextOf;refine UQ (V2 (name:=Str.ofString "__next__") hi.typeIs WI (WJ WI hi.typeIs X4 ?_ (XY _)));show wpAny _ _ (field (.ref it) 0 >>= _) _ _ s;refine UQ (V3 ho od (x:=.ref t) rfl ?_);show wpAny _ _ (if(Value.ref t==Value.none)=true then _ else _) _ _ s;rw[U6 (fun z:(Value.ref t==Value.none)=true=>UY z)];show wpAny _ _ (field (.ref it) 1 >>= _) _ _ s;refine UQ (V3 ho od (x:=.int i 0) rfl (UQ (Wb hq qd ?_)));simp only[V9,hx];refine UQ (Zk ho od (by simp) (U7 ⟨x,rfl,U7 (k _ ⟨_,Xf _ ho (Obj.isFreed_of_fields (XB od _)),(Obj.cls_mapFields ..).trans oc,?_⟩ (Heap.SameBut.update ..))⟩));rw[XB od];simp[rawInt]
theorem Aj{t:Addr}{Q:Value->Shared->Prop}(hh:A.handled=none)(hi:s.heap.IsTupleIter it t i)(ht:s.heap.IsTuple t items)(hx:items[i]?=none)
  (k:∀h' e,Heap.ExtBut it s.heap h'->(∃o,h'.get? e=some o/\o.cls=.type "StopIteration")->E (.ref e) {s with heap:=h'}):wpAny (model prog w) A (Builtin.SmallTypes.nextOf (.ref it)) Q E s:=by
 obtain⟨o,ho,oc,od⟩:=id hi;obtain⟨q,hq,_,n,qd⟩:=ht;unfold Builtin.SmallTypes.nextOf;refine UQ (V2 (name:=Str.ofString "__next__") hi.typeIs WI (WJ WI hi.typeIs X4 ?_ (XY _)));show wpAny _ _ (field (.ref it) 0 >>= _) _ _ s;refine UQ (V3 ho od (x:=.ref t) rfl ?_);show wpAny _ _ (if(Value.ref t==Value.none)=true then _ else _) _ _ s;rw[U6 (fun z:(Value.ref t==Value.none)=true=>UY z)];show wpAny _ _ (field (.ref it) 1 >>= _) _ _ s;refine UQ (V3 ho od (x:=.int i 0) rfl (UQ (Wb hq qd ?_)));simp only[V9,hx];refine UQ (Zc (UQ (Zk ho od (by simp) ?_)));show wpAny _ _ (newExc (.type "StopIteration") [] >>= _) _ _ _;refine UQ ?_;simp only[newExc,newTuple];refine UQ (Wq (UQ (m:=firstArgMember _ _) (wpAny_of_eq (a:=Value.none) (by first|rfl|(simp only[firstArgMember];rfl)) (Wq ?_ (by size_fits)))) (by size_fits));simp only[raiseNew];refine UQ (wpAny_handled ?_);first
  |rw[show A.in1.handled=none from hh]
  |rw[hh]
 exact UQ (U7 (wpAny_throw (k _ _ (((Heap.SameBut.update ..).extBut.push _).push _) ⟨_,Ve _ rfl,rfl⟩)))
def IsIt(k:Bool)(h:Heap)(it l:Addr)(i:Nat):Prop:=match k with
 |true=>h.IsListIter it l i
 |false=>h.IsTupleIter it l i
def IsSq(k:Bool)(h:Heap)(l:Addr)(xs:Array Value):Prop:=match k with
 |true=>h.IsList l xs
 |false=>h.IsTuple l xs
theorem IsIt.at{k:Bool}(x:IsIt k h it l i)(e:∀o,h.get? it=some o->h'.get? it=some o):IsIt k h' it l i:=by
 cases k with
 |true=>obtain⟨o,ho,r⟩:=(show h.IsListIter it l i from x);exact(show h'.IsListIter it l i from⟨o,e o ho,r⟩)
 |false=>obtain⟨o,ho,r⟩:=(show h.IsTupleIter it l i from x);exact(show h'.IsTupleIter it l i from⟨o,e o ho,r⟩)
theorem IsSq.at{k:Bool}(x:IsSq k h l xs)(e:∀o,h.get? l=some o->h'.get? l=some o):IsSq k h' l xs:=by
 cases k with
 |true=>obtain⟨o,ho,r⟩:=(show h.IsList l xs from x);exact(show h'.IsList l xs from⟨o,e o ho,r⟩)
 |false=>obtain⟨o,ho,r⟩:=(show h.IsTuple l xs from x);exact(show h'.IsTuple l xs from⟨o,e o ho,r⟩)
theorem IsIt.obj{k:Bool}(x:IsIt k h it l i):∃o,h.get? it=some o/\∀v,o.data≠.cell v:=by
 cases k with
 |true=>obtain⟨o,ho,_,d⟩:=(show h.IsListIter it l i from x);exact⟨o,ho,fun v z=>by rw[d]at z;cases z⟩
 |false=>obtain⟨o,ho,_,d⟩:=(show h.IsTupleIter it l i from x);exact⟨o,ho,fun v z=>by rw[d]at z;cases z⟩
theorem IsSq.get{k:Bool}{h:Heap}{l:Addr}{xs:Array Value}(x:IsSq k h l xs):∃o,h.get? l=some o:=by
 cases k with
 |true=>obtain⟨o,ho,_⟩:=(show h.IsList l xs from x);exact⟨o,ho⟩
 |false=>obtain⟨o,ho,_⟩:=(show h.IsTuple l xs from x);exact⟨o,ho⟩
theorem nP{k:Bool}{x:Value}(hi:IsIt k s.heap it l i)(hl:IsSq k s.heap l xs)(hx:xs[i]?=some x)
  (q:∀h',IsIt k h' it l (i+1)->Heap.SameBut it s.heap h'->Q x {s with heap:=h'}):wpAny (model prog w) A (Builtin.SmallTypes.nextOf (.ref it)) Q E s:=by
 cases k with
 |true=>exact wpAny_nextOf_list_item hi hl hx q
 |false=>exact wz hi hl hx q
theorem yu{k:Bool}{Q:Value->Shared->Prop}(hh:A.handled=none)(hi:IsIt k s.heap it l i)(hl:IsSq k s.heap l xs)(hx:xs[i]?=none)
  (q:∀h' e,Heap.ExtBut it s.heap h'->(∃o,h'.get? e=some o/\o.cls=.type "StopIteration")->E (.ref e) {s with heap:=h'}):wpAny (model prog w) A (Builtin.SmallTypes.nextOf (.ref it)) Q E s:=by
 cases k with
 |true=>exact wpAny_nextOf_list_end hh hi hl hx q
 |false=>exact Aj hh hi hl hx q
theorem Ak{z TI TO i1 i2:Addr}{x y a b:Value}(D:ZipApart z TI TO i1 i2 l1 l2)(hz:IsZip s.heap z TI TO .none)(L9:IsPair s.heap TI (.ref i1) (.ref i2))(MG:IsPair s.heap TO a b)
  (h1:IsIt k1 s.heap i1 l1 i) (h2:IsIt k2 s.heap i2 l2 i) (g1:IsSq k1 s.heap l1 xs) (g2:IsSq k2 s.heap l2 ys) (hx:xs[i]?=some x) (hy:ys[i]?=some y)
  (q:∀h',IsZip h' z TI TO (rawInt s.heap.objs.size)->IsPair h' TO x y->IsIt k1 h' i1 l1 (i+1)->IsIt k2 h' i2 l2 (i+1)->IsPair h' s.heap.objs.size x y->
   (∀c o,c≠z->c≠TO->c≠i1->c≠i2->s.heap.get? c=some o->h'.get? c=some o)->Q (.ref s.heap.objs.size) {s with heap:=h'}):
  wpAny (model prog w) A (Builtin.«zip.__next__» ⟨[.ref z],[]⟩) (fun fin s'=>∃v,fin=.done (.ret v)/\Q v s') E s:=by
 show wpAny _ _ (field (.ref z) 2 >>= _) _ _ _;refine UQ (V3 hz rfl (x:=.bool false) rfl ?_);show wpAny _ _ (field (.ref z) 3 >>= _) _ _ _;refine UQ (V3 hz rfl (x:=.ref TI) rfl (UQ (Wb L9 rfl ?_)));show wpAny _ _ (Builtin.SmallTypes.ownedTupleIsFree (.ref z) >>= _) _ _ _;refine UQ ?_;unfold Builtin.SmallTypes.ownedTupleIsFree;refine UQ (V3 hz rfl (x:=.none) rfl (U7 ?_));rw[U2 (by rfl)];refine UQ (Zc (UQ (V3 hz rfl (x:=.ref TO) rfl (UQ (WR hz (by simp) fun hA zA sA=>?_)))));have zA:IsZip hA z TI TO .ellipsis:=zA;refine UQ ?_;simp only[List.zipIdx_cons,List.zipIdx_nil,Y0,List.forIn_nil];refine UQ (UQ (Yz ?_));show wpAny _ _ (Builtin.SmallTypes.nextOf (.ref i1) >>= _) _ _ _;refine UQ (nP (h1.at fun o e=>sA.extBut _ _ D.i1z e) (g1.at fun o e=>sA.extBut _ _ D.l1z e) hx fun hB iB sB=>U7 ?_);have tB:IsPair hB TO a b:=sB.extBut _ _ D.TOi1 (sA.extBut _ _ D.TOz MG);refine UQ (Wb tB rfl (UQ (XT tB fun hC tC sC=>UQ (Xu (U7 ?_)))));have tC:IsPair hC TO x b:=tC;refine UQ (UQ (Yz ?_));show wpAny _ _ (Builtin.SmallTypes.nextOf (.ref i2) >>= _) _ _ _;refine UQ (nP (h2.at fun o e=>sC.extBut _ _ D.TOi2.symm (sB.extBut _ _ D.i12.symm (sA.extBut _ _ D.i2z e))) (g2.at fun o e=>sC.extBut _ _ D.l2TO (sB.extBut _ _ D.l2i1 (sA.extBut _ _ D.l2z e))) hy fun hD iD sD=>U7 ?_);have tD:IsPair hD TO x b:=sD.extBut _ _ D.TOi2 tC;refine UQ (Wb tD rfl (UQ (XT tD fun hE tE sE=>UQ (Xu (U7 (U7 ?_))))));have tE:IsPair hE TO x y:=tE;refine UQ (Wb tE rfl (UQ (wpAny_newTuple ?_)));have ez:hE.objs.size=s.heap.objs.size:=by rw[sE.1,sD.1,sC.1,sB.1,sA.1]
 have zE:IsZip hE z TI TO .ellipsis:=sE.extBut _ _ D.TOz.symm (sD.extBut _ _ D.i2z.symm (sC.extBut _ _ D.TOz.symm (sB.extBut _ _ D.i1z.symm zA)));have kE:∀c o,c≠z->c≠TO->c≠i1->c≠i2->s.heap.get? c=some o->hE.get? c=some o:=fun c o c1 c2 c3 c4 e=>sE.extBut _ _ c2 (sD.extBut _ _ c4 (sC.extBut _ _ c2 (sB.extBut _ _ c3 (sA.extBut _ _ c1 e))))
 have i1E:IsIt k1 hE i1 l1 (i+1):=iB.at fun o e=>sE.extBut _ _ D.TOi1.symm (sD.extBut _ _ D.i12 (sC.extBut _ _ D.TOi1.symm e))
 have i2E:IsIt k2 hE i2 l2 (i+1):=iD.at fun o e=>sE.extBut _ _ D.TOi2.symm e
 show wpAny _ _ (Builtin.SmallTypes.ownedTupleHandOut (.ref z) (.ref hE.objs.size) >>= _) _ _ _;refine UQ ?_;unfold Builtin.SmallTypes.ownedTupleHandOut;have zF:IsZip (hE.push {cls:=.type "tuple",data:=.seq #[x,y]}) z TI TO .ellipsis:=UZ _ zE;refine UQ (WR zF (by simp) fun hG zG sG=>?_);have zG:IsZip hG z TI TO (rawInt hE.objs.size):=zG;refine WR zG (by simp) fun hK zK sK=>?_
 have zK:IsZip hK z TI TO (rawInt hE.objs.size):=zK;have up:∀c o,c≠z->hE.get? c=some o->hK.get? c=some o:=fun c o c1 e=>sK.extBut _ _ c1 (sG.extBut _ _ c1 (UZ _ e))
 have nz:hE.objs.size≠z:=Z3 (U8 zE);have tK:IsPair hK hE.objs.size x y:=sK.extBut _ _ nz (sG.extBut _ _ nz (Ve _ rfl));rw[ez]at zK tK;refine U7 ⟨_,rfl,?_⟩;show Q (.ref hE.objs.size) _;rw[ez];exact q hK zK (up _ _ D.TOz tE) (i1E.at fun o e=>up _ o D.i1z e) (i2E.at fun o e=>up _ o D.i2z e) tK fun c o c1 c2 c3 c4 e=>up c o c1 (kE c o c1 c2 c3 c4 e)
theorem Dx{z TI TO i1 i2:Addr}{a b:Value}{Q:Fin->Shared->Prop}(hh:A.handled=none)(D:ZipApart z TI TO i1 i2 l1 l2)(hz:IsZip s.heap z TI TO .none)(L9:IsPair s.heap TI (.ref i1) (.ref i2))(MG:IsPair s.heap TO a b)
  (h1:IsIt k1 s.heap i1 l1 i) (h2:IsIt k2 s.heap i2 l2 i) (g1:IsSq k1 s.heap l1 xs) (g2:IsSq k2 s.heap l2 ys) (he:xs[i]?=none\/ys[i]?=none)
  (q:∀h' e,(∀c o,c≠z->c≠TO->c≠i1->c≠i2->s.heap.get? c=some o->h'.get? c=some o)->(∃o,h'.get? e=some o/\o.cls=.type "StopIteration")->E (.ref e) {s with heap:=h'}):
  wpAny (model prog w) A (Builtin.«zip.__next__» ⟨[.ref z],[]⟩) Q E s:=by
 show wpAny _ _ (field (.ref z) 2 >>= _) _ _ _;refine UQ (V3 hz rfl (x:=.bool false) rfl ?_);show wpAny _ _ (field (.ref z) 3 >>= _) _ _ _;refine UQ (V3 hz rfl (x:=.ref TI) rfl (UQ (Wb L9 rfl ?_)));show wpAny _ _ (Builtin.SmallTypes.ownedTupleIsFree (.ref z) >>= _) _ _ _;refine UQ ?_;unfold Builtin.SmallTypes.ownedTupleIsFree;refine UQ (V3 hz rfl (x:=.none) rfl (U7 ?_));rw[U2 (by rfl)];refine UQ (Zc (UQ (V3 hz rfl (x:=.ref TO) rfl (UQ (WR hz (by simp) fun hA zA sA=>?_)))));have zA:IsZip hA z TI TO .ellipsis:=zA;refine UQ ?_;simp only[List.zipIdx_cons,List.zipIdx_nil,Y0,List.forIn_nil];refine UQ (UQ (Yz ?_));show wpAny _ _ (Builtin.SmallTypes.nextOf (.ref i1) >>= _) _ _ _;cases hx:xs[i]? with
 |none=>
  refine UQ (yu hh (h1.at fun o e=>sA.extBut _ _ D.i1z e) (g1.at fun o e=>sA.extBut _ _ D.l1z e) hx fun hB e sB Kk=>?_);obtain⟨oe,ge,ce⟩:=Kk;have zB:IsZip hB z TI TO .ellipsis:=sB _ _ D.i1z.symm zA;have ne:e≠z:=fun x=>by subst x;rw[zB]at ge;cases ge;simp at ce
  exact WR zB (by simp) fun hC _ sC=>q hC e (fun c o c1 _ c3 _ x=>sC.extBut _ _ c1 (sB _ _ c3 (sA.extBut _ _ c1 x))) ⟨oe,sC.extBut _ _ ne ge,ce⟩
 |some x=>
  have hy:ys[i]?=none:=by
   rcases he with z|z
   ·rw[hx]at z;cases z
   ·exact z
  refine UQ (nP (h1.at fun o e=>sA.extBut _ _ D.i1z e) (g1.at fun o e=>sA.extBut _ _ D.l1z e) hx fun hB iB sB=>U7 ?_);have tB:IsPair hB TO a b:=sB.extBut _ _ D.TOi1 (sA.extBut _ _ D.TOz MG);refine UQ (Wb tB rfl (UQ (XT tB fun hC tC sC=>UQ (Xu (U7 ?_)))));refine UQ (UQ (Yz ?_));show wpAny _ _ (Builtin.SmallTypes.nextOf (.ref i2) >>= _) _ _ _;refine UQ (yu hh (h2.at fun o e=>sC.extBut _ _ D.TOi2.symm (sB.extBut _ _ D.i12.symm (sA.extBut _ _ D.i2z e))) (g2.at fun o e=>sC.extBut _ _ D.l2TO (sB.extBut _ _ D.l2i1 (sA.extBut _ _ D.l2z e))) hy fun hD e sD Kk=>?_);obtain⟨oe,ge,ce⟩:=Kk;have zD:IsZip hD z TI TO .ellipsis:=sD _ _ D.i2z.symm (sC.extBut _ _ D.TOz.symm (sB.extBut _ _ D.i1z.symm zA));have ne:e≠z:=fun x=>by subst x;rw[zD]at ge;cases ge;simp at ce
  exact WR zD (by simp) fun hF _ sF=>q hF e (fun c o c1 c2 c3 c4 x=>sF.extBut _ _ c1 (sD _ _ c4 (sC.extBut _ _ c2 (sB.extBut _ _ c3 (sA.extBut _ _ c1 x))))) ⟨oe,sF.extBut _ _ ne ge,ce⟩
end
noncomputable def itObj(k:Bool)(l:Addr):Obj:=match k with
 |true=>{cls:=.type "list_iterator",data:=.fields #[.ref l,.int 0 0]}
 |false=>{cls:=.type "tuple_iterator",data:=.fields #[.ref l,.int 0 0]}
theorem o4(k:Bool)(h:Heap)(l:Addr):IsIt k (h.push (itObj k l)) h.objs.size l 0:=by
 cases k with
 |true=>exact⟨_,Ve _ rfl,rfl,rfl⟩
 |false=>exact⟨_,Ve _ rfl,rfl,rfl⟩
abbrev zA(h:Heap)(k1:Bool)(l1:Addr):Heap:=h.push (itObj k1 l1)
abbrev zB(h:Heap)(k1 k2:Bool)(l1 l2:Addr):Heap:=(zA h k1 l1).push (itObj k2 l2)
abbrev zC(h:Heap)(k1 k2:Bool)(l1 l2:Addr):Heap:=(zB h k1 k2 l1 l2).push {cls:=.type "tuple",data:=.seq #[.ref h.objs.size,.ref (zA h k1 l1).objs.size]}
abbrev zD(h:Heap)(k1 k2:Bool)(l1 l2:Addr):Heap:=(zC h k1 k2 l1 l2).push {cls:=.type "tuple",data:=.seq #[.none,.none]}
abbrev zE(h:Heap)(k1 k2:Bool)(l1 l2:Addr):Heap:=(zD h k1 k2 l1 l2).push {cls:=.type "zip",data:=.fields #[.none,.bool false,.bool false,.ref (zB h k1 k2 l1 l2).objs.size,.ref (zC h k1 k2 l1 l2).objs.size]}
set_option maxHeartbeats 8000000 in
theorem Dy(k1 k2:Bool)(l1 l2:Addr)(xs ys:Array Value):
  Meets (Builtin.«zip.__new__» ⟨[.type "zip",.ref l1,.ref l2],[]⟩) (fun _ R s=>IsSq k1 s.heap l1 xs/\IsSq k2 s.heap l2 ys/\R (.ok (.ret (.ref (zD s.heap k1 k2 l1 l2).objs.size))) {s with heap:=zE s.heap k1 k2 l1 l2}):=
 .of_wp fun prog w A R s h=>by
  obtain⟨hp,g,d,tk,os⟩:=s;obtain⟨g1,g2,q⟩:=h;have Nt:=sub_zip;cases k1 with
  |true=>
   have e1:Heap.IsList (Shared.heap ⟨hp,g,d,tk,os⟩) l1 xs:=g1;cases k2 with
   |true=>
    have e2:Heap.IsList (Shared.heap ⟨hp.push {cls:=.type "list_iterator",data:=.fields #[.ref l1,.int 0 0]},g,d,tk,os⟩) l2 ys:=Heap.IsList.push g2 _
    wp_walk using WY e1,WY e2
    exact⟨_,rfl,q⟩
   |false=>
    have e2:Heap.IsTuple (Shared.heap ⟨hp.push {cls:=.type "list_iterator",data:=.fields #[.ref l1,.int 0 0]},g,d,tk,os⟩) l2 ys:=Heap.IsTuple.push g2 _
    wp_walk using WY e1,WQ e2
    exact⟨_,rfl,q⟩
  |false=>
   have e1:Heap.IsTuple (Shared.heap ⟨hp,g,d,tk,os⟩) l1 xs:=g1;cases k2 with
   |true=>
    have e2:Heap.IsList (Shared.heap ⟨hp.push {cls:=.type "tuple_iterator",data:=.fields #[.ref l1,.int 0 0]},g,d,tk,os⟩) l2 ys:=Heap.IsList.push g2 _
    wp_walk using WQ e1,WY e2
    exact⟨_,rfl,q⟩
   |false=>
    have e2:Heap.IsTuple (Shared.heap ⟨hp.push {cls:=.type "tuple_iterator",data:=.fields #[.ref l1,.int 0 0]},g,d,tk,os⟩) l2 ys:=Heap.IsTuple.push g2 _
    wp_walk using WQ e1,WQ e2
    exact⟨_,rfl,q⟩
def ZS(k1 k2:Bool)(z TI TO i1 i2 l1 l2:Addr)(i:Nat)(h:Heap):Prop:=IsZip h z TI TO .none/\IsPair h TI (.ref i1) (.ref i2)/\(∃a b,IsPair h TO a b)/\IsIt k1 h i1 l1 i/\IsIt k2 h i2 l2 i
theorem Am{prog:Program}{w:World}{A:Around}{E:Value->Shared->Prop}(g1:IsSq k1 s.heap l1 xs)(g2:IsSq k2 s.heap l2 ys)
  (q:∀h',ZS k1 k2 (s.heap.objs.size+4) (s.heap.objs.size+2) (s.heap.objs.size+3) s.heap.objs.size (s.heap.objs.size+1) l1 l2 0 h'->(∀c o,s.heap.get? c=some o->h'.get? c=some o)->Q (.ref (s.heap.objs.size+4)) {s with heap:=h'}):
  wpAny (model prog w) A (call (.type "zip") [.ref l1,.ref l2]) Q E s:=by
 refine callType_new F.called_zip (by decide) (F.typeCall_zip_2 _ _) (F.newCall_zip_2 _ _) (fun obj=>F.args_object_init_3 obj _ _) F.entry_zip_new (Dy k1 k2 l1 l2 xs ys) ⟨g1,g2,?_⟩;have nA:(zA s.heap k1 l1).objs.size=s.heap.objs.size+1:=W5 ..;have nB:(zB s.heap k1 k2 l1 l2).objs.size=s.heap.objs.size+2:=by rw[W5,nA]
 have nC:(zC s.heap k1 k2 l1 l2).objs.size=s.heap.objs.size+3:=by rw[W5,nB]
 have nD:(zD s.heap k1 k2 l1 l2).objs.size=s.heap.objs.size+4:=by rw[W5,nC]
 have pu:∀{h:Heap}{o:Obj}{c:Addr}{v:Obj},h.get? c=some v->(h.push o).get? c=some v:=fun e=>UZ _ e
 have gz:(zE s.heap k1 k2 l1 l2).get? (zD s.heap k1 k2 l1 l2).objs.size=some _:=Ve _ rfl;have go:(zE s.heap k1 k2 l1 l2).get? (zC s.heap k1 k2 l1 l2).objs.size=some _:=pu (Ve _ rfl);have gi:(zE s.heap k1 k2 l1 l2).get? (zB s.heap k1 k2 l1 l2).objs.size=some _:=pu (pu (Ve _ rfl));have j2:IsIt k2 (zE s.heap k1 k2 l1 l2) (zA s.heap k1 l1).objs.size l2 0:=(o4 k2 (zA s.heap k1 l1) l2).at fun o e=>pu (pu (pu e))
 have j1:IsIt k1 (zE s.heap k1 k2 l1 l2) s.heap.objs.size l1 0:=(o4 k1 s.heap l1).at fun o e=>pu (pu (pu (pu e)))
 show _/\_;rw[nB,nC,nD]at gz;rw[nA,nB]at gi;rw[nC]at go;rw[nA]at j2;rw[nD];exact⟨⟨_,gz,rfl⟩,q _ ⟨gz,gi,⟨_,_,go⟩,j1,j2⟩ fun c o x=>pu (pu (pu (pu (pu x))))⟩
def SH(K:W.Frag)(k1 k2:Bool)(a b:Addr):It:=
 ⟨fun i H=>∃xs ys x y,(if k1 then SqL K H a xs else SqT K H a xs)/\(if k2 then SqL K H b ys else SqT K H b ys)/\xs[i]?=some x/\ys[i]?=some y,
  fun i H v H'=>∃T,H T=none/\v=.ref T/\∀xs ys x y,(if k1 then SqL K H a xs else SqT K H a xs)->(if k2 then SqL K H b ys else SqT K H b ys)->xs[i]?=some x->ys[i]?=some y->H'=upd H T (.tup [x,y]),
  fun i H=>∃xs ys,(if k1 then SqL K H a xs else SqT K H a xs)/\(if k2 then SqL K H b ys else SqT K H b ys)/\i=min xs.length ys.length⟩
variable{a:Addr}
section
theorem qF(I:Inv X pr σ H s){k:Bool}{xs:List V}(h:if k then SqL X.K H a xs else SqT X.K H a xs):∃us:List Value,Vals xs us/\IsSq k s.heap a us.toArray:=by
 cases k with
 |true=>
  obtain⟨us,r,p,_⟩:=I.list (show SqL X.K H a xs from h);exact⟨us,r,p.isList⟩
 |false=>
  obtain⟨us,r,p,_⟩:=I.tuple (show SqT X.K H a xs from h);exact⟨us,r,(show s.heap.IsTuple a us.toArray from p)⟩
theorem yv(I:Inv X pr σ H s){k:Bool}{xs ys:List V}(h:if k then SqL X.K H a xs else SqT X.K H a xs)(h':if k then SqL X.K H a ys else SqT X.K H a ys):xs=ys:=by
 cases k with
 |true=>exact I.list_inj (show SqL X.K H a xs from h) (show SqL X.K H a ys from h')
 |false=>exact I.tuple_inj (show SqT X.K H a xs from h) (show SqT X.K H a ys from h')
theorem eY(I:Inv X pr σ H s){k:Bool}{b:Addr}{xs:List V}(h:if k then SqL X.K H a xs else SqT X.K H a xs)(f:qA X pr H b):a≠b:=by
 rintro rfl;obtain⟨f0,_,_,f3,_⟩:=f;have nb:∀o,X.K.lookup a=some o->False:=fun o hk=>by
  have e:=I.ok.mod.kin a o hk;rcases f3 with z|z
  ·exact I.ok.noex a o e z
  ·exact absurd (Vb (U8 e) (Vo I.ok.bsz z)) (Wv _)
 cases k with
 |true=>
  rcases(show SqL X.K H a xs from h) with(h|⟨o,h⟩)|⟨o,JT,n,hk,_⟩
  ·rw[f0]at h;cases h
  ·rw[f0]at h;cases h
  ·exact nb o hk
 |false=>
  rcases(show SqT X.K H a xs from h) with(h|⟨o,h⟩)|⟨o,JT,n,hk,_⟩
  ·rw[f0]at h;cases h
  ·rw[f0]at h;cases h
  ·exact nb o hk
end
theorem nx_zip_item{prog:Program}{w:World}{A:Around}{E:Value->Shared->Prop}{z TI TO i1 i2:Addr}{x y:Value}{Q:Option Value->Shared->Prop}(D:ZipApart z TI TO i1 i2 l1 l2)(st:ZS k1 k2 z TI TO i1 i2 l1 l2 i s.heap)
  (g1:IsSq k1 s.heap l1 xs) (g2:IsSq k2 s.heap l2 ys) (hx:xs[i]?=some x) (hy:ys[i]?=some y)
  (q:∀h',IsZip h' z TI TO (rawInt s.heap.objs.size)->IsPair h' TO x y->IsIt k1 h' i1 l1 (i+1)->IsIt k2 h' i2 l2 (i+1)->IsPair h' s.heap.objs.size x y->
   (∀c o,c≠z->c≠TO->c≠i1->c≠i2->s.heap.get? c=some o->h'.get? c=some o)->Q (some (.ref s.heap.objs.size)) {s with heap:=h'}):wpAny (model prog w) A (pyNext (.ref z)) Q E s:=by
 obtain⟨hz,L9,⟨a,b,MG⟩,h1,h2⟩:=st;have ty:s.TypeIs (.ref z) "zip":=⟨_,hz,rfl⟩
 unfold pyNext;exact UQ (ZF (V2 (name:=Str.ofString "__next__") ty X5 (WJ X5 ty F.entry_zip_next (Ak D hz L9 MG h1 h2 g1 g2 hx hy fun h' a1 a2 a3 a4 a5 a6=>U7 (q h' a1 a2 a3 a4 a5 a6)) (F.args_zip_next_1 _))))
theorem qG{prog:Program}{w:World}{E:Value->Shared->Prop}{z TI TO i1 i2:Addr}{Q:Option Value->Shared->Prop}(hh:A.handled=none)(D:ZipApart z TI TO i1 i2 l1 l2)(st:ZS k1 k2 z TI TO i1 i2 l1 l2 i s.heap)
  (g1:IsSq k1 s.heap l1 xs) (g2:IsSq k2 s.heap l2 ys) (he:xs[i]?=none\/ys[i]?=none) (q:∀h',(∀c o,c≠z->c≠TO->c≠i1->c≠i2->s.heap.get? c=some o->h'.get? c=some o)->Q none {s with heap:=h'}):wpAny (model prog w) A (pyNext (.ref z)) Q E s:=by
 obtain⟨hz,L9,⟨a,b,MG⟩,h1,h2⟩:=st;have ty:s.TypeIs (.ref z) "zip":=⟨_,hz,rfl⟩
 unfold pyNext;refine UQ (ZF (V2 (name:=Str.ofString "__next__") ty X5 (WJ X5 ty F.entry_zip_next (Dx hh D hz L9 MG h1 h2 g1 g2 he fun h' e kk ⟨o,ho,oc⟩=>?_) (F.args_zip_next_1 _))));exact UQ (wpAny_isInstance (T:="StopIteration") (b:=true) ⟨o,ho,oc⟩ isSubtype_stop (U7 (q _ kk)))
variable{kt:Nat}
theorem wA{P:Program}{K:W.Frag}{pt:Pos}(k1 k2:Bool)(a b z TI TO i1 i2:Addr)(ne:z≠TI/\z≠TO/\z≠i1/\z≠i2/\TI≠TO/\TI≠i1/\TI≠i2/\TO≠i1/\TO≠i2/\i1≠i2):
  Turn P w K (.Tuple es kt pt) (SH K k1 k2 a b) [z,TI,TO,i1,i2] z (ZS k1 k2 z TI TO i1 i2 a b) where
 mem:=by simp
 obj:=fun i h st c hc=>by
  obtain⟨hz,L9,⟨x,y,MG⟩,h1,h2⟩:=st;simp only[U5,VR,aak]at hc;rcases hc with rfl|rfl|rfl|rfl|rfl
  ·exact⟨_,hz,fun v q=>by cases q⟩
  ·exact⟨_,L9,fun v q=>by cases q⟩
  ·exact⟨_,MG,fun v q=>by cases q⟩
  ·exact h1.obj
  ·exact h2.obj
 keep:=fun i h h' st k=>by
  obtain⟨hz,L9,⟨x,y,MG⟩,h1,h2⟩:=st;exact⟨k z (by simp) _ hz,k TI (by simp) _ L9,⟨x,y,k TO (by simp) _ MG⟩,h1.at fun o e=>k i1 (by simp) o e,h2.at fun o e=>k i2 (by simp) o e⟩
 item:=by
  intro X hP hw hK hc i pr s σ H E I hf st hg;subst hP hw hK;obtain⟨xs,ys,x,y,s1,s2,hx,hy⟩:=hg;obtain⟨us,r1,q1⟩:=qF I s1;obtain⟨ws,r2,q2⟩:=qF I s2;obtain⟨u,hu,ru⟩:=r1.get hx;obtain⟨v,hv,rv⟩:=r2.get hy;obtain⟨n1,n2,n3,n4,n5,n6,n7,n8,n9,SI⟩:=ne;have f:=fun c hc=>hf c hc
  have D:ZipApart z TI TO i1 i2 a b:=⟨n1.symm,n2.symm,n3.symm,n4.symm,n5,n6,n7,n8,n9,SI,eY I s1 (f z (by simp)),eY I s1 (f TO (by simp)),eY I s1 (f i1 (by simp)),eY I s1 (f i2 (by simp)),
   eY I s2 (f z (by simp)),eY I s2 (f TO (by simp)),eY I s2 (f i1 (by simp)),eY I s2 (f i2 (by simp))⟩
  have L9:=st.2.1;refine nx_zip_item D st q1 q2 (by simpa using hu) (by simpa using hv) fun h' z1 t1 j1 j2 tp kk=>⟨_,rfl,?_⟩
  refine wpAny_letOwnedTupleGo_zip z1 fun h2 z2 sb=>?_
  have nT:H s.heap.objs.size=none:=I.hok.fresh (U3 _);have tT:s.heap.objs.size≠z:=Z3 (U8 st.1);have all:∀c o,c≠z->c≠TO->c≠i1->c≠i2->s.heap.get? c=some o->h2.get? c=some o:=fun c o c1 c2 c3 c4 e=>(sb.2 c c1).trans (kk c o c1 c2 c3 c4 e)
  have fz:=f z (by simp);have fo:=f TO (by simp);have f1:=f i1 (by simp);have f2:=f i2 (by simp);have OY:∀c ob,H c=some ob->c≠z/\c≠TO/\c≠i1/\c≠i2:=fun c ob e=>⟨(fun q=>by rw[q,fz.1]at e;cases e),(fun q=>by rw[q,fo.1]at e;cases e),(fun q=>by rw[q,f1.1]at e;cases e),(fun q=>by rw[q,f2.1]at e;cases e)⟩
  refine⟨.ref s.heap.objs.size,upd H s.heap.objs.size (.tup [x,y]),?_,rfl,⟨_,nT,rfl,fun K4 ys' x' y' a1 a2 a3 a4=>?_⟩,⟨z2,?_,⟨u,v,(sb.2 TO n2.symm).trans t1⟩,j1.at fun o e=>(sb.2 i1 n3.symm).trans e,j2.at fun o e=>(sb.2 i2 n4.symm).trans e⟩,fun c hc=>?_⟩
  ·have tup2:h2.get? s.heap.objs.size=some {cls:=.type "tuple",data:=.seq #[u,v]}:=(sb.2 _ tT).trans tp;have S0:Inv X pr σ (upd H s.heap.objs.size (.tup [x,y])) {s with heap:=h2,gens:=s.gens,drawn:=s.drawn,toks:=s.toks}:=by
    refine I.step (ch:=[z,TO,i1,i2]) (fun c hc=>?_) (fun c o _ _ nc e _=>all c o (fun q=>nc (by simp[q])) (fun q=>nc (by simp[q])) (fun q=>nc (by simp[q])) (fun q=>nc (by simp[q])) e)
     (fun c o _ _ nc e _=>⟨o.slots,all c o (fun q=>nc (by simp[q])) (fun q=>nc (by simp[q])) (fun q=>nc (by simp[q])) (fun q=>nc (by simp[q])) e⟩) (fun c o _ e n=>by rw[ah (Vn (U8 e))];exact n)
     (fun c o nc e=>⟨o,all c o (fun q=>nc (by simp[q])) (fun q=>nc (by simp[q])) (fun q=>nc (by simp[q])) (fun q=>nc (by simp[q])) e⟩) (fun c l e=>by rw[ah (aH e nT)];exact e) (fun c o u' e=>by rw[ah (aH e nT)];exact e)
     (fun c ps e=>⟨#[],by rw[ah (aH e nT),e];simp⟩) (fun m hm=>?_) (fun c ob e=>?_) I.bare
    ·simp only[U5,VR,aak]at hc;rcases hc with rfl|rfl|rfl|rfl
     ·exact⟨fz.2.2.2.1,fz.2.1,fz.2.2.2.2.1,fz.2.2.2.2.2⟩
     ·exact⟨fo.2.2.2.1,fo.2.1,fo.2.2.2.2.1,fo.2.2.2.2.2⟩
     ·exact⟨f1.2.2.2.1,f1.2.1,f1.2.2.2.2.1,f1.2.2.2.2.2⟩
     ·exact⟨f2.2.2.2.1,f2.2.1,f2.2.2.2.2.1,f2.2.2.2.2.2⟩
    ·obtain⟨o,es,ep,ho,r⟩:=hm;exact⟨o,es,ep,all _ o (Wx fz.2.1) (Wx fo.2.1) (Wx f1.2.1) (Wx f2.2.1) ho,r⟩
    ·by_cases ec:c=s.heap.objs.size
     ·subst ec;rw[az]at e;cases e;exact⟨by simp only[Va,We];rw[Wn];decide,[u,v],.cons ru (.cons rv .nil),⟨_,tup2,rfl,⟨0,rfl⟩,rfl⟩⟩
     ·rw[ah ec]at e;refine(I.hok c ob e).stay (fun d w' hd q=>?_) (fun d q=>by rw[ah (aH q nT)];exact q) fun d l q=>by rw[ah (aH q nT)];exact q
      have ON:∃oo,H d=some oo:=by
       rcases hd with rfl|hd
       ·exact⟨_,e⟩
       ·exact⟨_,hd⟩
      obtain⟨oo,SJ⟩:=ON;obtain⟨m1,m2,m3,m4⟩:=OY d oo SJ;exact all d w' m1 m2 m3 m4 q
   exact S0
  ·have e1:=yv I a1 s1;have e2:=yv I a2 s2;subst e1 e2;rw[hx]at a3;rw[hy]at a4;cases a3;cases a4;rfl
  ·exact(sb.2 TI n1.symm).trans (kk TI _ n1.symm n5 n6 n7 L9)
  ·have Qb:=(f c hc).1;have cs:c≠s.heap.objs.size:=by
    have:=(fun i h st=>by
     exact(by
      obtain⟨hz,L9,⟨x,y,MG⟩,h1,h2⟩:=st;simp only[U5,VR,aak]at hc;rcases hc with rfl|rfl|rfl|rfl|rfl
      ·exact⟨_,hz⟩
      ·exact⟨_,L9⟩
      ·exact⟨_,MG⟩
      ·obtain⟨o,e,_⟩:=h1.obj;exact⟨o,e⟩
      ·obtain⟨o,e,_⟩:=h2.obj;exact⟨o,e⟩:∃o,h.get? c=some o):∀i h,ZS k1 k2 z TI TO i1 i2 a b i h->∃o,h.get? c=some o) i s.heap st
    obtain⟨o,e⟩:=this;exact Vn (U8 e)
   rw[ah cs];exact Qb
 done:=by
  intro X hP hw hK hc i pr s σ H E I hf st hg;subst hP hw hK;obtain⟨xs,ys,s1,s2,hi⟩:=hg;obtain⟨us,r1,q1⟩:=qF I s1;obtain⟨ws,r2,q2⟩:=qF I s2;have l1:=r1.length;have l2:=r2.length;obtain⟨n1,n2,n3,n4,n5,n6,n7,n8,n9,SI⟩:=ne;have f:=fun c hc=>hf c hc
  have D:ZipApart z TI TO i1 i2 a b:=⟨n1.symm,n2.symm,n3.symm,n4.symm,n5,n6,n7,n8,n9,SI,eY I s1 (f z (by simp)),eY I s1 (f TO (by simp)),eY I s1 (f i1 (by simp)),eY I s1 (f i2 (by simp)),
   eY I s2 (f z (by simp)),eY I s2 (f TO (by simp)),eY I s2 (f i1 (by simp)),eY I s2 (f i2 (by simp))⟩
  have fz:=f z (by simp);have fo:=f TO (by simp);have f1:=f i1 (by simp);have f2:=f i2 (by simp);refine qG (I.ok.hd hc) D st q1 q2 (by
   rcases Nat.le_total us.length ws.length with q|q
   ·exact .inl (by simp;lia)
   ·exact .inr (by simp;lia)) fun h' kk=>⟨rfl,?_⟩
  have OY:∀c ob,H c=some ob->c≠z/\c≠TO/\c≠i1/\c≠i2:=fun c ob e=>⟨(fun q=>by rw[q,fz.1]at e;cases e),(fun q=>by rw[q,fo.1]at e;cases e),(fun q=>by rw[q,f1.1]at e;cases e),(fun q=>by rw[q,f2.1]at e;cases e)⟩
  have S0:Inv X pr σ H {s with heap:=h',gens:=s.gens,drawn:=s.drawn,toks:=s.toks}:=by
   refine I.step (ch:=[z,TO,i1,i2]) (fun c hc=>?_) (fun c o _ _ nc e _=>kk c o (fun q=>nc (by simp[q])) (fun q=>nc (by simp[q])) (fun q=>nc (by simp[q])) (fun q=>nc (by simp[q])) e)
    (fun c o _ _ nc e _=>⟨o.slots,kk c o (fun q=>nc (by simp[q])) (fun q=>nc (by simp[q])) (fun q=>nc (by simp[q])) (fun q=>nc (by simp[q])) e⟩) (fun c o _ e n=>n)
    (fun c o nc e=>⟨o,kk c o (fun q=>nc (by simp[q])) (fun q=>nc (by simp[q])) (fun q=>nc (by simp[q])) (fun q=>nc (by simp[q])) e⟩) (fun c l e=>e) (fun c o u' e=>e)
    (fun c ps e=>⟨#[],by rw[e];simp⟩) (fun m hm=>?_) (fun c ob e=>?_) I.bare
   ·simp only[U5,VR,aak]at hc;rcases hc with rfl|rfl|rfl|rfl
    ·exact⟨fz.2.2.2.1,fz.2.1,fz.2.2.2.2.1,fz.2.2.2.2.2⟩
    ·exact⟨fo.2.2.2.1,fo.2.1,fo.2.2.2.2.1,fo.2.2.2.2.2⟩
    ·exact⟨f1.2.2.2.1,f1.2.1,f1.2.2.2.2.1,f1.2.2.2.2.2⟩
    ·exact⟨f2.2.2.2.1,f2.2.1,f2.2.2.2.2.1,f2.2.2.2.2.2⟩
   ·obtain⟨o,es,ep,ho,r⟩:=hm;exact⟨o,es,ep,kk _ o (Wx fz.2.1) (Wx fo.2.1) (Wx f1.2.1) (Wx f2.2.1) ho,r⟩
   ·refine(I.hok c ob e).stay (fun d w' hd q=>?_) (fun d q=>q) fun d l q=>q
    have ON:∃oo,H d=some oo:=by
     rcases hd with rfl|hd
     ·exact⟨_,e⟩
     ·exact⟨_,hd⟩
    obtain⟨oo,SJ⟩:=ON;obtain⟨m1,m2,m3,m4⟩:=OY d oo SJ;exact kk d w' m1 m2 m3 m4 q
  exact S0
 self:=fun _ _ _ _ _ st h=>wpAny_pyIter_zip st.1 h
section
variable{pt:Pos}
def Jr(K:W.Frag)(k1 k2:Bool)(ta:TA):TI:=fun σ H R=>ta σ H fun vs H1=>∃a b xs ys,vs=[.ref a,.ref b]/\(if k1 then SqL K H1 a xs else SqT K H1 a xs)/\(if k2 then SqL K H1 b ys else SqT K H1 b ys)/\R (SH K k1 k2 a b) H1
theorem Dz(k1 k2:Bool){e1 e2:Expr}{ta:TA}{p pos:Pos}(hg:Gl X "zip")(hm:X.mg "zip" = none)(ha:PA X [e1,e2] ta)(he:starEach [e1,e2] X.env=(false,eval e1 X.env)::starEach [e2] X.env:=by rfl)(KA:(backTo pos (starEach [e2] X.env)).any (·.1)=false:=by rfl):
  PI X (.Tuple es kt pt) (.Call (.Name "zip" p) [e1,e2] [] pos) (Jr X.K k1 k2 ta):=by
 intro pr s σ H R I h;refine Wd (fW I hg hm (by decide +kernel:bootBuiltins "zip" = some (.type "zip")) ?_ (by decide) (by decide));refine Wc (Kh (ha pos pr s σ H _ I h) fun us s1 ⟨vs,H1,I1,r1,a,b,xs,ys,e,s1',s2',q⟩=>?_) he KA;subst e;obtain⟨u,w',rfl,ra,rb⟩:=nM r1;cases ra;cases rb;obtain⟨us,v1,q1⟩:=qF I1 s1';obtain⟨ws,v2,q2⟩:=qF I1 s2';refine Am q1 q2 fun h' st kk=>?_
 refine wpAny_pyIter_zip st.1 ?_;have fr:∀j,qA X pr H1 (s1.heap.objs.size+j):=fun j=>I1.fpOk (Nat.le_add_right _ _) (I1.hok.fresh (Nat.le_add_right _ _))
 have nn:∀i j:Nat,i≠j->s1.heap.objs.size+i≠s1.heap.objs.size+j:=fun i j h z=>h (Nat.add_left_cancel z)
 refine⟨_,_,_,_,H1,rfl,I1.kept (t':=s1.toks) kk,wA k1 k2 a b (s1.heap.objs.size+4) (s1.heap.objs.size+2) (s1.heap.objs.size+3) (s1.heap.objs.size+0) (s1.heap.objs.size+1)
  ⟨nn 4 2 (by decide),nn 4 3 (by decide),nn 4 0 (by decide),nn 4 1 (by decide),nn 2 3 (by decide),nn 2 0 (by decide),nn 2 1 (by decide),nn 3 0 (by decide),nn 3 1 (by decide),nn 0 1 (by decide)⟩,st,fun c hc=>?_,q⟩
 simp only[U5,VR,aak]at hc;rcases hc with rfl|rfl|rfl|rfl|rfl
 ·exact fr 4
 ·exact fr 2
 ·exact fr 3
 ·exact fr 0
 ·exact fr 1
end
end NX
namespace NX
open PySem PySem.W PyProof.Rows
variable{p:Array Nat}{Ky i:Nat}{Q:Nat×Array Nat->Shared->Prop}{s:Shared}
section
variable{n:Nat}{O:KeyOrd}{κ:Nat->O.α}{cmp:Nat->Nat->(Bool->Shared->Prop)->Shared->Prop}{Good:Shared->Prop}
noncomputable def kk(κ:Nat->O.α)(p:Array Nat)(i:Nat):O.α:=κ (p.getD i 0)
structure POk(n:Nat)(p:Array Nat):Prop where
 perm:p.toList.Perm (List.range n)
theorem POk.size{p:Array Nat}(h:POk n p):p.size=n:=by
 have:=h.perm.length_eq;simpa using this
theorem POk.lt(h:POk n p)(hi:i<n):p.getD i 0<n:=by
 have hs:=h.size;have OZ:i<p.size:=by lia
 have e:p.getD i 0=p[i]:=by simp[Array.getD,OZ]
 rw[e];exact Vv.mp (h.perm.mem_iff.mp (Array.getElem_mem_toList OZ))
theorem POk.of{q:Array Nat}(h:POk n p)(hq:q.Perm p):POk n q:=⟨(Array.perm_iff_toList_perm.mp hq).trans h.perm⟩
def aP(κ:Nat->O.α)(p:Array Nat)(m:Nat):Prop:=∀i j,i<=j->j<m->O.kle (kk κ p i) (kk κ p j)
def dn(κ:Nat->O.α)(p:Array Nat)(m:Nat):Prop:=∀i j,i<=j->j<m->O.kle (kk κ p j) (kk κ p i)
theorem cX{q:Array Nat}{j:Nat}(h:p[i]?=q[j]?):p.getD i 0=q.getD j 0:=by
 rw[X6,X6,h]
theorem o5{j:Nat}(hj:j<=p.size)(k:Nat):kk κ (kas_rev p i j) k=if i<=k/\k<j then kk κ p (i+j-1-k) else kk κ p k:=by
 have e:=getElem?_mirror_all (i:=i) hj k;unfold kk kas_rev;split
 ·rename_i h;rw[U2 h]at e;rw[cX e]
 ·rename_i h;rw[U6 h]at e;rw[cX e]
theorem yw{src d:Nat}(hs:src<p.size)(hd:d<=src)(k:Nat):kk κ (bubble p src d) k=if k=src-d then kk κ p src else if src-d<k/\k<=src then kk κ p (k-1) else kk κ p k:=by
 have e:=getElem?_bubble hs d hd k;by_cases h:k=src-d
 ·rw[U2 h]at e ⊢;exact Wy κ (cX e)
 ·rw[U6 h]at e ⊢;by_cases h2:src-d<k/\k<=src
  ·rw[U2 h2]at e ⊢;exact Wy κ (cX e)
  ·rw[U6 h2]at e ⊢;exact Wy κ (cX e)
theorem POk.rev(h:POk n p)(i j:Nat):POk n (kas_rev p i j):=h.of (mirror_perm _ _ _ _)
theorem POk.bub(h:POk n p)(i j:Nat):POk n (bubble p i j):=h.of (bubble_perm _ _ _)
theorem qH(p:Array Nat):aP κ p 1:=fun i j a b=>by
 have e:i=j:=by lia
 rw[e];exact WE _
theorem nQ{m:Nat}(h1:1<=m)(h:aP κ p m)(hm:O.kle (kk κ p (m-1)) (kk κ p m)):aP κ p (m+1):=by
 intro i j Nh hj;by_cases e:j=m
 ·subst e;by_cases e2:i=j
  ·subst e2;exact WE _
  ·exact XQ (h i (j-1) (by lia) (by lia)) hm
 ·exact h i j Nh (by lia)
theorem cY{m:Nat}(h1:1<=m)(h:dn κ p m)(hm:O.kle (kk κ p m) (kk κ p (m-1))):dn κ p (m+1):=by
 intro i j Nh hj;by_cases e:j=m
 ·subst e;by_cases e2:i=j
  ·subst e2;exact WE _
  ·exact XQ hm (h i (j-1) (by lia) (by lia))
 ·exact h i j Nh (by lia)
variable(hc:∀i j,i<n->j<n->∀(Q:Bool->Shared->Prop) s,Good s->(∀s',Good s'->Q (O.blt (κ i) (κ j)) s')->cmp i j Q s)
include hc
theorem sO{p:Array Nat}(hp:POk n p){Ky:Nat}(hn:Ky<=n){Q:Nat->Shared->Prop}:∀(f m:Nat) (s:Shared),Good s->1<=m->m+f=Ky->aP κ p m->
  (∀r s',Good s'->m<=r->r<=Ky->aP κ p r->(r<Ky->O.klt (kk κ p r) (kk κ p (r-1)))->Q r s')->(kas_asc p f m).kasWp cmp Q s
 | 0,m,s,g,h1,hf,hs,k=>k m s g (U3 _) (by lia) hs (fun z=>by lia)
 |f+1,m,s,g,h1,hf,hs,k=>by
  show cmp (p.getD m 0) (p.getD (m-1) 0) _ s;refine hc _ _ (hp.lt (by lia)) (hp.lt (by lia)) _ s g fun s' g'=>?_
  cases e:O.blt (κ (p.getD m 0)) (κ (p.getD (m-1) 0)) with
  |true=>
   (try dsimp only)
   rw[U2 rfl];exact k m s' g' (U3 _) (by lia) hs fun _=>e
  |false=>
   (try dsimp only)
   rw[U6 UY];exact sO hp hn f (m+1) s' g' (by lia) (by lia) (nQ h1 hs e) fun r s2 g2 a b c d=>k r s2 g2 (by lia) b c d
def An(κ:Nat->O.α)(p:Array Nat)(m q:Nat):Prop:=∀k,m-(q+1)<=k->k<m->kk κ p k=kk κ p (m-1)
omit hc in
theorem lW{m q:Nat}(hm:m<=p.size)(h:An κ p m q)(k:Nat):kk κ (kas_rev p (m-(q+1)) m) k=kk κ p k:=by
 rw[o5 hm];split
 ·rename_i hk;rw[h _ (by lia) (by lia),h k hk.1 hk.2]
 ·rfl
omit hc in
theorem gP{p':Array Nat}{m:Nat}(e:∀k,kk κ p' k=kk κ p k)(h:dn κ p m):dn κ p' m:=fun i j a b=>by rw[e,e];exact h i j a b
theorem kj{Ky:Nat}(hn:Ky<=n){Q:Array Nat×Nat×Nat->Shared->Prop}:∀(f:Nat) (p:Array Nat) (m q:Nat) (s:Shared),POk n p->Good s->1<=m->q+1<=m->m+f=Ky->dn κ p m->An κ p m q->
  (∀p' m' q' s',POk n p'->Good s'->m<=m'->m'<=Ky->q'+1<=m'->dn κ p' m'->An κ p' m' q'->Q (p',m',q') s')->(kas_desc f p m q).kasWp cmp Q s
 | 0,p,m,q,s,hp,g,h1,hq,hf,hs,ha,k=>k p m q s hp g (U3 _) (by lia) hq hs ha
 |f+1,p,m,q,s,hp,g,h1,hq,hf,hs,ha,k=>by
  show cmp (p.getD m 0) (p.getD (m-1) 0) _ s;refine hc _ _ (hp.lt (by lia)) (hp.lt (by lia)) _ s g fun s' g'=>?_
  have hsz:=hp.size;cases e:O.blt (κ (p.getD m 0)) (κ (p.getD (m-1) 0)) with
  |true=>
   (try dsimp only)
   rw[U2 rfl];have le:O.kle (kk κ p m) (kk κ p (m-1)):=XI e;by_cases h0:q>0
   ·rw[U2 h0];have same:=lW (κ:=κ) (p:=p) (m:=m) (q:=q) (by lia) ha;refine kj hn f _ (m+1) 0 s' (hp.rev _ _) g' (by lia) (by lia) (by lia) (cY h1 (gP same hs) (by rw[same,same];exact le)) ?_ fun p' m' q' s2 a b c d e' f' g2=>k p' m' q' s2 a b (by lia) d e' f' g2
    intro k' a b;have:k'=m:=by lia
    rw[this];rfl
   ·rw[U6 h0];refine kj hn f p (m+1) 0 s' hp g' (by lia) (by lia) (by lia) (cY h1 hs le) ?_ fun p' m' q' s2 a b c d e' f' g2=>k p' m' q' s2 a b (by lia) d e' f' g2
    intro k' a b;have:k'=m:=by lia
    rw[this];rfl
  |false=>
   (try dsimp only)
   rw[U6 UY];show cmp (p.getD (m-1) 0) (p.getD m 0) _ s';refine hc _ _ (hp.lt (by lia)) (hp.lt (by lia)) _ s' g' fun s2 g2=>?_
   cases e2:O.blt (κ (p.getD (m-1) 0)) (κ (p.getD m 0)) with
   |true=>
    (try dsimp only)
    rw[U2 rfl];exact k p m q s2 hp g2 (U3 _) (by lia) hq hs ha
   |false=>
    (try dsimp only)
    rw[U6 UY];have eq:kk κ p (m-1)=kk κ p m:=KeyOrd.kle_antisymm (O:=O) e e2;refine kj hn f p (m+1) (q+1) s2 hp g2 (by lia) (by lia) (by lia) (cY h1 hs (by rw[eq];exact WE _)) ?_ fun p' m' q' s3 a b c d e' f' g3=>k p' m' q' s3 a b (by lia) d e' f' g3
    intro k' a b;show kk κ p k'=kk κ p m;by_cases z:k'=m
    ·rw[z]
    ·rw[ha k' (by lia) (by lia),eq]
omit hc in
theorem qI{m:Nat}(hm:m<=p.size)(h:dn κ p m):aP κ (kas_rev p 0 m) m:=by
 intro i j a b;rw[o5 hm,o5 hm,U2 (by lia),U2 (by lia)];exact h _ _ (by lia) (by lia)
theorem sP(hp:POk n p){m:Nat}(hn:Ky<=n)(h1:1<=m)(hm:m<=Ky)(hs:dn κ p m)(g:Good s)
  (k:∀r p' s',POk n p'->Good s'->1<=r->r<=Ky->aP κ p' r->Q (r,p') s'):(kas_tail3 m Ky p).kasWp cmp Q s:=by
 unfold kas_tail3;rw[KasT.kasWp_bind];have hsz:=hp.size;refine sO hc (hp.rev 0 m) hn (Ky-m) m s g h1 (by lia) (qI (by lia) hs) fun r s' g' a b c _=>?_
 exact k r _ s' (hp.rev 0 m) g' (by lia) b c
theorem i5(hp:POk n p){m:Nat}(hn:Ky<=n)(h1:1<=m)(hm:m+1<=Ky)(hs:dn κ p (m+1))(g:Good s)
  (k:∀r p' s',POk n p'->Good s'->1<=r->r<=Ky->aP κ p' r->Q (r,p') s'):(kas_descPart m Ky p).kasWp cmp Q s:=by
 unfold kas_descPart;rw[KasT.kasWp_bind];refine kj hc hn (Ky-(m+1)) p (m+1) 0 s hp g (by lia) (by lia) (by lia) hs ?_ fun p' m' q' s' a b c d e f g2=>?_
 ·intro k' a b;have:k'=m:=by lia
  rw[this];rfl
 ·have hsz:=a.size;dsimp only;split
  ·have same:=lW (κ:=κ) (p:=p') (m:=m') (q:=q') (by lia) g2;exact sP hc (a.rev _ _) hn (by lia) d (gP same f) b k
  ·exact sP hc a hn (by lia) d f b k
theorem wB(hp:POk n p)(hn:Ky<=n)(h1:1<=Ky)(g:Good s)
  (k:∀r p' s',POk n p'->Good s'->1<=r->r<=Ky->aP κ p' r->Q (r,p') s'):(kas_count Ky p).kasWp cmp Q s:=by
 unfold kas_count;rw[KasT.kasWp_bind];have hsz:=hp.size;refine sO hc hp hn (Ky-1) 1 s g (U3 _) (by lia) (qH p) fun m s' g' a b c d=>?_
 by_cases e:m=Ky
 ·rw[U2 (by simpa using e)];exact k m p s' hp g' (by lia) (by lia) c
 ·rw[U6 (by simpa using e)];have dd:=d (by lia);by_cases h2:m>1
  ·rw[U2 h2];show cmp (p.getD 0 0) (p.getD (m-1) 0) _ s';refine hc _ _ (hp.lt (by lia)) (hp.lt (by lia)) _ s' g' fun s2 g2=>?_
   cases e2:O.blt (κ (p.getD 0 0)) (κ (p.getD (m-1) 0)) with
   |true=>
    (try dsimp only)
    rw[U2 rfl];exact k m p s2 hp g2 (by lia) b c
   |false=>
    (try dsimp only)
    rw[U6 UY];have eq:∀i,i<m->kk κ p i=kk κ p 0:=fun i hi=>by
     have x1:=c 0 i (by lia) hi;have x2:=c i (m-1) (by lia) (by lia);exact KeyOrd.kle_antisymm (O:=O) (XQ x2 e2) x1
    have same:∀i,kk κ (kas_rev p 0 m) i=kk κ p i:=fun i=>by
     rw[o5 (by lia)];split
     ·rw[eq _ (by lia),eq i (by lia)]
     ·rfl
    refine i5 hc (hp.rev 0 m) hn (by lia) (by lia) ?_ g2 k;refine gP same (cY (by lia) (fun i j x y=>?_) (XI dd));rw[eq i (by lia),eq j y];exact WE _
  ·rw[U6 h2];refine i5 hc hp hn (by lia) (by lia) (cY (by lia) (fun i j x y=>?_) (XI dd)) g' k;have:i=j:=by lia
   rw[this];exact WE _
theorem kl{p:Array Nat}(hp:POk n p){t:Nat}(ht:t<n)(hs:aP κ p t){Q:Nat->Shared->Prop}:∀(f l r:Nat) (s:Shared),Good s->l<=r->r<=t->r-l<=f->(∀i,i<l->O.kle (kk κ p i) (kk κ p t))->(∀i,r<=i->i<t->O.klt (kk κ p t) (kk κ p i))->
  (∀x s',Good s'->x<=t->(∀i,i<x->O.kle (kk κ p i) (kk κ p t))->(∀i,x<=i->i<t->O.klt (kk κ p t) (kk κ p i))->Q x s')->(kas_place p t f l r).kasWp cmp Q s
 | 0,l,r,s,g,h1,h2,h3,lo,hi,k=>k l s g (by lia) lo fun i a b=>hi i (by lia) b
 |f+1,l,r,s,g,h1,h2,h3,lo,hi,k=>by
  unfold kas_place;by_cases e:l>=r
  ·rw[U2 e];exact k l s g (by lia) lo fun i a b=>hi i (by lia) b
  ·rw[U6 e];show cmp (p.getD t 0) (p.getD ((l+r) / 2) 0) _ s;refine hc _ _ (hp.lt ht) (hp.lt (by lia)) _ s g fun s' g'=>?_
   cases e2:O.blt (κ (p.getD t 0)) (κ (p.getD ((l+r) / 2) 0)) with
   |true=>
    (try dsimp only)
    rw[U2 rfl];refine kl hp ht hs f l ((l+r) / 2) s' g' (by lia) (by lia) (by lia) lo (fun i a b=>?_) k;exact KeyOrd.klt_of_klt_of_kle (O:=O) e2 (hs _ i a b)
   |false=>
    (try dsimp only)
    rw[U6 UY];refine kl hp ht hs f ((l+r) / 2+1) r s' g' (by lia) (by lia) (by lia) (fun i a=>?_) hi k;exact XQ (O:=O) (hs i ((l+r) / 2) (by lia) (by lia)) e2
theorem yx{Q:Array Nat->Shared->Prop}:∀(f:Nat) (p:Array Nat) (t:Nat) (s:Shared),POk n p->Good s->t+f=n->aP κ p t->(∀p' s',POk n p'->Good s'->aP κ p' n->Q p' s')->(kas_bin f p t).kasWp cmp Q s
 | 0,p,t,s,hp,g,hf,hs,k=>k p s hp g (by rw[show n=t by lia];exact hs)
 |f+1,p,t,s,hp,g,hf,hs,k=>by
  unfold kas_bin;rw[KasT.kasWp_bind];have hsz:=hp.size;refine kl hc hp (by lia) hs t 0 t s g (VJ _) (U3 _) (by lia) (fun i a=>by lia) (fun i a b=>by lia) fun x s' g' hx lo hi=>?_
  refine yx f _ (t+1) s' (hp.bub _ _) g' (by lia) ?_ k;have ex:t-(t-x)=x:=by lia
  intro i j a b;rw[yw (by lia) (by lia),yw (by lia) (by lia),ex];have lo':=lo;by_cases i1:i=x
  ·by_cases j1:j=x
   ·rw[U2 i1,U2 j1];exact WE _
   ·rw[U2 i1,U6 j1,U2 (by lia)];exact XI (hi (j-1) (by lia) (by lia))
  ·rw[U6 i1];by_cases i2:x<i/\i<=t
   ·rw[U2 i2,U6 (by lia),U2 (by lia)];exact hs (i-1) (j-1) (by lia) (by lia)
   ·rw[U6 i2];by_cases j1:j=x
    ·rw[U2 j1];exact lo i (by lia)
    ·rw[U6 j1];by_cases j2:x<j/\j<=t
     ·rw[U2 j2];exact hs i (j-1) (by lia) (by lia)
     ·rw[U6 j2];exact hs i j a (by lia)
theorem Ao(h1:1<=n){Q:Array Nat->Shared->Prop}(g:Good s)(k:∀p s',POk n p->Good s'->aP κ p n->Q p s'):(kas_sort n).kasWp cmp Q s:=by
 unfold kas_sort;rw[KasT.kasWp_bind];refine wB hc (p:=List.toArray (List.range n)) ⟨by simp⟩ (U3 _) h1 g fun r p' s' hp g' a b c=>?_
 dsimp only;split
 ·have e:max r 1=r:=by lia
  rw[e];exact yx hc (n-r) p' r s' hp g' (by lia) c k
 ·exact k p' s' hp g' (by rw[show n=r by lia];exact c)
end
end NX
namespace NX
open PySem PySem.W PySem.Spec PyProof.Rows L2
variable{prog:Program}{w:World}{A:Around}{s:Shared}{a:Addr}{vs:List Value}
section
variable{E:Value->Shared->Prop}
theorem o6(n:Nat):POk n (List.toArray (List.range n)):=⟨by simp⟩
theorem km{O:KeyOrd}{key:Nat->O.α}{kd:SortKind}{n:Nat}{P:PySem.Fin->Shared->Prop}(ho:s.heap.get? a=some (seqObj "list" vs.toArray n))(O0:vs.length<64)
  (L0:2<=vs.length->∀(h':Heap),(∀b o,b≠a->s.heap.get? b=some o->h'.get? b=some o)->∀Q:SortKind->Shared->Prop,Q kd {s with heap:=h'}->wpAny (model prog w) A (keyKind' vs.toArray) Q E {s with heap:=h'})
  (O1:∀i j,i<vs.length->j<vs.length->∀(h':Heap),(∀b o,b≠a->s.heap.get? b=some o->h'.get? b=some o)->∀C:Bool->Shared->Prop,C (O.blt (key i) (key j)) {s with heap:=h'}->kas_ask prog w A kd vs i j C {s with heap:=h'})
  (h:∀p h',POk vs.length p->aP key p vs.length->(∃e,h'.get? a=some (seqObj "list" (List.toArray (p.toList.map fun i=>vs.getD i .none)) e))->(∀b o,b≠a->s.heap.get? b=some o->h'.get? b=some o)->P (.done (.ret .none)) {s with heap:=h'}):
  wpAny (model prog w) A (Builtin.«list.sort» ⟨[.ref a],[]⟩) P E s:=by
 rw[list_sort_plain];have la:a<s.heap.objs.size:=U8 ho;have zs:vs.toArray.size=vs.length:=by simp
 refine UQ (listItems_at ho rfl (UQ (listUpdate_at ho rfl ?_ (by rw[zs,Wn];lia) (VJ _))));obtain⟨e1,h1⟩:∃e1,(s.heap.update a (Obj.mapSeq fun _=>#[])).get? a=some (seqObj "list" #[] e1):=⟨_,get?_update_seq ho (fun _=>#[])⟩
 refine UQ (seqEpoch_at h1 rfl (UQ (wpAny_newTuple (UQ (wpAny_newList (Xk ?_))) (by simp only[X0];rw[Wn];lia))));generalize e6:((s.heap.update a (Obj.mapSeq fun _=>#[])).push {cls:=.type "tuple",data:=.seq vs.toArray.toList.toArray}).push {cls:=.type "list",data:=.seq ([]:List Value).toArray}=h6;have k6:∀b o,b≠a->s.heap.get? b=some o->h6.get? b=some o:=fun b o nb e=>by
  rw[<-e6];exact UZ _ (UZ _ ((VE _ _ (Wx nb)).trans e))
 have QA:h6.get? a=some (seqObj "list" #[] e1):=by
  rw[<-e6];exact UZ _ (UZ _ h1)
 dsimp only;have fin:∀(p:Array Nat),POk vs.length p->aP key p vs.length->∀out:Array Value,out=List.toArray (p.toList.map fun i=>vs.getD i .none)->
   P (.done (.ret .none)) {s with heap:=h6.update a (Obj.mapSeq fun _=>out)}:=fun p hp hs out eo=>by
  subst eo;exact h p _ hp hs ⟨_,get?_update_seq QA _⟩ fun b o nb e=>(VE _ _ (Wx nb)).trans (k6 b o nb e)
 have fits:∀{out:Array Value}{p:Array Nat},POk vs.length p->out=List.toArray (p.toList.map fun i=>vs.getD i .none)->out.size<=sizeLine+1:=fun{out p} hp e=>by
  rw[e,U9,U1,hp.perm.length_eq,Vl,Wn];lia
 by_cases h2:vs.toArray.size<2
 ·rw[U2 h2,U2 h2];refine UQ (U7 ?_);rw[StateT.run_pure];refine UQ (U7 ?_);dsimp only;have eo:(arrOf (SortSt.mk' general' (vs.toArray.zip vs.toArray) #[] 7 none)).map (·.2)=List.toArray ((List.toArray (List.range vs.length)).toList.map fun i=>vs.getD i .none):=by
   show(vs.toArray.zip vs.toArray).map (·.2)=_;apply Array.toList_inj.mp;simp only[Array.toList_map,Array.toList_zip,X0];have a1:(vs.zip vs).map (·.2)=vs:=by
    rw[List.map_snd_zip];exact U3 _
   rw[a1];apply Yp;intro i;by_cases hi:i<vs.length
   ·simp[hi]
   ·simp[hi]
  refine UQ (seqEpoch_at QA rfl (UQ (listUpdate_at QA rfl ?_ (VJ _) (fits (o6 _) eo))));simp only[Ym,W8,Za];refine U7 (fin _ (o6 _) ?_ _ eo);intro i j x y;have:i=j:=by lia
  rw[this];exact WE _
 ·rw[U6 h2,U6 h2];have TZ:2<=vs.length:=by lia
  refine UQ (L0 TZ h6 k6 _ ?_);refine UQ (VN (kat_run (ks:=vs) (vs:=vs) (Q:=fun Lm s'=>∃p,POk vs.length p/\aP key p vs.length/\arrOf Lm=p.map (kas_item (vs.toArray.zip vs.toArray))/\failedOf Lm=none/\s'={s with heap:=h6})
   (G:=fun p s'=>POk vs.length p/\aP key p vs.length/\s'={s with heap:=h6}) rfl TZ O0 (fun p Lm s' hz SK hf hg=>⟨p,hg.1,hg.2.1,SK,hf,hg.2.2⟩)
   (Ao (n:=vs.length) (O:=O) (κ:=key) (Good:=fun s'=>s'={s with heap:=h6}) (fun i j hi hj Q s' g k=>?_) (by lia) rfl fun p s' hp g hs=>⟨hp,hs,g⟩)) (fun r s' hq=>?_) fun _ _ e=>e)
  ·subst g;exact O1 i j hi hj h6 k6 Q (k _ rfl)
  ·obtain⟨p,hp,hs,SK,hf,rfl⟩:=hq;have eo:=kat_snds (ks:=vs) (vs:=vs) rfl SK;refine UQ (seqEpoch_at QA rfl (UQ (listUpdate_at QA rfl ?_ (VJ _) (fits hp eo))));rw[hf];simp only[Ym,W8,Za];exact U7 (fin p hp hs _ eo)
theorem gQ{O:KeyOrd}{key:Nat->O.α}{kd:SortKind}{l:Addr}{Q:Value->Shared->Prop}(hl:s.heap.IsList l vs.toArray)(O0:vs.length<64)
  (L0:2<=vs.length->∀(A':Around) (E':Value->Shared->Prop) (h':Heap),(∀b o,s.heap.get? b=some o->h'.get? b=some o)->∀Q:SortKind->Shared->Prop,Q kd {s with heap:=h'}->wpAny (model prog w) A' (keyKind' vs.toArray) Q E' {s with heap:=h'})
  (O1:∀i j,i<vs.length->j<vs.length->∀(h':Heap),(∀b o,s.heap.get? b=some o->h'.get? b=some o)->∀C:Bool->Shared->Prop,C (O.blt (key i) (key j)) {s with heap:=h'}->kas_ask prog w A.in1.in1 kd vs i j C {s with heap:=h'})
  (h:∀p h' e,POk vs.length p->aP key p vs.length->h'.get? (s.heap.objs.size+1)=some (seqObj "list" (List.toArray (p.toList.map fun i=>vs.getD i .none)) e)->(∀b o,s.heap.get? b=some o->h'.get? b=some o)->Q (.ref (s.heap.objs.size+1)) {s with heap:=h'}):
  wpAny (model prog w) A (call (.builtin "sorted") [.ref l]) Q E s:=by
 refine Yg kind_sorted plain_sorted entry_sorted (args_sorted1 _) ?_;unfold Builtin.«sorted»;refine UQ (m:=checkCount "sorted" 1 1 _) (U7 (UQ (collect_list hl (UQ (wpAny_newList ?_ (by rw[Wn];lia))) (by rw[Wn];lia))));have zz:((s.heap.push (seqObj "list" #[] 0)).update s.heap.objs.size (Obj.mapSeq (·++vs.toArray))).objs.size=s.heap.objs.size+1:=by rw[Heap.size_update,size_push']
 generalize e5:(s.heap.push (seqObj "list" #[] 0)).update s.heap.objs.size (Obj.mapSeq (·++vs.toArray))=h5 at zz ⊢;have k5:∀b o,s.heap.get? b=some o->(h5.push (seqObj "list" vs.toArray 0)).get? b=some o:=fun b o e=>by
  rw[<-e5];exact UZ _ ((VE _ _ (Wx (Vn (U8 e)))).trans (UZ _ e))
 have hL:(h5.push (seqObj "list" vs.toArray 0)).get? (s.heap.objs.size+1)=some (seqObj "list" vs.toArray 0):=by
  rw[<-zz];exact Ve _ rfl
 have ne:∀b o,s.heap.get? b=some o->b≠s.heap.objs.size+1:=fun b o e=>Vn (Yo (U8 e))
 show wpAny _ _ _ _ _ {s with heap:=h5.push (seqObj "list" vs.toArray 0)};rw[zz];refine UQ (Xk (WJ slot_list_sort ⟨_,hL,rfl⟩ entry_list_sort (km (key:=key) (kd:=kd) hL O0 (fun h2 h' kk Q' q=>L0 h2 _ _ h' (fun b o e=>kk b o (ne b o e) (k5 b o e)) Q' q)
  (fun i j hi hj h' kk C q=>O1 i j hi hj h' (fun b o e=>kk b o (ne b o e) (k5 b o e)) C q) fun p h' hp hs ⟨e,he⟩ kk=>⟨_,rfl,?_⟩) (args_list_sort _)))
 exact U7 ⟨_,rfl,h p h' e hp hs he fun b o q=>kk b o (ne b o q) (k5 b o q)⟩
end
noncomputable def intO:KeyOrd where
 α:=Int
 blt a b:=decide (a<b)
 irrefl a:=by simp
 trans a b c h1 h2:=by simp only[Vc] at *;lia
 negTrans a b c h:=by simp only[Vc] at *;lia
 total a b h1 h2:=by simp only[Wf] at *;lia
abbrev Iz:KeyOrd:=strKind.toKeyOrd
noncomputable def rF:KeyOrd where
 α:=Key
 blt a b:=match a,b with
  | .inl i,.inl j=>decide (i<j)
  | .inr x,.inr y=>decide (x.cps.toList<y.cps.toList)
  | .inl _,.inr _=>true
  | .inr _,.inl _=>false
 irrefl a:=by
  cases a with
  |inl i=>simp
  |inr x=>simpa using List.lt_irrefl x.cps.toList
 trans a b c h1 h2:=by
  cases a <;> cases b <;> cases c <;> simp_all
  ·lia
  ·exact List.lt_trans h1 h2
 negTrans a b c h:=by
  cases a <;> cases b <;> cases c <;> simp_all
  ·lia
  ·rename_i x y z;by_cases q:x.cps.toList<y.cps.toList
   ·exact .inl q
   ·exact .inr (List.lt_of_le_of_lt (YA.mp q) h)
 total a b h1 h2:=by
  cases a <;> cases b <;> simp_all
  ·lia
  ·rename_i x y;have e:x.cps.toList=y.cps.toList:=List.le_antisymm (by first|exact h2|exact YA.mp h2) (by first|exact h1|exact YA.mp h1);rw[<-lR x,<-lR y,e]
def gN:List Key->List Key->Bool
 |[],[]=>false
 |[],_::_=>true
 |_::_,[]=>false
 |a::r,b::t=>if a=b then gN r t else rF.blt a b
theorem fF:∀a:List Key,gN a a=false
 |[]=>rfl
 |a::r=>by
  show(if a=a then gN r r else _)=false;rw[U2 rfl];exact fF r
theorem Ap{a b:Key}(h:rF.blt a b=true):a≠b:=by
 rintro rfl;have:=rF.irrefl a;rw[h]at this;cases this
theorem eE:∀a b c:List Key,gN a b=true->gN b c=true->gN a c=true
 |[],[],_,h,_=>by cases h
 |[],_::_,[],_,h=>by cases h
 |[],_::_,_::_,_,_=>rfl
 |_::_,[],_,h,_=>by cases h
 |_::_,_::_,[],_,h=>by cases h
 |a::r,b::t,c::u,h1,h2=>by
  have h1:(if a=b then gN r t else rF.blt a b)=true:=h1;have h2:(if b=c then gN t u else rF.blt b c)=true:=h2;show(if a=c then gN r u else rF.blt a c)=true;by_cases e1:a=b
  ·by_cases e2:b=c
   ·rw[U2 e1]at h1;rw[U2 e2]at h2;rw[U2 (e1.trans e2)];exact eE r t u h1 h2
   ·rw[U6 e2]at h2;rw[e1,U6 e2];exact h2
  ·rw[U6 e1]at h1;by_cases e2:b=c
   ·rw[<-e2,U6 e1];exact h1
   ·rw[U6 e2]at h2;have h3:=rF.trans a b c h1 h2;rw[U6 (Ap h3)];exact h3
theorem eF:∀a b:List Key,gN a b=false->gN b a=false->a=b
 |[],[],_,_=>rfl
 |[],_::_,h,_=>by cases h
 |_::_,[],_,h=>by cases h
 |a::r,b::t,h1,h2=>by
  have h1:(if a=b then gN r t else rF.blt a b)=false:=h1;have h2:(if b=a then gN t r else rF.blt b a)=false:=h2;by_cases e:a=b
  ·rw[U2 e]at h1;rw[U2 e.symm]at h2;rw[e,eF r t h1 h2]
  ·rw[U6 e]at h1;rw[U6 (Wx e)]at h2;exact absurd (rF.total a b h1 h2) e
theorem wC(a b c:List Key)(h:gN a c=true):gN a b=true\/gN b c=true:=by
 cases e:gN a b with
 |true=>exact .inl rfl
 |false=>
  refine .inr ?_;cases e2:gN b a with
  |true=>exact eE b a c e2 h
  |false=>
   rw[<-eF a b e e2];exact h
def IA:KeyOrd where
 α:=List Key
 blt:=gN
 irrefl:=fF
 trans:=eE
 negTrans:=wC
 total:=eF
variable{α:Type}{p:Array Nat}{xs:List V}{us:List Value}
section
variable{O:KeyOrd}
noncomputable def vO(p:Array Nat)(xs:List V):List V:=p.toList.map fun i=>xs.getD i .non
theorem jG(xs:List α)(d:α):((List.range xs.length).map fun i=>xs.getD i d)=xs:=by
 apply Yp;intro i;by_cases hi:i<xs.length
 ·simp[hi]
 ·simp[hi]
theorem ko{xs:List α}(d:α)(hp:POk xs.length p):(p.toList.map fun i=>xs.getD i d).Perm xs:=by
 have:=hp.perm.map (fun i=>xs.getD i d)
 rwa [jG]at this
theorem gR{xs:List α}(d:α)(key:α->O.α)(hp:POk xs.length p)(hs:aP (O:=O) (fun i=>key (xs.getD i d)) p xs.length):(p.toList.map fun i=>xs.getD i d).Pairwise fun a b=>O.kle (key a) (key b):=by
 rw[WV];intro i j hi hj Nh;have hsz:=hp.size;have OZ:i<p.size:=by simpa using hi
 have RT:j<p.size:=by simpa using hj
 have h:=hs i j (YW Nh) (by lia);unfold kk at h;simp only[YJ,Array.getElem_toList];have e1:p.getD i 0=p[i]:=by simp[Array.getD,OZ]
 have e2:p.getD j 0=p[j]:=by simp[Array.getD,RT]
 rw[e1,e2]at h;exact h
theorem vals_pick{xs:List V}{us:List Value}(r:Vals xs us):∀l:List Nat,(∀i∈l,i<xs.length)->Vals (l.map fun i=>xs.getD i .non) (l.map fun i=>us.getD i .none)
 |[],_=>.nil
 |i::l,h=>by
  refine .cons ?_ (vals_pick r l fun j hj=>h j (US _ hj));have hi:=h i UR;have e1:xs[i]?=some (xs.getD i .non):=by rw[aX _ _ _ hi];exact UT hi
  obtain⟨u,hu,ru⟩:=r.get e1;have e2:us.getD i .none=u:=by rw[UU,hu];rfl
  show L2.RelV (xs.getD i .non) (us.getD i .none);rw[e2];exact ru
theorem kq(r:Vals xs us)(hp:POk xs.length p):Vals (vO p xs) (p.toList.map fun i=>us.getD i .none):=
 vals_pick r _ fun i hi=>Vv.mp (hp.perm.mem_iff.mp hi)
end
variable{X:Cx}{pr:List (Addr×Obj)}{σ:L2.St}{H:Hp}{h':Heap}{i:Nat}
section
theorem i6{ys:List V}{e:Nat}{D:Addr}(I:Inv X pr σ H s)(kk:∀b o,s.heap.get? b=some o->h'.get? b=some o)(hD:s.heap.objs.size<=D)
  (ho:h'.get? D=some (seqObj "list" (List.toArray us) e)) (r:Vals ys us) (hz:ys.length<=sizeLine):Inv X pr σ (upd H D (.lst ys)) {s with heap:=h'}:=
 I.laid (t':=s.toks) kk hD ⟨hz,us,e,r,ho⟩
theorem iA(hc:X.calm=true):bL X (.builtin "sorted") (fun vs H Q=>∃(p:Addr) (ns:List Int),vs=[.ref p]/\SqL X.K H p (ns.map V.int)/\ns.length<64/\∀(D:Addr) (ms:List Int),H D=none->ms.Perm ns->ms.Pairwise (·<=·)->Q (.ref D) (upd H D (.lst (ms.map V.int)))):=by
 intro pr s σ H vs us Q I r h;obtain⟨p,ns,rfl,hp,O0,q⟩:=h;obtain⟨u,rfl,r1⟩:=cO r;cases r1;obtain⟨ws,rv,pl,hz⟩:=I.list hp;have hl:=rv.length;rw[U1]at hl;have isI:∀v∈ws,∃n t,v=.int n t:=fun v hv=>by
  obtain⟨i,hi⟩:=VM.mp hv;obtain⟨t,e⟩:=cP rv hi;exact⟨_,t,e⟩
 refine gQ (O:=intO) (key:=fun i=>ns.getD i 0) (kd:=oneType') pl.isList (by lia) (fun h2 A' E' h' kk Q' q'=>?_) (fun i j hi hj h' kk C q'=>?_) fun pp h' e LB hs he kk=>?_
 ·refine kas_kind h2 (T:=.type "int") (fun v hv=>?_) (by decide) (by decide) q';obtain⟨n,t,rfl⟩:=isI v hv;exact fun A Q E s _ q=>Xw (Zb s n t) q
 ·unfold kas_ask;have e1:ws[i]?=some (ws.getD i .none):=by rw[aX _ _ _ hi];exact UT hi
  have e2:ws[j]?=some (ws.getD j .none):=by rw[aX _ _ _ hj];exact UT hj
  obtain⟨t,RU⟩:=cP rv e1;obtain⟨t',QB⟩:=cP rv e2;rw[RU,QB];exact kat_lt_int q'
 ·rw[<-hl]at LB hs;have QC:POk (ns.map V.int).length pp:=by rw[U1];exact LB
  have eo:vO pp (ns.map V.int)=(pp.toList.map fun i=>ns.getD i 0).map V.int:=by
   unfold vO;rw[Vy];refine VO fun i hi=>?_
   have hi:=Vv.mp (LB.perm.mem_iff.mp hi);show(ns.map V.int).getD i .non=V.int (ns.getD i 0);rw[aX _ _ _ (by rw[U1];exact hi),aX _ _ _ hi];simp
  have hn:H (s.heap.objs.size+1)=none:=I.hok.fresh (Wu _);refine⟨.ref (s.heap.objs.size+1),_,i6 I kk (Wu _) he (kq rv QC) ?_,rfl,?_⟩
  ·show(vO pp (ns.map V.int)).length<=sizeLine;rw[eo,U1,U1,LB.perm.length_eq,Vl,Wn];lia
  ·rw[eo];refine q _ _ hn (ko 0 LB) ?_;have:=gR (O:=intO) 0 (fun i:Int=>i) LB hs;refine this.imp fun{a b} OA=>?_
   have OA:decide (b<a)=false:=OA;have:=ZH OA;lia
theorem nR{ls:List (List Nat)}(r:Vals (ls.map fun l=>V.str (S l)) us){v:Value}(h:us[i]?=some v):∃t,v=.str (S (ls.getD i [])) t:=by
 have hl:=r.length;rw[U1]at hl;obtain⟨hi,_⟩:=U0.mp h;have e1:(ls.map fun l=>V.str (S l))[i]?=some (.str (S (ls.getD i []))):=by
  rw[Vd,UT (by lia),aX _ _ _ (by lia)];rfl
 obtain⟨u,hu,t,rfl⟩:=r.get e1;rw[h]at hu;exact⟨t,Vq hu⟩
theorem iC(hc:X.calm=true):bL X (.builtin "sorted") (fun vs H Q=>∃(p:Addr) (ls:List (List Nat)),vs=[.ref p]/\SqL X.K H p (ls.map fun l=>V.str (S l))/\ls.length<64/\∀(D:Addr) (ms:List (List Nat)),H D=none->ms.Perm ls->ms.Pairwise (fun a b=>¬ b<a)->Q (.ref D) (upd H D (.lst (ms.map fun l=>V.str (S l))))):=by
 intro pr s σ H vs us Q I r h;obtain⟨p,ls,rfl,hp,O0,q⟩:=h;obtain⟨u,rfl,r1⟩:=cO r;cases r1;obtain⟨ws,rv,pl,hz⟩:=I.list hp;have hl:=rv.length;rw[U1]at hl;refine gQ (O:=Iz) (key:=fun i=>ls.getD i []) (kd:=oneType') pl.isList (by lia) (fun h2 A' E' h' kk Q' q'=>?_) (fun i j hi hj h' kk C q'=>?_) fun pp h' e LB hs he kk=>?_
 ·refine kas_kind h2 (T:=.type "str") (fun v hv=>?_) (by decide) (by decide) q';obtain⟨i,hi⟩:=VM.mp hv;obtain⟨t,rfl⟩:=nR rv hi;exact fun A Q E s _ q=>Xw (Yk s _ t) q
 ·unfold kas_ask;have e1:ws[i]?=some (ws.getD i .none):=by rw[aX _ _ _ hi];exact UT hi
  have e2:ws[j]?=some (ws.getD j .none):=by rw[aX _ _ _ hj];exact UT hj
  obtain⟨t,RU⟩:=nR rv e1;obtain⟨t',QB⟩:=nR rv e2;rw[RU,QB];refine kas_lt_str ?_;rw[cj,cj];exact q'
 ·rw[<-hl]at LB hs;have QC:POk (ls.map fun l=>V.str (S l)).length pp:=by rw[U1];exact LB
  have eo:vO pp (ls.map fun l=>V.str (S l))=(pp.toList.map fun i=>ls.getD i []).map fun l=>V.str (S l):=by
   unfold vO;rw[Vy];refine VO fun i hi=>?_
   have hi:=Vv.mp (LB.perm.mem_iff.mp hi);show(ls.map fun l=>V.str (S l)).getD i .non=V.str (S (ls.getD i []));rw[aX _ _ _ (by rw[U1];exact hi),aX _ _ _ hi];simp
  have hn:H (s.heap.objs.size+1)=none:=I.hok.fresh (Wu _);refine⟨.ref (s.heap.objs.size+1),_,i6 I kk (Wu _) he (kq rv QC) ?_,rfl,?_⟩
  ·show(vO pp (ls.map fun l=>V.str (S l))).length<=sizeLine;rw[eo,U1,U1,LB.perm.length_eq,Vl,Wn];lia
  ·rw[eo];refine q _ _ hn (ko [] LB) ?_;have:=gR (O:=Iz) [] (fun l:List Nat=>l) LB hs;refine this.imp fun{a b} OA=>?_
   have OA:decide (b<a)=false:=OA;exact ZH OA
end
noncomputable def kinds(k:List Key):List Bool:=k.map fun x=>x.isLeft
section
theorem Aq(a b:Key):Sw (kV a) (kV b)=decide (a=b):=by
 cases a <;> cases b <;> (rw[Vr];simp[kV,Sw])
theorem o7(a:Key):wg (kV a)=true:=by cases a <;> rfl
theorem DB{a b:Key}{u v:Value}{top:Bool}{Q:Bool->Shared->Prop}(ra:L2.RelV (kV a) u)(rb:L2.RelV (kV b) v)(hk:a.isLeft=b.isLeft)(q:Q (rF.blt a b) s):wpAny (model prog w) A (oneLt' top u v) Q (fun _ _=>False) s:=by
 cases a with
 |inl i=>
  cases b with
  |inr _=>cases hk
  |inl j=>
   obtain⟨t,rfl⟩:=ra;obtain⟨t',rfl⟩:=rb;cases top with
   |true=>exact kat_lt_int (E:=fun _ _=>False) q
   |false=>exact kat_one _ _ (lt_int q)
 |inr x=>
  cases b with
  |inl _=>cases hk
  |inr y=>
   obtain⟨t,rfl⟩:=ra;obtain⟨t',rfl⟩:=rb;cases top with
   |true=>exact oneLt_str q
   |false=>exact kat_one _ _ (lt_str q)
theorem lX{Q:Bool->Shared->Prop}:∀(k1 k2:List Key) (us ws:List Value) (i:Nat),Vals (k1.map kV) us->Vals (k2.map kV) ws->kinds k1=kinds k2->Q (gN k1 k2) s->KatLex prog w A true false Q (us.zip ws) i s
 |[],[],_,_,_,.nil,.nil,_,q=>q
 |[],_::_,_,_,_,_,_,h,_=>by cases h
 |_::_,[],_,_,_,_,_,h,_=>by cases h
 |a::r,b::t,u::us,v::ws,i,.cons ru rus,.cons rv rvs,h,q=>by
  have h1:a.isLeft=b.isLeft:=(XZ h).1;have h2:kinds r=kinds t:=(XZ h).2;have q:Q (if a=b then gN r t else rF.blt a b) s:=q;refine kat_cons (Dp (A:=A) (s:=s) ru rv (o7 a) (o7 b) prog w _ _ ?_);rw[Aq];by_cases e:a=b
  ·rw[U2 e]at q;rw[VA e];exact kat_yes (lX r t us ws (i+1) rus rvs h2 q)
  ·rw[U6 e]at q;rw[Vx e];exact kat_no (DB ru rv h1 q)
end
variable{al:List (Addr×List Key)}
section
theorem sQ(I:Inv X pr σ H s)(h:SqT X.K H a xs):∃(us:List Value) (o:Obj) (n:Nat),Vals xs us/\s.heap.get? a=some o/\o.cls=.type "tuple"/\o.data=.seq us.toArray n:=by
 obtain⟨us,r,pl,_⟩:=I.tuple h;obtain⟨o,ho,oc,n,od⟩:=pl;exact⟨us,o,n,r,ho,oc,od⟩
theorem sR(r:Vals (al.map fun a=>V.ref a.1) us)(h:i<al.length):us.getD i .none=.ref (al.getD i (0,[])).1:=by
 have e1:(al.map fun a=>V.ref a.1)[i]?=some (.ref (al.getD i (0,[])).1):=by
  rw[Vd,UT h,aX _ _ _ h];rfl
 obtain⟨u,hu,ru⟩:=r.get e1;rw[UU,hu];exact ru
theorem wF(I:Inv X pr σ H s)(kk:∀b o,s.heap.get? b=some o->h'.get? b=some o)(top:Bool):
  (r:Vals (al.map fun a=>V.ref a.1) us)->(∀a∈al,SqT X.K H a.1 (a.2.map kV)/\∃t,kinds a.2=top::t)->∃fs:List Value,KatTups h' us fs/\fs.length=al.length/\∀v∈fs,∀M:Model,Looks M h' (typeOf v) (.type (if top then "int" else "str")):=by
 induction al generalizing us with
 |nil=>
  intro r _;cases r;exact⟨[],trivial,rfl,fun v hv=>by cases hv⟩
 |cons a al ih=>
  intro r h;cases r with
  |cons ra rs=>
   cases ra;obtain⟨fs,t1,t2,t3⟩:=ih rs fun b hb=>h b (US _ hb)
   obtain⟨ha,kt,hk⟩:=h a UR;obtain⟨ws,o,n,rv,ho,oc,od⟩:=sQ I ha;cases e2:a.2 with
   |nil=>rw[e2]at hk;cases hk
   |cons k ks=>
    rw[e2]at rv hk;have T1:k.isLeft=top:=(XZ hk).1;cases rv with
    | @cons _ f _ fr rf rfs=>
     refine⟨f::fs,KatTups.cons (kk _ _ ho) oc od (by simp) t1,by simp[t2],fun v hv M=>?_⟩;rcases U5.mp hv with rfl|hv
     ·cases k with
      |inl i=>
       obtain⟨t,rfl⟩:=rf;have:top=true:=T1.symm;subst this;exact fun A Q E s _ q=>Xw (Zb s _ t) q
      |inr x=>
       obtain⟨t,rfl⟩:=rf;have:top=false:=T1.symm;subst this;exact fun A Q E s _ q=>Xw (Yk s _ t) q
     ·exact t3 v hv M
end
section
theorem iE(hc:X.calm=true):bL X (.builtin "sorted") (fun vs H Q=>∃(p:Addr) (al:List (Addr×List Key)) (top:Bool) (t:List Bool),vs=[.ref p]/\SqL X.K H p (al.map fun a=>V.ref a.1)/\(∀a∈al,SqT X.K H a.1 (a.2.map kV)/\kinds a.2=top::t)/\al.length<64/\
  ∀(D:Addr) (ms:List (Addr×List Key)),H D=none->ms.Perm al->ms.Pairwise (fun a b=>gN b.2 a.2=false)->Q (.ref D) (upd H D (.lst (ms.map fun a=>V.ref a.1)))):=by
 intro pr s σ H vs us Q I r h;obtain⟨p,al,top,kt,rfl,hp,Nu,O0,q⟩:=h;obtain⟨u,rfl,r1⟩:=cO r;cases r1;obtain⟨ws,rv,pl,hz⟩:=I.list hp;have hl:=rv.length;rw[U1]at hl;refine gQ (O:=IA) (key:=fun i=>(al.getD i (0,[])).2) (kd:=tuples' true) pl.isList (by lia) (fun h2 A' E' h' kk Q' q'=>?_) (fun i j hi hj h' kk C q'=>?_) fun pp h' e LB hs he kk=>?_
 ·obtain⟨fs,t1,t2,t3⟩:=wF I kk top rv fun a ha=>⟨(Nu a ha).1,kt,(Nu a ha).2⟩
  refine kat_kind (T:=.type (if top then "int" else "str")) t1 (by lia) (fun v hv=>t3 v hv _) (by simp) ?_;have:((Value.type (if top then "int" else "str")) != Value.type "tuple")=true:=by cases top <;> decide
  rw[this];exact q'
 ·unfold kas_ask;have OZ:i<al.length:=by lia
  have RT:j<al.length:=by lia
  rw[sR rv OZ,sR rv RT];have mi:al.getD i (0,[])∈al:=by rw[aX _ _ _ OZ];exact VZ _
  have mj:al.getD j (0,[])∈al:=by rw[aX _ _ _ RT];exact VZ _
  obtain⟨u1,o1,n1,r1,g1,_,d1⟩:=sQ I (Nu _ mi).1;obtain⟨u2,o2,n2,r2,g2,_,d2⟩:=sQ I (Nu _ mj).1;have ek:kinds (al.getD i (0,[])).2=kinds (al.getD j (0,[])).2:=by rw[(Nu _ mi).2,(Nu _ mj).2]
  have el:u1.length=u2.length:=by
   have a1:=r1.length;have a2:=r2.length;have a3:=Wy List.length ek;simp only[kinds,U1]at a1 a2 a3;lia
  refine kat_lt (kk _ _ g1) d1 (kk _ _ g2) d2 ?_;have ef:decide (u1.toArray.size<u2.toArray.size)=false:=by simp[el]
  rw[ef];exact lX _ _ _ _ 0 r1 r2 ek q'
 ·rw[<-hl]at LB hs;have QC:POk (al.map fun a=>V.ref a.1).length pp:=by rw[U1];exact LB
  have eo:vO pp (al.map fun a=>V.ref a.1)=(pp.toList.map fun i=>al.getD i (0,[])).map fun a=>V.ref a.1:=by
   unfold vO;rw[Vy];refine VO fun i hi=>?_
   have hi:=Vv.mp (LB.perm.mem_iff.mp hi);show(al.map fun a=>V.ref a.1).getD i .non=V.ref (al.getD i (0,[])).1;rw[aX _ _ _ (by rw[U1];exact hi),aX _ _ _ hi];simp
  have hn:H (s.heap.objs.size+1)=none:=I.hok.fresh (Wu _);refine⟨.ref (s.heap.objs.size+1),_,i6 I kk (Wu _) he (kq rv QC) ?_,rfl,?_⟩
  ·show(vO pp (al.map fun a=>V.ref a.1)).length<=sizeLine;rw[eo,U1,U1,LB.perm.length_eq,Vl,Wn];lia
  ·rw[eo];refine q _ _ hn (ko (0,[]) LB) ?_;exact gR (O:=IA) (0,[]) (fun a:Addr×List Key=>a.2) LB hs
end
end NX
namespace L2
open PySem PySem.Spec PyProof.Rows
variable{κ:Type}{o:Option V}{y:V}{u:Value}
section
variable[DecidableEq κ]
noncomputable def lY(kvs:List (κ×V))(k:κ):Option V:=(kvs.find? fun kv=>decide (kv.1=k)).map (·.2)
noncomputable def iF(kvs:List (κ×V))(k:κ)(v:V):List (κ×V):=
 if(kvs.any fun kv=>decide (kv.1=k))=true then kvs.map (fun kv=>if kv.1=k then(kv.1,v) else kv) else kvs++[(k,v)]
theorem kr{p:κ×V}{r:List (κ×V)}{k:κ}(e:p.1=k):lY (p::r) k=some p.2:=by simp[lY,Xg,e]
theorem ku{p:κ×V}{r:List (κ×V)}{k:κ}(e:¬ p.1=k):lY (p::r) k=lY r k:=by simp[lY,Xg,e]
theorem pb(k:κ):∀kvs:List (κ×V),(kvs.any fun kv=>decide (kv.1=k))=(lY kvs k).isSome
 |[]=>rfl
 |p::r=>by
  rw[ZI];by_cases e:p.1=k
  ·simp only[kr e,VA e,Bool.true_or,Option.isSome_some]
  ·rw[ku e,Vx e,Bool.false_or];exact pb k r
theorem fG(kvs:List (κ×V))(k:κ)(v:V):(iF kvs k v).length<=kvs.length+1:=by
 unfold iF;split
 ·rw[U1];lia
 ·rw[VD,Va,We];lia
theorem RelO.isSome_eq{u:Option Value}(r:RelO o u):o.isSome=u.isSome:=by
 cases o with
 |none=>cases u with
  |none=>rfl
  |some _=>exact(show False from r).elim
 |some _=>cases u with
  |none=>exact(show False from r).elim
  |some _=>rfl
theorem RelO.getD{o:Option V}{u:Option Value}{d:V}{d':Value}(r:RelO o u)(rd:RelV d d'):RelV (o.getD d) (u.getD d'):=by
 cases o with
 |none=>cases u with
  |none=>exact rd
  |some _=>exact(show False from r).elim
 |some _=>cases u with
  |none=>exact(show False from r).elim
  |some _=>exact r
theorem KV.val{kvs:List (κ×V)}{vs:List (κ×Value)}(r:KV kvs vs)(k:κ):RelO (lY kvs k) (valueAt vs k):=by
 unfold KV at r;induction r with
 |nil=>exact True.intro
 | @cons p q ps qs h t ih=>
  obtain⟨h1,h2⟩:=h;by_cases e:p.1=k
  ·have e':q.1=k:=h1.symm.trans e;have b:valueAt (q::qs) k=some q.2:=by simp[valueAt,Xg,e']
   rw[kr e,b];exact h2
  ·have e':¬ q.1=k:=fun z=>e (h1.trans z)
   have b:valueAt (q::qs) k=valueAt qs k:=by simp[valueAt,Xg,e']
   rw[ku e,b];exact ih
theorem KV.any{kvs:List (κ×V)}{vs:List (κ×Value)}(r:KV kvs vs)(k:κ):(kvs.any fun kv=>decide (kv.1=k))=vs.any fun kv=>decide (kv.1=k):=by
 unfold KV at r;induction r with
 |nil=>rfl
 |cons h t ih=>rw[ZI,ZI,ih,h.1]
theorem KV.repl{kvs:List (κ×V)}{vs:List (κ×Value)}(r:KV kvs vs)(k:κ)(ry:RelV y u):
  KV (kvs.map fun kv=>if kv.1=k then(kv.1,y) else kv) (vs.map fun kv=>if kv.1=k then(kv.1,u) else kv):=by
 unfold KV at r ⊢;induction r with
 |nil=>exact .nil
 | @cons p q ps qs h t ih=>
  rw[Vj,Vj];refine .cons ?_ ih;obtain⟨h1,h2⟩:=h;by_cases e:p.1=k
  ·rw[U2 e,U2 (h1.symm.trans e)];exact⟨h1,ry⟩
  ·rw[U6 e,U6 (fun z=>e (h1.trans z))];exact⟨h1,h2⟩
theorem KV.put{kvs:List (κ×V)}{vs:List (κ×Value)}(r:KV kvs vs)(k:κ)(ry:RelV y u):KV (iF kvs k y) (stored vs k u):=by
 unfold iF stored;rw[r.any k];by_cases e:(vs.any fun kv=>decide (kv.1=k))=true
 ·rw[U2 e,U2 e];exact r.repl k ry
 ·rw[U6 e,U6 e];exact Paired.snoc r ⟨rfl,ry⟩
theorem KV.length{kvs:List (κ×V)}{vs:List (κ×Value)}(r:KV kvs vs):kvs.length=vs.length:=XX r
end
variable{P:Program}{w:World}
theorem kV_is{k:Key}(r:RelV (kV k) u):(mixKind P w).is k u=true:=by
 cases k with
 |inl i=>obtain⟨t,e⟩:=(show ∃t,u=Value.int i t from r);subst e;exact nI P w i t
 |inr x=>obtain⟨t,e⟩:=(show ∃t,u=Value.str x t from r);subst e;exact nJ P w x t
theorem lZ{P:Program}{w:World}:∀{ks:List Key}{us:List Value},Vals (ks.map kV) us->ItemsAre (mixKind P w) ks us
 |[],_,r=>by rw[VT]at r;cases r;exact .nil
 |k::ks,_,r=>by
  rw[Vj]at r;cases r with
  |cons h t=>exact .cons (kV_is h) (lZ t)
abbrev KT(H:Hp):List (List Key×V)->List (List Key×Addr×Value)->Prop:=Paired fun p q=>p.1=q.1/\H q.2.1=some (.tup (p.1.map kV))/\RelV p.2 q.2.2
variable{H:Hp}{kvs:List (List Key×V)}{xs:List (List Key×Addr×Value)}
theorem KT.val(r:KT H kvs xs)(k:List Key):RelO (lY kvs k) ((atKey xs k).map (·.2)):=by
 induction r with
 |nil=>exact True.intro
 | @cons p q ps qs h t ih=>
  obtain⟨h1,_,h2⟩:=h;by_cases e:p.1=k
  ·have e':q.1=k:=h1.symm.trans e;have b:atKey (q::qs) k=some q.2:=by simp[atKey,Xg,e']
   rw[kr e,b];exact h2
  ·have e':¬ q.1=k:=fun z=>e (h1.trans z)
   have b:atKey (q::qs) k=atKey qs k:=by simp[atKey,Xg,e']
   rw[ku e,b];exact ih
theorem KT.repl(r:KT H kvs xs)(k:List Key)(ry:RelV y u):
  KT H (kvs.map fun kv=>if kv.1=k then(kv.1,y) else kv) (xs.map (putAt k u)):=by
 induction r with
 |nil=>exact .nil
 | @cons p q ps qs h t ih=>
  rw[Vj,Vj];refine .cons ?_ ih;obtain⟨h1,h2,h3⟩:=h;unfold putAt;by_cases e:p.1=k
  ·rw[U2 e,U2 (h1.symm.trans e)];exact⟨h1,h2,ry⟩
  ·rw[U6 e,U6 (fun z=>e (h1.trans z))];exact⟨h1,h2,h3⟩
variable{b:Addr}
theorem KT.put(r:KT H kvs xs)(k:List Key)(hb:H b=some (.tup (k.map kV)))(ry:RelV y u):
  KT H (iF kvs k y) (storedH xs k b u):=by
 have e:(kvs.any fun kv=>decide (kv.1=k))=(atKey xs k).isSome:=by
  rw[pb,(r.val k).isSome_eq,Yq]
 unfold iF storedH;rw[e];by_cases q:(atKey xs k).isSome=true
 ·rw[U2 q,U2 q];exact r.repl k ry
 ·rw[U6 q,U6 q];exact Paired.snoc r ⟨rfl,hb,ry⟩
variable{H':Hp}
theorem KT.keeps(r:KT H kvs xs)(ht:∀b ys,H b=some (.tup ys)->H' b=some (.tup ys)):KT H' kvs xs:=
 Paired.mapP r fun _ _ z=>⟨z.1,ht _ _ z.2.1,z.2.2⟩
variable{a:Addr}
section
variable{h:Heap}
theorem DE{u:HO}(ok:HOk P w H h)(e:Rd H a u):ObjOk P w H h a u:=e.ok ok
theorem qJ{kvs:List (Key×V)}(ok:HOk P w H h)(e:Rd H a (.dK kvs)):kvs.length<=sizeLine/\(a==sysModules)=false/\∃vs,KV kvs vs/\h.DictOf (mixKind P w) a vs:=
 show ObjOk P w H h a (.dK kvs) from DE ok e
theorem DF{kvs:List (Key×V)}(ok:HOk P w H h)(e:H a=some (.dK kvs)):kvs.length<=sizeLine/\(a==sysModules)=false/\∃vs,KV kvs vs/\h.DictOf (mixKind P w) a vs:=qJ ok (.inl e)
theorem l5{ks:List Key}(ok:HOk P w H h)(e:H a=some (.tup (ks.map kV))):(tupleKind (mixKind P w)).is h ks a:=by
 obtain⟨_,JT,r,o,h1,h2,⟨n,h3⟩,_⟩:=(show ObjOk P w H h a (.tup (ks.map kV)) from ok a _ e)
 exact⟨o,JT.toArray,n,h1,h2,h3,by simpa using lZ r⟩
theorem sS(ok:HOk P w H h)(e:Rd H a (.dT kvs)):kvs.length<=sizeLine/\(a==sysModules)=false/\
  ∃xs,KT H kvs xs/\h.DictOfH (tupleKind (mixKind P w)) a xs:=by
 obtain⟨z,y,xs,r,o,es,ep,h1,h2,h3,h4,h5⟩:=(show ObjOk P w H h a (.dT kvs) from DE ok e)
 refine⟨z,y,xs,r,o,es,ep,h1,h2,h3,h4,fun x hx=>?_,h5⟩;have all:∀{l:List (List Key×V)}{m:List (List Key×Addr×Value)},KT H l m->∀x∈m,(tupleKind (mixKind P w)).is h x.1 x.2.1:=by
  intro l m q;induction q with
  |nil=>intro x hx;exact nomatch hx
  | @cons p q ps qs hq t ih=>
   intro x hx;rcases U5.mp hx with e|hx
   ·subst e;exact l5 ok (by rw[<-hq.1];exact hq.2.1)
   ·exact ih x hx
 exact all r x hx
theorem GZ(ok:HOk P w H h)(e:H a=some (.dT kvs)):kvs.length<=sizeLine/\(a==sysModules)=false/\
  ∃xs,KT H kvs xs/\h.DictOfH (tupleKind (mixKind P w)) a xs:=sS ok (.inl e)
end
def DGet(H:Hp)(a:Addr)(y:V)(r:Option V):Prop:=
 (∃kvs k,Rd H a (.dK kvs)/\y=kV k/\r=lY kvs k)\/∃kvs k b,Rd H a (.dT kvs)/\y=.ref b/\H b=some (.tup (k.map kV))/\r=lY kvs k
def DPut(H:Hp)(a:Addr)(y v:V)(H':Hp):Prop:=
 (∃kvs k,H a=some (.dK kvs)/\y=kV k/\kvs.length<sizeLine/\H'=upd H a (.dK (iF kvs k v)))\/
 ∃kvs k b,H a=some (.dT kvs)/\y=.ref b/\H b=some (.tup (k.map kV))/\kvs.length<sizeLine/\H'=upd H a (.dT (iF kvs k v))
theorem DGet.k{H:Hp}{a:Addr}{kvs:List (Key×V)}{k:Key}(e:H a=some (.dK kvs)):DGet H a (kV k) (lY kvs k):=.inl ⟨kvs,k,.inl e,rfl,rfl⟩
theorem DGet.t{k:List Key}(e:H a=some (.dT kvs))(eb:H b=some (.tup (k.map kV))):DGet H a (.ref b) (lY kvs k):=.inr ⟨kvs,k,b,.inl e,rfl,eb,rfl⟩
theorem DPut.k{H:Hp}{a:Addr}{kvs:List (Key×V)}{k:Key}{v:V}(e:H a=some (.dK kvs))(hl:kvs.length<sizeLine):DPut H a (kV k) v (upd H a (.dK (iF kvs k v))):=.inl ⟨kvs,k,e,rfl,hl,rfl⟩
theorem DPut.t{k:List Key}{v:V}(e:H a=some (.dT kvs))(eb:H b=some (.tup (k.map kV)))(hl:kvs.length<sizeLine):
  DPut H a (.ref b) v (upd H a (.dT (iF kvs k v))):=.inr ⟨kvs,k,b,e,rfl,eb,hl,rfl⟩
variable{X:Cx}{pr:List (Addr×Obj)}{σ:St}{s:Shared}{A:Around}{E Q:Value->Shared->Prop}{h':Heap}
section
variable{v:V}{r:Value}
theorem Inv.big(I:Inv X pr σ H s):sysModules<s.heap.objs.size:=by
 have h:mainGlobals<s.heap.objs.size:=(I.mod.glob.keeps I.bk).lt;exact Nat.lt_trans (by decide) h
theorem sT(hu:A.units+1<cLine)(I:Inv X pr σ H s)(g:DGet H a y (some v))(ry:RelV y u)(h:∀w' s',Inv X pr σ H s'->RelV v w'->Q w' s'):
  wpAny (model X.prog X.w) A (getItem (.ref a) u) Q E s:=by
 rcases g with⟨kvs,k,e,ey,l⟩|⟨kvs,k,b,e,ey,eb,l⟩
 ·subst ey;obtain⟨z,hd,vs,rel,dd⟩:=qJ I.hok e;obtain⟨w',hw,MD⟩:=RelO.some_of (v:=v) (o:=valueAt vs k) (by rw[l];exact rel.val k);exact wpAny_getItem_of (kV_is ry) dd.mapOf hw (h w' _ (I.tok _) MD)
 ·subst ey;cases(show u=Value.ref b from ry);obtain⟨z,hd,xs,rel,dd⟩:=sS I.hok e;obtain⟨w',hw,MD⟩:=RelO.some_of (v:=v) (o:=(atKey xs k).map (·.2)) (by rw[l];exact rel.val k);obtain⟨p,hp,QD⟩:=VF.mp hw;refine wpAny_getItem_heap (XC hu) (l5 I.hok eb) dd hp ?_;rw[QD];exact h w' _ (I.tok _) MD
theorem Js(hu:A.units+1<cLine)(I:Inv X pr σ H s)(g:DGet H a y o)(ry:RelV y u)(h:∀s',Inv X pr σ H s'->Q (.bool o.isSome) s'):
  wpAny (model X.prog X.w) A (compareOp .In u (.ref a)) Q E s:=by
 rcases g with⟨kvs,k,e,ey,l⟩|⟨kvs,k,b,e,ey,eb,l⟩
 ·subst ey;obtain⟨z,hd,vs,rel,dd⟩:=qJ I.hok e;refine wpAny_in_of (kV_is ry) hd dd.mapOf ?_;rw[<-(rel.val k).isSome_eq,<-l];exact h _ (I.tok _)
 ·subst ey;cases(show u=Value.ref b from ry);obtain⟨z,hd,xs,rel,dd⟩:=sS I.hok e;refine wpAny_in_heap (XC hu) (l5 I.hok eb) hd dd ?_;have q:=(rel.val k).isSome_eq;rw[Yq]at q;rw[<-q,<-l];exact h _ (I.tok _)
theorem Ar(hu:A.units+1<cLine)(I:Inv X pr σ H s)(g:DGet H a y o)(ry:RelV y u)(h:∀s',Inv X pr σ H s'->Q (.bool (!o.isSome)) s'):
  wpAny (model X.prog X.w) A (compareOp .NotIn u (.ref a)) Q E s:=by
 rcases g with⟨kvs,k,e,ey,l⟩|⟨kvs,k,b,e,ey,eb,l⟩
 ·subst ey;obtain⟨z,hd,vs,rel,dd⟩:=qJ I.hok e;refine wpAny_notIn_of (kV_is ry) hd dd.mapOf ?_;rw[<-(rel.val k).isSome_eq,<-l];exact h _ (I.tok _)
 ·subst ey;cases(show u=Value.ref b from ry);obtain⟨z,hd,xs,rel,dd⟩:=sS I.hok e;refine wpAny_notIn_heap (XC hu) (l5 I.hok eb) hd dd ?_;have q:=(rel.val k).isSome_eq;rw[Yq]at q;rw[<-q,<-l];exact h _ (I.tok _)
theorem nS{t':Nat}{ob:HO}(I:Inv X pr σ H s)(mu:Qn (H a))(hs:Heap.SameBut a s.heap h')(he:∃q,h'.get? a=some q)(new:ObjOk X.prog X.w (upd H a ob) h' a ob):
  Inv X pr σ (upd H a ob) {s with heap:=h',toks:=t'}:=
 I.write (x:=a) (e:=a) mu (.inl rfl) (fun b q hb z=>(hs.2 b hb).trans z) he new
theorem yy{kvs:List (Key×V)}{vs:List (Key×Value)}(z:kvs.length<=sizeLine)(hd:(a==sysModules)=false)(rel:KV kvs vs)(dd:h'.DictOf (mixKind P w) a vs):
  ObjOk P w H' h' a (.dK kvs):=⟨z,hd,vs,rel,dd⟩
theorem sU{Q:Unit->Shared->Prop}(hu:A.units+1<cLine)(I:Inv X pr σ H s)(g:DPut H a y v H')(ry:RelV y u)(rv:RelV v r)(h:∀s',Inv X pr σ H' s'->Q () s'):
  wpAny (model X.prog X.w) A (setItem (.ref a) u r) Q E s:=by
 rcases g with⟨kvs,k,e,ey,l,eH⟩|⟨kvs,k,b,e,ey,eb,l,eH⟩
 ·subst ey eH;obtain⟨z,hd,vs,rel,dd⟩:=DF I.hok e;have hz:vs.length<=sizeLine:=by rw[<-rel.length];exact z
  have hl:(iF kvs k v).length<=sizeLine:=by have:=fG kvs k v;lia
  refine wpAny_setItem_pairs (hsz:=hz) (kV_is ry) dd fun h' Nv hs=>h _ ?_
  have he:∃q,h'.get? a=some q:=let⟨q,_,_,hq,_⟩:=Nv;⟨q,hq⟩
  exact nS I (by rw[e];exact True.intro) hs he (yy hl hd (rel.put k rv) Nv)
 ·subst ey eH;cases(show u=Value.ref b from ry);obtain⟨z,hd,xs,rel,dd⟩:=GZ I.hok e;have hz:xs.length<=sizeLine:=by rw[<-XX rel];exact z
  have hl:(iF kvs k v).length<=sizeLine:=by have:=fG kvs k v;lia
  refine wpAny_setItem_heap (hsz:=hz) (XC hu) (l5 I.hok eb) dd fun h' Nv hs=>h _ ?_
  obtain⟨q,es,ep,hq,h2,h3,h4,_,h5⟩:=Nv;refine nS I (by rw[e];exact True.intro) hs ⟨q,hq⟩ ⟨hl,hd,_,(rel.put k eb rv).keeps fun c ys ec=>?_,q,es,ep,hq,h2,h3,h4,h5⟩;rw[ah (Gx ec e (fun z=>nomatch z))];exact ec
end
section
variable{kvs:List (Key×V)}{k:Key}
end
def NoSl(i:Expr):Prop:=∀ov iv,subscripted i false ov iv=operate [ov,iv] (getItem ov iv)
theorem As{prog:Program}{env:Env}{value slice:Expr}{pos:Pos}{T id:String}
  (hl:typeLookup (.type T) "__getitem__" = pure (some (.builtin id))) (hs:NoSl slice)
  (h:wpAny (model prog w) A (eval value env) (fun o s₁=>wpAny (model prog w) A (eval slice env) (fun i s₂=>s₂.TypeIs o T/\wpAny (model prog w) A (getItem o i) Q E s₂) E s₁) E s):
  wpAny (model prog w) A (eval (.Subscript value slice pos) env) Q E s:=by
 refine Subscript_ (VN h (fun o s₁ h₁=>VN h₁ (fun i s₂ h₂=>?_) fun _ _ x=>x) fun _ _ x=>x);obtain⟨hT,h₂⟩:=h₂;unfold subscriptTail;refine UQ ?_;rw[getitemInPython_of_ne hT.not_modules];refine UQ (wpAny_specialOf hT hl ?_);have fin:wpAny (model prog w) A (subscripted slice false o i) (fun r s₃=>wpAny (model prog w) A (letTemporaryGo value o r >>= fun _=>pure r) Q E s₃) E s₂:=by
  rw[hs o i];exact wpAny_operating (VN h₂ (fun r s₃ h₃=>UQ (wpAny_letTemporaryGo (U7 h₃))) fun _ _ x=>x)
 first
  |exact U7 (UQ fin)
  |exact UQ (U7 (UQ fin))
  |exact UQ fin
theorem nU(I:Inv X pr σ H s)(g:DGet H a y o):s.TypeIs (.ref a) "dict":=by
 rcases g with⟨kvs,k,e,_,_⟩|⟨kvs,k,b,e,_,_,_⟩
 ·obtain⟨_,_,vs,_,dd⟩:=qJ I.hok e;exact dd.typeIs
 ·obtain⟨_,_,xs,_,dd⟩:=sS I.hok e;exact dd.typeIs
noncomputable def G9(td ty:TE):TE:=fun σ H Q=>td σ H fun x H1=>ty σ H1 fun y H2=>∃a v,x=.ref a/\DGet H2 a y (some v)/\Q v H2
noncomputable def Ha(td ty tv:TE):TS:=fun D σ H=>tv σ H fun v H1=>td σ H1 fun x H2=>ty σ H2 fun y H3=>∃a H4,x=.ref a/\DPut H3 a y v H4/\D.nx σ H4
section
variable{o i e value:Expr}{pos pos' LG:Pos}{td ty tv:TE}
theorem Au(hu:X.A.units+1<cLine)(ho:PE X o td)(hi:PE X i ty)(hs:NoSl i):PE X (.Subscript o i pos) (G9 td ty):=by
 intro pr s σ H Q I h;refine As PySem.F.slot_dict_getitem.lookup hs (Kh (ho pr s σ H _ I h) fun u s1 ⟨x,H1,I1,rx,q1⟩=>Kh (hi pr s1 σ H1 _ I1 q1) fun iv s2 Kk=>?_);obtain⟨y,H2,I2,ry,a,v,ex,g,q2⟩:=Kk;subst ex;obtain rfl:u=Value.ref a:=rx;exact⟨nU I2 g,sT hu I2 g ry fun w' s3 I3 MD=>⟨v,H2,I3,MD,q2⟩⟩
theorem Av(hu:X.A.units+1<cLine)(ho:PE X o td)(hi:PE X i ty)(hv:PE X value tv)(hs:swapsWith value (some (.Subscript o i pos')) pos.line X.env=pure false):
  PS X (.Assign [.Subscript o i pos'] value pos) (Ha td ty tv):=by
 intro pr s σ H D I h;refine wpAny_Assign_Subscript (Kh (hv pr s σ H _ I h) fun r s1 ⟨v,H1,I1,rv,q1⟩=>Kh (ho pr s1 σ H1 _ I1 q1) fun u s2 ⟨x,H2,I2,rx,q2⟩=>Kh (hi pr s2 σ H2 _ I2 q2) fun iv s3 ⟨y,H3,I3,ry,a,H4,ex,g,q3⟩=>?_) hs;subst ex;obtain rfl:u=Value.ref a:=rx;exact sU hu I3 g ry rv fun s4 I4=>⟨σ,H4,I4,q3⟩
end
theorem dk_empty(h:Heap)(hb:sysModules<h.objs.size):ObjOk P w H (h.push {cls:=.type "dict",data:=.dict #[]}) h.objs.size (.dK []):=
 ⟨VJ _,V7.mpr (Wx (Vn hb)),[],.nil,Heap.DictOf.new h⟩
section
variable{pos:Pos}
end
noncomputable def tPairs:List (TE×TE)->St->Hp->(List (V×V)->Hp->Prop)->Prop
 |[],_,H,Q=>Q [] H
 |(tk,tv)::r,σ,H,Q=>tk σ H fun x H1=>tv σ H1 fun y H2=>tPairs r σ H2 fun ps H3=>Q ((x,y)::ps) H3
abbrev VV:List (V×V)->List (Value×Value)->Prop:=Paired fun p q=>RelV p.1 q.1/\RelV p.2 q.2
def RV(X:Cx)(pos:Pos)(keys:List (Option Expr))(values:List Expr)(Nw:List (TE×TE)):Prop:=
 ∀(pr:List (Addr×Obj)) (s:Shared) (σ:St) (H:Hp) (Q:List (V×V)->Hp->Prop),Inv X pr σ H s->tPairs Nw σ H Q->
  wpAny (model X.prog X.w) X.A (evalPairs (pairTrees keys values X.env pos)) (fun vs s'=>∃ps H',Inv X pr σ H' s'/\VV ps vs/\Q ps H') X.xe s
theorem Aw{pos:Pos}:RV X pos [] [] []:=fun pr s σ H Q I h=>pairTrees_nil_walk ⟨[],H,I,.nil,h⟩
variable{Nw:List (TE×TE)}
theorem wG{pos:Pos}{k v:Expr}{ks:List (Option Expr)}{vs:List Expr}{tk tv:TE}(hk:PE X k tk)(hv:PE X v tv)(hr:RV X pos ks vs Nw):
  RV X pos (some k::ks) (v::vs) ((tk,tv)::Nw):=fun pr s σ H Q I h=>
 pairTrees_cons_walk (Kh (hk pr s σ H _ I h) fun u s1 ⟨x,H1,I1,rx,q1⟩=>Kh (hv pr s1 σ H1 _ I1 q1) fun w2 s2 ⟨y,H2,I2,ry,q2⟩=>
  Kh (hr pr s2 σ H2 _ I2 q2) fun ws s3 ⟨ps,H3,I3,rel,q3⟩=>⟨(x,y)::ps,H3,I3,.cons ⟨rx,ry⟩ rel,q3⟩)
def l6(kvs more:List (Key×V)):List (Key×V):=more.foldl (fun acc kv=>iF acc kv.1 kv.2) kvs
theorem KV.merge:∀{more:List (Key×V)}{rs:List (Key×Value)}{kvs:List (Key×V)}{vs:List (Key×Value)},KV more rs->KV kvs vs->KV (l6 kvs more) (merged vs rs):=by
 intro more rs kvs vs r;unfold KV at r;induction r generalizing kvs vs with
 |nil=>intro q;exact q
 | @cons p q ps qs h t ih=>
  intro r0;have e:KV (iF kvs p.1 p.2) (stored vs q.1 q.2):=by
   have:=r0.put p.1 h.2;rw[<-h.1];exact this
  exact ih e
theorem fZ:∀(more kvs:List (Key×V)),(l6 kvs more).length<=kvs.length+more.length
 |[],kvs=>by show kvs.length<=kvs.length+0;lia
 |p::r,kvs=>by
  have h1:=fZ r (iF kvs p.1 p.2);have h2:=fG kvs p.1 p.2;show(l6 (iF kvs p.1 p.2) r).length<=_;rw[Va];lia
theorem jP{P:Program}{w:World}:∀{kvs:List (Key×V)}{ws:List (Value×Value)},VV (kvs.map fun kv=>(kV kv.1,kv.2)) ws->∃rs,Carries (mixKind P w) ws rs/\KV kvs rs
 |[],_,r=>by rw[VT]at r;cases r;exact⟨[],True.intro,.nil⟩
 |p::kvs,_,r=>by
  rw[Vj]at r;cases r with
  | @cons a b as bs h t=>
   obtain⟨rs,c,q⟩:=jP (P:=P) (w:=w) t;obtain⟨b1,b2⟩:=b;exact⟨(p.1,b2)::rs,⟨kV_is h.1,rfl,c⟩,.cons ⟨rfl,h.2⟩ q⟩
def Hb(Nw:List (TE×TE)):TE:=fun σ H Q=>∀p,H p=none->tPairs Nw σ (upd H p (.dK [])) fun ps H2=>H2 p=some (.dK [])/\∃kvs:List (Key×V),ps=kvs.map (fun kv=>(kV kv.1,kv.2))/\kvs.length<=15/\Q (.ref p) (upd H2 p (.dK (l6 [] kvs)))
theorem Ax{pos:Pos}{keys:List (Option Expr)}{values:List Expr}(h:RV X pos keys values Nw)(OT:keys.all (·.isSome)=true)(hl:keys.length=values.length)(h0:keys≠[])
  (h15:keys.length<=15):PE X (.Dict keys values pos) (Hb Nw):=by
 intro pr s σ H Q I q;have hn:=I.hok.fresh (U3 s.heap.objs.size);have I1:=I.laid (a:=s.heap.objs.size) (o:=.dK []) (h':=s.heap.push {cls:=.type "dict",data:=.dict #[]}) (t':=s.toks) (fun _ _ q=>UZ _ q) (U3 _) (dk_empty s.heap I.big);refine wpAny_Dict_walk (knd:=mixKind X.prog X.w) OT hl h0 h15 (Kh (h pr _ σ _ _ I1 (q _ hn)) fun ws s2 Kk=>?_);obtain⟨ps,H2,I2,rel,e,kvs,ep,lk,q2⟩:=Kk;subst ep;obtain⟨rs,c,rk⟩:=jP (P:=X.prog) (w:=X.w) rel;obtain⟨z,hd,vs0,r0,dd⟩:=DF I2.hok e;cases r0;refine⟨rs,c,dd,fun h' Nv hs=>⟨.ref s.heap.objs.size,_,?_,rfl,q2⟩⟩;have hz:(l6 [] kvs).length<=sizeLine:=by
  have h1:=fZ kvs [];rw[We]at h1;rw[Wn];lia
 have he:∃q,h'.get? s.heap.objs.size=some q:=let⟨q,_,_,hq,_⟩:=Nv;⟨q,hq⟩
 exact nS I2 (by rw[e];exact True.intro) hs he (yy hz hd (rk.merge .nil) Nv)
section
variable{d:V}{r:Value}
end
section
variable{o e f:Expr}{apos J3:Pos}{td ty tx:TE}
end
section
variable{kvs:List (Key×V)}
end
section
end
section
variable[DecidableEq κ]
end
end L2
namespace NX
open PySem PySem.Spec PyProof.Rows L2
def RawD(h:Heap)(d:Addr)(es:Array DictEntry)(ep:Nat):Prop:=∃o,h.get? d=some o/\o.ExactDict/\o.data=.dict es ep
theorem RawD.at{h h':Heap}{d:Addr}{es:Array DictEntry}{ep:Nat}(x:RawD h d es ep)(e:∀o,h.get? d=some o->h'.get? d=some o):RawD h' d es ep:=by
 obtain⟨o,g,r⟩:=x;exact⟨o,e o g,r⟩
section
variable{prog:Program}{w:World}{A:Around}{E:Value->Shared->Prop}{s:Shared}{d it:Addr}{es:Array DictEntry}{ep i:Nat}
theorem wH(x:RawD s.heap d es ep):s.TypeIs (.ref d) "dict":=by
 obtain⟨o,g,ex,_⟩:=x;exact⟨o,g,ex.1⟩
end
end NX
namespace NX
open PySem PySem.W PySem.Spec PyProof.Rows L2
section
variable{prog:Program}{w:World}{A:Around}{E:Value->Shared->Prop}{s:Shared}
end
section
variable{X:Cx}{pr:List (Addr×Obj)}{σ:L2.St}{H:Hp}{s:Shared}
end
end NX
namespace NX
open PySem PySem.Spec PyProof.Rows L2
section
open PySem.SeqAt
open PySem.AutoSeq1 (wpAny_loadPart')
open PySem.MeetsSeq PySem.MeetsSeq2 PySem.MeetsSeq3
end
variable{X:Cx}
section
end
variable{prog:Program}{w:World}{A:Around}{E:Value->Shared->Prop}{s:Shared}
section
end
variable{pr:List (Addr×Obj)}{σ:L2.St}{H:Hp}{scope:Scope}{N:List Str}{ix:List (Option Nat)}
section
variable{fp:List Addr}
end
variable{tc:TT}
section
variable{tg iter elt:Expr}{ifs:List Expr}{pos:Pos}{wi:TI}{g:TG}{te:TE}
end
variable{P:Program}{h:Heap}{a:Addr}
theorem ook_get{o:HO}(x:ObjOk P w H h a o):∃u,h.get? a=some u:=by
 cases o with
 |lst xs=>obtain⟨_,_,_,_,e⟩:=x;exact⟨_,e⟩
 |tup xs=>obtain⟨_,_,_,_,e,_⟩:=x;exact⟨_,e⟩
 |dK kvs=>obtain⟨_,_,_,_,_,_,_,e,_⟩:=x;exact⟨_,e⟩
 |dT kvs=>obtain⟨_,_,_,_,_,_,_,e,_⟩:=x;exact⟨_,e⟩
 |set S n=>obtain⟨_,_,_,_,e,_⟩:=x;exact⟨_,e⟩
 |ins C dx fs=>obtain⟨_,_,_,e,_⟩:=x;exact⟨_,e⟩
 |own y=>exact x
 |xd fs=>obtain⟨_,⟨_,_,_,e,_⟩,_⟩:=x;exact⟨_,e⟩
 |rng lo hi=>obtain⟨_,_,_,e⟩:=x;exact⟨_,e⟩
 |frz ob u=>obtain⟨e,_⟩:=x;exact⟨_,e⟩
 |tbl ps=>exact⟨_,x⟩
 |met f y=>exact⟨_,x⟩
 |ext φ=>obtain⟨_,e,_⟩:=x;exact e
def XCl(mg:Str->Option Value)(base:Heap)(x:Str)(C:Addr):Prop:=∃B newId initId bm,ExcBaseFacts B newId initId bm/\OwnCls x C bm newId mg base
variable{K:W.Frag}{mg:Str->Option Value}{x:Str}{C:Addr}
theorem sV{mB:List Value}{nw:String}(X:K.In h)(G:h.Ns mainGlobals mg)(e:PySem.W.nsIn K mainGlobals x=some (some (.ref C)))(q:PySem.W.excIn K C mB nw=true):OwnCls x C mB nw mg h:=by
 refine⟨Xl X G e,?_⟩;unfold PySem.W.excIn at q;split at q
 ·rename_i zd cd sl ho;split at q
  ·rename_i C' mro z0 z1 z2 z3 z4 z5 hm hs;rw[U4,U4,U4,U4,U4]at q;obtain⟨⟨⟨⟨⟨q1,q2⟩,q3⟩,q4⟩,q5⟩,q6⟩:=q;have d1:=Vz.mp q1;have d2:=Vz.mp q2;have d6:=Vz.mp q6;have d3:cd.hasDel=false:=by revert q3;cases cd.hasDel <;> decide
   clear q1 q2 q3 q6;subst d1;subst d2;cases cd;dsimp only at hm d3 q5 d6;subst hm;subst d3;have ez:sl = #[z0,z1,z2,z3,some (.builtin z4),z5]:=by
    cases sl;dsimp only at hs;rw[hs]
   subst ez;exact⟨_,_,_,_,_,_,_,_,_,_,_,_,_,_,_,_,_,X _ _ ho,.of_isNs (PySem.W.isNs_of_in X q5),PySem.W.nsMap_none_of_in X q5 d6,PySem.W.tail_of_in X q4⟩
  ·cases q
 ·cases q
def OB(P:Program)(w:World)(base:Heap)(C:Addr):MB:=fun outer H s E e s'=>
 ∃(a t:Addr) (B:Heap) (H':Hp),e=.ref a/\s'.os=s.os/\AllBare s'.gens/\Un (Kv outer) [] H H' s.heap s'.heap/\HOk P w H' s'.heap/\Heap.FlyingW B outer a (.ref C) (.ref t) s'.heap/\
  (∀b u,s'.heap.get? b=some u->(H' b≠none\/∃o,s.heap.get? b=some o)->b∉Kv outer->B.get? b=some u)/\E (.ref C) none H'
def Acc(X:Cx)(C:Addr)(Ww:Hp->Prop):Prop:=∀(pr:List (Addr×Obj)) (σ:L2.St) (H:Hp) (s:Shared) (h':Heap) (a:Addr) (args:List Value),Inv X pr σ H s->Ww H->Heap.MadeExcOf s.heap h' a (.ref C) args->X.xe (.ref a) {s with heap:=h'}
variable{base:Heap}{qual:Str}
theorem yz{f:Addr}{cd:Value}{outer:List Env}{E:XK}:
  Acc (lK (OB P w base C) P w K mg base N qual scope f cd A outer s H E) C (fun H'=>E (.ref C) none H'):=by
 intro pr σ H1 s1 h' a args I hW hm;have SM:∀b,b∈Kv (envOfC qual scope s.heap.objs.size f cd::outer)->b∈s.heap.objs.size::Kv outer:=I.stkSub;have nl:∀b o,s.heap.get? b=some o->b∉Kv outer->b∉Kv (envOfC qual scope s.heap.objs.size f cd::outer):=fun b o e n z=>by
  rcases U5.mp (SM b z) with r|r
  ·exact absurd (U8 e) (by rw[r];exact Wv _)
  ·exact n r
 have nt:∀b,H1 b≠none->b∉Kv (envOfC qual scope s.heap.objs.size f cd::outer):=fun b n z=>n (I.stkFree b z)
 refine wpAny_leaves_madeW (base:=PySem.W.hideAll s1.heap (Kv (envOfC qual scope s.heap.objs.size f cd::outer))) (L:=s.heap.objs.size) I.ok.frames rfl (fun b o q=>Yb _ q) (PySem.W.funFrames_hide I.stack fun env he b hb=>W7.mpr ⟨env,he,hb⟩) hm fun h2 t L5 _ _ sm=>?_
 have k:∀b u,s1.heap.get? b=some u->b∉Kv (envOfC qual scope s.heap.objs.size f cd::outer)->h2.get? b=some u:=fun b u q n=>L5.1 b u (W2 _ q n)
 have sl:∀b u,s1.heap.get? b=some u->b∈Kv outer->∃z,h2.get? b=some {u with slots:=z}:=fun b u q n=>by
  obtain⟨_,o,ho,hd⟩:=I.funs.mem n;rw[q]at ho;cases ho;exact sm b u (hm.keeps b u q) hd
 have there:∀b o,s.heap.get? b=some o->∃o',s1.heap.get? b=some o':=fun b o q=>I.base.there b o q (fun z=>nomatch z)
 refine⟨a,t,_,H1,rfl,I.os,I.bare,⟨fun b o q n hb hx=>k b o (I.base.keep b o q n hb hx) (nl b o q hb),fun b o q n hb hx=>?_,I.base.free,fun b o q hx=>?_,I.base.tups,I.base.frzs,I.base.tbls⟩,fun b o e=>?_,L5,fun b u q hb n=>?_,hW⟩
 ·obtain⟨z,e⟩:=I.base.slot b o q n hb hx;obtain⟨z',e'⟩:=sl b _ e hb;exact⟨z',e'⟩
 ·obtain⟨o',e⟩:=there b o q;by_cases hb:b∈Kv outer
  ·obtain⟨z,e'⟩:=sl b o' e hb;exact⟨_,e'⟩
  ·exact⟨o',k b o' e (nl b o q hb)⟩
 ·refine(I.hok b o e).stay (fun c u hc q=>k c u q (nt c ?_)) (fun _ q=>q) fun _ _ q=>q
  rcases hc with rfl|hc
  ·rw[e];exact fun z=>nomatch z
  ·rw[hc];exact fun z=>nomatch z
 ·have h1:∃u0,s1.heap.get? b=some u0/\b∉Kv (envOfC qual scope s.heap.objs.size f cd::outer):=by
   rcases hb with hb|⟨o,ho⟩
   ·cases hq:H1 b with
    |none=>exact absurd hq hb
    |some ho=>
     obtain⟨u0,e0⟩:=ook_get (I.hok b ho hq);exact⟨u0,e0,nt b hb⟩
   ·obtain⟨o',e⟩:=there b o ho;exact⟨o',e,nl b o ho n⟩
  obtain⟨u0,e0,n0⟩:=h1;have:=k b u0 e0 n0;rw[show h2.get? b=some u from q]at this;cases this;exact W2 _ e0 n0
def PX(X:Cx)(st:List Stmt)(t:L2.St->Hp->Prop):Prop:=
 ∀(pr:List (Addr×Obj)) (s:Shared) (σ:L2.St) (H:Hp),Inv X pr σ H s->t σ H->wpAny (model X.prog X.w) X.A (execs st X.env) (fun _ _=>False) X.xe s
variable{st:Stmt}{es:List Expr}
section
variable{rest:List Stmt}{t:TS}{u u':L2.St->Hp->Prop}{e:Expr}{Ww:Hp->Prop}{np J3 pos:Pos}
theorem wI{ta:TA}(O:XCl X.mg X.base x C)(acc:Acc X C Ww)(hc:X.calm=true)(hg:Gl X x)(ha:PA X (e::es) ta)(KN:(x==("__debug__" : Str))=false:=by decide)
  (he:starEach (e::es) X.env=(false,eval e X.env)::starEach es X.env:=by rfl) (KA:(backTo J3 (starEach es X.env)).any (·.1)=false:=by rfl):
  PX X (.Raise (some (.Call (.Name x np) (e::es) [] J3)) none pos::rest) (fun σ H=>ta σ H fun vs H1=>vs.length<=sizeLine/\Ww H1):=by
 intro pr s σ H I h;obtain⟨B,nw,ini,bm,FB,O⟩:=O;obtain⟨tl,N,nm,q,bs,hdct,sn,sub,ab,col,dd,k0,k1,k2,k3,k5,mN,hC,hN,T2,T⟩:=O.obj;refine Wh (wpAny_Raise_call_subT (C:=C) (nm:=nm) (q:=q) (N:=N) (bs:=bs) (bm:=tl) (hdct:=hdct) (sn:=sn) (sub:=sub) (ab:=ab) (col:=col) (dd:=dd) (k0:=k0) (k1:=k1) (k2:=k2) (k3:=k3) (k5:=k5) FB (mN:=mN) (T.hasType FB.hasBase) (I.ok.hd hc) (by rw[he];show(false||(backTo J3 (starEach es X.env)).any (·.1))=false;rw[KA];rfl) T2 (iV I hg O.bound ⟨rfl,?_⟩ KN));have z:=ha J3 pr s σ H _ I h;rw[he]at z ⊢;exact Xp (VN z (fun us s2 ⟨vs,H1,I1,r,hl,hw⟩=>⟨rfl,by rw[<-r.length];exact hl,I1.bk _ _ hC,hN.keeps I1.bk,T.keeps I1.bk,fun h' a hm=>acc pr σ H1 s2 h' a us I1 hw hm⟩) fun _ _ y=>y)
theorem Hc{c:Expr}{a b:List Stmt}(hc:PT X c tc)(ha:PX X a u):PX X (.If c a b pos::rest) (fun σ H=>tc σ H fun bb H1=>bb=true/\u σ H1):=by
 intro pr s σ H I h;refine Wh (wpAny_If (Kh (hc pr s σ H _ I h) fun d s1 Kk=>?_));obtain⟨H1,I1,e,q⟩:=Kk;subst e;exact VN (ha pr s1 σ H1 I1 q) (fun _ _ z=>z.elim) fun _ _ z=>z
theorem pd(h:PX X rest u)(k:∀σ H,u' σ H->u σ H):PX X rest u':=fun pr s σ H I z=>h pr s σ H I (k σ H z)
theorem DG(h:PX X rest u):PSs X rest (fun _ σ H=>u σ H):=fun pr s σ H _ I z=>VN (h pr s σ H I z) (fun _ _ z=>z.elim) fun _ _ z=>z
theorem DH{t:TA}(h:PA X.nox es t):PA X es t:=fun p pr s σ H Q I hw=>VN (h p pr s σ H Q (I.wish _) hw) (fun _ _ ⟨v,H',I',r,q⟩=>⟨v,H',I'.unwish,r,q⟩) fun _ _ z=>False.elim z
end
def CtX(P:Program)(w:World)(K:W.Frag)(mg:Str->Option Value)(base:Heap)(x:Str)(k:Nat)(C:Addr)(sp:Sp):Prop:=
 ∃f fd ps,FnOk P w K mg base (OB P w base C) k f fd ps sp/\mg x=some (.ref f)/\PySem.W.keepIn K (.ref f)=true/\Binds K fd ps []
variable{sp:Sp}
theorem Ay{f:Addr}{fd:FuncData}{ps:List Str}{k:Nat}(F:Fun K x qual st f fd)(S:FnScope N ps (defScope st))(len:∀vs H Q E,sp vs H Q E->vs.length=ps.length)
  (LZ:∀(Kc:Value) (A:Around) (outer:List Env) (s:Shared) (H:Hp) (vs:List V) (Q:VK) (E:XK),Room k (A.deeper (envOfC qual (defScope st) s.heap.objs.size f Kc))->sp vs H Q E->
   ∃t,PX (lK (OB P w base C) P w K mg base N qual (defScope st) f Kc A outer s H E) (aU st) t/\t (fE N vs) H):FnOk P w K mg base (OB P w base C) (k+1) f fd ps sp:=by
 obtain⟨oc,od,kV,doc,pm,an,Kc,ct,MT,rfl,lk,LY⟩:=F.ex;refine Dk lk LY S len fun A outer s H vs Q E hr Nf=>?_
 obtain⟨t,h,q⟩:=LZ Kc A outer s H vs Q E hr Nf;exact⟨_,DG h,q⟩
def XP(X:Cx)(pr:List (Addr×Obj))(σ:L2.St)(C:Addr)(Ww:Hp->Prop)(e:Value)(s':Shared):Prop:=∃(s1:Shared) (H1:Hp),Inv X pr σ H1 s1/\OB X.prog X.w X.base C X.stack H1 s1 (fun _ _ H'=>Ww H') e s'
abbrev TX:=L2.St->Hp->(Hp->Prop)->Prop
def Nx(X:Cx)(e:Expr)(C:Addr)(t:TX):Prop:=∀(pr:List (Addr×Obj)) (s:Shared) (σ:L2.St) (H:Hp) (Ww:Hp->Prop),Inv X pr σ H s->t σ H Ww->wpAny (model X.prog X.w) X.A (eval e X.env) (fun _ _=>False) (XP X pr σ C Ww) s
def PSX(X:Cx)(st:List Stmt)(C:Addr)(t:TX):Prop:=∀(pr:List (Addr×Obj)) (s:Shared) (σ:L2.St) (H:Hp) (Ww:Hp->Prop),Inv X pr σ H s->t σ H Ww->wpAny (model X.prog X.w) X.A (execs st X.env) (fun _ _=>False) (XP X pr σ C Ww) s
section
variable{rest:List Stmt}{tx:TX}{e a b:Expr}{k:Nat}{p pos:Pos}
theorem pe{t:TA}(c:CtX X.prog X.w X.K X.mg X.base x k C sp)(hr:Room k X.A)(hg:Gl X x)(ha:PA X.nox (e::es) t)(KN:(x==("__debug__" : Str))=false:=by decide)
  (he:starEach (e::es) X.env=(false,eval e X.env)::starEach es X.env:=by rfl) (KA:(backTo pos (starEach es X.env)).any (·.1)=false:=by rfl):
  Nx X (.Call (.Name x p) (e::es) [] pos) C (fun σ H Ww=>t σ H fun vs H1=>sp vs H1 (fun _ _=>False) fun _ _ H'=>Ww H'):=by
 intro pr s σ H Ww I h;obtain⟨f,fd,ps,F,m,kp,b⟩:=c;refine Wd (iV I hg m ?_ KN);refine Zz (h₀:=X.base) I.ok.mod.kin kp (VN (ha pos pr s σ H _ (I.wish _) h) (fun us s1 ⟨vs,H1,I1,r,q⟩=>⟨I1.kIn,?_⟩) fun _ _ z=>z.elim) he KA;have I1:=I1.unwish;have hl:us.length=ps.length:=by rw[<-r.length];exact F.len _ _ _ _ q
 have hb:BindsTo s1 fd ⟨us,[]⟩ (ps.zip us):=by
  have:=b s1 us I1.kIn (by rw[Vm];exact hl);rw[Vm]at this;exact this
 refine wpAny_call (YY (F.run X.A X.stack s1 H1 ⟨us,[]⟩ us vs _ _ hr I1.env0 hb r q) fun r s' hq=>?_);cases r with
 |error e=>exact⟨s1,H1,I1,hq⟩
 |ok fl=>
  cases fl with
  |ret u=>obtain⟨_,_,_,_,_,_,_,z⟩:=hq;exact z.elim
  |next=>exact False.elim hq
  |brk=>exact False.elim hq
  |cont=>exact False.elim hq
theorem DI(h:Nx X a C tx):Nx X (.Subscript a b pos) C tx:=fun pr s σ H Ww I z=>Subscript_ (VN (h pr s σ H Ww I z) (fun _ _ z=>z.elim) fun _ _ z=>z)
theorem wJ(h:Nx X e C tx)(hs:swapsWith e none pos.line X.env=pure false:=by rfl):PSX X (.Expr e pos::rest) C tx:=fun pr s σ H Ww I z=>
 Wh (wpAny_Expr_any (VN (h pr s σ H Ww I z) (fun _ _ z=>z.elim) fun _ _ z=>z) I.quiet hs)
end
abbrev handX(X:Cx)(a:Addr):Cx:={X with A:=X.A.mark (some (.ref a)),calm:=false,xe:=fun _ _=>False}
theorem wK(I:Inv X pr σ H s)(a:Addr):Inv (handX X a) pr σ H s:=
 ⟨⟨I.ok.mod,I.ok.kind,I.ok.glob,I.ok.blt,I.ok.above,I.ok.inj,I.ok.has,I.ok.cab,(fun z=>nomatch z),I.ok.frames,I.ok.stk,I.ok.exf,I.ok.bs,I.ok.bsz,I.ok.noex,I.ok.exfs,I.ok.funs,I.ok.frf⟩,I.os,I.bare,I.base,I.loc,I.cell,I.free,I.freeC,I.pin,I.hok,I.len⟩
open PySem.Builtin.ObjectAttr PySem.Builtin.Getset_descriptor
def ExAt(x D:Addr)(h:Heap):Prop:=∃o vs,h.get? x=some o/\o.cls=.ref D/\o.data=.fields vs
structure Asks(K:W.Frag)(D:Addr):Prop where
 ga:PySem.W.findIn K (.ref D) "__getattribute__" = some (some (.builtin "BaseException.__getattribute__"))
 gn:PySem.W.findIn K (.ref D) "__getattr__" = some none
 hc:PySem.W.hasDictIn K D=true
 fi:PySem.W.findIn K (.ref D) "__class__" = some (some (.builtin "object.__class__"))
 sp:PySem.W.specialIn K (.builtin "object.__class__") "__get__" = some (some (.builtin "getset_descriptor.__get__"))
 tk:PySem.W.takesIn K (.builtin "object.__class__")=some true
 mo:PySem.W.mroIn K D (.type "object")=some true
 mb:PySem.W.mroIn K D (.type "BaseException")=some true
theorem Asks.cls{D:Addr}(k:Asks K D):∃cd,PySem.W.clsIn K D=some cd:=by
 obtain⟨cd,e,_⟩:=PySem.W.any_some k.hc;exact⟨cd,e⟩
variable{M:Model}{tk:Tok}
section
variable{x D:Addr}
theorem ExAt.ty(I:ExAt x D h):PySem.W.Looks M h (typeOf (.ref x)) (.ref D):=by
 obtain⟨o,vs,e,c,_⟩:=I;exact c▸(PySem.W.Looks.ld e).andThen .now
theorem wL(k:Asks K D)(X:K.In h):PySem.W.Looks M h (find (.ref x) (.ref D) "__class__") (.bind (.builtin "getset_descriptor.__get__") (.builtin "object.__class__")):=by
 have T:=PySem.W.looks_takesIn (M:=M) X k.tk;have T':PySem.W.Looks M h (dataDescriptor? (some (.builtin "object.__class__")) (some (.builtin "getset_descriptor.__get__"))) (some (.builtin "getset_descriptor.__get__",.builtin "object.__class__")):=T.andThen .now;exact(XU X k.fi).andThen ((show PySem.W.Looks M h (getOf (some (.builtin "object.__class__"))) (some (.builtin "getset_descriptor.__get__")) from PySem.W.looks_specialIn X k.sp).andThen (T'.andThen (PySem.W.Looks.tag .now)))
theorem Az{R:Result->Shared->Prop}{tp:Value}(k:Asks K D)(X:K.In s.heap)(I:ExAt x D s.heap)(h:R (.ok (.ret (.ref D))) s):
  codeAny (model prog w) A (.call (.builtin "getset_descriptor.__get__") ⟨[.builtin "object.__class__",.ref x,tp],[]⟩) R s:=by
 obtain⟨hp,gs,dr,tt,oo⟩:=s;have Ty:=I.ty (M:=model prog w);have Mo:=X7 (M:=model prog w) X k.mo;refine XS PySem.W.KF.slot_gs.plain PySem.W.KF.entry_gs (PySem.W.KF.slot_gs.check _ _ _ _ _ _ _ _ PySem.W.KF.type_class (PySem.W.KF.args_gs _ _ _) ?_);unfold Builtin.«getset_descriptor.__get__» descrGet;rw[PySem.W.dga_obj];refine UQ (U7 ?_);unfold descrGetter descrCheckInstance descrNameAndClass isInstance;simp only[PySem.W.KF.owner_class];repeat lk
 refine⟨Code.quiet_builtin _ (by decide +kernel),X2 PySem.W.KF.entry_class ?_⟩;unfold Builtin.«object.__class__» shownTypeOf;repeat lk
 exact h
theorem sW{Q:PySem.Fin->Shared->Prop}(k:Asks K D)(X:K.In s.heap)(I:ExAt x D s.heap)(h:Q (.done (.ret (.ref D))) s):
  wpAny (model prog w) A (Builtin.«object.__getattribute__» ⟨[.ref x,.str "__class__" tk],[]⟩) Q E s:=by
 obtain⟨hp,gs,dr,tt,oo⟩:=s;have Ty:=I.ty (M:=model prog w);have Fd:=wL (M:=model prog w) (x:=x) k X;unfold Builtin.«object.__getattribute__»;repeat (any_goals (first|assumption|with_reducible refine Ty.at ?_|with_reducible refine Fd.at ?_|wp_step))
 refine Az k X I ?_;repeat (any_goals (first|assumption|wp_step))
theorem sX{nv:Value}{Q:Unit->Shared->Prop}(k:Asks K D)(X:K.In s.heap)(I:ExAt x D s.heap)(h:Q () s):wpAny M A (checkBuiltinCall "BaseException.__getattribute__" ⟨[.ref x,nv],[]⟩) Q E s:=by
 obtain⟨hp,gs,dr,tt,oo⟩:=s;have z1:builtinKind "BaseException.__getattribute__" = some .slot:=by decide +kernel
 have z2:splitId "BaseException.__getattribute__" = some ("BaseException","__getattribute__"):=by decide +kernel
 have z3:=F.args_bexc_ga (.ref x) nv;have Ty:=I.ty (M:=M);have Mb:=X7 (M:=M) X k.mb;simp only[checkBuiltinCall,z1,z2];refine UQ ?_;unfold isInstance;repeat (any_goals (first|assumption|with_reducible refine Ty.at ?_|with_reducible refine Mb.at ?_|wp_step))
theorem DJ{fill ex:Bool}{Q:Value->Shared->Prop}(k:Asks K D)(X:K.In s.heap)(I:ExAt x D s.heap)(h:Q (.ref D) s):wpAny (model prog w) A (getAttrBy (.ref x) (.str "__class__" tk) fill ex) Q E s:=by
 obtain⟨hp,gs,dr,tt,oo⟩:=s;have Ty:=I.ty (M:=model prog w);have G1:=XU (M:=model prog w) X k.ga;have G2:=XU (M:=model prog w) X k.gn;have z0:(ex&&onTheHeap (Value.builtin "BaseException.__getattribute__"))=false:=by cases ex <;> rfl
 have z2:(Value.builtin "BaseException.__getattribute__" == Value.builtin "object.__getattribute__")=false:=by decide +kernel
 have z1:(onTheHeap (Value.ref D)&&Value.builtin "BaseException.__getattribute__" == Value.builtin "object.__getattribute__")=false:=by rw[z2];rfl
 have z3:=F.attr_ValueError.ga.bind (.ref x);repeat (any_goals (first|assumption|with_reducible refine Ty.at ?_|with_reducible refine G1.at ?_|with_reducible refine G2.at ?_|wp_step))
 refine XS F.attr_ValueError.ga.plain F.entry_bexc_ga (sX k X I (sW k X I ?_));repeat (any_goals (first|assumption|wp_step))
theorem sY(k:Asks K D)(X:K.In s.heap)(I:ExAt x D s.heap){Q:Option Value->Shared->Prop}(h:Q (some (.ref D)) {s with toks:=s.toks+1}):wpAny (model prog w) A (getAttr? (.ref x) "__class__") Q E s:=by
 unfold getAttr? getAttrBy?;refine UQ (wpAny_mkText (UQ (ZF (DJ (s:={s with toks:=s.toks+1}) k X I (U7 h)))))
theorem nV(k:Asks K D):PySem.W.KitX K (.ref x) (.ref D) (ExAt x D) where
 ty:=fun _ _ _ I=>I.ty
 it:=fun M h X _=>by
  obtain⟨cd,e⟩:=k.cls;unfold PySem.W.clsIn at e;split at e
  ·rename_i ho;intro A' Q' E' s' kk q;unfold isType loadHead;exact UQ (wpAny_loadPart (kk _ _ (X _ _ ho)) (U7 q))
  ·cases e
 ne:=fun h tp dd JT n sl X htp=>by
  obtain⟨cd,e⟩:=k.cls;refine Bool.eq_false_iff.mpr fun q=>?_
  cases Value.ref.inj (Vz.mp q);unfold PySem.W.clsIn at e;split at e
  ·rename_i ho;cases(X _ _ ho).symm.trans htp
  ·cases e
 ca:=fun X I h=>sY k X I h
end
abbrev asX(X:Cx)(a:Addr)(o:Obj):Cx:={X with A:=X.A.mark (some (.ref a)),calm:=false,xe:=fun _ _=>False,pn:=(a,o)::X.pn}
section
variable{o:Obj}
theorem DK(I:Inv X pr σ H s)(h1:s.heap.get? a=some o)(h2:H a=none)(h3:a≠X.env.locals)(h4:a∉X.fs)(h5:∀v,o.data≠.cell v):Inv (asX X a o) pr σ H s:=
 ⟨⟨I.ok.mod,I.ok.kind,I.ok.glob,I.ok.blt,I.ok.above,I.ok.inj,I.ok.has,I.ok.cab,(fun z=>nomatch z),I.ok.frames,I.ok.stk,I.ok.exf,I.ok.bs,I.ok.bsz,I.ok.noex,I.ok.exfs,I.ok.funs,I.ok.frf⟩,I.os,I.bare,I.base,I.loc,I.cell,I.free,I.freeC,fun p hp=>by
  rcases U5.mp (show p∈(a,o)::(X.pn++pr) from hp) with rfl|hp
  ·exact⟨h1,h2,h3,h4,h5⟩
  ·exact I.pin p hp,I.hok,I.len⟩
theorem wM{i:Nat}{m:Str->Option Value}{v:Option Value}{h':Heap}{t':Nat}(I:Inv X pr σ H s)(hN:X.N.Nodup)(hi:X.N[i]?=some x)(hm:s.heap.Ns X.env.locals m)
  (hn:h'.Ns X.env.locals (fun y=>if y=x then v else m y)) (hs:Heap.SameBut X.env.locals s.heap h'):Inv X pr (σ.set i none) H {s with heap:=h',toks:=t'}:=by
 have SN:∀b o,X.s₀.heap.get? b=some o->b≠X.env.locals:=fun b o e=>Vn (Vb (U8 e) I.ok.above)
 have hl:i<σ.length:=by rw[I.len];exact(U0.mp hi).1
 refine⟨I.ok,I.os,I.bare,⟨fun b o e n hb hx=>?_,fun b o e n hb hx=>?_,I.base.free,fun b o e hx=>?_,I.base.tups,I.base.frzs,I.base.tbls⟩,⟨_,hn,fun j y v' e1 e2 e3=>?_⟩,fun y c e=>?_,I.free,I.freeC,fun p hp=>?_,fun b ob e=>?_,by rw[VS];exact I.len⟩
 ·rw[hs.2 b (SN b o e)];exact I.base.keep b o e n hb hx
 ·rw[hs.2 b (SN b o e)];exact I.base.slot b o e n hb hx
 ·rw[hs.2 b (SN b o e)];exact I.base.there b o e hx
 ·have hj:j≠i:=fun z=>by
   subst z;rw[VU hl]at e2;cases e2
  rw[Xo (Wx hj)]at e2;obtain⟨m',MN,QF⟩:=I.loc;obtain⟨u',r',q⟩:=QF j y v' e1 e2 e3;refine⟨u',r',?_⟩;rcases q with⟨kk,e⟩|⟨kk,c,e,z⟩
  ·refine .inl ⟨kk,?_⟩;have ne:y≠x:=fun e=>hj (j9 hN e1 (e▸hi))
   dsimp only;rw[U6 ne];obtain⟨o1,SO,T3,a1,b1,c1,d1⟩:=hm;obtain⟨o2,Qc,RW,a2,b2,c2,d2⟩:=MN;rw[a1]at a2;cases a2;rw[b1]at b2;cases b2;rw[<-d1 y,d2 y];exact e
  ·exact .inr ⟨kk,c,e,z.sameBut hs (I.cne y c e)⟩
 ·obtain⟨w',z⟩:=I.cell y c e;exact⟨w',z.sameBut hs (I.cne y c e)⟩
 ·obtain⟨e,n,ne,nf,d⟩:=I.pin p hp;exact⟨(hs.2 p.1 ne).trans e,n,ne,nf,d⟩
 ·refine(I.hok b ob e).stay (fun c w' hc q=>(hs.2 c ?_).trans q) (fun _ q=>q) fun _ _ q=>q
  rintro rfl;rcases hc with rfl|hc
  ·rw[I.free]at e;cases e
  ·rw[I.free]at hc;cases hc
end
end NX
namespace NX
open PySem PySem.W PySem.Spec PyProof.Rows L2
section
variable{prog:Program}{w:World}{A:Around}{E:Value->Shared->Prop}{s:Shared}
end
section
variable{X:Cx}
end
end NX
namespace NX
open PySem PySem.Spec PyProof.Rows L2
section
variable{X:Cx}{es:List Expr}{kt:Nat}{pt:Pos}
end
end NX
namespace NX
open PySem
namespace ST
noncomputable def QH(m:Nat)(p:SetTable.Probe):SetTable.Probe:=if p.more>0 then{p with j:=p.j+1,more:=p.more-1} else
 {p with j:=(SetTable.leap m p.i p.perturb).1,more:=SetTable.runEnd m (SetTable.leap m p.i p.perturb).1-(SetTable.leap m p.i p.perturb).1,i:=(SetTable.leap m p.i p.perturb).1,perturb:=(SetTable.leap m p.i p.perturb).2}
def LQ(m:Nat):Nat->SetTable.Probe->SetTable.Probe
 | 0,p=>p
 |k+1,p=>LQ m k (QH m p)
theorem sZ(m:Nat):∀(a b:Nat) (p:SetTable.Probe),LQ m (a+b) p=LQ m b (LQ m a p)
 | 0,b,p=>by rw[XM];rfl
 |a+1,b,p=>by
  rw[show a+1+b=(a+b)+1 by lia,LQ,sZ m a b];rfl
noncomputable def fr(m:Nat)(x:Nat×Nat)(d:Option Nat):SetTable.Probe:={j:=x.1,more:=SetTable.runEnd m x.1-x.1,i:=x.1,perturb:=x.2,dummy:=d}
theorem tf(m:Nat):∀(r:Nat) (q:SetTable.Probe),q.more=r->LQ m (r+1) q=fr m (SetTable.leap m q.i q.perturb) q.dummy
 | 0,q,h=>by
  show QH m q=_;unfold QH;rw[U6 (by lia)];rfl
 |r+1,q,h=>by
  rw[LQ];have e:QH m q={q with j:=q.j+1,more:=q.more-1}:=by
   unfold QH;rw[U2 (by lia)]
  rw[e,tf m r _ (by show q.more-1=r;lia)]
noncomputable def lp(m:Nat):Nat->Nat×Nat->Nat×Nat
 | 0,x=>x
 |l+1,x=>lp m l (SetTable.leap m x.1 x.2)
theorem yA(m:Nat):∀(a b:Nat) (x:Nat×Nat),lp m (a+b) x=lp m b (lp m a x)
 | 0,b,x=>by rw[XM];rfl
 |a+1,b,x=>by
  rw[show a+1+b=(a+b)+1 by lia,lp,yA m a b];rfl
theorem AB(m i:Nat):SetTable.runEnd m i-i<=9:=by
 unfold SetTable.runEnd;split <;> lia
theorem ti(m:Nat):∀(l:Nat) (x:Nat×Nat) (d:Option Nat),∃k,k<=10*l/\LQ m k (fr m x d)=fr m (lp m l x) d
 | 0,x,d=>⟨0,U3 _,rfl⟩
 |l+1,x,d=>by
  obtain⟨k,hk,e⟩:=ti m l (SetTable.leap m x.1 x.2) d;have h1:=tf m (SetTable.runEnd m x.1-x.1) (fr m x d) rfl;have h2:=AB m x.1;refine⟨(SetTable.runEnd m x.1-x.1+1)+k,by lia,?_⟩;rw[sZ,h1];exact e
theorem yB(m:Nat):∀(l:Nat) (x:Nat×Nat),(lp m l x).2=x.2 / 32 ^ l
 | 0,x=>(Nat.div_one _).symm
 |l+1,x=>by
  rw[lp,yB m l];show x.2 / 32 / 32 ^ l=_;rw[Nat.div_div_eq_div_mul,Nat.pow_succ,Z6]
noncomputable def cy(m:Nat):Nat->Nat->Nat
 | 0,i=>i
 |l+1,i=>cy m l ((i*5+1)%(m+1))
theorem ph(m:Nat):∀(a b i:Nat),cy m (a+b) i=cy m b (cy m a i)
 | 0,b,i=>by rw[XM];rfl
 |a+1,b,i=>by
  rw[show a+1+b=(a+b)+1 by lia,cy,ph m a b];rfl
theorem DL(m:Nat):∀(l i:Nat),lp m l (i,0)=(cy m l i,0)
 | 0,i=>rfl
 |l+1,i=>by
  show lp m l ((i*5+1+0 / 32)%(m+1),0 / 32)=_;rw[Nat.zero_div,Nat.add_zero,DL m l];rfl
def O2(m:Nat):Prop:=m=7\/m=31\/m=127
def DM(m:Nat):Bool:=(List.range (m+1)).all fun s=>(List.range (m+1)).any fun a=>cy m a 0==s
theorem tj{m:Nat}(h:O2 m):∀s,s<=m->∃a,a<=m/\cy m a 0=s:=by
 have key:DM m=true:=by
  rcases h with rfl|rfl|rfl <;> decide +kernel
 intro s hs;unfold DM at key;rw[Vg]at key;obtain⟨a,ha,e⟩:=V0.mp (key s (Vv.mpr (by lia)));exact⟨a,by have:=Vv.mp ha;lia,Vz.mp e⟩
theorem AD{m:Nat}(h:O2 m):cy m (m+1) 0=0:=by
 rcases h with rfl|rfl|rfl <;> decide +kernel
theorem DN{m:Nat}(h:O2 m){i s:Nat}(hi:i<=m)(hs:s<=m):∃l,l<=m/\cy m l i=s:=by
 obtain⟨a,ha,rfl⟩:=tj h i hi;obtain⟨b,hb,rfl⟩:=tj h s hs;by_cases OA:a<=b
 ·refine⟨b-a,by lia,?_⟩;rw[<-ph,show a+(b-a)=b by lia]
 ·refine⟨m+1-a+b,by lia,?_⟩;rw[<-ph,show a+(m+1-a+b)=(m+1)+b by lia,ph,AD h]
theorem yC(m:Nat):∀(l:Nat) (x:Nat×Nat),0<l->(lp m l x).1<=m
 | 1,x,_=>by
  show(x.1*5+1+x.2 / 32)%(m+1)<=m;have:=Nat.mod_lt (x.1*5+1+x.2 / 32) (show 0<m+1 by lia);lia
 |l+2,x,_=>yC m (l+1) _ (by lia)
theorem Hd{m:Nat}(h:O2 m){x:Nat×Nat}(hx:x.2<2 ^ 64){s:Nat}(hs:s<=m):∃l,l<=13+m/\(lp m l x).1=s:=by
 have h0:(lp m 13 x).2=0:=by
  rw[yB];exact Nat.div_eq_of_lt (Vb hx (by decide))
 obtain⟨l,hl,e⟩:=DN h (yC m 13 x (by decide)) hs;refine⟨13+l,by lia,?_⟩;rw[yA,show lp m 13 x=((lp m 13 x).1,0) by rw[<-h0],DL];exact e
theorem wN{m:Nat}(h:O2 m){x:Nat×Nat}(hx:x.2<2 ^ 64)(d:Option Nat){s:Nat}(hs:s<=m):∃k,k<10*(m+15)/\(LQ m k (fr m x d)).j=s:=by
 obtain⟨l,hl,e⟩:=Hd h hx hs;obtain⟨k,hk,e2⟩:=ti m l x d;exact⟨k,by lia,by rw[e2];exact e⟩
theorem AE(h:Int):SetTable.bits h<2 ^ 64:=by
 unfold SetTable.bits;have h1:=Int.emod_nonneg h (show((2:Int) ^ 64)≠0 by decide);have h2:=ZJ h (show(0:Int)<2 ^ 64 by decide);have:(2:Int) ^ 64=((2 ^ 64:Nat):Int):=by decide
 lia
theorem pj{P:Nat->Bool}:∀(k:Nat),P k=true->∃n,n<=k/\P n=true/\∀i<n,P i=false
 |k,h=>by
  cases e:(List.range k).find? P with
  |none=>
   refine⟨k,U3 _,h,fun i hi=>?_⟩;have:=WS.mp e i (Vv.mpr hi);simpa using this
  |some a=>
   have ha:=Vv.mp (WW e);have hp:=X8 e;obtain⟨n,hn,h1,h2⟩:=pj a hp;exact⟨n,by lia,h1,h2⟩
termination_by k=>k
theorem tm{m:Nat}{L:List Nat}(hL:L.length<=m):∃s,s<=m/\s∉L:=by
 have:∀(l k:List Nat),l.Nodup->(∀x∈l,x∈k)->l.length<=k.length:=by
  intro l;induction l with
  |nil=>exact fun k _ _=>VJ _
  |cons a l ih=>
   intro k nd h;rw[Vt]at nd;have ha:=h a UR;have:=ih (k.erase a) nd.2 fun x hx=>(Zf (fun e=>nd.1 (by rw[<-e];exact hx))).mpr (h x (US _ hx))
   have h2:=Xx ha;have h3:=W6 ha;rw[Va];lia
 refine Yh fun hn=>?_
 have:=this (List.range (m+1)) L List.nodup_range fun x hx=>Yh fun Ni=>hn ⟨x,by have:=Vv.mp hx;lia,Ni⟩
 rw[Vl]at this;lia
theorem tq{m:Nat}(h:O2 m){L:List Nat}(hL:L.length<=m){x:Nat×Nat}(hx:x.2<2 ^ 64)(d:Option Nat):∃n,n<10*(m+15)/\(LQ m n (fr m x d)).j∉L/\∀i<n,(LQ m i (fr m x d)).j∈L:=by
 obtain⟨s,hs,hn⟩:=tm hL;obtain⟨k,hk,e⟩:=wN h hx d hs;obtain⟨n,h1,h2,h3⟩:=pj (P:=fun k=>!decide ((LQ m k (fr m x d)).j∈L)) k (by rw[e,Vx hn];rfl);refine⟨n,by lia,by simpa using h2,fun i hi=>by simpa using h3 i hi⟩
end ST
end NX
namespace NX
open PySem
namespace ST
def Up(l:List Nat):Prop:=l.Pairwise (·< ·)
def RX(m:Nat)(h:Int):SetTable.Probe:=fr m (SetTable.bits h%(m+1),SetTable.bits h) none
structure Tb(t:SetTable)(es:List (Int×Value))(m:Nat):Prop where
 ms:t.mask=m
 msk:O2 m
 dm:t.dummies = #[]
 sz:t.place.size=es.length
 le:es.length<=m
 up:Up t.place.toList
 bd:∀j∈t.place.toList,j<=m
 rc:∀z∈t.place.toList.zip es,∃k,(LQ m k (RX m z.2.1)).j=z.1/\∀i<k,(LQ m i (RX m z.2.1)).j∈t.place.toList
theorem wO(m:Nat)(h:Int):(SetTable.bits h%(m+1),SetTable.bits h).2<2 ^ 64:=AE h
theorem Tb.free{t:SetTable}{es:List (Int×Value)}{m:Nat}(T:Tb t es m)(h:Int):∃n,n<10*(m+15)/\(LQ m n (RX m h)).j∉t.place.toList/\∀i<n,(LQ m i (RX m h)).j∈t.place.toList:=
 tq T.msk (by rw[V8,T.sz];exact T.le) (wO m h) none
end ST
end NX
namespace NX
open PySem
namespace ST
noncomputable def own(o:Array (Option Nat))(l:List Nat):List (Nat×Nat):=l.filterMap fun j=>(o.getD j none).map (j,·)
end ST
end NX
namespace NX
open PySem
namespace ST
section
variable{prog:Program}{w:World}{K:Type}[DecidableEq K]{knd:KeyKind prog w K}{A:Around}{E:Value->Shared->Prop}{s:Shared}
end
end ST
end NX
namespace NX
open PySem
namespace ST
section
variable{prog:Program}{w:World}{K:Type}[DecidableEq K]{knd:KeyKind prog w K}{A:Around}{E:Value->Shared->Prop}{s:Shared}
end
end ST
end NX
namespace NX
open PySem
namespace ST
section
variable{prog:Program}{w:World}{K:Type}[DecidableEq K]{knd:KeyKind prog w K}{A:Around}{E:Value->Shared->Prop}{s:Shared}
end
end ST
end NX
namespace NX
open PySem
namespace ST
section
variable{prog:Program}{w:World}{K:Type}[DecidableEq K]{knd:KeyKind prog w K}{A:Around}
noncomputable def met(kf:Nat->List K):Nat->List (List K)
 | 0=>[]
 |i+1=>if kf i∈met kf i then met kf i else kf i::met kf i
variable{R:Result->Shared->Prop}{I:Addr}{fp wr:List Addr}{G:Array GenState->Array GenState->Prop}{n:Nat}{P:Nat->Value->Prop}{St:Nat->Shared->Prop}
end
end ST
end NX
namespace NX
open PySem
namespace ST
section
variable{prog:Program}{w:World}{K:Type}[DecidableEq K]{knd:KeyKind prog w K}{A:Around}{E:Value->Shared->Prop}{s:Shared}
end
end ST
end NX
namespace NX
open PySem PySem.Spec PyProof.Rows L2
namespace ST
section
variable{X:Cx}{e:Expr}{ta:TA}{p p2 pos Ld:Pos}
end
end ST
end NX
namespace NX
open PySem PySem.Spec PyProof.Rows L2
namespace ST
section
variable{X:Cx}{e:Expr}{ta:TA}{p p2 pos Ld:Pos}
inductive LenI(K:W.Frag)(Q:V->Hp->Prop)(vs:List V)(H1:Hp):Prop
 |mk (a:Addr) (ns:List Int):vs=[.ref a]->SqL K H1 a (ns.map V.int)->ns.length<=4000->Q (.int ((ns.foldl step_dedup []).length:Nat)) H1->LenI K Q vs H1
theorem wQ:∀{ns:List Int}{us:List Value},Vals (ns.map V.int) us->PyProof.Rows.IntsAre us ns:=by
 intro ns;induction ns with
 |nil=>
  intro us h;cases h;exact .nil
 |cons n ns ih=>
  intro us h;cases h with
  |cons h1 h2=>
   obtain⟨t,rfl⟩:=h1;exact .cons n t (ih h2)
theorem tu(ns:List Int):firstMet (fun i=>ns.getD i 0) ns.length=ns.foldl step_dedup []:=by
 unfold firstMet;congr 1
 refine YK (by rw[U1,Vl]) fun i h1 h2=>?_
 rw[YJ,W9,UU,UT h2];rfl
noncomputable def He(K:W.Frag)(ta:TA):TE:=fun σ H Q=>ta σ H fun vs H1=>LenI K Q vs H1
theorem pe_lenI(hc:X.calm=true)(hg:Gl X "len")(hm:X.mg "len" = none)(Ny:Gl X "set")(Nz:X.mg "set" = none)(ha:PA X [e] ta)
  (he:backTo pos (starEach [.Call (.Name "set" p2) [e] [] Ld] X.env)=[(false,eval (.Call (.Name "set" p2) [e] [] Ld) X.env)]:=by rfl)
  (O3:starEach [e] X.env=(false,eval e X.env)::starEach [] X.env:=by rfl) (O4:(backTo Ld (starEach [] X.env)).any (·.1)=false:=by rfl):
  PE X (.Call (.Name "len" p) [.Call (.Name "set" p2) [e] [] Ld] [] pos) (He X.K ta):=by
 intro pr s σ H Q I h;refine Wd (fW I hg hm (by decide +kernel:bootBuiltins "len" = some (.builtin "len")) ?_ (by decide) (by decide));rw[he];refine XH rfl (Xp (Calls.spliced_cons ?_));refine Wd (fW I Ny Nz (by decide +kernel:bootBuiltins "set" = some (.type "set")) ?_ (by decide) (by decide));refine Wc (Kh (ha Ld pr s σ H _ I h) fun us s1 ⟨vs,H1,I1,r1,a,ns,ev,sq,h4,q⟩=>?_) O3 O4;subst ev;obtain⟨u,rfl,ra⟩:=cO r1;cases ra;obtain⟨JT,r',pl,hz⟩:=I1.list sq;have hl:=pl.isList;have hlen:=r'.length;rw[U1]at hlen;have hsz:JT.toArray.size=ns.length:=by rw[U9];exact hlen.symm
 refine PySem.call_set_list (ns:=ns) (I1.ok.hd hc) hl (wQ r') (by rw[hsz];show ns.length+1<4096;lia) fun h' tk hS kp=>?_
 refine Calls.spliced_nil ?_;rw[hsz,tu]at hS;obtain⟨o,es,ep,t,g1,g2,g3,_,_,g4,g5,g6⟩:=hS;have g4:es.size<4096:=g4;refine call_len_set (s:={s1 with heap:=h',toks:=tk}) g1 g2 g3 g5 (by lia) ?_;refine⟨.int ((ns.foldl step_dedup []).length:Nat),H1,(I1.kept (t':=tk) fun b o e=>kp b o (U8 e) e).tok _,⟨_,by rw[g6]⟩,q⟩
end
end ST
end NX
namespace NX
open PySem PySem.Spec PyProof.Rows L2
section
variable{X:Cx}{rest:List Stmt}{tx:TX}{e a b:Expr}{C:Addr}{pos p:Pos}{Ww:Hp->Prop}
theorem AF{op:CmpOp}(h:Nx X a C tx)(hm:behindInMarks op b=false:=by with_unfolding_all rfl):Nx X (.Compare a [op] [b] pos) C tx:=fun pr s σ H Ww I z=>
 wpAny_Compare1 (VN (h pr s σ H Ww I z) (fun _ _ z=>z.elim) fun _ _ z=>z) hm
theorem DO(acc:∀pr σ e s',XP X pr σ C Ww e s'->X.xe e s')(h:Nx X e C tx):PX X (.Return (some e) pos::rest) (fun σ H=>tx σ H Ww):=fun pr s σ H I z=>
 Wh (wpAny_Return_some (VN (h pr s σ H Ww I z) (fun _ _ z=>z.elim) fun v s' z=>acc pr σ v s' z))
theorem DP{c d:List Stmt}(acc:∀pr σ e s',XP X pr σ C Ww e s'->X.xe e s')(h:Nx X e C tx)(he:∀whole,isTrue e X.env whole=(do let v <-whole;standAt e.pos;holding [v] (truthy v)):=by intro _;rfl):
  PX X (.If (.UnaryOp .Not e p) c d pos::rest) (fun σ H=>tx σ H Ww):=fun pr s σ H I z=>
 Wh (wpAny_If (isTrue_not (isTrue_plain (VN (h pr s σ H Ww I z) (fun _ _ z=>z.elim) fun v s' z=>acc pr σ v s' z) (he _))))
end
open PySem.Builtin.ObjectAttr PySem.Builtin.Getset_descriptor
section
variable{M:Model}{A:Around}{E:Value->Shared->Prop}{K:W.Frag}{C P N ab:Addr}
theorem wR{nm q bs bm hdct sn sub ab col dd k0 k1 k2 k3 k5 newId}{s:Shared}{e:Addr}{oe:Obj}{Q:Bool->Shared->Prop}(X:K.In s.heap)(up:PySem.W.mroIn K C (.ref P)=some true)
  (hP:s.heap.get? P=some (excClassObj nm q P N bs bm hdct sn sub ab col dd k0 k1 k2 k3 k5 newId)) (he:s.heap.get? e=some oe) (L6:oe.cls=.ref C) (KG:bm.contains (.type "BaseException")=true)
  (hq:Q true s):wpAny M A (excMatches (.ref e) (.ref P)) Q E s:=by
 obtain⟨h,g,d,t,os⟩:=s;have Mp:=X7 (M:=M) X up;have hcB:(Value.ref P::bm).contains (.type "BaseException")=true:=by rw[Yc,KG,Bool.or_true]
 have f:=tc_notTuple;unfold excMatches;repeat (first|(with_reducible refine wpAny_loadPart_at he ?_;rw[L6])|with_reducible refine wpAny_loadPart_at hP ?_|(with_reducible refine wpAny_isSubtype_exc hP ?_;rw[hcB])|with_reducible refine Mp.at ?_|wp_step)
 exact hq
end
end NX
namespace PV
open PySem L2 NX
inductive D where
 |non|bl (b:Bool)|int (i:Int)|str (l:List Nat)|tup (ds:List D)|lst (ds:List D)|dct (tk:Bool) (ks vs:List D)
inductive O where
 |f|l (c:O)|t (cs:List O)|d|pin (p:Addr) (c:O)
abbrev R:=O×D
abbrev Env:=List (Option R)
inductive Res(α:Type) where
 |ok (a:α)|exc (c:List Nat)|bad
noncomputable def kD:Key->D
 | .inl i=>.int i
 | .inr x=>.str x.cps.toList
noncomputable def isM:HO->Bool
 | .lst _=>true
 | .dK _=>true
 | .dT _=>true
 |_=>false
noncomputable def isT:HO->Bool
 | .tup _=>true
 | .frz _ (.tup _)=>true
 |_=>false
noncomputable def qK:Key->Prop
 | .inl _=>True
 | .inr x=>x.cps.toList.length<=sizeLine
def DictO(o:HO)(tk:Bool)(ks:List D)(xs:List V):Prop:=match tk with
 |true=>∃kvs:List (List Key×V),o=.dT kvs/\ks=kvs.map (fun kv=>D.tup (kv.1.map kD))/\xs=kvs.map (·.2)/\∀kv∈kvs,∀k∈kv.1,qK k
 |false=>∃kvs:List (Key×V),o=.dK kvs/\ks=kvs.map (fun kv=>kD kv.1)/\xs=kvs.map (·.2)/\∀kv∈kvs,qK kv.1
mutual
noncomputable def Rep(K:W.Frag)(G:Hp):D->V->Prop
 | .non,v=>v=.non
 | .bl b,v=>v=.bl b
 | .int i,v=>v=.int i
 | .str l,v=>v=.str (S l)/\l.length<=sizeLine
 | .tup ds,v=>∃p xs,v=.ref p/\G p=some (.tup xs)/\Reps K G ds xs
 | .lst ds,v=>∃p xs,v=.ref p/\SqL K G p xs/\Reps K G ds xs
 | .dct tk ks vs,v=>∃p xs o,v=.ref p/\Rd G p o/\DictO o tk ks xs/\Reps K G vs xs
noncomputable def Reps(K:W.Frag)(G:Hp):List D->List V->Prop
 |[],xs=>xs=[]
 |d::ds,xs=>∃y ys,xs=y::ys/\Rep K G d y/\Reps K G ds ys
end
noncomputable def AllO(P:D->V->List Addr->Prop):List D->List V->List Addr->Prop
 |[],xs,fp=>xs=[]/\fp=[]
 |d::ds,xs,fp=>∃y ys a b,xs=y::ys/\fp=a++b/\P d y a/\AllO P ds ys b
mutual
noncomputable def RepO(K:W.Frag)(G H:Hp):O->D->V->List Addr->Prop
 | .f,d,v,fp=>Rep K G d v/\fp=[]
 | .l c,.lst ds,v,fp=>∃p xs JU,v=.ref p/\H p=some (.lst xs)/\fp=p::JU/\AllO (RepO K G H c) ds xs JU
 | .t cs,.tup ds,v,fp=>∃p xs,v=.ref p/\G p=some (.tup xs)/\RepT K G H cs ds xs fp
 | .d,.dct tk ks vs,v,fp=>∃p xs o,v=.ref p/\H p=some o/\DictO o tk ks xs/\fp=[p]/\Reps K G vs xs
 | .pin p c,d,v,fp=>v=.ref p/\RepO K G H c d v fp
 |_,_,_,_=>False
noncomputable def RepT(K:W.Frag)(G H:Hp):List O->List D->List V->List Addr->Prop
 |[],[],xs,fp=>xs=[]/\fp=[]
 |c::cs,d::ds,xs,fp=>∃y ys a b,xs=y::ys/\fp=a++b/\RepO K G H c d y a/\RepT K G H cs ds ys b
 |_,_,_,_=>False
end
variable{K:W.Frag}{p:Addr}{u:HO}{xs:List V}{fp:List Addr}{es:Env}{vs:List (Option V)}{r:R}{v:V}
section
variable{G G' H H':Hp}
theorem Rd.mono(h:Same G G')(r:Rd G p u):Rd G' p u:=by
 rcases r with r|⟨o,r⟩
 ·exact .inl (h _ _ r)
 ·exact .inr ⟨o,h _ _ r⟩
theorem eG(h:Same G G')(r:SqL K G p xs):SqL K G' p xs:=r.elim (fun r=>.inl (Rd.mono h r)) .inr
theorem aV(h:Same G G')(r:SqT K G p xs):SqT K G' p xs:=r.elim (fun r=>.inl (Rd.mono h r)) .inr
mutual
theorem Rep.mono(h:Same G G'):∀{d:D}{v:V},Rep K G d v->Rep K G' d v
 | .non,_,r=>by simpa only[Rep] using r
 | .bl _,_,r=>by simpa only[Rep] using r
 | .int _,_,r=>by simpa only[Rep] using r
 | .str _,_,r=>by simpa only[Rep] using r
 | .tup ds,_,r=>by
  simp only[Rep]at r ⊢;obtain⟨p,xs,e,q,rs⟩:=r;exact⟨p,xs,e,h _ _ q,Reps.mono h rs⟩
 | .lst ds,_,r=>by
  simp only[Rep]at r ⊢;obtain⟨p,xs,e,q,rs⟩:=r;exact⟨p,xs,e,eG h q,Reps.mono h rs⟩
 | .dct tk ks vs,_,r=>by
  simp only[Rep]at r ⊢;obtain⟨p,xs,o,e,q,dd,rs⟩:=r;exact⟨p,xs,o,e,Rd.mono h q,dd,Reps.mono h rs⟩
theorem Reps.mono(h:Same G G'):∀{ds:List D}{xs:List V},Reps K G ds xs->Reps K G' ds xs
 |[],_,r=>by simpa only[Reps] using r
 |d::ds,_,r=>by
  simp only[Reps]at r ⊢;obtain⟨y,ys,e,r1,r2⟩:=r;exact⟨y,ys,e,Rep.mono h r1,Reps.mono h r2⟩
end
theorem AllO.imp{P P':D->V->List Addr->Prop}:∀{ds:List D}{xs:List V}{fp:List Addr},(∀d v a,(∀p∈a,p∈fp)->P d v a->P' d v a)->AllO P ds xs fp->AllO P' ds xs fp
 |[],_,_,_,r=>r
 |d::ds,xs,fp,h,r=>by
  obtain⟨y,ys,a,b,e1,e2,p,q⟩:=r;subst e2;exact⟨y,ys,a,b,e1,rfl,h _ _ _ (fun p hp=>UX _ hp) p,AllO.imp (fun d v c hc=>h d v c fun p hp=>UW _ (hc p hp)) q⟩
mutual
theorem RepO.step(h:Same G G'):∀{o:O}{d:D}{v:V}{fp:List Addr},(∀p∈fp,H' p=H p)->RepO K G H o d v fp->RepO K G' H' o d v fp
 | .f,d,v,fp,hk,r=>by
  simp only[RepO]at r ⊢;exact⟨Rep.mono h r.1,r.2⟩
 | .pin p c,d,v,fp,hk,r=>by
  simp only[RepO]at r ⊢;exact⟨r.1,RepO.step h hk r.2⟩
 | .l c,.lst ds,v,fp,hk,r=>by
  simp only[RepO]at r ⊢;obtain⟨p,xs,JU,e,q,e2,a⟩:=r;subst e2;exact⟨p,xs,JU,e,(hk p UR).trans q,rfl,AllO.imp (fun d v c hc=>RepO.step h fun z hz=>hk z (US _ (hc z hz))) a⟩
 | .t cs,.tup ds,v,fp,hk,r=>by
  simp only[RepO]at r ⊢;obtain⟨p,xs,e,q,a⟩:=r;exact⟨p,xs,e,h _ _ q,RepT.step h hk a⟩
 | .d,.dct tk ks vs,v,fp,hk,r=>by
  simp only[RepO]at r ⊢;obtain⟨p,xs,o,e,q,dd,e2,rs⟩:=r;subst e2;exact⟨p,xs,o,e,(hk p UR).trans q,dd,rfl,Reps.mono h rs⟩
 | .l _,.non,_,_,_,r | .l _,.bl _,_,_,_,r | .l _,.int _,_,_,_,r | .l _,.str _,_,_,_,r | .l _,.tup _,_,_,_,r | .l _,.dct _ _ _,_,_,_,r=>by simp only[RepO]at r
 | .t _,.non,_,_,_,r | .t _,.bl _,_,_,_,r | .t _,.int _,_,_,_,r | .t _,.str _,_,_,_,r | .t _,.lst _,_,_,_,r | .t _,.dct _ _ _,_,_,_,r=>by simp only[RepO]at r
 | .d,.non,_,_,_,r | .d,.bl _,_,_,_,r | .d,.int _,_,_,_,r | .d,.str _,_,_,_,r | .d,.tup _,_,_,_,r | .d,.lst _,_,_,_,r=>by simp only[RepO]at r
theorem RepT.step(h:Same G G'):∀{cs:List O}{ds:List D}{xs:List V}{fp:List Addr},(∀p∈fp,H' p=H p)->RepT K G H cs ds xs fp->RepT K G' H' cs ds xs fp
 |[],[],_,_,_,r=>by simpa only[RepT] using r
 |c::cs,d::ds,xs,fp,hk,r=>by
  simp only[RepT]at r ⊢;obtain⟨y,ys,a,b,e1,e2,r1,r2⟩:=r;subst e2;exact⟨y,ys,a,b,e1,rfl,RepO.step h (fun p hp=>hk p (UX _ hp)) r1,RepT.step h (fun p hp=>hk p (UW _ hp)) r2⟩
 |[],_::_,_,_,_,r=>by simp only[RepT]at r
 |_::_,[],_,_,_,r=>by simp only[RepT]at r
end
theorem AllO.frozen{P:D->V->List Addr->Prop}:∀{ds:List D}{xs:List V}{fp:List Addr},(∀d v a,(∀p∈a,p∈fp)->P d v a->Rep K G' d v)->AllO P ds xs fp->Reps K G' ds xs
 |[],_,_,_,r=>by simp only[Reps];exact r.1
 |d::ds,xs,fp,h,r=>by
  obtain⟨y,ys,a,b,e1,e2,p,q⟩:=r;subst e2;simp only[Reps];exact⟨y,ys,e1,h _ _ _ (fun p hp=>UX _ hp) p,AllO.frozen (fun d v c hc=>h d v c fun p hp=>UW _ (hc p hp)) q⟩
mutual
theorem RepO.frozen(h:Same G G'):∀{o:O}{d:D}{v:V}{fp:List Addr},(∀p∈fp,∀u,H p=some u->G' p=some u)->RepO K G H o d v fp->Rep K G' d v
 | .f,d,v,fp,hk,r=>by
  simp only[RepO]at r;exact Rep.mono h r.1
 | .pin p c,d,v,fp,hk,r=>by
  simp only[RepO]at r;exact RepO.frozen h hk r.2
 | .l c,.lst ds,v,fp,hk,r=>by
  simp only[RepO]at r;simp only[Rep];obtain⟨p,xs,JU,e,q,e2,a⟩:=r;subst e2;exact⟨p,xs,e,SqL.of (hk p UR _ q),AllO.frozen (fun d v c hc=>RepO.frozen h fun z hz=>hk z (US _ (hc z hz))) a⟩
 | .t cs,.tup ds,v,fp,hk,r=>by
  simp only[RepO]at r;simp only[Rep];obtain⟨p,xs,e,q,a⟩:=r;exact⟨p,xs,e,h _ _ q,RepT.frozen h hk a⟩
 | .d,.dct tk ks vs,v,fp,hk,r=>by
  simp only[RepO]at r;simp only[Rep];obtain⟨p,xs,o,e,q,dd,e2,rs⟩:=r;subst e2;exact⟨p,xs,o,e,.inl (hk p UR _ q),dd,Reps.mono h rs⟩
 | .l _,.non,_,_,_,r | .l _,.bl _,_,_,_,r | .l _,.int _,_,_,_,r | .l _,.str _,_,_,_,r | .l _,.tup _,_,_,_,r | .l _,.dct _ _ _,_,_,_,r=>by simp only[RepO]at r
 | .t _,.non,_,_,_,r | .t _,.bl _,_,_,_,r | .t _,.int _,_,_,_,r | .t _,.str _,_,_,_,r | .t _,.lst _,_,_,_,r | .t _,.dct _ _ _,_,_,_,r=>by simp only[RepO]at r
 | .d,.non,_,_,_,r | .d,.bl _,_,_,_,r | .d,.int _,_,_,_,r | .d,.str _,_,_,_,r | .d,.tup _,_,_,_,r | .d,.lst _,_,_,_,r=>by simp only[RepO]at r
theorem RepT.frozen(h:Same G G'):∀{cs:List O}{ds:List D}{xs:List V}{fp:List Addr},(∀p∈fp,∀u,H p=some u->G' p=some u)->RepT K G H cs ds xs fp->Reps K G' ds xs
 |[],[],_,_,_,r=>by simp only[RepT]at r;simp only[Reps];exact r.1
 |c::cs,d::ds,xs,fp,hk,r=>by
  simp only[RepT]at r;simp only[Reps];obtain⟨y,ys,a,b,e1,e2,r1,r2⟩:=r;subst e2;exact⟨y,ys,e1,RepO.frozen h (fun p hp=>hk p (UX _ hp)) r1,RepT.frozen h (fun p hp=>hk p (UW _ hp)) r2⟩
 |[],_::_,_,_,_,r=>by simp only[RepT]at r
 |_::_,[],_,_,_,r=>by simp only[RepT]at r
end
theorem AllO.live{P:D->V->List Addr->Prop}:∀{ds:List D}{xs:List V}{fp:List Addr},(∀d v a,P d v a->∀p∈a,∃u,H p=some u)->AllO P ds xs fp->∀p∈fp,∃u,H p=some u
 |[],_,_,_,r=>by rw[r.2];intro p hp;cases hp
 |d::ds,xs,fp,h,r=>by
  obtain⟨y,ys,a,b,e1,e2,p,q⟩:=r;subst e2;intro z hz;rcases Vs.mp hz with hz|hz
  ·exact h _ _ _ p z hz
  ·exact AllO.live h q z hz
mutual
theorem RepO.live:∀{o:O}{d:D}{v:V}{fp:List Addr},RepO K G H o d v fp->∀p∈fp,∃u,H p=some u
 | .f,d,v,fp,r=>by
  simp only[RepO]at r;rw[r.2];intro p hp;cases hp
 | .pin p c,d,v,fp,r=>by
  simp only[RepO]at r;exact RepO.live r.2
 | .l c,.lst ds,v,fp,r=>by
  simp only[RepO]at r;obtain⟨p,xs,JU,e,q,e2,a⟩:=r;subst e2;intro z hz;rcases U5.mp hz with rfl|hz
  ·exact⟨_,q⟩
  ·exact AllO.live (fun d v a=>RepO.live) a z hz
 | .t cs,.tup ds,v,fp,r=>by
  simp only[RepO]at r;obtain⟨p,xs,e,q,a⟩:=r;exact RepT.live a
 | .d,.dct tk ks vs,v,fp,r=>by
  simp only[RepO]at r;obtain⟨p,xs,o,e,q,dd,e2,rs⟩:=r;subst e2;intro z hz;rw[Vi]at hz;exact⟨_,hz▸q⟩
 | .l _,.non,_,_,r | .l _,.bl _,_,_,r | .l _,.int _,_,_,r | .l _,.str _,_,_,r | .l _,.tup _,_,_,r | .l _,.dct _ _ _,_,_,r=>by simp only[RepO]at r
 | .t _,.non,_,_,r | .t _,.bl _,_,_,r | .t _,.int _,_,_,r | .t _,.str _,_,_,r | .t _,.lst _,_,_,r | .t _,.dct _ _ _,_,_,r=>by simp only[RepO]at r
 | .d,.non,_,_,r | .d,.bl _,_,_,r | .d,.int _,_,_,r | .d,.str _,_,_,r | .d,.tup _,_,_,r | .d,.lst _,_,_,r=>by simp only[RepO]at r
theorem RepT.live:∀{cs:List O}{ds:List D}{xs:List V}{fp:List Addr},RepT K G H cs ds xs fp->∀p∈fp,∃u,H p=some u
 |[],[],_,_,r=>by
  simp only[RepT]at r;rw[r.2];intro p hp;cases hp
 |c::cs,d::ds,xs,fp,r=>by
  simp only[RepT]at r;obtain⟨y,ys,a,b,e1,e2,r1,r2⟩:=r;subst e2;intro z hz;rcases Vs.mp hz with hz|hz
  ·exact RepO.live r1 z hz
  ·exact RepT.live r2 z hz
 |[],_::_,_,_,r=>by simp only[RepT]at r
 |_::_,[],_,_,r=>by simp only[RepT]at r
end
theorem DictO.isM{o:HO}{tk:Bool}{ks:List D}{xs:List V}(h:DictO o tk ks xs):PV.isM o=true:=by
 cases tk with
 |true=>
  obtain⟨kvs,e,_⟩:=h;rw[e];rfl
 |false=>
  obtain⟨kvs,e,_⟩:=h;rw[e];rfl
theorem AllO.mut{P:D->V->List Addr->Prop}:∀{ds:List D}{xs:List V}{fp:List Addr},(∀d v a,P d v a->∀p∈a,∃u,H p=some u/\isM u=true)->AllO P ds xs fp->∀p∈fp,∃u,H p=some u/\isM u=true
 |[],_,_,_,r=>by rw[r.2];intro p hp;cases hp
 |d::ds,xs,fp,h,r=>by
  obtain⟨y,ys,a,b,e1,e2,p,q⟩:=r;subst e2;intro z hz;rcases Vs.mp hz with hz|hz
  ·exact h _ _ _ p z hz
  ·exact AllO.mut h q z hz
mutual
theorem RepO.mut:∀{o:O}{d:D}{v:V}{fp:List Addr},RepO K G H o d v fp->∀p∈fp,∃u,H p=some u/\isM u=true
 | .f,d,v,fp,r=>by
  simp only[RepO]at r;rw[r.2];intro p hp;cases hp
 | .pin p c,d,v,fp,r=>by
  simp only[RepO]at r;exact RepO.mut r.2
 | .l c,.lst ds,v,fp,r=>by
  simp only[RepO]at r;obtain⟨p,xs,JU,e,q,e2,a⟩:=r;subst e2;intro z hz;rcases U5.mp hz with rfl|hz
  ·exact⟨_,q,rfl⟩
  ·exact AllO.mut (fun d v a=>RepO.mut) a z hz
 | .t cs,.tup ds,v,fp,r=>by
  simp only[RepO]at r;obtain⟨p,xs,e,q,a⟩:=r;exact RepT.mut a
 | .d,.dct tk ks vs,v,fp,r=>by
  simp only[RepO]at r;obtain⟨p,xs,o,e,q,dd,e2,rs⟩:=r;subst e2;intro z hz;rw[Vi]at hz;exact⟨_,hz▸q,dd.isM⟩
 | .l _,.non,_,_,r | .l _,.bl _,_,_,r | .l _,.int _,_,_,r | .l _,.str _,_,_,r | .l _,.tup _,_,_,r | .l _,.dct _ _ _,_,_,r=>by simp only[RepO]at r
 | .t _,.non,_,_,r | .t _,.bl _,_,_,r | .t _,.int _,_,_,r | .t _,.str _,_,_,r | .t _,.lst _,_,_,r | .t _,.dct _ _ _,_,_,r=>by simp only[RepO]at r
 | .d,.non,_,_,r | .d,.bl _,_,_,r | .d,.int _,_,_,r | .d,.str _,_,_,r | .d,.tup _,_,_,r | .d,.lst _,_,_,r=>by simp only[RepO]at r
theorem RepT.mut:∀{cs:List O}{ds:List D}{xs:List V}{fp:List Addr},RepT K G H cs ds xs fp->∀p∈fp,∃u,H p=some u/\isM u=true
 |[],[],_,_,r=>by
  simp only[RepT]at r;rw[r.2];intro p hp;cases hp
 |c::cs,d::ds,xs,fp,r=>by
  simp only[RepT]at r;obtain⟨y,ys,a,b,e1,e2,r1,r2⟩:=r;subst e2;intro z hz;rcases Vs.mp hz with hz|hz
  ·exact RepO.mut r1 z hz
  ·exact RepT.mut r2 z hz
 |[],_::_,_,_,r=>by simp only[RepT]at r
 |_::_,[],_,_,r=>by simp only[RepT]at r
end
def RepE(K:W.Frag)(G H:Hp):Env->List (Option V)->List Addr->Prop
 |[],vs,fp=>vs=[]/\fp=[]
 |e::es,vs,fp=>∃y ys,vs=y::ys/\match e with
  |none=>RepE K G H es ys fp
  |some r=>∃v a b,y=some v/\fp=a++b/\RepO K G H r.1 r.2 v a/\RepE K G H es ys b
theorem RepE.step(h:Same G G'):∀{es:Env}{vs:List (Option V)}{fp:List Addr},(∀p∈fp,H' p=H p)->RepE K G H es vs fp->RepE K G' H' es vs fp
 |[],_,_,_,r=>r
 |none::es,vs,fp,hk,r=>by
  obtain⟨y,ys,e,r⟩:=r;exact⟨y,ys,e,RepE.step h hk r⟩
 |some r::es,vs,fp,hk,q=>by
  obtain⟨y,ys,e,v,a,b,e1,e2,r1,r2⟩:=q;subst e2;exact⟨y,ys,e,v,a,b,e1,rfl,RepO.step h (fun p hp=>hk p (UX _ hp)) r1,RepE.step h (fun p hp=>hk p (UW _ hp)) r2⟩
theorem RepE.live:∀{es:Env}{vs:List (Option V)}{fp:List Addr},RepE K G H es vs fp->∀p∈fp,∃u,H p=some u
 |[],_,_,r=>by
  rw[r.2];intro p hp;cases hp
 |none::es,vs,fp,r=>by
  obtain⟨y,ys,e,r⟩:=r;exact RepE.live r
 |some r::es,vs,fp,q=>by
  obtain⟨y,ys,e,v,a,b,e1,e2,r1,r2⟩:=q;subst e2;intro z hz;rcases Vs.mp hz with hz|hz
  ·exact r1.live z hz
  ·exact RepE.live r2 z hz
theorem RepE.mut:∀{es:Env}{vs:List (Option V)}{fp:List Addr},RepE K G H es vs fp->∀p∈fp,∃u,H p=some u/\isM u=true
 |[],_,_,r=>by
  rw[r.2];intro p hp;cases hp
 |none::es,vs,fp,r=>by
  obtain⟨y,ys,e,r⟩:=r;exact RepE.mut r
 |some r::es,vs,fp,q=>by
  obtain⟨y,ys,e,v,a,b,e1,e2,r1,r2⟩:=q;subst e2;intro z hz;rcases Vs.mp hz with hz|hz
  ·exact r1.mut z hz
  ·exact RepE.mut r2 z hz
theorem RepE.length:∀{es:Env}{vs:List (Option V)}{fp:List Addr},RepE K G H es vs fp->vs.length=es.length
 |[],_,_,r=>by rw[r.1];rfl
 |none::es,vs,fp,r=>by
  obtain⟨y,ys,e,r⟩:=r;rw[e,Va,Va,RepE.length r]
 |some r::es,vs,fp,q=>by
  obtain⟨y,ys,e,v,a,b,e1,e2,r1,r2⟩:=q;rw[e,Va,Va,RepE.length r2]
theorem RepE.take:∀{es:Env}{vs:List (Option V)}{fp:List Addr}{i:Nat}{r:R},RepE K G H es vs fp->es[i]?=some (some r)->
  ∃v a b,vs[i]?=some (some v)/\RepO K G H r.1 r.2 v a/\RepE K G H (es.set i none) vs b/\fp.Perm (a++b)
 |[],_,_,_,_,_,e=>by simp at e
 |none::es,vs,fp,0,r,q,e=>by simp at e
 |some r'::es,vs,fp,0,r,q,e=>by
  obtain⟨y,ys,e0,v,a,b,e1,e2,r1,r2⟩:=q;simp at e;subst e;subst e0;subst e1;exact⟨v,a,b,rfl,r1,⟨some v,ys,rfl,r2⟩,by rw[e2]⟩
 |none::es,vs,fp,i+1,r,q,e=>by
  obtain⟨y,ys,e0,q⟩:=q;obtain⟨v,a,b,g1,g2,g3,g4⟩:=RepE.take q (i:=i) (r:=r) (by simpa using e);subst e0;exact⟨v,a,b,by simpa using g1,g2,⟨y,ys,rfl,g3⟩,g4⟩
 |some r'::es,vs,fp,i+1,r,q,e=>by
  obtain⟨y,ys,e0,v',a',b',e1,e2,r1,r2⟩:=q;obtain⟨v,a,b,g1,g2,g3,g4⟩:=RepE.take r2 (i:=i) (r:=r) (by simpa using e);subst e0;refine⟨v,a,a'++b,by simpa using g1,g2,⟨y,ys,rfl,v',a',b,e1,rfl,r1,g3⟩,?_⟩;rw[e2];refine(Y3 a' g4).trans ?_;rw[<-VH,<-VH];exact YS b Y4
theorem RepE.put:∀{es:Env}{vs:List (Option V)}{b:List Addr}{i:Nat}{r:R}{v:V}{a:List Addr},RepE K G H es vs b->es[i]?=some none->RepO K G H r.1 r.2 v a->
  ∃fp,RepE K G H (es.set i (some r)) (vs.set i (some v)) fp/\fp.Perm (a++b)
 |[],_,_,_,_,_,_,_,e,_=>by simp at e
 |none::es,vs,b,0,r,v,a,q,e,ro=>by
  obtain⟨y,ys,e0,q⟩:=q;subst e0;exact⟨a++b,⟨some v,ys,rfl,v,a,b,rfl,rfl,ro,q⟩,.refl _⟩
 |some r'::es,vs,b,0,r,v,a,q,e,ro=>by simp at e
 |none::es,vs,b,i+1,r,v,a,q,e,ro=>by
  obtain⟨y,ys,e0,q⟩:=q;obtain⟨fp,g1,g2⟩:=RepE.put q (i:=i) (r:=r) (by simpa using e) ro;subst e0;exact⟨fp,⟨y,_,rfl,g1⟩,g2⟩
 |some r'::es,vs,b,i+1,r,v,a,q,e,ro=>by
  obtain⟨y,ys,e0,v',a',b',e1,e2,r1,r2⟩:=q;obtain⟨fp,g1,g2⟩:=RepE.put r2 (i:=i) (r:=r) (by simpa using e) ro;subst e0;refine⟨a'++fp,⟨y,_,rfl,v',a',fp,e1,rfl,r1,g1⟩,?_⟩;rw[e2];refine(Y3 a' g2).trans ?_;rw[<-VH,<-VH];exact YS b' Y4
theorem RepE.any:∀{es:Env}{vs:List (Option V)}{fp:List Addr}{i:Nat}{y:Option V},RepE K G H es vs fp->(es[i]?=some none\/es.length<=i)->RepE K G H es (vs.set i y) fp
 |[],_,_,_,_,q,_=>by
  rw[q.1,q.2];exact⟨rfl,rfl⟩
 |none::es,vs,fp,0,y,q,e=>by
  obtain⟨y',ys,e0,q⟩:=q;subst e0;exact⟨y,ys,rfl,q⟩
 |some r'::es,vs,fp,0,y,q,e=>by simp at e
 |none::es,vs,fp,i+1,y,q,e=>by
  obtain⟨y',ys,e0,q⟩:=q;subst e0;exact⟨y',ys.set i y,rfl,RepE.any q (by simpa using e)⟩
 |some r'::es,vs,fp,i+1,y,q,e=>by
  obtain⟨y',ys,e0,v',a',b',e1,e2,r1,r2⟩:=q;subst e0;exact⟨y',ys.set i y,rfl,v',a',b',e1,e2,r1,RepE.any r2 (by simpa using e)⟩
structure Rel(K:W.Frag)(G H:Hp)(es:Env)(vs:List (Option V))(fp:List Addr):Prop where
 rep:RepE K G H es vs fp
 nd:fp.Nodup
 gn:∀p∈fp,G p=none
 gh:Same G H
structure Step(G H:Hp)(fp:List Addr)(G' H':Hp)(JU:List Addr):Prop where
 gg:Same G G'
 keep:∀q u,H q=some u->q∉fp->H' q=some u
 fpn:∀q∈JU,q∈fp\/H q=none
 gnew:∀q u,G' q=some u->G q=some u\/q∈fp\/H q=none\/isT u=true/\H q=some u
 there:∀q u,H q=some u->∃u',H' q=some u'
theorem Step.refl{fp:List Addr}:Step G H fp G H fp:=⟨.refl _,fun _ _ h _=>h,fun _ h=>.inl h,fun _ _ h=>.inl h,fun _ u h=>⟨u,h⟩⟩
theorem Step.trans{G1 H1 G2 H2:Hp}{fp Ke Kt:List Addr}(a:Step G H fp G1 H1 Ke)(b:Step G1 H1 Ke G2 H2 Kt):Step G H fp G2 H2 Kt:=by
 refine⟨a.gg.trans b.gg,fun q u h n=>?_,fun q hq=>?_,fun q u hq=>?_,fun q u h=>?_⟩
 ·refine b.keep q u (a.keep q u h n) fun hq=>?_
  rcases a.fpn q hq with z|z
  ·exact n z
  ·rw[z]at h;cases h
 ·rcases b.fpn q hq with z|z
  ·exact a.fpn q z
  ·cases e:H q with
   |none=>exact .inr rfl
   |some u=>
    obtain⟨u',e'⟩:=a.there q u e;rw[z]at e';cases e'
 ·rcases b.gnew q u hq with z|z|z|⟨t,z⟩
  ·exact a.gnew q u z
  ·exact .inr ((a.fpn q z).imp_right .inl)
  ·cases e:H q with
   |none=>exact .inr (.inr (.inl rfl))
   |some u=>
    obtain⟨u',e'⟩:=a.there q u e;rw[z]at e';cases e'
  ·cases e:H q with
   |none=>exact .inr (.inr (.inl rfl))
   |some u2=>
    by_cases hf:q∈fp
    ·exact .inr (.inl hf)
    ·rw[a.keep q u2 e hf]at z;cases z;exact .inr (.inr (.inr ⟨t,rfl⟩))
 ·obtain⟨u',h'⟩:=a.there q u h;exact b.there q u' h'
theorem Step.perm{fq JU QJ:List Addr}(a:Step G H fp G' H' JU)(h:∀q,q∈fp<->q∈fq)(h':∀q∈QJ,q∈JU):Step G H fq G' H' QJ:=
 ⟨a.gg,fun q u e n=>a.keep q u e fun z=>n ((h q).mp z),fun q hq=>(a.fpn q (h' q hq)).imp_left (h q).mp,fun q u e=>(a.gnew q u e).imp_right (Or.imp_left (h q).mp),a.there⟩
theorem Step.wide{fq JU QJ:List Addr}(a:Step G H fp G' H' JU)(h:∀q∈fp,q∈fq)(h':∀q∈QJ,q∈JU\/q∈fq):Step G H fq G' H' QJ:=
 ⟨a.gg,fun q u e n=>a.keep q u e fun z=>n (h q z),fun q hq=>(h' q hq).elim (fun z=>(a.fpn q z).imp_left (h q)) .inl,fun q u e=>(a.gnew q u e).imp_right (Or.imp_left (h q)),a.there⟩
theorem Rel.perm{fq:List Addr}(r:RepE K G H es vs fq)(nd:fp.Nodup)(gn:∀p∈fp,G p=none)(gh:Same G H)(h:fp.Perm fq):Rel K G H es vs fq:=
 ⟨r,h.nodup_iff.mp nd,fun p hp=>gn p (h.mem_iff.mpr hp),gh⟩
theorem Rel.frame(q:Rel K G H (some r::es) (some v::vs) fp):
  ∃a b,fp=a++b/\RepO K G H r.1 r.2 v a/\Rel K G H es vs b/\∀(G' H':Hp) (LX:Env) (LH:List (Option V)) (b':List Addr),Step G H b G' H' b'->Rel K G' H' LX LH b'->
   Rel K G' H' (some r::LX) (some v::LH) (a++b')/\Step G H (a++b) G' H' (a++b'):=by
 obtain⟨y,ys,e,v',a,b,e1,e2,r1,r2⟩:=q.rep;cases e;cases e1;subst e2;have nd:=Vp.mp q.nd;refine⟨a,b,rfl,r1,⟨r2,nd.2.1,fun p hp=>q.gn p (UW _ hp),q.gh⟩,fun G' H' LX LH b' st k=>?_⟩;have nb:∀p∈a,p∉b:=fun p hp hb=>nd.2.2 p hp p hb rfl
 have same:∀p∈a,H' p=H p:=fun p hp=>by
  obtain⟨u,hu⟩:=r1.live p hp;rw[hu];exact st.keep p u hu (nb p hp)
 refine⟨⟨⟨some v,LH,rfl,v,a,b',rfl,rfl,r1.step st.gg same,k.rep⟩,?_,fun p hp=>?_,k.gh⟩,st.wide (fun p hp=>UW _ hp) fun p hp=>?_⟩
 ·rw[Vp];refine⟨nd.1,k.nd,fun p hp z hz e=>?_⟩;subst e;obtain⟨u,hu⟩:=r1.live p hp;rcases st.fpn p hz with z|z
  ·exact nb p hp z
  ·rw[z]at hu;cases hu
 ·rcases Vs.mp hp with hp|hp
  ·cases e:G' p with
   |none=>rfl
   |some u=>
    exfalso;obtain⟨u',hu⟩:=r1.live p hp;rcases st.gnew p u e with z|z|z|⟨t,z⟩
    ·rw[q.gn p (UX _ hp)]at z;cases z
    ·exact nb p hp z
    ·rw[z]at hu;cases hu
    ·obtain⟨u2,h2,hm⟩:=r1.mut p hp;rw[z]at h2;cases h2;cases u with
     |tup _=>cases hm
     |frz _ _=>cases hm
     |_=>cases t
  ·exact k.gn p hp
 ·rcases Vs.mp hp with hp|hp
  ·exact .inr (UX _ hp)
  ·exact .inl hp
theorem Rel.freeze(q:Rel K G H (some r::es) (some v::vs) fp):
  ∃G' b,Rep K G' r.2 v/\Rel K G' H es vs b/\Step G H fp G' H b:=by
 obtain⟨y,ys,e,v',a,b,e1,e2,r1,r2⟩:=q.rep;cases e;cases e1;subst e2;have nd:=Vp.mp q.nd;have nb:∀p∈a,p∉b:=fun p hp hb=>nd.2.2 p hp p hb rfl
 have hg:Same G (fun p=>if p∈a then H p else G p):=fun p u e=>by
  show(if p∈a then H p else G p)=some u;by_cases hp:p∈a
  ·rw[U2 hp];exact q.gh p u e
  ·rw[U6 hp];exact e
 refine⟨fun p=>if p∈a then H p else G p,b,r1.frozen hg fun p hp u e=>?_,⟨r2.step hg fun _ _=>rfl,nd.2.1,fun p hp=>?_,fun p u e=>?_⟩,⟨hg,fun _ _ e _=>e,fun p hp=>.inl (UW _ hp),fun p u e=>?_,fun _ u e=>⟨u,e⟩⟩⟩
 ·show(if p∈a then H p else G p)=some u;rw[U2 hp];exact e
 ·show(if p∈a then H p else G p)=none;rw[U6 (fun z=>nb p z hp)];exact q.gn p (UW _ hp)
 ·have e:(if p∈a then H p else G p)=some u:=e;by_cases hp:p∈a
  ·rw[U2 hp]at e;exact e
  ·rw[U6 hp]at e;exact q.gh p u e
 ·have e:(if p∈a then H p else G p)=some u:=e;by_cases hp:p∈a
  ·exact .inr (.inl (UX _ hp))
  ·rw[U6 hp]at e;exact .inl e
end
variable{d:D}{a:List Addr}{ds:List D}{i:Nat}
section
variable{G G' H H':Hp}
theorem pq:∀{ds:List D}{xs:List V}{fp:List Addr},AllO (RepO K G H .f) ds xs fp<->Reps K G ds xs/\fp=[]
 |[],xs,fp=>by simp only[AllO,Reps]
 |d::ds,xs,fp=>by
  simp only[AllO,Reps,RepO];constructor
  ·rintro⟨y,ys,a,b,e1,e2,⟨r,e3⟩,q⟩;obtain⟨q1,q2⟩:=pq.mp q;subst e3;subst q2;exact⟨⟨y,ys,e1,r,q1⟩,e2⟩
  ·rintro⟨⟨y,ys,e1,r,q1⟩,e⟩;exact⟨y,ys,[],[],e1,e,⟨r,rfl⟩,pq.mpr ⟨q1,rfl⟩⟩
theorem cZ:RepO K G H .f d v a<->Rep K G d v/\a=[]:=by simp only[RepO]
theorem fH:RepO K G H (.l .f) (.lst ds) v a<->∃p xs,v=.ref p/\H p=some (.lst xs)/\a=[p]/\Reps K G ds xs:=by
 rw[RepO];constructor
 ·rintro⟨p,xs,b,e,q,e2,r⟩;obtain⟨r',eb⟩:=pq.mp r;subst eb;exact⟨p,xs,e,q,e2,r'⟩
 ·rintro⟨p,xs,e,q,e2,r⟩;exact⟨p,xs,[],e,q,e2,pq.mpr ⟨r,rfl⟩⟩
theorem Reps.length:∀{ds:List D}{xs:List V},Reps K G ds xs->xs.length=ds.length
 |[],xs,r=>by simp only[Reps]at r;rw[r];rfl
 |d::ds,xs,r=>by
  simp only[Reps]at r;obtain⟨y,ys,e,_,q⟩:=r;rw[e,Va,Va,Reps.length q]
theorem Reps.get:∀{ds:List D}{xs:List V}{i:Nat}{d:D},Reps K G ds xs->ds[i]?=some d->∃v,xs[i]?=some v/\Rep K G d v
 |[],_,_,_,_,e=>by simp at e
 |d'::ds,xs,0,d,r,e=>by
  simp only[Reps]at r;obtain⟨y,ys,e1,q,_⟩:=r;simp at e;subst e;exact⟨y,by rw[e1];rfl,q⟩
 |d'::ds,xs,i+1,d,r,e=>by
  simp only[Reps]at r;obtain⟨y,ys,e1,_,q⟩:=r;obtain⟨v,a,b⟩:=Reps.get q (i:=i) (d:=d) (by simpa using e);exact⟨v,by rw[e1];simpa using a,b⟩
theorem Reps.app:∀{ds es:List D}{xs ys:List V},Reps K G ds xs->Reps K G es ys->Reps K G (ds++es) (xs++ys)
 |[],_,_,_,r,q=>by simp only[Reps]at r;rw[r];exact q
 |d::ds,es,xs,ys,r,q=>by
  simp only[Reps]at r;obtain⟨z,zs,e,r1,r2⟩:=r;rw[e];simp only[Wj,Reps];exact⟨z,_,rfl,r1,r2.app q⟩
theorem Reps.one(r:Rep K G d v):Reps K G [d] [v]:=by
 simp only[Reps];exact⟨v,[],rfl,r,rfl⟩
theorem Reps.nil:Reps K G [] []:=by simp only[Reps]
theorem Reps.cons(r:Rep K G d v)(q:Reps K G ds xs):Reps K G (d::ds) (v::xs):=by
 simp only[Reps];exact⟨v,xs,rfl,r,q⟩
theorem Reps.cons_iff:Reps K G (d::ds) (v::xs)<->Rep K G d v/\Reps K G ds xs:=by
 simp only[Reps];constructor
 ·rintro⟨y,ys,e,r,q⟩;cases e;exact⟨r,q⟩
 ·rintro⟨r,q⟩;exact⟨v,xs,rfl,r,q⟩
theorem Reps.take:∀{ds:List D}{xs:List V}(n:Nat),Reps K G ds xs->Reps K G (ds.take n) (xs.take n)
 |_,_,0,_=>by rw[Zl,Zl];exact Reps.nil
 |[],xs,n+1,r=>by simp only[Reps]at r;rw[r];exact Reps.nil
 |d::ds,xs,n+1,r=>by
  simp only[Reps]at r;obtain⟨y,ys,e,r1,r2⟩:=r;rw[e,Zq,Zq];exact .cons r1 (r2.take n)
theorem Reps.drop:∀{ds:List D}{xs:List V}(n:Nat),Reps K G ds xs->Reps K G (ds.drop n) (xs.drop n)
 |_,_,0,r=>r
 |[],xs,n+1,r=>by simp only[Reps]at r;rw[r];exact Reps.nil
 |d::ds,xs,n+1,r=>by
  simp only[Reps]at r;obtain⟨y,ys,e,r1,r2⟩:=r;rw[e,Zt,Zt];exact r2.drop n
theorem Reps.set:∀{ds:List D}{xs:List V}(n:Nat) {d:D}{v:V},Reps K G ds xs->Rep K G d v->Reps K G (ds.set n d) (xs.set n v)
 |[],xs,n,d,v,r,q=>by simp only[Reps]at r;rw[r];exact Reps.nil
 |d'::ds,xs,0,d,v,r,q=>by
  simp only[Reps]at r;obtain⟨y,ys,e,r1,r2⟩:=r;rw[e];exact .cons q r2
 |d'::ds,xs,n+1,d,v,r,q=>by
  simp only[Reps]at r;obtain⟨y,ys,e,r1,r2⟩:=r;rw[e];exact .cons r1 (r2.set n q)
theorem Reps.ofAll(hl:xs.length=ds.length)(h:∀(i:Nat) (d:D) (v:V),ds[i]?=some d->xs[i]?=some v->Rep K G d v):Reps K G ds xs:=by
 induction ds generalizing xs with
 |nil=>simp only[Reps];exact VQ hl
 |cons d ds ih=>
  cases xs with
  |nil=>simp at hl
  |cons v xs=>exact .cons (h 0 d v rfl rfl) (ih (by simpa using hl) fun i d v a b=>h (i+1) d v (by simpa using a) (by simpa using b))
theorem Step.cut{fq:List Addr}(h:∀q∈fq,q∈fp):Step G H fp G H fq:=⟨.refl _,fun _ _ e _=>e,fun q hq=>.inl (h q hq),fun _ _ e=>.inl e,fun _ u e=>⟨u,e⟩⟩
theorem Rel.drop{y:Option V}(q:Rel K G H (some r::es) (y::vs) fp):∃b,Rel K G H es vs b/\Step G H fp G H b:=by
 obtain⟨y,ys,e,v',a,b,e1,e2,r1,r2⟩:=q.rep;cases e;cases e1;subst e2;have nd:=Vp.mp q.nd;exact⟨b,⟨r2,nd.2.1,fun p hp=>q.gn p (UW _ hp),q.gh⟩,Step.cut fun p hp=>UW _ hp⟩
theorem Rel.top(q:Rel K G H (some r::es) (some v::vs) fp):Rep K H r.2 v:=by
 obtain⟨y,ys,e,v',a,b,e1,e2,r1,r2⟩:=q.rep;cases e;cases e1;exact r1.frozen q.gh fun p hp u e=>e
theorem Rel.out(q:Rel K G H es vs fp)(e:es[i]?=some (some r)):∃v fq,vs[i]?=some (some v)/\Rel K G H (some r::es.set i none) (some v::vs) fq/\Step G H fp G H fq/\Step G H fq G H fp:=by
 obtain⟨v,a,b,e1,r1,r2,pm⟩:=q.rep.take e;exact⟨v,a++b,e1,Rel.perm ⟨some v,vs,rfl,v,a,b,rfl,rfl,r1,r2⟩ q.nd q.gn q.gh pm,Step.cut fun p hp=>pm.mem_iff.mpr hp,Step.cut fun p hp=>pm.mem_iff.mp hp⟩
theorem Rel.view(q:Rel K G H es vs fp)(e:es[i]?=some (some r)):∃v,vs[i]?=some (some v)/\Rep K H r.2 v:=by
 obtain⟨v,fq,e1,r1,_⟩:=q.out e;exact⟨v,e1,r1.top⟩
theorem kx{α:Type}{l:List α}{x:α}(h:l[i]?=some x):l.set i x=l:=by
 apply Yp;intro j;by_cases e:i=j
 ·subst e;rw[VU (U0.mp h).1,h]
 ·rw[Xo e]
theorem Rel.store(q:Rel K G H (some r::es) (some v::vs) fp)(hi:i<es.length):∃fq,Rel K G H (es.set i (some r)) (vs.set i (some v)) fq/\Step G H fp G H fq:=by
 obtain⟨y,ys,e,v',a,b,e1,e2,r1,r2⟩:=q.rep;cases e;cases e1;subst e2;obtain⟨c,hc⟩:∃c,es[i]?=some c:=⟨_,UT hi⟩
 have nd:=Vp.mp q.nd;have key:∃b',RepE K G H (es.set i none) vs b'/\(∀p∈b',p∈b)/\b'.Nodup:=by
  cases c with
  |none=>exact⟨b,by rw[kx hc];exact r2,fun _ h=>h,nd.2.1⟩
  |some r'=>
   obtain⟨v2,a2,b2,_,_,g,pm⟩:=r2.take hc;refine⟨b2,g,fun p hp=>pm.mem_iff.mpr (UW _ hp),?_⟩;exact(Vp.mp (pm.nodup_iff.mp nd.2.1)).2.1
 obtain⟨b',g,sub,ndb⟩:=key;obtain⟨fq,g2,pm⟩:=g.put (i:=i) (r:=r) (v:=v) (by rw[VU hi]) r1;rw[WB]at g2;have QK:(a++b').Nodup:=by
  rw[Vp];exact⟨nd.1,ndb,fun p hp z hz=>nd.2.2 p hp z (sub z hz)⟩
 refine⟨fq,Rel.perm g2 QK (fun p hp=>?_) q.gh pm.symm,Step.cut fun p hp=>?_⟩
 ·refine q.gn p ?_;rcases Vs.mp hp with hp|hp
  ·exact UX _ hp
  ·exact UW _ (sub p hp)
 ·rcases Vs.mp (pm.mem_iff.mp hp) with hp|hp
  ·exact UX _ hp
  ·exact UW _ (sub p hp)
theorem Rel.back(q:Rel K G H (some r::es) (some v::vs) fp)(hi:i<es.length)(hv:vs[i]?=some (some v)):∃fq,Rel K G H (es.set i (some r)) vs fq/\Step G H fp G H fq:=by
 obtain⟨fq,g,st⟩:=q.store hi;rw[kx hv]at g;exact⟨fq,g,st⟩
theorem Rel.any{i:Nat}{y:Option V}(q:Rel K G H es vs fp)(h:es[i]?=some none\/es.length<=i):Rel K G H es (vs.set i y) fp:=⟨q.rep.any h,q.nd,q.gn,q.gh⟩
theorem Rel.freezeAt(q:Rel K G H es vs fp)(e:es[i]?=some (some r)):∃v G' fq,vs[i]?=some (some v)/\Rep K G' r.2 v/\Rel K G' H (es.set i (some (.f,r.2))) vs fq/\Step G H fp G' H fq:=by
 obtain⟨v,fq,ev,g,st,_⟩:=q.out e;obtain⟨G',b,rv,g2,JW⟩:=g.freeze;have g3:Rel K G' H (some (.f,r.2)::es.set i none) (some v::vs) b:=by
  refine⟨⟨some v,vs,rfl,v,[],b,rfl,rfl,?_,g2.rep⟩,g2.nd,g2.gn,g2.gh⟩;exact cZ.mpr ⟨rv,rfl⟩
 obtain⟨fz,g4,K2⟩:=g3.back (i:=i) (by rw[VS];exact(U0.mp e).1) ev;rw[WB]at g4;exact⟨v,G',fz,ev,rv,g4,st.trans (JW.trans K2)⟩
theorem Rel.push(q:Rel K G H es vs fp)(r:Rep K G d v):Rel K G H (some (.f,d)::es) (some v::vs) fp:=by
 refine⟨⟨some v,vs,rfl,v,[],fp,rfl,rfl,?_,q.rep⟩,q.nd,q.gn,q.gh⟩;exact cZ.mpr ⟨r,rfl⟩
theorem Rel.newF(q:Rel K G H es vs fp)(hp:H p=none):Rel K (upd G p u) (upd H p u) es vs fp/\Step G H fp (upd G p u) (upd H p u) fp:=by
 have gp:G p=none:=by
  cases e:G p with
  |none=>rfl
  |some o=>rw[q.gh p o e]at hp;cases hp
 have np:p∉fp:=fun z=>by
  obtain⟨u,e⟩:=q.rep.live p z;rw[hp]at e;cases e
 have sg:Same G (upd G p u):=fun b o e=>by rw[ah (aH e gp)];exact e
 have sh:Same H (upd H p u):=fun b o e=>by rw[ah (aH e hp)];exact e
 refine⟨⟨q.rep.step sg fun z hz=>ah fun e=>np (e▸hz),q.nd,fun z hz=>?_,fun b o e=>?_⟩,⟨sg,fun b o e _=>sh b o e,fun _ h=>.inl h,fun b o e=>?_,fun b o e=>⟨o,sh b o e⟩⟩⟩
 ·have:z≠p:=fun e=>np (e▸hz)
  rw[ah this];exact q.gn z hz
 ·by_cases hb:b=p
  ·subst hb;rw[az]at e ⊢;exact e
  ·rw[ah hb]at e ⊢;exact q.gh b o e
 ·by_cases hb:b=p
  ·subst hb;exact .inr (.inr (.inl hp))
  ·rw[ah hb]at e;exact .inl e
theorem Rel.newL(q:Rel K G H es vs fp)(hp:H p=none)(r:Reps K G ds xs):
  Rel K G (upd H p (.lst xs)) (some (.l .f,.lst ds)::es) (some (.ref p)::vs) (p::fp)/\Step G H fp G (upd H p (.lst xs)) (p::fp):=by
 have gp:G p=none:=by
  cases e:G p with
  |none=>rfl
  |some o=>rw[q.gh p o e]at hp;cases hp
 have np:p∉fp:=fun z=>by
  obtain⟨u,e⟩:=q.rep.live p z;rw[hp]at e;cases e
 have sh:Same H (upd H p (.lst xs)):=fun b o e=>by rw[ah (aH e hp)];exact e
 refine⟨⟨⟨some (.ref p),vs,rfl,.ref p,[p],fp,rfl,rfl,fH.mpr ⟨p,xs,rfl,az,rfl,r⟩,q.rep.step (.refl _) fun z hz=>ah fun e=>np (e▸hz)⟩,Vt.mpr ⟨np,q.nd⟩,fun z hz=>?_,fun b o e=>?_⟩,
  ⟨.refl _,fun b o e _=>sh b o e,fun b hb=>?_,fun b o e=>.inl e,fun b o e=>⟨o,sh b o e⟩⟩⟩
 ·rcases U5.mp hz with rfl|hz
  ·exact gp
  ·exact q.gn z hz
 ·exact sh b o (q.gh b o e)
 ·rcases U5.mp hb with rfl|hb
  ·exact .inr hp
  ·exact .inl hb
theorem Rel.chg{ds':List D}(q:Rel K G H es vs fp)(e:es[i]?=some (some (.l .f,.lst ds))):∃p xs,vs[i]?=some (some (.ref p))/\H p=some (.lst xs)/\Reps K G ds xs/\
  ∀K4,Reps K G ds' K4->∃fq,Rel K G (upd H p (.lst K4)) (es.set i (some (.l .f,.lst ds'))) vs fq/\Step G H fp G (upd H p (.lst K4)) fq:=by
 obtain⟨v,fq,ev,g,st,Lm⟩:=q.out e;obtain⟨y,ys,e0,v',a,b,e1,e2,r1,r2⟩:=g.rep;cases e0;cases e1;obtain⟨p,xs,e3,hp,e4,rs⟩:=fH.mp r1;subst e3;subst e4;subst e2;have nd:=Vt.mp (show(p::b).Nodup from g.nd);refine⟨p,xs,ev,hp,rs,fun K4 La=>?_⟩;have g2:Rel K G (upd H p (.lst K4)) (some (.l .f,.lst ds')::es.set i none) (some (.ref p)::vs) (p::b):=by
  refine⟨⟨some (.ref p),vs,rfl,.ref p,[p],b,rfl,rfl,fH.mpr ⟨p,K4,rfl,az,rfl,La⟩,r2.step (.refl _) fun z hz=>ah fun e=>nd.1 (e▸hz)⟩,g.nd,g.gn,fun z o ez=>?_⟩;have:z≠p:=fun w=>by
   subst w;rw[g.gn z UR]at ez;cases ez
  rw[ah this];exact g.gh z o ez
 have QL:Step G H (p::b) G (upd H p (.lst K4)) (p::b):=by
  refine⟨.refl _,fun z o ez nz=>?_,fun z hz=>.inl hz,fun z o ez=>.inl ez,fun z o ez=>?_⟩
  ·have:z≠p:=fun w=>nz (by rw[w];exact UR)
   rw[ah this];exact ez
  ·by_cases w:z=p
   ·subst w;exact⟨_,az⟩
   ·exact⟨o,by rw[ah w];exact ez⟩
 obtain⟨fz,g3,Kq⟩:=g2.back (i:=i) (by rw[VS];exact(U0.mp e).1) ev;rw[WB]at g3;exact⟨fz,g3,st.trans (QL.trans Kq)⟩
end
mutual
noncomputable def flatD:D->Bool
 | .tup ds=>flatDs ds
 | .lst _=>false
 | .dct _ _ _=>false
 |_=>true
noncomputable def flatDs:List D->Bool
 |[]=>true
 |d::ds=>flatD d&&flatDs ds
end
mutual
noncomputable def aw:O->D->Bool
 | .f,d=>flatD d
 | .l c,.lst ds=>ds.all (aw c)
 | .t cs,.tup ds=>l7 cs ds
 | .d,.dct _ _ vs=>flatDs vs
 | .pin _ c,d=>aw c d
 |_,_=>false
noncomputable def l7:List O->List D->Bool
 |[],[]=>true
 |c::cs,d::ds=>aw c d&&l7 cs ds
 |_,_=>false
end
noncomputable def frz:Option R->Option R:=Option.map fun r=>(.f,r.2)
theorem bz:∀ds,flatDs ds=ds.all flatD
 |[]=>rfl
 |d::ds=>by rw[flatDs,WT,bz ds]
section
variable{G G' G2 G3 H H' H2:Hp}
mutual
theorem Rep.flat(h:∀p u,isT u=true->G2 p=some u->G3 p=some u):∀{d:D}{v:V},flatD d=true->Rep K G2 d v->Rep K G3 d v
 | .non,_,_,r=>by simpa only[Rep] using r
 | .bl _,_,_,r=>by simpa only[Rep] using r
 | .int _,_,_,r=>by simpa only[Rep] using r
 | .str _,_,_,r=>by simpa only[Rep] using r
 | .tup ds,_,e,r=>by
  simp only[Rep]at r ⊢;simp only[flatD]at e;obtain⟨p,xs,ev,q,rs⟩:=r;exact⟨p,xs,ev,h _ _ rfl q,Reps.flat h e rs⟩
 | .lst ds,_,e,r=>by simp only[flatD]at e;cases e
 | .dct _ _ _,_,e,r=>by simp only[flatD]at e;cases e
theorem Reps.flat(h:∀p u,isT u=true->G2 p=some u->G3 p=some u):∀{ds:List D}{xs:List V},flatDs ds=true->Reps K G2 ds xs->Reps K G3 ds xs
 |[],_,_,r=>by simpa only[Reps] using r
 |d::ds,_,e,r=>by
  simp only[Reps]at r ⊢;simp only[flatDs,U4]at e;obtain⟨y,ys,ev,r1,r2⟩:=r;exact⟨y,ys,ev,Rep.flat h e.1 r1,Reps.flat h e.2 r2⟩
end
theorem AllO.clean{P P':D->V->List Addr->Prop}{c:D->Bool}:∀{ds:List D}{xs:List V}{fp:List Addr},(∀d v a,c d=true->P d v a->P' d v a)->ds.all c=true->AllO P ds xs fp->AllO P' ds xs fp
 |[],_,_,_,_,r=>r
 |d::ds,xs,fp,h,e,r=>by
  obtain⟨y,ys,a,b,e1,e2,p,q⟩:=r;rw[WT,U4]at e;exact⟨y,ys,a,b,e1,e2,h _ _ _ e.1 p,AllO.clean h e.2 q⟩
mutual
theorem RepO.clean(h:∀p u,isT u=true->G2 p=some u->G3 p=some u):∀{o:O}{d:D}{v:V}{fp:List Addr},aw o d=true->RepO K G2 H o d v fp->RepO K G3 H o d v fp
 | .f,d,v,fp,e,r=>by
  simp only[RepO]at r ⊢;simp only[aw]at e;exact⟨r.1.flat h e,r.2⟩
 | .pin p c,d,v,fp,e,r=>by
  simp only[RepO]at r ⊢;simp only[aw]at e;exact⟨r.1,RepO.clean h e r.2⟩
 | .l c,.lst ds,v,fp,e,r=>by
  rw[RepO]at r ⊢;rw[aw]at e;obtain⟨p,xs,JU,ev,q,e2,a⟩:=r;exact⟨p,xs,JU,ev,q,e2,AllO.clean (fun d v a=>RepO.clean h) e a⟩
 | .t cs,.tup ds,v,fp,e,r=>by
  rw[RepO]at r ⊢;rw[aw]at e;obtain⟨p,xs,ev,q,a⟩:=r;exact⟨p,xs,ev,h _ _ rfl q,RepT.clean h e a⟩
 | .d,.dct tk ks vs,v,fp,e,r=>by
  rw[RepO]at r ⊢;rw[aw]at e;obtain⟨p,xs,o,ev,q,dd,e2,rs⟩:=r;exact⟨p,xs,o,ev,q,dd,e2,rs.flat h e⟩
 | .l _,.non,_,_,_,r | .l _,.bl _,_,_,_,r | .l _,.int _,_,_,_,r | .l _,.str _,_,_,_,r | .l _,.tup _,_,_,_,r | .l _,.dct _ _ _,_,_,_,r=>by simp only[RepO]at r
 | .t _,.non,_,_,_,r | .t _,.bl _,_,_,_,r | .t _,.int _,_,_,_,r | .t _,.str _,_,_,_,r | .t _,.lst _,_,_,_,r | .t _,.dct _ _ _,_,_,_,r=>by simp only[RepO]at r
 | .d,.non,_,_,_,r | .d,.bl _,_,_,_,r | .d,.int _,_,_,_,r | .d,.str _,_,_,_,r | .d,.tup _,_,_,_,r | .d,.lst _,_,_,_,r=>by simp only[RepO]at r
theorem RepT.clean(h:∀p u,isT u=true->G2 p=some u->G3 p=some u):∀{cs:List O}{ds:List D}{xs:List V}{fp:List Addr},l7 cs ds=true->RepT K G2 H cs ds xs fp->RepT K G3 H cs ds xs fp
 |[],[],_,_,_,r=>by simpa only[RepT] using r
 |c::cs,d::ds,xs,fp,e,r=>by
  rw[RepT]at r ⊢;rw[l7,U4]at e;obtain⟨y,ys,a,b,e1,e2,r1,r2⟩:=r;exact⟨y,ys,a,b,e1,e2,RepO.clean h e.1 r1,RepT.clean h e.2 r2⟩
 |[],_::_,_,_,_,r=>by simp only[RepT]at r
 |_::_,[],_,_,_,r=>by simp only[RepT]at r
end
theorem RepE.frz(h:Same G G'):∀{es:Env}{vs:List (Option V)}{fp:List Addr},(∀p∈fp,∀u,H p=some u->G' p=some u)->RepE K G H es vs fp->RepE K G' H' (es.map PV.frz) vs []
 |[],_,_,_,r=>⟨r.1,rfl⟩
 |none::es,vs,fp,hk,r=>by
  obtain⟨y,ys,e,r⟩:=r;exact⟨y,ys,e,RepE.frz h hk r⟩
 |some r::es,vs,fp,hk,q=>by
  obtain⟨y,ys,e,v,a,b,e1,e2,r1,r2⟩:=q;subst e2;exact⟨y,ys,e,v,[],[],e1,rfl,cZ.mpr ⟨r1.frozen h (fun p hp=>hk p (UX _ hp)),rfl⟩,RepE.frz h (fun p hp=>hk p (UW _ hp)) r2⟩
theorem RepE.rep(h:Same G G'):∀{es:Env}{vs:List (Option V)}{fp:List Addr}{i:Nat}{r:R}{v:V},(∀p∈fp,∀u,H p=some u->G' p=some u)->RepE K G H es vs fp->es[i]?=some (some r)->vs[i]?=some (some v)->Rep K G' r.2 v:=fun{es vs fp i r v} hk q e ev=>by
 obtain⟨v',a,b,e1,r1,_,pm⟩:=q.take e;rw[ev]at e1;cases e1;exact r1.frozen h fun p hp=>hk p (pm.mem_iff.mpr (UX _ hp))
theorem Rel.lend(q:Rel K G H es vs fp):∃G1,Same G G1/\Same G1 H/\(∀(i:Nat) (r:R) (v:V),es[i]?=some (some r)->vs[i]?=some (some v)->Rep K G1 r.2 v)/\
  RepE K G1 H (es.map PV.frz) vs []/\
  ∀(H2 G2:Hp) (Kt:List Addr) (r:R) (v:V),Step G1 H [] G2 H2 Kt->Rel K G2 H2 [some r] [some v] Kt->
   (aw r.1 r.2=true->∃G3 K7,Step G H fp G3 H2 K7/\Rel K G3 H2 (some r::es) (some v::vs) K7)/\
   ∃G3 K7,Step G H fp G3 H2 K7/\Rel K G3 H2 (some r::es.map PV.frz) (some v::vs) K7:=by
 have hg:Same G (fun p=>if p∈fp then H p else G p):=fun p u e=>by
  show(if p∈fp then H p else G p)=some u;by_cases hp:p∈fp
  ·rw[U2 hp];exact q.gh p u e
  ·rw[U6 hp];exact e
 have hh:Same (fun p=>if p∈fp then H p else G p) H:=fun p u e=>by
  have e:(if p∈fp then H p else G p)=some u:=e;by_cases hp:p∈fp
  ·rw[U2 hp]at e;exact e
  ·rw[U6 hp]at e;exact q.gh p u e
 have hk:∀p∈fp,∀u,H p=some u->(fun p=>if p∈fp then H p else G p) p=some u:=fun p hp u e=>by
  show(if p∈fp then H p else G p)=some u;rw[U2 hp];exact e
 refine⟨fun p=>if p∈fp then H p else G p,hg,hh,fun i r v e ev=>q.rep.rep hg hk e ev,q.rep.frz hg hk,fun H2 G2 Kt r v st k=>?_⟩;obtain⟨y,ys,e0,v',a,b,e1,e2,r1,r2⟩:=k.rep;cases e0;cases e1;obtain⟨_,e3⟩:=r2;subst e3;rw[Vm]at e2;subst e2;have fresh:∀p∈Kt,H p=none:=fun p hp=>by
  rcases st.fpn p hp with z|z
  ·cases z
  ·exact z
 have kept:∀p∈fp,H2 p=H p:=fun p hp=>by
  obtain⟨u,hu⟩:=q.rep.live p hp;rw[hu];exact st.keep p u hu (by simp)
 refine⟨fun cl=>?_,⟨G2,Kt,⟨hg.trans st.gg,fun p u e n=>st.keep p u e (by simp),fun p hp=>.inr (fresh p hp),fun p u e=>?_,st.there⟩,?_⟩⟩
 ·have apart:∀p∈Kt,p∉fp:=fun p hp hf=>by
   obtain⟨u,hu⟩:=q.rep.live p hf;rw[fresh p hp]at hu;cases hu
  have g3:Same G (fun p=>if p∈fp then none else G2 p):=fun p u e=>by
   show(if p∈fp then none else G2 p)=some u;rw[U6 (fun z=>by rw[q.gn p z]at e;cases e)];exact st.gg p u (hg p u e)
  refine⟨fun p=>if p∈fp then none else G2 p,Kt++fp,⟨g3,fun p u e n=>st.keep p u e (by simp),fun p hp=>?_,fun p u e=>?_,st.there⟩,⟨⟨some v,vs,rfl,v,Kt,fp,rfl,rfl,r1.clean (fun p u t e=>?_) cl,q.rep.step g3 kept⟩,?_,fun p hp=>?_,fun p u e=>?_⟩⟩
  ·rcases Vs.mp hp with hp|hp
   ·exact .inr (fresh p hp)
   ·exact .inl hp
  ·have e:(if p∈fp then none else G2 p)=some u:=e;by_cases hp:p∈fp
   ·rw[U2 hp]at e;cases e
   ·rw[U6 hp]at e;rcases st.gnew p u e with z|z|z
    ·have z:(if p∈fp then H p else G p)=some u:=z;rw[U6 hp]at z;exact .inl z
    ·cases z
    ·exact .inr (.inr z)
  ·show(if p∈fp then none else G2 p)=some u;by_cases hp:p∈fp
   ·exfalso;obtain⟨u',hu,hm⟩:=q.rep.mut p hp;have:=st.gg p u' (hk p hp u' hu);rw[e]at this;cases this;cases u with
    |lst _=>cases t
    |dK _=>cases t
    |dT _=>cases t
    |_=>cases hm
   ·rw[U6 hp];exact e
  ·rw[Vp];exact⟨k.nd,q.nd,fun p hp z hz e=>apart p hp (e▸hz)⟩
  ·show(if p∈fp then none else G2 p)=none;by_cases hf:p∈fp
   ·rw[U2 hf]
   ·rw[U6 hf];rcases Vs.mp hp with hp|hp
    ·exact k.gn p hp
    ·exact absurd hp hf
  ·have e:(if p∈fp then none else G2 p)=some u:=e;by_cases hp:p∈fp
   ·rw[U2 hp]at e;cases e
   ·rw[U6 hp]at e;exact k.gh p u e
 ·rcases st.gnew p u e with z|z|z
  ·have z:(if p∈fp then H p else G p)=some u:=z;by_cases hp:p∈fp
   ·exact .inr (.inl hp)
   ·rw[U6 hp]at z;exact .inl z
  ·cases z
  ·exact .inr (.inr z)
 ·refine⟨⟨some v,vs,rfl,v,Kt,[],rfl,(Vm _).symm,r1,q.rep.frz (hg.trans st.gg) fun p hp u e=>st.gg p u (hk p hp u e)⟩,k.nd,k.gn,k.gh⟩
end
end PV
open PySem PySem.Spec PyProof.Rows L2 NX
namespace PV
noncomputable def Res.bind{α β:Type}:Res α->(α->Res β)->Res β
 | .ok a,f=>f a
 | .exc c,_=>.exc c
 | .bad,_=>.bad
inductive BindOk{α β:Type}(x:Res α)(f:α->Res β)(b:β):Prop
 |mk (a:α) (h:x=.ok a) (k:f a=.ok b):BindOk x f b
variable{α:Type}
theorem ae{β:Type}{x:Res α}{f:α->Res β}{b:β}(h:x.bind f=.ok b):BindOk x f b:=by
 cases x with
 |ok a=>exact⟨a,rfl,h⟩
 |exc c=>cases h
 |bad=>cases h
inductive Opd where
 |val (d:D)|var (i:Nat)
def OpdOk(K:W.Frag)(G:Hp)(σ:L2.St):Opd->V->Prop
 | .val d,v=>Rep K G d v
 | .var i,v=>σ[i]?=some (some v)
theorem OpdOk.mono{K:W.Frag}{G G':Hp}{σ:L2.St}{o:Opd}{v:V}(h:Same G G')(r:OpdOk K G σ o v):OpdOk K G' σ o v:=by
 cases o with
 |val d=>exact Rep.mono h r
 |var i=>exact r
def i7(K:W.Frag)(G:Hp)(σ:L2.St):List Opd->List V->Prop
 |[],vs=>vs=[]
 |o::os,vs=>∃y ys,vs=y::ys/\OpdOk K G σ o y/\i7 K G σ os ys
noncomputable def wU:O->Bool
 | .f=>true
 | .l .f=>true
 | .d=>true
 | .pin _ .f=>true
 | .pin _ (.l .f)=>true
 | .pin _ .d=>true
 |_=>false
def K5(env:PV.Env):Opd->Res D
 | .val d=>.ok d
 | .var i=>match env[i]? with
  |some (some r)=>if wU r.1 then .ok r.2 else .bad
  |_=>.bad
noncomputable def nG(env:PV.Env):Opd->Res D
 | .val d=>.ok d
 | .var i=>match env[i]? with
  |some (some r)=>.ok r.2
  |_=>.bad
def l8(env:PV.Env):List Opd->Res (List D)
 |[]=>.ok []
 |o::os=>(K5 env o).bind fun d=>(l8 env os).bind fun ds=>.ok (d::ds)
def eZ(env:PV.Env):List Opd->Res (List D)
 |[]=>.ok []
 |o::os=>(nG env o).bind fun d=>(eZ env os).bind fun ds=>.ok (d::ds)
def Vw(K:W.Frag)(G H:Hp):D->V->Prop
 | .lst ds,v=>∃p xs,v=.ref p/\SqL K H p xs/\Reps K G ds xs
 | .dct tk ks vs,v=>∃p xs o,v=.ref p/\Rd H p o/\DictO o tk ks xs/\Reps K G vs xs
 |d,v=>Rep K G d v
def OC(K:W.Frag)(G H:Hp):List D->List V->Prop
 |[],vs=>vs=[]
 |d::ds,vs=>∃y ys,vs=y::ys/\Vw K G H d y/\OC K G H ds ys
variable{K:W.Frag}{G H:Hp}{σ:L2.St}{a fp:List Addr}{d:D}{v:V}
section
variable{G' H':Hp}{es:PV.Env}
theorem Vw.of(gh:Same G H)(r:Rep K G d v):Vw K G H d v:=by
 cases d with
 |lst ds=>
  rw[Rep]at r;obtain⟨p,xs,e,q,rs⟩:=r;exact⟨p,xs,e,eG gh q,rs⟩
 |dct tk ks vs=>
  rw[Rep]at r;obtain⟨p,xs,o,e,q,dd,rs⟩:=r;exact⟨p,xs,o,e,PV.Rd.mono gh q,dd,rs⟩
 |_=>exact r
theorem Vw.rep(gh:Same G H)(r:Vw K G H d v):Rep K H d v:=by
 cases d with
 |lst ds=>
  obtain⟨p,xs,e,q,rs⟩:=r;rw[Rep];exact⟨p,xs,e,q,rs.mono gh⟩
 |dct tk ks vs=>
  obtain⟨p,xs,o,e,q,dd,rs⟩:=r;rw[Rep];exact⟨p,xs,o,e,q,dd,rs.mono gh⟩
 |non=>exact Rep.mono gh r
 |bl b=>exact Rep.mono gh r
 |int i=>exact Rep.mono gh r
 |str l=>exact Rep.mono gh r
 |tup ds=>exact Rep.mono gh r
theorem RepO.vw0{o:O}(gh:Same G H)(hs:o=.f\/o=.l .f\/o=.d)(r:RepO K G H o d v a):Vw K G H d v:=by
 rcases hs with rfl|rfl|rfl
 ·exact Vw.of gh (cZ.mp r).1
 ·cases d with
  |lst ds=>
   obtain⟨p,xs,e,q,_,rs⟩:=fH.mp r;exact⟨p,xs,e,SqL.of q,rs⟩
  |_=>simp only[RepO]at r
 ·cases d with
  |dct tk ks vs=>
   rw[RepO]at r;obtain⟨p,xs,o,e,q,dd,_,rs⟩:=r;exact⟨p,xs,o,e,.inl q,dd,rs⟩
  |_=>simp only[RepO]at r
theorem RepO.vw{o:O}(gh:Same G H)(hs:wU o=true)(r:RepO K G H o d v a):Vw K G H d v:=by
 unfold wU at hs;split at hs
 ·exact r.vw0 gh (.inl rfl)
 ·exact r.vw0 gh (.inr (.inl rfl))
 ·exact r.vw0 gh (.inr (.inr rfl))
 ·rw[RepO]at r;exact r.2.vw0 gh (.inl rfl)
 ·rw[RepO]at r;exact r.2.vw0 gh (.inr (.inl rfl))
 ·rw[RepO]at r;exact r.2.vw0 gh (.inr (.inr rfl))
 ·cases hs
theorem Rel.vw{o:Opd}{v:V}{d:D}(q:Rel K G H es σ fp)(k:OpdOk K G σ o v)(e:K5 es o=.ok d):Vw K G H d v:=by
 cases o with
 |val d'=>
  cases e;exact Vw.of q.gh k
 |var i=>
  unfold K5 at e;dsimp only at e;split at e
  ·rename_i r hr;split at e
   ·rename_i hs;cases e;obtain⟨v',a,b,ev,r1,_⟩:=q.rep.take hr;have k:σ[i]?=some (some v):=k;rw[k]at ev;cases ev;exact r1.vw q.gh hs
   ·cases e
  ·cases e
theorem Rel.vwA{o:Opd}(q:Rel K G H es σ fp)(k:OpdOk K G σ o v)(e:nG es o=.ok d):Rep K H d v:=by
 cases o with
 |val d'=>
  cases e;exact Rep.mono q.gh k
 |var i=>
  unfold nG at e;dsimp only at e;split at e
  ·rename_i r hr;cases e;obtain⟨v',ev,r1⟩:=q.view hr;have k:σ[i]?=some (some v):=k;rw[k]at ev;cases ev;exact r1
  ·cases e
theorem Rel.vws(q:Rel K G H es σ fp):∀{os:List Opd}{vs:List V}{ds:List D},i7 K G σ os vs->l8 es os=.ok ds->OC K G H ds vs
 |[],_,_,k,e=>by
  cases e;exact k
 |o::os,_,_,⟨y,ys,e0,k1,k2⟩,e=>by
  unfold l8 at e;obtain⟨d,e1,e⟩:=ae e;obtain⟨ds,e2,e⟩:=ae e;cases e;exact⟨y,ys,e0,q.vw k1 e1,Rel.vws q k2 e2⟩
theorem c5{G1:Hp}(gg:Same G G1)(ht:∀(i:Nat) (r:R) (v:V),es[i]?=some (some r)->σ[i]?=some (some v)->Rep K G1 r.2 v):∀{os:List Opd}{vs:List V}{ds:List D},i7 K G σ os vs->eZ es os=.ok ds->Reps K G1 ds vs
 |[],_,_,k,e=>by
  cases e;have k:_=_:=k;rw[k];exact Reps.nil
 |o::os,_,_,⟨y,ys,e0,k1,k2⟩,e=>by
  unfold eZ at e;obtain⟨d,e1,e⟩:=ae e;obtain⟨ds,e2,e⟩:=ae e;cases e;rw[e0];refine .cons ?_ (c5 gg ht k2 e2);cases o with
  |val d'=>
   cases e1;exact Rep.mono gg k1
  |var i=>
   unfold nG at e1;dsimp only at e1;split at e1
   ·rename_i r hr;cases e1;exact ht i r y hr k1
   ·cases e1
end
abbrev FX:=PV.Env->Res (R×PV.Env)
abbrev FO:=PV.Env->Res (Opd×PV.Env)
abbrev FOs:=PV.Env->Res (List Opd×PV.Env)
abbrev FT:=PV.Env->Res (Bool×PV.Env)
inductive Out where
 |nx (env:PV.Env)|rt (r:R)|bk (env:PV.Env)|ct (env:PV.Env)
abbrev FS:=PV.Env->Res Out
inductive tQ(K:W.Frag)(f:FX)(σ:L2.St)(H:Hp)(Q:VK):Prop
 |mk:∀G env fp r env',Rel K G H env σ fp->f env=.ok (r,env')->(∀v H' G' JU,Step G H fp G' H' JU->Rel K G' H' (some r::env') (some v::σ) JU->Q v H')->tQ K f σ H Q
inductive tO(K:W.Frag)(f:FO)(σ:L2.St)(H:Hp)(Q:VK):Prop
 |mk:∀G env fp o env',Rel K G H env σ fp->f env=.ok (o,env')->(∀v H' G' JU,Step G H fp G' H' JU->Rel K G' H' env' σ JU->OpdOk K G' σ o v->Q v H')->tO K f σ H Q
inductive tOs(K:W.Frag)(f:FOs)(σ:L2.St)(H:Hp)(Q:List V->Hp->Prop):Prop
 |mk:∀G env fp o env',Rel K G H env σ fp->f env=.ok (o,env')->(∀v H' G' JU,Step G H fp G' H' JU->Rel K G' H' env' σ JU->i7 K G' σ o v->Q v H')->tOs K f σ H Q
inductive tQT(K:W.Frag)(f:FT)(σ:L2.St)(H:Hp)(Q:Bool->Hp->Prop):Prop
 |mk:∀G env fp b env',Rel K G H env σ fp->f env=.ok (b,env')->(∀H' G' JU,Step G H fp G' H' JU->Rel K G' H' env' σ JU->Q b H')->tQT K f σ H Q
inductive Mode where
 |plain|mut
def IB(md:Mode)(K:W.Frag)(G H:Hp)(r:R)(v:V)(fp:List Addr):Prop:=match md with
 | .plain=>Rel K G H [some r] [some v] fp
 | .mut=>∃o d p c d0,r=(.t [o,.pin p c],.tup [d,d0])/\Rel K G H [some (o,d),some (.pin p c,d0)] [some v,some (.ref p)] fp
noncomputable def OutOk{md:Mode}(K:W.Frag)(G H:Hp)(fp:List Addr)(Dd:Ends):Res Out->Prop
 | .ok (.nx env')=>∀σ' H' G' JU,Step G H fp G' H' JU->Rel K G' H' env' σ' JU->Dd.nx σ' H'
 | .ok (.bk env')=>∀σ' H' G' JU,Step G H fp G' H' JU->Rel K G' H' env' σ' JU->Dd.bk σ' H'
 | .ok (.ct env')=>∀σ' H' G' JU,Step G H fp G' H' JU->Rel K G' H' env' σ' JU->Dd.ct σ' H'
 | .ok (.rt r)=>∀v H' G' JU,Step G H fp G' H' JU->IB md K G' H' r v JU->Dd.rt v H'
 |_=>False
inductive tQS{md:Mode}(K:W.Frag)(g:FS)(Dd:Ends)(σ:L2.St)(H:Hp):Prop
 |mk:∀G env fp,Rel K G H env σ fp->OutOk (md:=md) K G H fp Dd (g env)->tQS (md:=md) K g Dd σ H
def QE(X:Cx)(e:Expr)(f:FX):Prop:=PE X e (tQ X.K f)
def QO(X:Cx)(e:Expr)(f:FO):Prop:=PE X e (tO X.K f)
def QOs(X:Cx)(es:List Expr)(f:FOs):Prop:=PA X es (tOs X.K f)
def QT(X:Cx)(e:Expr)(f:FT):Prop:=PT X e (tQT X.K f)
def QW(X:Cx)(e:Expr)(f:FT):Prop:=PW X e (tQT X.K f)
def QS{md:Mode}(X:Cx)(st:Stmt)(g:FS):Prop:=PS X st (tQS (md:=md) X.K g)
def QSs{md:Mode}(X:Cx)(st:List Stmt)(g:FS):Prop:=PSs X st (tQS (md:=md) X.K g)
variable{X:Cx}{e:Expr}
theorem aJ{t t':TE}(h:PE X e t)(k:∀σ H Q,t' σ H Q->t σ H Q):PE X e t':=fun pr s σ H Q I w=>h pr s σ H Q I (k σ H Q w)
theorem i8{t t':TT}(h:PT X e t)(k:∀σ H Q,t' σ H Q->t σ H Q):PT X e t':=fun pr s σ H Q I w=>h pr s σ H Q I (k σ H Q w)
theorem tw{t t':TT}(h:PW X e t)(k:∀σ H Q,t' σ H Q->t σ H Q):PW X e t':=fun wh pr s σ H Q I w=>h wh pr s σ H Q I (k σ H Q w)
theorem px{e:List Expr}{t t':TA}(h:PA X e t)(k:∀σ H Q,t' σ H Q->t σ H Q):PA X e t':=fun pos pr s σ H Q I w=>h pos pr s σ H Q I (k σ H Q w)
theorem dE{e:Stmt}{t t':TS}(h:PS X e t)(k:∀D σ H,t' D σ H->t D σ H):PS X e t':=fun pr s σ H D I w=>h pr s σ H D I (k D σ H w)
theorem ky{e:List Stmt}{t t':TS}(h:PSs X e t)(k:∀D σ H,t' D σ H->t D σ H):PSs X e t':=fun pr s σ H D I w=>h pr s σ H D I (k D σ H w)
variable{md:Mode}
theorem OutOk.imp{K:W.Frag}{G1 H1:Hp}{Ke:List Addr}{Dd QM:Ends}{r:Res Out}(st:Step G H fp G1 H1 Ke)(h:OutOk (md:=md) K G H fp Dd r)(n:∀σ H,Dd.nx σ H->QM.nx σ H)(b:∀σ H,Dd.bk σ H->QM.bk σ H)(c:∀σ H,Dd.ct σ H->QM.ct σ H)(t:∀v H,Dd.rt v H->QM.rt v H):OutOk (md:=md) K G1 H1 Ke QM r:=by
 match r,h with
 | .ok (.nx env'),h=>exact fun σ' H' G' JU s q=>n _ _ (h σ' H' G' JU (st.trans s) q)
 | .ok (.bk env'),h=>exact fun σ' H' G' JU s q=>b _ _ (h σ' H' G' JU (st.trans s) q)
 | .ok (.ct env'),h=>exact fun σ' H' G' JU s q=>c _ _ (h σ' H' G' JU (st.trans s) q)
 | .ok (.rt r),h=>exact fun v H' G' JU s q=>t _ _ (h v H' G' JU (st.trans s) q)
theorem OutOk.after{K:W.Frag}{G1 H1:Hp}{Ke:List Addr}{Dd:Ends}{r:Res Out}(st:Step G H fp G1 H1 Ke)(h:OutOk (md:=md) K G H fp Dd r):OutOk (md:=md) K G1 H1 Ke Dd r:=h.imp st (fun _ _ z=>z) (fun _ _ z=>z) (fun _ _ z=>z) fun _ _ z=>z
noncomputable def av(d:D):FX:=fun env=>.ok ((.f,d),env)
noncomputable def fz:O->O
 | .pin p .f=>.pin p .f
 |_=>.f
def ay(i:Nat):FX:=fun env=>match env[i]? with
 |some (some r)=>.ok ((.f,r.2),env.set i (some (fz r.1,r.2)))
 |_=>.bad
noncomputable def jH(i:Nat):FX:=fun env=>match env[i]? with
 |some (some r)=>.ok (r,env.set i none)
 |_=>.bad
def aa(f:FX):FO:=fun env=>(f env).bind fun p=>.ok (.val p.1.2,p.2)
noncomputable def oVar(i:Nat):FO:=fun env=>match env[i]? with
 |some (some _)=>.ok (.var i,env)
 |_=>.bad
noncomputable def osNil:FOs:=fun env=>.ok ([],env)
def osCons(f:FO)(g:FOs):FOs:=fun env=>(f env).bind fun p=>(g p.2).bind fun q=>.ok (p.1::q.1,q.2)
variable{es:List Expr}{l:List D}{i:Nat}{f:FX}{fa:FO}{Q:VK}{gg:List D->Res R}{x:Str}{T:String}
section
theorem pA(h:PE X e (tC v))(r:∀G,Rep X.K G d v):QE X e (av d):=aJ h fun σ H Q J2=>by
 obtain⟨G,env,fp,rr,env',rel,e,k⟩:=J2;cases e;exact k v H G fp .refl (rel.push (r G))
theorem tF{i j pos}:QE X (.Constant (.int i) j pos) (av (.int i)):=pA yg fun G=>by rw[Rep]
theorem Hf{i j pos}:QE X (.Constant (.bool i) j pos) (av (.bl i)):=pA Gy fun G=>by rw[Rep]
theorem DQ{j pos}:QE X (.Constant .none j pos) (av .non):=pA yh fun G=>by rw[Rep]
theorem tG{x j pos}{l:List Nat}(h:x=S l)(hl:l.length<=1000):QE X (.Constant (.str x) j pos) (av (.str l)):=pA yi fun G=>by
 rw[Rep,h];exact⟨rfl,by rw[line_eq];lia⟩
theorem AG(h:PE X e (nK i)):QE X e (ay i):=aJ h fun σ H Q J2=>by
 obtain⟨G,env,fp,rr,env',rel,e,k⟩:=J2;unfold ay at e;split at e
 ·rename_i r hr;cases e;by_cases hf:fz r.1=.f
  ·obtain⟨v,G',fq,ev,rv,Kl,st⟩:=rel.freezeAt hr;rw[hf]at k;exact⟨v,ev,k v H G' fq st (Kl.push rv)⟩
  ·have hp:∃p,r.1=.pin p .f:=by
    unfold fz at hf;split at hf
    ·rename_i p hp;exact⟨p,hp⟩
    ·exact absurd rfl hf
   obtain⟨p,hp⟩:=hp;obtain⟨v,a,b,ev,r1,_,_⟩:=rel.rep.take hr;rw[hp,RepO]at r1;have es:env.set i (some (fz r.1,r.2))=env:=by
    refine kx ?_;rw[hr,hp];show some (some r)=some (some (.pin p .f,r.2));rw[<-hp]
   rw[es]at k;exact⟨v,ev,k v H G fp .refl (rel.push (cZ.mp r1.2).1)⟩
 ·cases e
theorem AH(h:PE X e (nK i)):QE X e (jH i):=aJ h fun σ H Q J2=>by
 obtain⟨G,env,fp,rr,env',rel,e,k⟩:=J2;unfold jH at e;split at e
 ·rename_i r hr;cases e;obtain⟨v,fq,ev,Kl,st,_⟩:=rel.out hr;exact⟨v,ev,k v H G fq st Kl⟩
 ·cases e
theorem i9(h:QE X e f):QO X e (aa f):=aJ h fun σ H Q J2=>by
 obtain⟨G,env,fp,o,env',rel,e,k⟩:=J2;obtain⟨⟨r,JP⟩,e1,e⟩:=ae e;cases e;refine⟨G,env,fp,r,JP,rel,e1,fun v H' G' JU st Kl=>?_⟩;obtain⟨G2,b,rv,JR,JW⟩:=Kl.freeze;exact k v H' G2 b (st.trans JW) JR rv
theorem f7(h:PE X e (nK i)):QO X e (oVar i):=aJ h fun σ H Q J2=>by
 obtain⟨G,env,fp,o,env',rel,e,k⟩:=J2;unfold oVar at e;split at e
 ·rename_i r hr;cases e;obtain⟨v,ev,_⟩:=rel.view hr;exact⟨v,ev,k v H G fp .refl rel ev⟩
 ·cases e
theorem fJ:QOs X [] osNil:=px dN fun σ H Q J2=>by
 obtain⟨G,env,fp,o,env',rel,e,k⟩:=J2;cases e;exact k [] H G fp .refl rel rfl
theorem bX{f:FO}{g:FOs}(h:QO X e f)(hs:QOs X es g)(Lz:starEach (e::es) X.env=(false,eval e X.env)::starEach es X.env:=by rfl):QOs X (e::es) (osCons f g):=
 px (a9 h hs Lz) fun σ H Q J2=>by
  obtain⟨G,env,fp,o,env',rel,e,k⟩:=J2;obtain⟨⟨o1,JP⟩,e1,e⟩:=ae e;obtain⟨⟨os,J4⟩,e2,e⟩:=ae e;cases e;exact⟨G,env,fp,o1,JP,rel,e1,fun v H1 G1 Ke J8 JQ KP=>⟨G1,JP,Ke,os,J4,JQ,e2,fun vs H2 G2 Kt JW JR MH=>k _ H2 G2 Kt (J8.trans JW) JR ⟨v,vs,rfl,KP.mono JW.gg,MH⟩⟩⟩
def ao(g:D->D->Res R)(fa fb:FO):FX:=fun env=>(fa env).bind fun p=>(fb p.2).bind fun q=>(K5 q.2 p.1).bind fun a=>(K5 q.2 q.1).bind fun b=>(g a b).bind fun r=>.ok (r,q.2)
def aT(g:D->D->Res R)(fa fb:FO):FX:=fun env=>(fa env).bind fun p=>(fb p.2).bind fun q=>(nG q.2 p.1).bind fun a=>(nG q.2 q.1).bind fun b=>(g a b).bind fun r=>.ok (r,q.2)
structure Goes(K:W.Frag)(H:Hp)(G:Hp)(fp:List Addr)(es:PV.Env)(vs:L2.St)(r:R)(Q:VK):Prop where
 rel:Rel K G H es vs fp
 gK:∀v H' G' JU,Step G H fp G' H' JU->Rel K G' H' (some r::es) (some v::vs) JU->Q v H'
inductive rG(K:W.Frag)(g:D->D->Res R)(x:V)(y:V)(H:Hp)(Q:VK):Prop
 |mk:∀G fp es vs a b r,Goes K H G fp es vs r Q->Vw K G H a x->Vw K G H b y->g a b=.ok r->rG K g x y H Q
inductive rGA(K:W.Frag)(g:D->D->Res R)(x:V)(y:V)(H:Hp)(Q:VK):Prop
 |mk:∀G fp es vs a b r,Goes K H G fp es vs r Q->Rep K H a x->Rep K H b y->g a b=.ok r->rGA K g x y H Q
variable{a b c:Expr}{fb fc:FO}{pos:Pos}{g g':D->D->Res R}
theorem pB(h:tQ X.K (ao g fa fb) σ H Q):P4 (rG X.K g) (tO X.K fa) (tO X.K fb) σ H Q:=by
 obtain⟨G,env,fp,r,env',rel,e,k⟩:=h;obtain⟨⟨oa,e1⟩,ha,e⟩:=ae e;obtain⟨⟨ob,e2⟩,hb,e⟩:=ae e;obtain⟨da,NA,e⟩:=ae e;obtain⟨db,KN,e⟩:=ae e;obtain⟨r',hr,e⟩:=ae e;cases e;exact⟨G,env,fp,oa,e1,rel,ha,fun x H1 G1 Ke J8 JQ KP=>⟨G1,e1,Ke,ob,e2,JQ,hb,fun y H2 G2 Kt JW JR MH=>
  ⟨G2,Kt,e2,σ,da,db,r,⟨JR,fun v H' G' JU st Kl=>k v H' G' JU (J8.trans (JW.trans st)) Kl⟩,JR.vw (KP.mono JW.gg) NA,JR.vw MH KN,hr⟩⟩⟩
theorem tH(h:tQ X.K (aT g fa fb) σ H Q):P4 (rGA X.K g) (tO X.K fa) (tO X.K fb) σ H Q:=by
 obtain⟨G,env,fp,r,env',rel,e,k⟩:=h;obtain⟨⟨oa,e1⟩,ha,e⟩:=ae e;obtain⟨⟨ob,e2⟩,hb,e⟩:=ae e;obtain⟨da,NA,e⟩:=ae e;obtain⟨db,KN,e⟩:=ae e;obtain⟨r',hr,e⟩:=ae e;cases e;exact⟨G,env,fp,oa,e1,rel,ha,fun x H1 G1 Ke J8 JQ KP=>⟨G1,e1,Ke,ob,e2,JQ,hb,fun y H2 G2 Kt JW JR MH=>
  ⟨G2,Kt,e2,σ,da,db,r,⟨JR,fun v H' G' JU st Kl=>k v H' G' JU (J8.trans (JW.trans st)) Kl⟩,JR.vwA (KP.mono JW.gg) NA,JR.vwA MH KN,hr⟩⟩⟩
theorem qL{op:Operator}(ho:Kz X (binaryOp op) (rG X.K g))(ha:QO X a fa)(hb:QO X b fb):QE X (.BinOp a op b pos) (ao g fa fb):=aJ (zN ho ha hb) fun _ _ _=>pB
theorem DR{op:CmpOp}(ho:Kz X (compareOp op) (rG X.K g))(ha:QO X a fa)(hb:QO X b fb)(hm:behindInMarks op b=false):QE X (.Compare a [op] [b] pos) (ao g fa fb):=aJ (rZ ho ha hb hm) fun _ _ _=>pB
theorem AI{op:CmpOp}(ho:Kz X (compareOp op) (rGA X.K g))(ha:QO X a fa)(hb:QO X b fb)(hm:behindInMarks op b=false):QE X (.Compare a [op] [b] pos) (aT g fa fb):=aJ (rZ ho ha hb hm) fun _ _ _=>tH
def eBl(f:FX):FT:=fun env=>(f env).bind fun p=>match p.1.2 with
 | .bl k=>.ok (k,p.2)
 |_=>.bad
theorem AJ{Q:Bool->Hp->Prop}(h:tQT X.K (eBl f) σ H Q):tQ X.K f σ H fun x H'=>∃k,x=.bl k/\Q k H':=by
 obtain⟨G,env,fp,k,env',rel,e,q⟩:=h;obtain⟨⟨⟨o,d⟩,JP⟩,e1,e⟩:=ae e;dsimp only at e;split at e
 ·cases e;refine⟨G,env,fp,_,_,rel,e1,fun v H' G' JU st Kl=>?_⟩;have hv:=Kl.top;rw[show((o,D.bl k):R).2=D.bl k from rfl,Rep]at hv;obtain⟨b,JR,JW⟩:=Kl.drop;exact⟨k,hv,q H' G' b (st.trans JW) JR⟩
 ·cases e
theorem yD(h:QE X e f)(he:∀whole,isTrue e X.env whole=(do let v <-whole;standAt e.pos;holding [v] (truthy v)):=by intro _;rfl):QT X e (eBl f):=i8 (yj h he) fun _ _ _=>AJ
theorem tI{op:CmpOp}(ho:Kz X (compareOp op) (rG X.K g))(ha:QO X a fa)(hb:QO X b fb)(hm:behindInMarks op b=false):QT X (.Compare a [op] [b] pos) (eBl (ao g fa fb)):=
 i8 (r6 ho ha hb hm) fun _ _ _ h=>pB (AJ h)
theorem fK{op:CmpOp}(ho:Kz X (compareOp op) (rGA X.K g))(ha:QO X a fa)(hb:QO X b fb)(hm:behindInMarks op b=false):QT X (.Compare a [op] [b] pos) (eBl (aT g fa fb)):=
 i8 (r6 ho ha hb hm) fun _ _ _ h=>tH (AJ h)
def tJ(f g:FT):FT:=fun env=>(f env).bind fun p=>if p.1 then g p.2 else .ok (false,p.2)
def bOr(f g:FT):FT:=fun env=>(f env).bind fun p=>if p.1 then .ok (true,p.2) else g p.2
def wV(f:FT):FT:=fun env=>(f env).bind fun p=>.ok (!p.1,p.2)
variable{ga gb:FT}{rest:List Expr}
theorem AK(h:QT X a ga):QW X (.BoolOp .And [a] pos) ga:=zy h
theorem DS(h:QT X a ga):QW X (.BoolOp .Or [a] pos) ga:=yk h
theorem DV(h:QT X a ga)(h2:QW X (.BoolOp .And (b::rest) pos) gb):QW X (.BoolOp .And (a::b::rest) pos) (tJ ga gb):=tw (CY h h2) fun σ H Q J2=>by
 obtain⟨G,env,fp,k,env',rel,e,q⟩:=J2;obtain⟨⟨k1,JP⟩,e1,e⟩:=ae e;refine⟨G,env,fp,k1,JP,rel,e1,fun H1 G1 Ke J8 JQ=>?_⟩;dsimp only at e;cases k1 with
 |true=>exact⟨G1,JP,Ke,k,env',JQ,e,fun H2 G2 Kt JW JR=>q H2 G2 Kt (J8.trans JW) JR⟩
 |false=>
  cases e;exact q H1 G1 Ke J8 JQ
theorem Hg(h:QT X a ga)(h2:QW X (.BoolOp .Or (b::rest) pos) gb):QW X (.BoolOp .Or (a::b::rest) pos) (bOr ga gb):=tw (CZ h h2) fun σ H Q J2=>by
 obtain⟨G,env,fp,k,env',rel,e,q⟩:=J2;obtain⟨⟨k1,JP⟩,e1,e⟩:=ae e;refine⟨G,env,fp,k1,JP,rel,e1,fun H1 G1 Ke J8 JQ=>?_⟩;dsimp only at e;cases k1 with
 |false=>exact⟨G1,JP,Ke,k,env',JQ,e,fun H2 G2 Kt JW JR=>q H2 G2 Kt (J8.trans JW) JR⟩
 |true=>
  cases e;exact q H1 G1 Ke J8 JQ
theorem QW.qt{f:FT}(h:QW X e f):QT X e f:=h.pt
theorem yE(h:QT X a ga):QT X (.UnaryOp .Not a pos) (wV ga):=i8 (ym h) fun σ H Q J2=>by
 obtain⟨G,env,fp,k,env',rel,e,q⟩:=J2;obtain⟨⟨k1,JP⟩,e1,e⟩:=ae e;cases e;exact⟨G,env,fp,k1,JP,rel,e1,fun H1 G1 Ke J8 JQ=>q H1 G1 Ke J8 JQ⟩
def JI(f g:FX):FX:=fun env=>(f env).bind fun p=>match p.1.2 with
 | .bl true=>g p.2
 | .bl false=>.ok ((.f,.bl false),p.2)
 |_=>.bad
def eOr(f g:FX):FX:=fun env=>(f env).bind fun p=>match p.1.2 with
 | .bl true=>.ok ((.f,.bl true),p.2)
 | .bl false=>g p.2
 |_=>.bad
def JJ(f:FX):FX:=fun env=>(f env).bind fun p=>match p.1.2 with
 | .bl k=>.ok ((.f,.bl (!k)),p.2)
 |_=>.bad
def eIf(c:FT)(f g:FX):FX:=fun env=>(c env).bind fun p=>if p.1 then f p.2 else g p.2
variable{ea eb:FX}
theorem bJ(k:Bool):Rep K G (.bl k) (.bl k):=by rw[Rep]
theorem aI(k:Int):Rep K G (.int k) (.int k):=by rw[Rep]
theorem ja:Rep K G .non .non:=by rw[Rep]
theorem gS{l:List Nat}(h:l.length<=sizeLine):Rep K G (.str l) (.str (S l)):=by
 rw[Rep];exact⟨rfl,h⟩
theorem l9{k:Bool}(h:Rep K G (.bl k) v):v=.bl k:=by rw[Rep]at h;exact h
theorem f9{k:Int}(h:Rep K G (.int k) v):v=.int k:=by rw[Rep]at h;exact h
theorem ma(h:Rep K G .non v):v=.non:=by rw[Rep]at h;exact h
theorem dF{l:List Nat}(h:Rep K G (.str l) v):v=.str (S l)/\l.length<=sizeLine:=by rw[Rep]at h;exact h
inductive OfT(K:W.Frag)(G:Hp)(l:List D)(v:V):Prop
 |mk (p:Addr) (xs:List V) (e:v=.ref p) (q:SqT K G p xs) (r:Reps K G l xs):OfT K G l v
inductive OfL(K:W.Frag)(G:Hp)(l:List D)(v:V):Prop
 |mk (p:Addr) (xs:List V) (e:v=.ref p) (q:SqL K G p xs) (r:Reps K G l xs):OfL K G l v
theorem c6(h:Rep K G (.tup l) v):OfT K G l v:=by
 rw[Rep]at h;obtain⟨p,xs,e,q,r⟩:=h;exact⟨p,xs,e,SqT.of q,r⟩
theorem tM(h:Rep K G (.tup l) v):∃p xs,v=.ref p/\G p=some (.tup xs)/\Reps K G l xs:=by rw[Rep]at h;exact h
theorem dO(h:Rep K G (.lst l) v):OfL K G l v:=by
 rw[Rep]at h;obtain⟨p,xs,e,q,r⟩:=h;exact⟨p,xs,e,q,r⟩
theorem Hh{k:Bool}(h:Vw K G H (.bl k) v):v=.bl k:=l9 (K:=K) (G:=G) h
theorem aN{k:Int}(h:Vw K G H (.int k) v):v=.int k:=f9 (K:=K) (G:=G) h
theorem dH{l:List Nat}(h:Vw K G H (.str l) v):v=.str (S l)/\l.length<=sizeLine:=dF (K:=K) (G:=G) h
theorem ft(h:Vw K G H (.tup l) v):OfT K G l v:=c6 (K:=K) (G:=G) h
def IC(g g':D->D->Res R)(fa fb fc:FO):FX:=fun env=>(fa env).bind fun p=>(fb p.2).bind fun q=>(K5 q.2 p.1).bind fun a=>(K5 q.2 q.1).bind fun b=>(g a b).bind fun r=>match r with
 |(.f,.bl true)=>(fc q.2).bind fun t=>(K5 t.2 q.1).bind fun b=>(K5 t.2 t.1).bind fun c=>(g' b c).bind fun r=>.ok (r,t.2)
 |(.f,.bl false)=>.ok ((.f,.bl false),q.2)
 |_=>.bad
inductive rC(K:W.Frag)(g:List D->Res R)(xs:List V)(H:Hp)(Q:VK):Prop
 |mk:∀G fp es vs ds r,Goes K H G fp es vs r Q->OC K G H ds xs->g ds=.ok r->rC K g xs H Q
def aA(g:List D->Res R)(fs:FOs):FX:=fun env=>(fs env).bind fun p=>(l8 p.2 p.1).bind fun ds=>(g ds).bind fun r=>.ok (r,p.2)
theorem nW{fs:FOs}(h:tQ X.K (aA gg fs) σ H Q):Su (rC X.K gg) (tOs X.K fs) σ H Q:=by
 obtain⟨G,env,fp,r,env',rel,e,k⟩:=h;obtain⟨⟨os,e1⟩,ha,e⟩:=ae e;obtain⟨ds,hd,e⟩:=ae e;obtain⟨r',hr,e⟩:=ae e;cases e;exact⟨G,env,fp,os,e1,rel,ha,fun vs H1 G1 Ke J8 JQ KP=>⟨G1,Ke,e1,σ,ds,r,⟨JQ,fun v H' G' JU st Kl=>k v H' G' JU (J8.trans st) Kl⟩,JQ.vws KP hd,hr⟩⟩
variable{p:Pos}{fs:FOs}{id:String}
theorem gc(hc:bL X (.builtin id) (rC X.K gg))(hg:Gl X x)(hm:X.mg x=none)(hv:bootBuiltins x=some (.builtin id))(ha:QOs X (e::es) fs)(hn:x≠"__name__":=by decide)(KN:(x==("__debug__" : Str))=false:=by decide)
  (he:starEach (e::es) X.env=(false,eval e X.env)::starEach es X.env:=by rfl) (KA:(backTo pos (starEach es X.env)).any (·.1)=false:=by rfl):QE X (.Call (.Name x p) (e::es) [] pos) (aA gg fs):=
 aJ (iN hc hg hm hv ha hn KN he KA) fun _ _ _=>nW
theorem gf(hc:bL X (.type T) (rC X.K gg))(hg:Gl X x)(hm:X.mg x=none)(hv:bootBuiltins x=some (.type T))(ha:QOs X (e::es) fs)(hn:x≠"__name__":=by decide)(KN:(x==("__debug__" : Str))=false:=by decide)
  (he:starEach (e::es) X.env=(false,eval e X.env)::starEach es X.env:=by rfl) (KA:(backTo pos (starEach es X.env)).any (·.1)=false:=by rfl):QE X (.Call (.Name x p) (e::es) [] pos) (aA gg fs):=
 aJ (lM hc hg hm hv ha hn KN he KA) fun _ _ _=>nW
inductive spF(K:W.Frag)(F:List D->Res R)(vs:List V)(H:Hp)(Q:VK)(zz:XK):Prop
 |mk:∀G ds r,Same G H->Reps K G ds vs->F ds=.ok r->(∀v H' G' JU,Step G H [] G' H' JU->Rel K G' H' [some r] [some v] JU->Q v H')->spF K F vs H Q zz
def c7(F:List D->Res R)(fs:FOs):FX:=fun env=>(fs env).bind fun p=>(eZ p.2 p.1).bind fun ds=>(F ds).bind fun r=>.ok (r,if aw r.1 r.2 then p.2 else p.2.map frz)
theorem yF{F:List D->Res R}{k:Nat}(C:Ct X.prog X.w X.K X.mg X.base x k (spF X.K F))(hr:Room k X.A)(hg:Gl X x)(ha:QOs X (e::es) fs)(KN:(x==("__debug__" : Str))=false:=by decide)
  (he:starEach (e::es) X.env=(false,eval e X.env)::starEach es X.env:=by rfl) (KA:(backTo pos (starEach es X.env)).any (·.1)=false:=by rfl):QE X (.Call (.Name x p) (e::es) [] pos) (c7 F fs):=
 aJ (wt C hr hg ha KN he KA) fun σ H Q J2=>by
  obtain⟨G,env,fp,r,env',rel,e,k⟩:=J2;obtain⟨⟨os,e1⟩,ha,e⟩:=ae e;obtain⟨ds,hd,e⟩:=ae e;obtain⟨r',hr,e⟩:=ae e;refine⟨G,env,fp,os,e1,rel,ha,fun vs H1 G1 Ke J8 JQ KP=>?_⟩;show spF X.K F (vs++[]) H1 Q _;rw[Vm];obtain⟨G2,MX,NB,K6,_,KH⟩:=JQ.lend;refine⟨G2,ds,r',NB,c5 MX K6 KP hd,hr,fun v H' G' JU st Kl=>?_⟩;obtain⟨k1,k2⟩:=KH H' G' JU r' v st Kl;by_cases hc:aw r'.1 r'.2=true
  ·rw[U2 hc]at e;cases e;obtain⟨G3,K7,Kq,Kr⟩:=k1 hc;exact k v H' G3 K7 (J8.trans Kq) Kr
  ·rw[U6 hc]at e;cases e;obtain⟨G3,K7,Kq,Kr⟩:=k2;exact k v H' G3 K7 (J8.trans Kq) Kr
end
def sSeq(g1 g2:FS):FS:=fun env=>(g1 env).bind fun o=>match o with
 | .nx e=>g2 e
 |o=>.ok o
noncomputable def bM:FS:=fun env=>.ok (.nx env)
noncomputable def pC:FS:=fun _=>.bad
def aW(i:Nat)(f:FX):FS:=fun env=>(f env).bind fun p=>if i<p.2.length then .ok (.nx (p.2.set i (some p.1))) else .bad
def jb(f:FX):FS:=fun env=>(f env).bind fun p=>.ok (.nx p.2)
def dM(f:FX):FS:=fun env=>(f env).bind fun p=>.ok (.rt p.1)
def sIf(c:FT)(g h:FS):FS:=fun env=>(c env).bind fun p=>if p.1 then g p.2 else h p.2
variable{st:Stmt}{c:FT}{env:PV.Env}{vs:L2.St}{ct tg:Expr}{MI:List Expr}{n:Nat}{xs:List V}{ds:List D}{p:Addr}
section
variable{QN:List Stmt}{g h:FS}{pos:Pos}
theorem AL:QSs (md:=md) X [] bM:=ky nL fun D σ H ⟨G,env,fp,rel,k⟩=>k σ H G fp .refl rel
theorem AM(a:QS (md:=md) X st g):QSs (md:=md) X [st] g:=zH a
theorem wW(a:QS (md:=md) X st g)(b:QSs (md:=md) X QN h):QSs (md:=md) X (st::QN) (sSeq g h):=ky (iM a b) fun D σ H J2=>by
 obtain⟨G,env,fp,rel,k⟩:=J2;refine⟨G,env,fp,rel,?_⟩;have k:OutOk X.K G H fp D ((g env).bind fun o=>match o with | .nx e=>h e|o=>.ok o):=k;match q:g env,k with
 | .ok (.nx JP),k=>exact fun σ1 H1 G1 Ke J8 JQ=>⟨G1,JP,Ke,JQ,OutOk.after J8 k⟩
 | .ok (.bk JP),k=>exact k
 | .ok (.ct JP),k=>exact k
 | .ok (.rt r),k=>exact k
theorem wX:QS (md:=md) X st pC:=dE vX fun D σ H ⟨G,env,fp,rel,k⟩=>k
theorem tN{D:Ends}{i:Nat}(rel:Rel K G H env σ fp)(k:OutOk (md:=md) K G H fp D (aW i f env)):tQ K f σ H fun v H'=>D.nx (σ.set i (some v)) H':=by
 unfold aW at k;match q:f env,k with
 | .ok (r,JP),k=>
  have k:OutOk K G H fp D (if i<JP.length then .ok (.nx (JP.set i (some r))) else .bad):=k;by_cases hi:i<JP.length
  ·rw[U2 hi]at k;refine⟨G,env,fp,r,JP,rel,q,fun v H1 G1 Ke J8 JQ=>?_⟩;obtain⟨fq,JR,JW⟩:=JQ.store hi;exact k _ H1 G1 fq (J8.trans JW) JR
  ·rw[U6 hi]at k;exact k.elim
theorem DW{pos':Pos}(hN:X.N.Nodup)(hi:X.N[i]?=some x)(hx:Loc X.env.scope x)(he:QE X e f)(hs:swapsWith e (some (.Name x pos')) pos.line X.env=pure false:=by rfl)(hf:X.fn x=true\/X.env.scope.names.lookup x=some .local:=by first|exact .inl rfl|exact .inr rfl|assumption):
  QS (md:=md) X (.Assign [.Name x pos'] e pos) (aW i f):=dE (rQ (i:=i) hN hi hx he hs hf) fun D σ H ⟨G,env,fp,rel,k⟩=>tN rel k
theorem AN(he:QE X e f)(hs:swapsWith e none pos.line X.env=pure false:=by rfl):QS (md:=md) X (.Expr e pos) (jb f):=dE (zI he hs) fun D σ H J2=>by
 obtain⟨G,env,fp,rel,k⟩:=J2;unfold jb at k;match q:f env,k with
 | .ok (r,JP),k=>
  refine⟨G,env,fp,r,JP,rel,q,fun v H1 G1 Ke J8 JQ=>?_⟩;obtain⟨b,JR,JW⟩:=JQ.drop;exact k _ H1 G1 b (J8.trans JW) JR
theorem Rel.only{r:R}{es:PV.Env}(q:Rel K G H (some r::es) (some v::vs) fp):∃a,Rel K G H [some r] [some v] a/\Step G H fp G H a:=by
 obtain⟨y,ys,e,v',a,b,e1,e2,r1,r2⟩:=q.rep;cases e;cases e1;subst e2;have nd:=Vp.mp q.nd;exact⟨a,⟨⟨some v,[],rfl,v,a,[],rfl,(Vm _).symm,r1,rfl,rfl⟩,nd.1,fun p hp=>q.gn p (UX _ hp),q.gh⟩,Step.cut fun p hp=>UX _ hp⟩
theorem DX(he:QE X e f):QS (md:=.plain) X (.Return (some e) pos) (dM f):=dE (rP he) fun D σ H J2=>by
 obtain⟨G,env,fp,rel,k⟩:=J2;unfold dM at k;match q:f env,k with
 | .ok (r,JP),k=>
  refine⟨G,env,fp,r,JP,rel,q,fun v H1 G1 Ke J8 JQ=>?_⟩;obtain⟨b,JR,JW⟩:=JQ.only;exact k _ H1 G1 b (J8.trans JW) JR
theorem Rel.nilF{es:PV.Env}(q:Rel K G H es vs fp):Rel K G H [] [] []:=⟨⟨rfl,rfl⟩,V1,(fun _ h=>nomatch h),q.gh⟩
theorem Hi{a b:List Stmt}(hc:QT X ct c)(ha:QSs (md:=md) X a g)(hb:QSs (md:=md) X b h):QS (md:=md) X (.If ct a b pos) (sIf c g h):=dE (GC hc ha hb) fun D σ H J2=>by
 obtain⟨G,env,fp,rel,k⟩:=J2;unfold sIf at k;match q:c env,k with
 | .ok (true,JP),k=>exact⟨G,env,fp,true,JP,rel,q,fun H1 G1 Ke J8 JQ=>GV ⟨G1,JP,Ke,JQ,OutOk.after J8 k⟩⟩
 | .ok (false,JP),k=>exact⟨G,env,fp,false,JP,rel,q,fun H1 G1 Ke J8 JQ=>iteF ⟨G1,JP,Ke,JQ,OutOk.after J8 k⟩⟩
def bZ(c:FT)(g:FS):Nat->FS
 | 0,_=>.bad
 |n+1,env=>(c env).bind fun p=>if p.1 then(g p.2).bind fun o=>match o with
  | .nx e=>bZ c g n e
  | .ct e=>bZ c g n e
  | .bk e=>.ok (.nx e)
  | .rt r=>.ok (.rt r)
  else .ok (.nx p.2)
theorem wY{body:List Stmt}(n:Nat)(hp:PassesOwn (model X.prog X.w) X.A X.env X.xe)(hc:QT X ct c)(hb:QSs (md:=md) X body g):QS (md:=md) X (.While ct body [] pos) (bZ c g n):=
 dE (vZ hp hc hb) fun D σ H J2=>by
  obtain⟨G,env,fp,rel,k⟩:=J2;refine⟨fun m σ' H'=>∃G' env' JU,Rel X.K G' H' env' σ' JU/\OutOk X.K G' H' JU D (bZ c g m env'),⟨n,G,env,fp,rel,k⟩,?_⟩;rintro m σ1 H1 ⟨G1,JP,Ke,JQ,k1⟩;cases m with
  |zero=>exact k1.elim
  |succ m=>
   unfold bZ at k1;match q:c JP,k1 with
   | .ok (false,J4),k1=>exact⟨G1,JP,Ke,false,J4,JQ,q,fun H2 G2 Kt JW JR=>iteF (k1 _ H2 G2 Kt JW JR)⟩
   | .ok (true,J4),k1=>
    refine⟨G1,JP,Ke,true,J4,JQ,q,fun H2 G2 Kt JW JR=>GV ?_⟩;refine⟨fun σ' H'=>∃G' env' JU,Rel X.K G' H' env' σ' JU/\OutOk X.K G' H' JU D (bZ c g m env'),fun σ' H' z=>⟨m,WM _,z⟩,G2,J4,Kt,JR,?_⟩;have k2:OutOk X.K G1 H1 Ke D ((g J4).bind fun o=>match o with | .nx e=>bZ c g m e | .ct e=>bZ c g m e | .bk e=>.ok (.nx e) | .rt r=>.ok (.rt r)):=k1;match q2:g J4,k2 with
    | .ok (.nx e),k2=>exact fun σ' H' G' JU st rel=>⟨G',e,JU,rel,OutOk.after (JW.trans st) k2⟩
    | .ok (.ct e),k2=>exact fun σ' H' G' JU st rel=>⟨G',e,JU,rel,OutOk.after (JW.trans st) k2⟩
    | .ok (.bk e),k2=>exact fun σ' H' G' JU st rel=>k2 σ' H' G' JU (JW.trans st) rel
    | .ok (.rt r),k2=>exact fun v H' G' JU st rel=>k2 v H' G' JU (JW.trans st) rel
def Walk(K:W.Frag)(G:Hp)(J:It)(ds:List D):Prop:=∀G' H' es vs fp,Same G G'->Rel K G' H' es vs fp->∀i:Nat,
 (∀d,ds[i]?=some d->J.go i H'/\∀x H2,J.yld i H' x H2->∃G2,Rep K G2 d x/\Rel K G2 H2 es vs fp/\Step G' H' fp G2 H2 fp)/\(i=ds.length->J.stop i H')
abbrev FI:=PV.Env->Res (List D×PV.Env)
inductive tQI(K:W.Frag)(f:FI)(σ:L2.St)(H:Hp)(R:It->Hp->Prop):Prop
 |mk:∀G env fp ds env',Rel K G H env σ fp->f env=.ok (ds,env')->(∀J H' G' JU,Step G H fp G' H' JU->Rel K G' H' env' σ JU->Walk K G' J ds->R J H')->tQI K f σ H R
def QI(X:Cx)(tg e:Expr)(f:FI):Prop:=PI X tg e (tQI X.K f)
theorem jd{t t':TI}(h:PI X tg e t)(k:∀σ H R,t' σ H R->t σ H R):PI X tg e t':=fun pr s σ H R I w=>h pr s σ H R I (k σ H R w)
abbrev FG:=D->PV.Env->Res PV.Env
inductive tQG(K:W.Frag)(a:FG)(v:V)(σ:L2.St)(H:Hp)(Q:L2.St->Hp->Prop):Prop
 |mk:∀G env fp d env',Rel K G H env σ fp->Rep K G d v->a d env=.ok env'->(∀σ' G' JU,Step G H fp G' H JU->Rel K G' H env' σ' JU->Q σ' H)->tQG K a v σ H Q
def QG(X:Cx)(tg:Expr)(a:FG):Prop:=PG X tg (tQG X.K a)
noncomputable def aq(i:Nat):FG:=fun d env=>if i<env.length then .ok (env.set i (some (.f,d))) else .bad
theorem yG{t t':TG}(h:PG X tg t)(k:∀v σ H Q,t' v σ H Q->t v σ H Q):PG X tg t':=fun pr s σ H v u Q I r w=>h pr s σ H v u Q I r (k v σ H Q w)
theorem tP{tg:List Expr}{t t':Ot}(h:OQ X tg t)(k:∀v σ H Q,t' v σ H Q->t v σ H Q):OQ X tg t':=fun pr s σ H v u Q I r w=>h pr s σ H v u Q I r (k v σ H Q w)
theorem AO(hN:X.N.Nodup)(hi:X.N[i]?=some x)(hx:Loc X.env.scope x)(hf:X.fn x=true\/X.env.scope.names.lookup x=some .local:=by first|exact .inl rfl|exact .inr rfl|assumption):QG X (.Name x pos) (aq i):=
 yG (zJ (i:=i) hN hi hx hf) fun v σ H Q J2=>by
  obtain⟨G,env,fp,d,env',rel,r,e,k⟩:=J2;unfold aq at e;split at e
  ·rename_i hl;cases e;obtain⟨fq,JR,JW⟩:=(rel.push r).store hl;exact k _ G fq JW JR
  ·cases e
abbrev NC:=List D->PV.Env->Res PV.Env
inductive tQGs(K:W.Frag)(a:NC)(vs:List V)(σ:L2.St)(H:Hp)(Q:L2.St->Hp->Prop):Prop
 |mk:∀G env fp ds env',Rel K G H env σ fp->Reps K G ds vs->a ds env=.ok env'->(∀σ' G' JU,Step G H fp G' H JU->Rel K G' H env' σ' JU->Q σ' H)->tQGs K a vs σ H Q
def QGs(X:Cx)(tg:List Expr)(a:NC):Prop:=OQ X tg (tQGs X.K a)
noncomputable def b6:NC:=fun ds env=>match ds with
 |[]=>.ok env
 |_=>.bad
def ax(a:FG)(b:NC):NC:=fun ds env=>match ds with
 |d::ds=>(a d env).bind fun e=>b ds e
 |_=>.bad
theorem AQ:QGs X [] b6:=tP zM fun vs σ H Q J2=>by
 obtain⟨G,env,fp,ds,env',rel,r,e,k⟩:=J2;cases ds with
 |nil=>
  cases e;rw[Reps]at r;exact⟨r,k σ G fp .refl rel⟩
 |cons d ds=>cases e
theorem wZ{a:FG}{b:NC}(h1:QG X tg a)(h2:QGs X MI b)(hs:(assignEach (tg::MI) X.env).map (·.2)=assign tg X.env::(assignEach MI X.env).map (·.2):=by rfl):QGs X (tg::MI) (ax a b):=
 tP (vY h1 h2 hs) fun vs σ H Q J2=>by
  obtain⟨G,env,fp,ds,env',rel,r,e,k⟩:=J2;cases ds with
  |nil=>cases e
  |cons d ds=>
   rw[Reps]at r;obtain⟨y,ys,ev,r1,r2⟩:=r;obtain⟨JP,e1,e2⟩:=ae e;exact⟨y,ys,ev,G,env,fp,d,JP,rel,r1,e1,fun σ1 G1 Ke J8 JQ=>⟨G1,JP,Ke,ds,env',JQ,r2.mono J8.gg,e2,fun σ2 G2 Kt JW JR=>k σ2 G2 Kt (J8.trans JW) JR⟩⟩
noncomputable def gT(n:Nat)(a:NC):FG:=fun d env=>match d with
 | .tup ds=>if ds.length=n then a ds env else .bad
 |_=>.bad
theorem DY{k:Nat}{a:NC}(hc:X.calm=true)(h:QGs X MI a)(hn:(assignEach MI X.env).length=n:=by rfl)(Lz:(assignEach MI X.env).findIdx? (·.1)=none:=by rfl):QG X (.Tuple MI k pos) (gT n a):=
 yG (C2 hc h hn Lz) fun v σ H Q J2=>by
  obtain⟨G,env,fp,d,env',rel,r,e,k⟩:=J2;unfold gT at e;split at e
  ·rename_i ds;split at e
   ·rename_i hl;obtain⟨p,xs,ev,sq,rs⟩:=c6 r;exact⟨p,xs,ev,aV rel.gh sq,rs.length.trans hl,G,env,fp,ds,env',rel,rs,e,k⟩
   ·cases e
  ·cases e
def cQ(a:FG)(g:FS):List D->FS
 |[],env=>.ok (.nx env)
 |d::ds,env=>(a d env).bind fun e=>(g e).bind fun o=>match o with
  | .nx e=>cQ a g ds e
  | .ct e=>cQ a g ds e
  | .bk e=>.ok (.nx e)
  | .rt r=>.ok (.rt r)
def me(f:FI)(a:FG)(g:FS):FS:=fun env=>(f env).bind fun p=>cQ a g p.1 p.2
theorem DZ{iter:Expr}{body:List Stmt}{fi:FI}{a:FG}(hp:PassesOwn (model X.prog X.w) X.A X.env X.xe)(hc:X.calm=true)(hi:QI X tg iter fi)(hg:QG X tg a)(hb:QSs (md:=md) X body g)(hs:∀x,foldedSetIterable iter X.env x=pure x:=by intro _;rfl):QS (md:=md) X (.For tg iter body [] pos) (me fi a g):=
 dE (yn hp hc hi hg hb hs) fun D σ H J2=>by
  obtain⟨G,env,fp,rel,k⟩:=J2;unfold me at k;match q:fi env,k with
  | .ok (ds,JP),k=>
   refine⟨G,env,fp,ds,JP,rel,q,fun J H1 G1 Ke J8 JQ wk=>?_⟩;have k:OutOk X.K G H fp D (cQ a g ds JP):=k;refine⟨fun i m σ' H'=>m=ds.length-i/\i<=ds.length/\∃G' env' JU,Same G1 G'/\Rel X.K G' H' env' σ' JU/\OutOk X.K G' H' JU D (cQ a g (ds.drop i) env'),⟨_,rfl,VJ _,G1,JP,Ke,.refl _,JQ,OutOk.after J8 k⟩,?_⟩;rintro i m σ2 H2 ⟨rfl,hi,G2,J4,Kt,gg,JR,k2⟩;obtain⟨w1,w2⟩:=wk G2 H2 _ _ _ gg JR i;by_cases Kw:i<ds.length
   ·have hd:ds[i]?=some ds[i]:=UT Kw;obtain⟨go,yl⟩:=w1 _ hd;rw[Xr Kw]at k2;refine .inr ⟨go,fun σ' H'=>∃G' env' JU,Same G1 G'/\Rel X.K G' H' env' σ' JU/\OutOk X.K G' H' JU D (cQ a g (ds.drop (i+1)) env'),fun σ' H' z=>⟨ds.length-(i+1),by lia,rfl,Kw,z⟩,fun x H3 y=>?_⟩;obtain⟨G3,rx,Kr,Kq⟩:=yl x H3 y;unfold cQ at k2;match q3:a ds[i] J4,k2 with
    | .ok KI,k2=>
     refine⟨G3,J4,Kt,ds[i],KI,Kr,rx,q3,fun σ4 G4 SQ K2 KC=>⟨G4,KI,SQ,KC,?_⟩⟩;have k3:OutOk X.K G2 H2 Kt D ((g KI).bind fun o=>match o with | .nx e=>cQ a g (ds.drop (i+1)) e | .ct e=>cQ a g (ds.drop (i+1)) e | .bk e=>.ok (.nx e) | .rt r=>.ok (.rt r)):=k2;match q4:g KI,k3 with
     | .ok (.nx e),k3=>exact fun σ' H' G' JU st rel=>⟨G',e,JU,gg.trans (Kq.gg.trans (K2.gg.trans st.gg)),rel,OutOk.after (Kq.trans (K2.trans st)) k3⟩
     | .ok (.ct e),k3=>exact fun σ' H' G' JU st rel=>⟨G',e,JU,gg.trans (Kq.gg.trans (K2.gg.trans st.gg)),rel,OutOk.after (Kq.trans (K2.trans st)) k3⟩
     | .ok (.bk e),k3=>exact fun σ' H' G' JU st rel=>k3 σ' H' G' JU (Kq.trans (K2.trans st)) rel
     | .ok (.rt r),k3=>exact fun v H' G' JU st rel=>k3 v H' G' JU (Kq.trans (K2.trans st)) rel
   ·have e:i=ds.length:=by lia
    subst e;rw[YL]at k2;exact .inl ⟨w2 rfl,k2 σ2 H2 G2 Kt .refl JR⟩
def CP(f:FX):FI:=fun env=>(f env).bind fun p=>match p.1.2 with
 | .lst ds=>.ok (ds,p.2)
 |_=>.bad
def fM(f:FX):FI:=fun env=>(f env).bind fun p=>match p.1.2 with
 | .tup ds=>.ok (ds,p.2)
 |_=>.bad
variable{l:Expr}
theorem mf{a:Addr}(sq:SqL K G a xs)(rs:Reps K G ds xs):Walk K G (P1 K a) ds:=by
 intro G' H' es vs fp gg rel i;have Li:SqL K H' a xs:=eG rel.gh (eG gg sq);refine⟨fun d hd=>?_,fun e=>⟨xs,Li,by rw[rs.length];lia⟩⟩;obtain⟨x,hx,rx⟩:=rs.get hd;refine⟨⟨xs,x,Li,hx⟩,fun y H2 ⟨e,hy⟩=>?_⟩;subst e;have:=hy xs Li;rw[hx]at this;cases this;exact⟨G',Rep.mono gg rx,rel,.refl⟩
theorem w6{a:Addr}(sq:SqT K G a xs)(rs:Reps K G ds xs):Walk K G (Sm K a) ds:=by
 intro G' H' es vs fp gg rel i;have Li:SqT K H' a xs:=aV rel.gh (aV gg sq);refine⟨fun d hd=>?_,fun e=>⟨xs,Li,by rw[rs.length];lia⟩⟩;obtain⟨x,hx,rx⟩:=rs.get hd;refine⟨⟨xs,x,Li,hx⟩,fun y H2 ⟨e,hy⟩=>?_⟩;subst e;have:=hy xs Li;rw[hx]at this;cases this;exact⟨G',Rep.mono gg rx,rel,.refl⟩
theorem tR(h:QE X l f):QI X tg l (CP f):=jd (rT h) fun σ H R J2=>by
 obtain⟨G,env,fp,ds,env',rel,e,k⟩:=J2;obtain⟨⟨⟨o,d⟩,JP⟩,e1,e⟩:=ae e;dsimp only at e;split at e
 ·cases e;refine⟨G,env,fp,_,_,rel,e1,fun v H1 G1 Ke J8 JQ=>?_⟩;obtain⟨G2,b,rv,JR,JW⟩:=JQ.freeze;obtain⟨p,xs,ev,sq,rs⟩:=dO rv;exact⟨p,ev,⟨xs,eG JR.gh sq⟩,k _ H1 G2 b (J8.trans JW) JR (mf sq rs)⟩
 ·cases e
theorem yH(h:QE X l f):QI X tg l (fM f):=jd (C5 h) fun σ H R J2=>by
 obtain⟨G,env,fp,ds,env',rel,e,k⟩:=J2;obtain⟨⟨⟨o,d⟩,JP⟩,e1,e⟩:=ae e;dsimp only at e;split at e
 ·cases e;refine⟨G,env,fp,_,_,rel,e1,fun v H1 G1 Ke J8 JQ=>?_⟩;obtain⟨G2,b,rv,JR,JW⟩:=JQ.freeze;obtain⟨p,xs,ev,sq,rs⟩:=c6 rv;exact⟨p,ev,⟨xs,aV JR.gh sq⟩,k _ H1 G2 b (J8.trans JW) JR (w6 sq rs)⟩
 ·cases e
def bU(f:FO):FI:=fun env=>(f env).bind fun p=>(K5 p.2 p.1).bind fun d=>match d with
 | .int j=>if -4611686018427387904<=j/\j<4611686018427387904 then .ok ((List.range j.toNat).map fun(k:Nat)=>D.int (k:Int),p.2) else .bad
 |_=>.bad
theorem qM(lo:Int)(n:Nat):Walk K G (RL lo n) ((List.range n).map fun(k:Nat)=>D.int (lo+(k:Int))):=by
 intro G' H' es vs fp gg rel i;refine⟨fun d hd=>?_,fun e=>?_⟩
 ·rw[Vd]at hd;cases hc:(List.range n)[i]? with
  |none=>rw[hc]at hd;cases hd
  |some c=>
   rw[hc]at hd;cases hd;obtain⟨h1,h2⟩:=U0.mp hc;rw[Vl]at h1;rw[W9]at h2;subst h2;refine⟨h1,fun x H2 ⟨e1,e2⟩=>?_⟩;subst e1;exact⟨G',by rw[e2];exact aI _,rel,.refl⟩
 ·rw[U1,Vl]at e;exact Z5 e.symm
theorem tS{a:Expr}{p pos:Pos}(hg:Gl X "range")(hm:X.mg "range" = none)(ha:QO X a fa)(hs:starEach [a] X.env=[(false,eval a X.env)]:=by rfl):QI X tg (.Call (.Name "range" p) [a] [] pos) (bU fa):=
 jd (rV hg hm (bX ha fJ hs) hs) fun σ H R J2=>by
  obtain⟨G,env,fp,ds,env',rel,e,k⟩:=J2;obtain⟨⟨o,JP⟩,e1,e⟩:=ae e;obtain⟨d,e2,e⟩:=ae e;dsimp only at e;split at e
  ·rename_i j;split at e
   ·rename_i hj;cases e;refine⟨G,env,fp,[o],_,rel,by show(fa env).bind _=_;rw[e1];rfl,fun vs H1 G1 Ke J8 JQ KP=>?_⟩;obtain⟨y,ys,ev,k1,k2⟩:=KP;have k2:ys=[]:=k2;subst k2;have hv:=aN (JQ.vw k1 e2);subst hv;refine⟨j,ev,by lia,by lia,k _ H1 G1 Ke J8 JQ ?_⟩;have w:=qM (K:=X.K) (G:=G1) 0 j.toNat
    simpa using w
   ·cases e
  ·cases e
def Hj(fs:FOs):FI:=fun env=>(fs env).bind fun p=>(l8 p.2 p.1).bind fun d=>match d with
 |[.int i,.int j]=>if(-4611686018427387904<=i/\i<4611686018427387904)/\-4611686018427387904<=j/\j<4611686018427387904 then .ok ((List.range (j-i).toNat).map fun(k:Nat)=>D.int (i+(k:Int)),p.2) else .bad
 |_=>.bad
noncomputable def gU(k:Bool):D->Res (List D)
 | .lst ds=>if k then .ok ds else .bad
 | .tup ds=>if k then .bad else .ok ds
 |_=>.bad
def qN(k1 k2:Bool)(fs:FOs):FI:=fun env=>(fs env).bind fun p=>match p.1 with
 |[.val d1,.val d2]=>(gU k1 d1).bind fun a=>(gU k2 d2).bind fun b=>.ok ((a.zip b).map fun z=>D.tup [z.1,z.2],p.2)
 |_=>.bad
theorem pD{k:Bool}(e:gU k d=.ok ds)(r:Rep K G d v):∃p xs,v=.ref p/\(if k then SqL K G p xs else SqT K G p xs)/\Reps K G ds xs:=by
 cases d with
 |lst es=>
  cases k with
  |true=>
   cases e;obtain⟨p,xs,e1,q,rs⟩:=dO r;exact⟨p,xs,e1,q,rs⟩
  |false=>cases e
 |tup es=>
  cases k with
  |true=>cases e
  |false=>
   cases e;obtain⟨p,xs,e1,q,rs⟩:=c6 r;exact⟨p,xs,e1,q,rs⟩
 |_=>cases e
theorem kz{G':Hp}{k:Bool}(h:Same G G')(r:if k then SqL K G p xs else SqT K G p xs):if k then SqL K G' p xs else SqT K G' p xs:=by
 cases k with
 |true=>exact eG h r
 |false=>exact aV h r
theorem w9{k1 k2:Bool}{p1 p2:Addr}{ys:List V}{as bs:List D}(s1:if k1 then SqL K G p1 xs else SqT K G p1 xs)(s2:if k2 then SqL K G p2 ys else SqT K G p2 ys)(r1:Reps K G as xs)(r2:Reps K G bs ys):
  Walk K G (SH K k1 k2 p1 p2) ((as.zip bs).map fun z=>D.tup [z.1,z.2]):=by
 intro G' H' es vs fp gg rel i;have g1:=kz (gg.trans rel.gh) s1;have g2:=kz (gg.trans rel.gh) s2;refine⟨fun d hd=>?_,fun e=>⟨xs,ys,g1,g2,?_⟩⟩
 ·rw[Vd]at hd;cases hz:(as.zip bs)[i]? with
  |none=>rw[hz]at hd;cases hd
  |some z=>
   rw[hz]at hd;cases hd;obtain⟨h1,h2⟩:=WU.mp hz;obtain⟨x,hx,rx⟩:=r1.get h1;obtain⟨y,hy,ry⟩:=r2.get h2;refine⟨⟨xs,ys,x,y,g1,g2,hx,hy⟩,fun v H2 ⟨T,hT,ev,hh⟩=>?_⟩;have e2:=hh xs ys x y g1 g2 hx hy;subst e2;obtain⟨JR,JW⟩:=rel.newF (u:=.tup [x,y]) hT;refine⟨_,?_,JR,JW⟩;rw[Rep];exact⟨T,[x,y],ev,az,.cons (Rep.mono (gg.trans JW.gg) rx) (.one (Rep.mono (gg.trans JW.gg) ry))⟩
 ·rw[U1,Ws]at e;rw[r1.length,r2.length];exact e
theorem pE(k1 k2:Bool){MI:List Expr}{kt:Nat}{pt:Pos}{e1 e2:Expr}{fs:FOs}{p pos:Pos}(hg:Gl X "zip")(hm:X.mg "zip" = none)(ha:QOs X [e1,e2] fs)(he:starEach [e1,e2] X.env=(false,eval e1 X.env)::starEach [e2] X.env:=by rfl)(KA:(backTo pos (starEach [e2] X.env)).any (·.1)=false:=by rfl):
  QI X (.Tuple MI kt pt) (.Call (.Name "zip" p) [e1,e2] [] pos) (qN k1 k2 fs):=
 jd (Dz k1 k2 hg hm ha he KA) fun σ H R J2=>by
  obtain⟨G,env,fp,ds,env',rel,e,k⟩:=J2;obtain⟨⟨o,JP⟩,e1,e⟩:=ae e;dsimp only at e;split at e
  ·rename_i d1 d2;obtain⟨a,ea,e⟩:=ae e;obtain⟨b,eb,e⟩:=ae e;cases e;refine⟨G,env,fp,_,_,rel,e1,fun vs H1 G1 Ke J8 JQ KP=>?_⟩;obtain⟨y,ys,ev,v1,z,zs,Qd,v2,e3⟩:=KP;have e3:zs=[]:=e3;subst e3;obtain⟨p1,xs1,T3,q1,r1⟩:=pD ea v1;obtain⟨p2,Qe,RW,q2,r2⟩:=pD eb v2;subst T3;subst RW;subst Qd;exact⟨p1,p2,xs1,Qe,ev,kz JQ.gh q1,kz JQ.gh q2,k _ H1 G1 Ke J8 JQ (w9 q1 q2 r1 r2)⟩
  ·cases e
end
def fBody(np nn:Nat)(g:FS):List D->Res R:=fun ds=>if ds.length=np then(g (ds.map (fun d=>some (O.f,d))++List.replicate nn none)).bind fun o=>match o with
 | .rt r=>.ok r
 | .nx _=>.ok (.f,.non)
 |_=>.bad
 else .bad
theorem c8{K:W.Frag}{G H:Hp}(n:Nat):∀{ds:List D}{vs:List V},Reps K G ds vs->RepE K G H (ds.map (fun d=>some (O.f,d))++List.replicate n none) (vs.map some++List.replicate n none) []
 |[],vs,r=>by
  rw[Reps]at r;subst r;show RepE K G H (List.replicate n none) (List.replicate n none) [];induction n with
  |zero=>exact⟨rfl,rfl⟩
  |succ n ih=>exact⟨none,_,rfl,ih⟩
 |d::ds,vs,r=>by
  rw[Reps]at r;obtain⟨y,ys,e,r1,r2⟩:=r;subst e;exact⟨some y,_,rfl,y,[],[],rfl,rfl,cZ.mpr ⟨r1,rfl⟩,c8 n r2⟩
variable{N:List Str}
theorem Hk{P:Program}{w:World}{mg:Str->Option Value}{base:Heap}{ps:List Str}{k:Nat}{g:FS}(Df:Def K mg x st)(sc:FnScope N ps (defScope st))
  (hb:∀(kV doc pm:Value) (an:Option Addr) (Kc ct:Value) (us:List Value),us.length=ps.length->bindArgs (PySem.W.fnOf x x (bO st) (aU st) (defScope st) .none kV doc pm an Kc ct) ⟨us,[]⟩=pure (ps.zip us))
  (body:∀(f:Addr) (Kc:Value) (A:Around) (outer:List PySem.Env) (s:Shared) (H:Hp) (E:XK),Room k (A.deeper (envOfC x (defScope st) s.heap.objs.size f Kc))->QSs (md:=.plain) (lK L4 P w K mg base N x (defScope st) f Kc A outer s H E).nox (aU st) g):
  Ct P w K mg base x (k+1) (spF K (fBody ps.length (N.length-ps.length) g)):=by
 obtain⟨f,fd,F,m⟩:=Df;refine⟨f,fd,ps,F.ok sc (fun vs H Q E h=>?_) (fun Kc A outer s H vs Q E hr h=>?_),m,F.kp,F.binds hb⟩
 ·obtain⟨G,ds,r,_,rs,e,_⟩:=h;unfold fBody at e;split at e
  ·rename_i hl;rw[rs.length,hl]
  ·cases e
 ·obtain⟨G,ds,r,gh,rs,e,q⟩:=h;unfold fBody at e;split at e
  ·rename_i hl;refine⟨_,body f Kc A outer s H E hr,G,ds.map (fun d=>some (O.f,d))++List.replicate (N.length-ps.length) none,[],⟨?_,V1,(fun _ h=>nomatch h),gh⟩,?_⟩
   ·have:=c8 (K:=K) (G:=G) (H:=H) (N.length-ps.length) rs;unfold L2.fE;rw[rs.length,hl];exact this
   ·obtain⟨o,eo,e⟩:=ae e;rw[eo];cases o with
    |rt r'=>
     cases e;exact fun v H' G' JU st rel=>q v H' G' JU st rel
    |nx env'=>
     cases e;exact fun σ' H' G' JU st rel=>q .non H' G' [] (st.trans (Step.cut fun _ h=>nomatch h)) (rel.nilF.push ja)
    |bk env'=>cases e
    |ct env'=>cases e
  ·cases e
def cz(ix:List (Option Nat))(env:PV.Env):PV.Env:=ix.map fun j=>j.bind fun j=>match env[j]? with
 |some (some r)=>some (O.f,r.2)
 |_=>none
noncomputable def fO:FT:=fun env=>.ok (true,env)
def b7(a:FG)(c:FT)(f:FX):List D->PV.Env->Res (List D)
 |[],_=>.ok []
 |d::ds,env=>(a d env).bind fun e=>(c e).bind fun p=>if p.1 then(f p.2).bind fun q=>(b7 a c f ds q.2).bind fun rs=>.ok (q.1.2::rs) else b7 a c f ds p.2
def cb(fi:FI)(ix:List (Option Nat))(a:FG)(c:FT)(f:FX):FX:=fun env=>(fi env).bind fun p=>(b7 a c f p.1 (cz ix p.2)).bind fun ds=>if ds.length<=sizeLine then .ok ((.l .f,.lst ds),if flatDs ds then p.2 else p.2.map frz) else .bad
theorem kA:∀ds,ds.all (aw .f)=flatDs ds
 |[]=>rfl
 |d::ds=>by rw[WT,flatDs,kA ds,aw]
theorem dP{K:W.Frag}{G1 H:Hp}{es:PV.Env}{σ:L2.St}(ht:∀(i:Nat) (r:R) (v:V),es[i]?=some (some r)->σ[i]?=some (some v)->Rep K G1 r.2 v)(hv:∀(i:Nat) (r:R),es[i]?=some (some r)->∃v,σ[i]?=some (some v)):
  ∀ix:List (Option Nat),RepE K G1 H (cz ix es) (jN ix σ) []
 |[]=>⟨rfl,rfl⟩
 |none::ix=>⟨none,_,rfl,dP ht hv ix⟩
 |some j::ix=>by
  show RepE K G1 H ((match es[j]? with|some (some r)=>some (O.f,r.2)|_=>none)::cz ix es) ((σ[j]?).bind id::jN ix σ) [];cases e:es[j]? with
  |none=>exact⟨_,_,rfl,dP ht hv ix⟩
  |some r=>
   cases r with
   |none=>exact⟨_,_,rfl,dP ht hv ix⟩
   |some r=>
    obtain⟨v,ev⟩:=hv j r e;refine⟨_,_,rfl,v,[],[],?_,rfl,cZ.mpr ⟨ht j r v e ev,rfl⟩,dP ht hv ix⟩;rw[ev];rfl
variable{fi:FI}
section
variable{scope:Scope}{iter elt:Expr}{ifs:List Expr}{pos:Pos}{a:FG}
def QTs(X:Cx)(ifs:List Expr)(c:FT):Prop:=P9 X ifs (tQT X.K c)
theorem AR:QTs X [] fO:=fun pr s σ H Q I J2=>by
 obtain⟨G,env,fp,b,env',rel,e,k⟩:=J2;cases e;exact Ac pr s σ H Q I (k H G fp .refl rel)
theorem AS{t:Expr}(h:QT X t c):QTs X [t] c:=Ae h
end
section
inductive rCatS(K:W.Frag)(x:V)(y:V)(H:Hp)(Q:VK):Prop
 |mk:∀l b xs zs,x=.ref l->y=.ref b->SqL K H l xs->SqL K H b zs->xs.length+zs.length<=sizeLine->(∀p,H p=none->Q (.ref p) (upd H p (.lst (xs++zs))))->rCatS K x y H Q
theorem AU:Kz X (binaryOp .Add) (rCatS X.K):=by
 intro pr s σ H x y v u Q I rx ry h;obtain⟨l,b,xs,zs,rfl,rfl,hH,hB,hz,q⟩:=h;cases rx;cases ry;obtain⟨JT,r1,p1,_⟩:=I.list hH;obtain⟨MV,r2,p2,_⟩:=I.list hB;have l1:=r1.length;have l2:=r2.length;obtain⟨⟨cls,dd,data,sl⟩,ho,hc,n,hd⟩:=id p1.isList;obtain⟨⟨Qt,P5,data2,P6⟩,Mj,Ng,n2,hd2⟩:=id p2.isList;simp only at hc hd Ng hd2;subst hc hd Ng hd2;have e:JT.toArray++MV.toArray=(JT++MV).toArray:=by simp
 refine YZ ⟨_,ho,rfl⟩ ⟨_,Mj,rfl⟩ noFill_list_add seq_list_add PySem.F.slot_list_add PySem.F.entry_list_add (PySem.F.args_list_add_2 _ _) (list_addW l b JT.toArray MV.toArray n n2 dd P5 sl P6 (by rw[U9,U9];lia)) ⟨ho,Mj,?_⟩;rw[e];exact⟨.ref _,_,I.lnew (t':=s.toks) (r1.append r2) (by rw[VD];lia),rfl,q _ I.fresh⟩
end
noncomputable def addD:D->D->Res R
 | .int i,.int j=>.ok (.f,.int (i+j))
 | .str a,.str b=>if a.length+b.length<=sizeLine then .ok (.f,.str (a++b)) else .bad
 | .lst a,.lst b=>if a.length+b.length<=sizeLine then .ok (.l .f,.lst (a++b)) else .bad
 | .tup a,.tup b=>if a≠[]/\a.length+b.length<=sizeLine then .ok (.f,.tup (a++b)) else .bad
 |_,_=>.bad
section
theorem kB{es:PV.Env}(rel:Rel K G H es vs fp)(hp:H p=none)(r:Reps K G ds xs):
  ∃G',Rel K G' (upd H p (.tup xs)) (some (.f,.tup ds)::es) (some (.ref p)::vs) fp/\Step G H fp G' (upd H p (.tup xs)) fp:=by
 obtain⟨JR,JW⟩:=rel.newF (u:=.tup xs) hp;refine⟨_,JR.push ?_,JW⟩;rw[Rep];exact⟨p,xs,rfl,az,r.mono JW.gg⟩
theorem D1:Kz X (binaryOp .Add) (rG X.K addD):=by
 rintro pr s σ H x y v u Q I rx ry ⟨G,fp,es,vs,a,b,r,⟨rel,k⟩,va,vb,e⟩;unfold addD at e;split at e
 ·rename_i i j;cases e;cases aN va;cases aN vb;exact C6 pr s σ H _ _ v u Q I rx ry ⟨i,j,rfl,rfl,k _ H G fp .refl (rel.push (aI _))⟩
 ·rename_i i j;split at e
  ·rename_i hl;cases e;obtain⟨e1,h1⟩:=dH va;obtain⟨e2,h2⟩:=dH vb;subst e1;subst e2;refine jL pr s σ H _ _ v u Q I rx ry ⟨_,_,rfl,rfl,by rw[lS,lS];exact hl,?_⟩;rw[Dt];exact k _ H G fp .refl (rel.push (gS (by rw[VD];exact hl)))
  ·cases e
 ·rename_i i j;split at e
  ·rename_i hl;cases e;obtain⟨p,xs,e1,h1,r1⟩:=va;obtain⟨p2,Qe,e2,h2,r2⟩:=vb;subst e1;subst e2;refine AU pr s σ H _ _ v u Q I rx ry ⟨p,p2,xs,Qe,rfl,rfl,h1,h2,by rw[r1.length,r2.length];exact hl,fun q hq=>?_⟩;obtain⟨JR,JW⟩:=rel.newL hq (r1.app r2);exact k _ _ G _ JW JR
  ·cases e
 ·rename_i i j;split at e
  ·rename_i hl;cases e;obtain⟨p,xs,e1,h1,r1⟩:=ft va;obtain⟨p2,Qe,e2,h2,r2⟩:=ft vb;subst e1;subst e2;have hx:xs≠[]:=fun z=>hl.1 (VQ (by rw[<-r1.length,z];rfl))
   refine zV pr s σ H _ _ v u Q I rx ry ⟨p,p2,xs,Qe,rfl,rfl,aV rel.gh h1,aV rel.gh h2,hx,by rw[r1.length,r2.length];exact hl.2,fun z=>?_,fun z q hq=>?_⟩
   ·have:j=[]:=VQ (by rw[<-r2.length,z];rfl);subst this;rw[Vm]at k;exact k _ H G fp .refl (rel.push va)
   ·obtain⟨G',JR,JW⟩:=kB rel hq (r1.app r2);exact k _ _ G' _ JW JR
  ·cases e
 ·cases e
noncomputable def xa:D->D->Res R
 | .int i,.int j=>.ok (.f,.int (i-j))
 |_,_=>.bad
theorem D2:Kz X (binaryOp .Sub) (rG X.K xa):=by
 rintro pr s σ H x y v u Q I rx ry ⟨G,fp,es,vs,a,b,r,⟨rel,k⟩,va,vb,e⟩;unfold xa at e;split at e
 ·rename_i i j;cases e;cases aN va;cases aN vb;exact C7 pr s σ H _ _ v u Q I rx ry ⟨i,j,rfl,rfl,k _ H G fp .refl (rel.push (aI _))⟩
 ·cases e
noncomputable def cA(i:Int):Bool:=decide (-(2 ^ 64)<i/\i<2 ^ 64)
def Hl:D->D->Res R
 | .int i,.int j=>if cA i||cA j then .ok (.f,.int (i*j)) else .bad
 |_,_=>.bad
theorem D3:Kz X (binaryOp .Mult) (rG X.K Hl):=by
 rintro pr s σ H x y v u Q I rx ry ⟨G,fp,es,vs,a,b,r,⟨rel,k⟩,va,vb,e⟩;unfold Hl at e;split at e
 ·rename_i i j;split at e
  ·rename_i hc;cases e;cases aN va;cases aN vb;have hc:CMul i j:=by
    rw[X1]at hc;exact hc.imp VL VL
   exact C8 pr s σ H _ _ v u Q I rx ry ⟨i,j,rfl,rfl,hc,k _ H G fp .refl (rel.push (aI _))⟩
  ·cases e
 ·cases e
noncomputable def dQ:D->D->Res R
 | .int i,.int j=>if 0<j/\j<1073741824 then .ok (.f,.int (i / j)) else .bad
 |_,_=>.bad
theorem AV:Kz X (binaryOp .FloorDiv) (rG X.K dQ):=by
 rintro pr s σ H x y v u Q I rx ry ⟨G,fp,es,vs,a,b,r,⟨rel,k⟩,va,vb,e⟩;unfold dQ at e;split at e
 ·rename_i i j;split at e
  ·rename_i hc;cases e;cases aN va;cases aN vb;exact zO pr s σ H _ _ v u Q I rx ry ⟨i,j,rfl,rfl,hc,k _ H G fp .refl (rel.push (aI _))⟩
  ·cases e
 ·cases e
noncomputable def dR:D->D->Res R
 | .int i,.int j=>if 0<j then .ok (.f,.int (i%j)) else .bad
 |_,_=>.bad
theorem D4:Kz X (binaryOp .Mod) (rG X.K dR):=by
 rintro pr s σ H x y v u Q I rx ry ⟨G,fp,es,vs,a,b,r,⟨rel,k⟩,va,vb,e⟩;unfold dR at e;split at e
 ·rename_i i j;split at e
  ·rename_i hc;cases e;cases aN va;cases aN vb;exact C9 pr s σ H _ _ v u Q I rx ry ⟨i,j,rfl,rfl,hc,k _ H G fp .refl (rel.push (aI _))⟩
  ·cases e
 ·cases e
noncomputable def qO:D->D->Res R
 | .int i,.int j=>if 0<=j/\j<=1000000/\i.natAbs<2 ^ 64 then .ok (.f,.int (i ^ j.toNat)) else .bad
 |_,_=>.bad
theorem D5:Kz X (binaryOp .Pow) (rG X.K qO):=by
 rintro pr s σ H x y v u Q I rx ry ⟨G,fp,es,vs,a,b,r,⟨rel,k⟩,va,vb,e⟩;unfold qO at e;split at e
 ·rename_i i j;split at e
  ·rename_i hc;cases e;cases aN va;cases aN vb;exact Dc pr s σ H _ _ v u Q I rx ry ⟨i,j,rfl,rfl,hc,k _ H G fp .refl (rel.push (aI _))⟩
  ·cases e
 ·cases e
noncomputable def Qa:D->D->Res R
 | .int i,.int j=>.ok (.f,.bl (decide (i<j)))
 | .str a,.str b=>.ok (.f,.bl (decide (a<b)))
 |_,_=>.bad
theorem Hm:Kz X (compareOp .Lt) (rG X.K Qa):=by
 rintro pr s σ H x y v u Q I rx ry ⟨G,fp,es,vs,a,b,r,⟨rel,k⟩,va,vb,e⟩;unfold Qa at e;split at e
 ·rename_i i j;cases e;cases aN va;cases aN vb;exact GK pr s σ H _ _ v u Q I rx ry ⟨i,j,rfl,rfl,k _ H G fp .refl (rel.push (bJ _))⟩
 ·rename_i i j;cases e;obtain⟨e1,h1⟩:=dH va;obtain⟨e2,h2⟩:=dH vb;subst e1;subst e2;refine rX pr s σ H _ _ v u Q I rx ry ⟨_,_,rfl,rfl,?_⟩;rw[cj,cj];exact k _ H G fp .refl (rel.push (bJ _))
 ·cases e
noncomputable def leD:D->D->Res R
 | .int i,.int j=>.ok (.f,.bl (decide (i<=j)))
 | .str a,.str b=>.ok (.f,.bl (!decide (b<a)))
 |_,_=>.bad
theorem Hn:Kz X (compareOp .LtE) (rG X.K leD):=by
 rintro pr s σ H x y v u Q I rx ry ⟨G,fp,es,vs,a,b,r,⟨rel,k⟩,va,vb,e⟩;unfold leD at e;split at e
 ·rename_i i j;cases e;cases aN va;cases aN vb;exact L2.GL pr s σ H _ _ v u Q I rx ry ⟨i,j,rfl,rfl,k _ H G fp .refl (rel.push (bJ _))⟩
 ·rename_i i j;cases e;obtain⟨e1,h1⟩:=dH va;obtain⟨e2,h2⟩:=dH vb;subst e1;subst e2;refine sv pr s σ H _ _ v u Q I rx ry ⟨_,_,rfl,rfl,?_⟩;rw[cj,cj];exact k _ H G fp .refl (rel.push (bJ _))
 ·cases e
noncomputable def gtD:D->D->Res R
 | .int i,.int j=>.ok (.f,.bl (decide (j<i)))
 |_,_=>.bad
theorem Ho:Kz X (compareOp .Gt) (rG X.K gtD):=by
 rintro pr s σ H x y v u Q I rx ry ⟨G,fp,es,vs,a,b,r,⟨rel,k⟩,va,vb,e⟩;unfold gtD at e;split at e
 ·rename_i i j;cases e;cases aN va;cases aN vb;exact GN pr s σ H _ _ v u Q I rx ry ⟨i,j,rfl,rfl,k _ H G fp .refl (rel.push (bJ _))⟩
 ·cases e
noncomputable def SR:D->D->Res R
 | .int i,.int j=>.ok (.f,.bl (decide (j<=i)))
 |_,_=>.bad
theorem Hq:Kz X (compareOp .GtE) (rG X.K SR):=by
 rintro pr s σ H x y v u Q I rx ry ⟨G,fp,es,vs,a,b,r,⟨rel,k⟩,va,vb,e⟩;unfold SR at e;split at e
 ·rename_i i j;cases e;cases aN va;cases aN vb;exact GO pr s σ H _ _ v u Q I rx ry ⟨i,j,rfl,rfl,k _ H G fp .refl (rel.push (bJ _))⟩
 ·cases e
end
abbrev FDs:=PV.Env->Res (List D×PV.Env)
inductive tDs(K:W.Frag)(f:FDs)(σ:L2.St)(H:Hp)(Q:List V->Hp->Prop):Prop
 |mk:∀G env fp ds env',Rel K G H env σ fp->f env=.ok (ds,env')->(∀vs H' G' JU,Step G H fp G' H' JU->Rel K G' H' env' σ JU->Reps K G' ds vs->Q vs H')->tDs K f σ H Q
def QQ(X:Cx)(es:List Expr)(f:FDs):Prop:=PA X es (tDs X.K f)
noncomputable def aD:FDs:=fun env=>.ok ([],env)
def af(f:FX)(g:FDs):FDs:=fun env=>(f env).bind fun p=>(g p.2).bind fun q=>.ok (p.1.2::q.1,q.2)
section
theorem nX:QQ X [] aD:=px dN fun σ H Q J2=>by
 obtain⟨G,env,fp,o,env',rel,e,k⟩:=J2;cases e;exact k [] H G fp .refl rel .nil
theorem kC{g:FDs}(h:QE X e f)(hs:QQ X es g)(Lz:starEach (e::es) X.env=(false,eval e X.env)::starEach es X.env:=by rfl):QQ X (e::es) (af f g):=
 px (a9 h hs Lz) fun σ H Q J2=>by
  obtain⟨G,env,fp,o,env',rel,e,k⟩:=J2;obtain⟨⟨r,JP⟩,e1,e⟩:=ae e;obtain⟨⟨ds,J4⟩,e2,e⟩:=ae e;cases e;refine⟨G,env,fp,r,JP,rel,e1,fun v H1 G1 Ke J8 JQ=>?_⟩;obtain⟨G2,b,rv,JR,JW⟩:=JQ.freeze;exact⟨G2,JP,b,ds,J4,JR,e2,fun vs H3 G3 K7 Kq Kr rs=>k _ H3 G3 K7 (J8.trans (JW.trans Kq)) Kr (.cons (Rep.mono Kq.gg rv) rs)⟩
def cU(fs:FDs):FX:=fun env=>(fs env).bind fun p=>if p.1.length<=1000 then .ok ((.f,.tup p.1),p.2) else .bad
def iG(fs:FDs):FX:=fun env=>(fs env).bind fun p=>if p.1.length<=1000 then .ok ((.l .f,.lst p.1),p.2) else .bad
variable{fs:FDs}{pos:Pos}
theorem D6{x1}(h:QQ X es fs):QE X (.Tuple es x1 pos) (cU fs):=aJ (sd h) fun σ H Q J2=>by
 obtain⟨G,env,fp,r,env',rel,e,k⟩:=J2;obtain⟨⟨ds,JP⟩,e1,e⟩:=ae e;dsimp only at e;split at e
 ·rename_i hl;cases e;refine⟨G,env,fp,ds,env',rel,e1,fun vs H1 G1 Ke J8 JQ rs=>⟨by rw[rs.length,line_eq];lia,fun p hp=>?_⟩⟩;obtain⟨G2,JR,JW⟩:=kB JQ hp rs;exact k _ _ G2 _ (J8.trans JW) JR
 ·cases e
theorem D7(h:QQ X es fs):QE X (.List es pos) (iG fs):=aJ (Dg h) fun σ H Q J2=>by
 obtain⟨G,env,fp,r,env',rel,e,k⟩:=J2;obtain⟨⟨ds,JP⟩,e1,e⟩:=ae e;dsimp only at e;split at e
 ·rename_i hl;cases e;refine⟨G,env,fp,ds,env',rel,e1,fun vs H1 G1 Ke J8 JQ rs=>⟨by rw[rs.length,line_eq];lia,fun p hp=>?_⟩⟩;obtain⟨JR,JW⟩:=JQ.newL hp rs;exact k _ _ G1 _ (J8.trans JW) JR
 ·cases e
def ixD:D->D->Res R
 | .lst ds,.int i=>match atI ds i with
  |some d=>.ok (.f,d)
  |none=>.bad
 | .tup ds,.int i=>match atI ds i with
  |some d=>.ok (.f,d)
  |none=>.bad
 | .str l,.int i=>match atI l i with
  |some c=>.ok (.f,.str [c])
  |none=>.bad
 |_,_=>.bad
theorem pF{i:Int}(r:Reps K G ds xs)(e:atI ds i=some d):∃v,atI xs i=some v/\Rep K G d v:=by
 unfold atI at e ⊢;rw[r.length];cases hn:ixN ds.length i with
 |none=>rw[hn]at e;cases e
 |some j=>
  rw[hn]at e;exact r.get e
theorem Hr:Qu X (rG X.K ixD):=by
 rintro value slice pr s σ H x y v u Q I rx ry ⟨G,fp,es,vs,a,b,r,⟨rel,k⟩,va,vb,e⟩ hs;unfold ixD at e;split at e
 ·rename_i ds i;split at e
  ·rename_i d hd;cases e;obtain⟨p,xs,ev,sq,rs⟩:=va;subst ev;cases aN vb;obtain⟨w',hw,MD⟩:=pF rs hd;exact zX value slice pr s σ H _ _ v u Q I rx ry ⟨p,xs,i,w',rfl,rfl,sq,hw,k _ H G fp .refl (rel.push MD)⟩ hs
  ·cases e
 ·rename_i ds i;split at e
  ·rename_i d hd;cases e;obtain⟨p,xs,ev,sq,rs⟩:=ft va;subst ev;cases aN vb;obtain⟨w',hw,MD⟩:=pF rs hd;exact yp value slice pr s σ H _ _ v u Q I rx ry ⟨p,xs,i,w',rfl,rfl,aV rel.gh sq,hw,k _ H G fp .refl (rel.push MD)⟩ hs
  ·cases e
 ·rename_i l i;split at e
  ·rename_i c hc;cases e;obtain⟨ev,hl⟩:=dH va;subst ev;cases aN vb;refine Dn value slice pr s σ H _ _ v u Q I rx ry ⟨_,i,c,rfl,rfl,by rw[lS];exact hl,by rw[cj];exact hc,?_⟩ hs;exact k _ H G fp .refl (rel.push (gS (l:=[c]) (by rw[line_eq];simp)))
  ·cases e
 ·cases e
variable{a b:Expr}{fb:FO}
theorem AW(ha:QO X a fa)(hb:QO X b fb)(hs:sk b:=by exact fun _ _=>rfl):QE X (.Subscript a b pos) (ao ixD fa fb):=aJ (Dm Hr ha hb hs) fun _ _ _=>pB
abbrev FP:=PV.Env->Res (Option Int×PV.Env)
inductive tQP(K:W.Frag)(f:FP)(σ:L2.St)(H:Hp)(Q:Option Int->Hp->Prop):Prop
 |mk:∀G env fp i env',Rel K G H env σ fp->f env=.ok (i,env')->(∀H' G' JU,Step G H fp G' H' JU->Rel K G' H' env' σ JU->Q i H')->tQP K f σ H Q
def QP(X:Cx)(e:Option Expr)(f:FP):Prop:=PO X e (tQP X.K f)
noncomputable def c9:FP:=fun env=>.ok (none,env)
def cI(f:FX):FP:=fun env=>(f env).bind fun p=>match p.1.2 with
 | .int i=>.ok (some i,p.2)
 |_=>.bad
theorem yI{e:Option Expr}{t t':TO}(h:PO X e t)(k:∀σ H Q,t' σ H Q->t σ H Q):PO X e t':=fun pr s σ H Q I w=>h pr s σ H Q I (k σ H Q w)
theorem AX:QP X none c9:=yI zT fun σ H Q J2=>by
 obtain⟨G,env,fp,i,env',rel,e,k⟩:=J2;cases e;exact k H G fp .refl rel
theorem AY(h:QE X e f):QP X (some e) (cI f):=yI (zU h) fun σ H Q J2=>by
 obtain⟨G,env,fp,i,env',rel,e,k⟩:=J2;obtain⟨⟨⟨o,d⟩,JP⟩,e1,e⟩:=ae e;dsimp only at e;split at e
 ·rename_i j;cases e;refine⟨G,env,fp,_,_,rel,e1,fun v H1 G1 Ke J8 JQ=>?_⟩;have hv:=JQ.top;obtain⟨b,JR,JW⟩:=JQ.drop;exact⟨j,f9 hv,k H1 G1 b (J8.trans JW) JR⟩
 ·cases e
def iH{α:Type}(xs:List α)(lo hi:Option Int):List α:=(xs.drop (HT.sIx xs.length 0 lo)).take (HT.sIx xs.length xs.length hi-HT.sIx xs.length 0 lo)
def QR(k:D)(lo hi:Option Int):Res R:=match k with
 | .lst ds=>.ok (.l .f,.lst (iH ds lo hi))
 | .tup ds=>if ¬ (HT.sIx ds.length 0 lo=0/\HT.sIx ds.length ds.length hi=ds.length) then .ok (.f,.tup (iH ds lo hi)) else .bad
 | .str l=>.ok (.f,.str (iH l lo hi))
 |_=>.bad
def eSl(fa:FO)(lo hi:FP):FX:=fun env=>(fa env).bind fun p=>(lo p.2).bind fun q=>(hi q.2).bind fun t=>(K5 t.2 p.1).bind fun d=>(QR d q.1 t.1).bind fun r=>.ok (r,t.2)
theorem pG{lo hi:Option Int}(r:Reps K G ds xs):Reps K G (iH ds lo hi) (yo xs lo hi):=by
 unfold iH yo;rw[r.length];exact(r.drop _).take _
theorem AZ(xs:List α)(lo hi:Option Int):(iH xs lo hi).length<=xs.length:=by
 unfold iH;rw[VB,Wi];lia
inductive rSl(K:W.Frag)(x:V)(lo:Option Int)(hi:Option Int)(H:Hp)(Q:VK):Prop
 |mk:∀G fp es vs d r,Goes K H G fp es vs r Q->Vw K G H d x->QR d lo hi=.ok r->rSl K x lo hi H Q
theorem D8:OR X (rSl X.K):=by
 rintro pr s σ H x v vl vu lo hi sl Q I rx hs pl pu ⟨G,fp,es,vs,d,r,⟨rel,k⟩,vd,e⟩;unfold QR at e;split at e
 ·rename_i ds;cases e;obtain⟨p,xs,ev,sq,rs⟩:=vd;subst ev;refine zY pr s σ H _ v vl vu lo hi sl Q I rx hs pl pu ⟨p,xs,rfl,sq,fun q hq=>?_⟩;obtain⟨JR,JW⟩:=rel.newL hq (pG (lo:=lo) (hi:=hi) rs);exact k _ _ G _ JW JR
 ·rename_i ds;split at e
  ·rename_i hw;cases e;obtain⟨p,xs,ev,sq,rs⟩:=ft vd;subst ev;refine Dl pr s σ H _ v vl vu lo hi sl Q I rx hs pl pu ⟨p,xs,rfl,aV rel.gh sq,by rw[rs.length];exact hw,fun q hq=>?_⟩;obtain⟨G2,JR,JW⟩:=kB rel hq (pG (lo:=lo) (hi:=hi) rs);exact k _ _ G2 _ JW JR
  ·cases e
 ·rename_i l;cases e;obtain⟨ev,hl⟩:=dH vd;subst ev;exact Du pr s σ H _ v vl vu lo hi sl Q I rx hs pl pu ⟨l,rfl,hl,k _ H G fp .refl (rel.push (gS (l:=Ds l lo hi) (Vo (AZ l lo hi) hl)))⟩
 ·cases e
noncomputable def qP(env:PV.Env)(i:Nat):Bool:=match env[i]? with
 |some (some (_,.lst _))=>true
 |_=>false
theorem xb{es:PV.Env}(rel:Rel K G H es σ fp)(h:qP es i=true):∃v,σ[i]?=some (some v)/\Sy K "list" v H:=by
 unfold qP at h;split at h
 ·rename_i o ds hr;obtain⟨v,ev,rv⟩:=rel.view hr;obtain⟨p,xs,e,sq,_⟩:=dO rv;subst e;exact⟨_,ev,.inl ⟨rfl,xs,sq⟩⟩
 ·cases h
def vP(i:Nat)(f:FX):FX:=fun env=>if qP env i then(f env).bind fun p=>match p.2[i]? with
 |some (some (.l .f,.lst ds))=>if ds.length<sizeLine then .ok ((.f,.non),p.2.set i (some (.l .f,.lst (ds++[p.1.2])))) else .bad
 |_=>.bad
 else .bad
theorem tU{o:Expr}{apos J3:Pos}(ho:PE X o (nK i))(he:QE X e f)
  (KG:attributeBase o "append" X.env (eval o X.env)=eval o X.env:=by rfl)
  (Lo:((backTo J3 (starEach [e] X.env)).all (fun x=>!x.1)&&(backToKw J3 (keywordEach [] X.env)).all (fun x=>x.1.isSome)&&decide ([e].length+([]:List Keyword).length+(if([]:List Keyword).isEmpty then 0 else 1)<30))=true:=by rfl)
  (KO:(apos.endLine==J3.line)=true:=by rfl) (hs:starEach [e] X.env=(false,eval e X.env)::starEach [] X.env:=by rfl) (Kx:(backTo J3 (starEach [] X.env)).any (·.1)=false:=by rfl):
  QE X (.Call (.Attribute o "append" apos) [e] [] J3) (vP i f):=by
 refine aJ (wj XD Yr Ys iX ho (kC he nX hs) KG Lo KO hs Kx) fun σ H Q Kk=>?_
 obtain⟨G,env,fp,r,env',rel,e,k⟩:=Kk;unfold vP at e;split at e
 ·rename_i MO;obtain⟨v,ev,ty⟩:=xb rel MO;obtain⟨⟨r1,JP⟩,e1,e⟩:=ae e;dsimp only at e;split at e
  ·rename_i ds Nm;split at e
   ·rename_i hl;cases e;refine⟨v,ev,ty,G,env,fp,[r1.2],JP,rel,by show(f env).bind _=_;rw[e1];rfl,fun vs H1 G1 Ke J8 JQ rs=>?_⟩;rw[Reps]at rs;obtain⟨y,ys,SS,ry,rn⟩:=rs;rw[Reps]at rn;subst rn;obtain⟨p,xs,ep,hp,QU,cg⟩:=JQ.chg (ds':=ds++[r1.2]) Nm;rw[ev]at ep;cases ep;obtain⟨fq,JR,JW⟩:=cg (xs++[y]) (QU.app (.one ry));exact⟨p,xs,y,rfl,SS,hp,by rw[QU.length];exact hl,k _ _ G1 fq (J8.trans JW) (JR.push ja)⟩
   ·cases e
  ·cases e
 ·cases e
noncomputable def Hs:List D->Res R
 |[.lst ds]=>.ok (.f,.int ds.length)
 |[.tup ds]=>.ok (.f,.int ds.length)
 |[.str l]=>.ok (.f,.int l.length)
 |_=>.bad
theorem jQ(h:OC K G H [d] xs):∃v,xs=[v]/\Vw K G H d v:=by
 obtain⟨y,ys,e,v1,e2⟩:=h;have e2:ys=[]:=e2;subst e2;exact⟨y,e,v1⟩
theorem ID{d':D}(h:OC K G H [d,d'] xs):∃v w,xs=[v,w]/\Vw K G H d v/\Vw K G H d' w:=by
 obtain⟨y,ys,e,v1,h2⟩:=h;obtain⟨z,e2,v2⟩:=jQ h2;subst e2;exact⟨y,z,e,v1,v2⟩
theorem D9:bL X (.builtin "len") (rC X.K Hs):=by
 rintro pr s σ H xs us Q I rx ⟨G,fp,es,vs,ds,r,⟨rel,k⟩,vd,e⟩;unfold Hs at e;split at e
 ·rename_i ds;cases e;obtain⟨v,ev,p,ys,ep,sq,rs⟩:=jQ vd;subst ev;subst ep;refine hX pr s σ H _ us Q I rx ⟨p,ys,rfl,.inl sq,?_⟩;rw[rs.length];exact k _ H G fp .refl (rel.push (aI _))
 ·rename_i ds;cases e;obtain⟨v,ev,vt⟩:=jQ vd;obtain⟨p,ys,ep,sq,rs⟩:=ft vt;subst ev;subst ep;refine hX pr s σ H _ us Q I rx ⟨p,ys,rfl,.inr (aV rel.gh sq),?_⟩;rw[rs.length];exact k _ H G fp .refl (rel.push (aI _))
 ·rename_i l;cases e;obtain⟨v,ev,vt⟩:=jQ vd;obtain⟨ep,hl⟩:=dH vt;subst ev;subst ep;refine lO pr s σ H _ us Q I rx ⟨S l,rfl,by rw[lS];exact hl,?_⟩;rw[lS];exact k _ H G fp .refl (rel.push (aI _))
 ·cases e
noncomputable def gW:List D->Res R
 |[.lst ds]=>.ok (.l .f,.lst ds)
 |[.tup ds]=>.ok (.l .f,.lst ds)
 |_=>.bad
theorem tV:bL X (.type "list") (rC X.K gW):=by
 rintro pr s σ H xs us Q I rx ⟨G,fp,es,vs,ds,r,⟨rel,k⟩,vd,e⟩;unfold gW at e;split at e
 ·rename_i ds;cases e;obtain⟨v,ev,p,ys,ep,sq,rs⟩:=jQ vd;subst ev;subst ep;refine hZ pr s σ H _ us Q I rx ⟨p,ys,rfl,.inl sq,fun q hq=>?_⟩;obtain⟨JR,JW⟩:=rel.newL hq rs;exact k _ _ G _ JW JR
 ·rename_i ds;cases e;obtain⟨v,ev,vt⟩:=jQ vd;obtain⟨p,ys,ep,sq,rs⟩:=ft vt;subst ev;subst ep;refine hZ pr s σ H _ us Q I rx ⟨p,ys,rfl,.inr (aV rel.gh sq),fun q hq=>?_⟩;obtain⟨JR,JW⟩:=rel.newL hq rs;exact k _ _ G _ JW JR
 ·cases e
noncomputable def bK:List D->Res R
 |[.lst ds]=>.ok (.f,.tup ds)
 |[.tup ds]=>.ok (.f,.tup ds)
 |_=>.bad
theorem xc:bL X (.type "tuple") (rC X.K bK):=by
 rintro pr s σ H xs us Q I rx ⟨G,fp,es,vs,ds,r,⟨rel,k⟩,vd,e⟩;unfold bK at e;split at e
 ·rename_i ds;cases e;obtain⟨v,ev,p,ys,ep,sq,rs⟩:=jQ vd;subst ev;subst ep;refine fX pr s σ H _ us Q I rx ⟨p,ys,rfl,.inl ⟨sq,fun q hq=>?_⟩⟩;obtain⟨G2,JR,JW⟩:=kB rel hq rs;exact k _ _ G2 _ JW JR
 ·rename_i ds;cases e;obtain⟨v,ev,vt⟩:=jQ vd;obtain⟨p,ys,ep,sq,rs⟩:=ft vt;subst ev;subst ep;exact fX pr s σ H _ us Q I rx ⟨p,ys,rfl,.inr ⟨aV rel.gh sq,k _ H G fp .refl (rel.push vt)⟩⟩
 ·cases e
noncomputable def ml:List D->Option (List Bool)
 |[]=>some []
 | .bl b::ds=>(ml ds).map (b:: ·)
 |_=>none
noncomputable def b8:List D->Option (List Int)
 |[]=>some []
 | .int b::ds=>(b8 ds).map (b:: ·)
 |_=>none
theorem jR{K:W.Frag}{G:Hp}:∀{ds:List D}{bs:List Bool}{xs:List V},ml ds=some bs->Reps K G ds xs->xs=bs.map V.bl
 |[],_,_,e,r=>by
  cases e;rw[Reps]at r;exact r
 | .bl b::ds,_,_,e,r=>by
  rw[ml,VF]at e;obtain⟨bs,e1,e2⟩:=e;subst e2;rw[Reps]at r;obtain⟨y,ys,e3,r1,r2⟩:=r;rw[e3,l9 r1,jR e1 r2];rfl
 | .non::_,_,_,e,_ | .int _::_,_,_,e,_ | .str _::_,_,_,e,_ | .tup _::_,_,_,e,_ | .lst _::_,_,_,e,_ | .dct _ _ _::_,_,_,e,_=>by simp[ml]at e
theorem dq{K:W.Frag}{G:Hp}:∀{ds:List D}{bs:List Int}{xs:List V},b8 ds=some bs->Reps K G ds xs->xs=bs.map V.int
 |[],_,_,e,r=>by
  cases e;rw[Reps]at r;exact r
 | .int b::ds,_,_,e,r=>by
  rw[b8,VF]at e;obtain⟨bs,e1,e2⟩:=e;subst e2;rw[Reps]at r;obtain⟨y,ys,e3,r1,r2⟩:=r;rw[e3,f9 r1,dq e1 r2];rfl
 | .non::_,_,_,e,_ | .bl _::_,_,_,e,_ | .str _::_,_,_,e,_ | .tup _::_,_,_,e,_ | .lst _::_,_,_,e,_ | .dct _ _ _::_,_,_,e,_=>by simp[b8]at e
theorem jS(ns:List Int):b8 (ns.map D.int)=some ns:=by
 induction ns with
 |nil=>rfl
 |cons n ns ih=>rw[Vj,b8,ih];rfl
theorem tW(ns:List Bool):ml (ns.map D.bl)=some ns:=by
 induction ns with
 |nil=>rfl
 |cons n ns ih=>rw[Vj,ml,ih];rfl
noncomputable def mq:D->Option (List D)
 | .lst ds=>some ds
 | .tup ds=>some ds
 |_=>none
theorem tY(gh:Same G H)(e:mq d=some ds)(h:Vw K G H d v):∃p xs,v=.ref p/\(SqL K H p xs\/SqT K H p xs)/\Reps K G ds xs:=by
 cases d with
 |lst es=>
  cases e;obtain⟨p,xs,ev,sq,rs⟩:=h;exact⟨p,xs,ev,.inl sq,rs⟩
 |tup es=>
  cases e;obtain⟨p,xs,ev,sq,rs⟩:=c6 h;exact⟨p,xs,ev,.inr (aV gh sq),rs⟩
 |_=>cases e
def CQ:List D->Res R
 |[d]=>match(mq d).bind ml with
  |some bs=>.ok (.f,.bl (bs.all id))
  |none=>.bad
 |_=>.bad
theorem xf(bs:List Bool):(bs.map V.bl).all GW=true:=by
 rw[V4,Vg];intro b _;rfl
theorem Ba(bs:List Bool):(bs.map V.bl).all Dw=bs.all id:=by
 rw[V4];rfl
theorem Ea(hc:X.calm=true):bL X (.builtin "all") (rC X.K CQ):=by
 rintro pr s σ H xs us Q I rx ⟨G,fp,es,vs,ds,r,⟨rel,k⟩,vd,e⟩;unfold CQ at e;split at e
 ·rename_i d;split at e
  ·rename_i bs hb;cases e;obtain⟨l,hl,hb⟩:=VC.mp hb;obtain⟨v,ev,vt⟩:=jQ vd;obtain⟨p,ys,ep,sq,rs⟩:=tY rel.gh hl vt;have:=jR hb rs;subst this;subst ev;subst ep;refine wx hc pr s σ H _ us Q I rx ⟨p,_,rfl,sq,xf bs,?_⟩;rw[Ba];exact k _ H G fp .refl (rel.push (bJ _))
  ·cases e
 ·cases e
def maxD:List D->Res R
 |[d]=>match(mq d).bind b8 with
  |some (n::ns)=>.ok (.f,.int (lV (n::ns)))
  |_=>.bad
 |[.int i,.int j]=>.ok (.f,.int (if i<j then j else i))
 |_=>.bad
theorem je{ns:List Int}(gh:Same G H)(hb:(mq d).bind b8=some ns)(vt:Vw K G H d v):∃p,v=.ref p/\(SqL K H p (ns.map V.int)\/SqT K H p (ns.map V.int)):=by
 obtain⟨l,hl,hb⟩:=VC.mp hb;obtain⟨p,ys,ep,sq,rs⟩:=tY gh hl vt;have:=dq hb rs;subst this;exact⟨p,ep,sq⟩
end
mutual
noncomputable def eqD:D->D->Bool
 | .non,.non=>true
 | .bl a,.bl b=>a==b
 | .bl a,.int j=>(if a then 1 else 0)==j
 | .int i,.bl b=>i==(if b then 1 else 0)
 | .int i,.int j=>i==j
 | .str a,.str b=>a==b
 | .tup a,.tup b=>gj a b
 | .lst a,.lst b=>gj a b
 |_,_=>false
noncomputable def gj:List D->List D->Bool
 |[],[]=>true
 |a::as,b::bs=>eqD a b&&gj as bs
 |_,_=>false
end
mutual
noncomputable def plainD:Nat->D->Bool
 |n+1,.tup ds=>plainDs n ds
 |n+1,.lst ds=>plainDs n ds
 | 0,.tup _=>false
 | 0,.lst _=>false
 |_,.dct _ _ _=>false
 |_,_=>true
noncomputable def plainDs:Nat->List D->Bool
 |_,[]=>true
 |n,d::ds=>plainD n d&&plainDs n ds
end
theorem plainDs_mem:∀{n:Nat}{ds:List D},plainDs n ds=true->∀{i:Nat}{d:D},ds[i]?=some d->plainD n d=true
 |_,[],_,_,_,e=>by simp at e
 |n,a::ds,h,0,d,e=>by
  rw[plainDs,U4]at h;simp at e;rw[<-e];exact h.1
 |n,a::ds,h,i+1,d,e=>by
  rw[plainDs,U4]at h;exact plainDs_mem h.2 (i:=i) (by simpa using e)
theorem iP:∀{a b:List D},a.length≠b.length->gj a b=false
 |[],[],h=>absurd rfl h
 |[],_::_,_=>by simp only[gj]
 |_::_,[],_=>by simp only[gj]
 |x::xs,y::ys,h=>by
  rw[gj,iP (fun e=>h (by simp[e])),Yi]
theorem gX:∀{a b:List D},a.length=b.length->(List.range a.length).all (fun j=>eqD (a.getD j .non) (b.getD j .non))=gj a b
 |[],[],_=>rfl
 |[],_::_,h=>by simp at h
 |_::_,[],h=>by simp at h
 |x::xs,y::ys,h=>by
  rw[gj,<-gX (a:=xs) (b:=ys) (by simpa using h),Va,YT,WT,V4];rfl
variable{pr:List (Addr×Obj)}{s:Shared}{tk:Bool}{A:Around}
section
theorem jg(I:Inv X pr σ H s){ys:List V}(h:SqL X.K H p xs)(h':SqT X.K H p ys):False:=by
 obtain⟨us,_,p1,_⟩:=I.list h;obtain⟨ws,_,p2,_⟩:=I.tuple h';exact SeqAt.ne_of_list_tuple p1.isList (show s.heap.IsTuple p ws.toArray from p2) rfl
theorem tZ{ks vs:List D}(h:plainD n (.dct tk ks vs)=true):False:=by cases n <;> (simp only[plainD]at h;cases h)
inductive Kd(X:Cx)(H:Hp)(s:Shared):D->V->Value->Prop
 |n:Kd X H s .non .non .none
 |b (b:Bool):Kd X H s (.bl b) (.bl b) (.bool b)
 |i (i:Int) (t:_):Kd X H s (.int i) (.int i) (.int i t)
 |s (l:List Nat) (z:Str) (t:_):z=S l->Kd X H s (.str l) (.str z) (.str z t)
 |t (l:List D) (p:Addr) (xs:List V) (JT:List Value):SqT X.K H p xs->Reps X.K H l xs->Vals xs JT->s.heap.IsTuple p JT.toArray->Kd X H s (.tup l) (.ref p) (.ref p)
 |l (l:List D) (p:Addr) (xs:List V) (JT:List Value):SqL X.K H p xs->Reps X.K H l xs->Vals xs JT->s.heap.IsList p JT.toArray->Kd X H s (.lst l) (.ref p) (.ref p)
theorem kd(I:Inv X pr σ H s){x:V}{v:Value}(h:plainD n d=true)(r:Rep X.K H d x)(rx:L2.RelV x v):Kd X H s d x v:=by
 cases d with
 |non=>cases ma r;cases rx;exact .n
 |bl b=>cases l9 r;cases rx;exact .b b
 |int i=>cases f9 r;obtain⟨t,rfl⟩:=rx;exact .i i t
 |str l=>obtain⟨rfl,_⟩:=dF r;obtain⟨t,rfl⟩:=rx;exact .s l _ t rfl
 |tup l=>obtain⟨p,xs,rfl,sq,rs⟩:=c6 r;cases rx;obtain⟨JT,vl,ip,_⟩:=I.tuple sq;exact .t l p xs JT sq rs vl ip
 |lst l=>obtain⟨p,xs,rfl,sq,rs⟩:=dO r;cases rx;obtain⟨JT,vl,ip,_⟩:=I.list sq;exact .l l p xs JT sq rs vl ip.isList
 |dct=>exact(tZ h).elim
theorem Kd.ref{d:D}{x:V}{p:Addr}(k:Kd X H s d x (.ref p)):x=.ref p:=by cases k <;> rfl
theorem Jt(x:V):∃v,L2.RelV x v:=by cases x <;> first|exact⟨_,rfl⟩|exact⟨_,default,rfl⟩
theorem pH{l':List D}(rs:Reps X.K H l xs)(La:Reps X.K H l' xs)(h:∀a b y,a∈l->b∈l'->Rep X.K H a y->Rep X.K H b y->a=b):l=l':=by
 have l1:=rs.length;have l2:=La.length;refine YK (by lia) fun j h1 h2=>?_
 obtain⟨y,hy,r1⟩:=rs.get (UT h1);obtain⟨y',T4,r2⟩:=La.get (UT h2);rw[hy]at T4;cases T4;exact h _ _ y (VZ h1) (VZ h2) r1 r2
theorem bh(h:plainDs n ds=true)(hd:d∈ds):plainD n d=true:=by
 obtain⟨i,hi⟩:=VM.mp hd;exact plainDs_mem h hi
theorem jh(I:Inv X pr σ H s):∀(n:Nat) (d e:D) (x:V),plainD n d=true->plainD n e=true->Rep X.K H d x->Rep X.K H e x->d=e
 |n,d,e,x,h,h',r,q=>by
  obtain⟨v,rx⟩:=Jt x;cases kd I h r rx with
  |t l p xs JT sq rs vl ip=>cases kd I h' q rx with
   |t l' _ _ _ Li La=>cases I.tuple_inj sq Li;cases n with
    |zero=>simp only[plainD]at h;cases h
    |succ n=>simp only[plainD]at h h';rw[pH rs La fun a b y ha hb=>jh I n a b y (bh h ha) (bh h' hb)]
   |l l' _ _ _ Li=>exact(jg I Li sq).elim
  |l l p xs JT sq rs vl ip=>cases kd I h' q rx with
   |l l' _ _ _ Li La=>cases I.list_inj sq Li;cases n with
    |zero=>simp only[plainD]at h;cases h
    |succ n=>simp only[plainD]at h h';rw[pH rs La fun a b y ha hb=>jh I n a b y (bh h ha) (bh h' hb)]
   |t l' _ _ _ Li=>exact(jg I sq Li).elim
  |s l z t e=>cases kd I h' q rx with|s l' _ _ e'=>rw[S_inj (e.symm.trans e')]
  |_=>cases kd I h' q rx;rfl
mutual
theorem gk:∀(d:D) (n:Nat),plainD n d=true->eqD d d=true
 | .non,_,_=>by simp only[eqD]
 | .bl _,_,_=>by simp only[eqD,VI]
 | .int _,_,_=>by simp only[eqD,VI]
 | .str _,_,_=>by simp only[eqD,VI]
 | .tup ds,0,h=>by simp only[plainD]at h;cases h
 | .tup ds,n+1,h=>by simp only[plainD]at h;simp only[eqD];exact ji ds n h
 | .lst ds,0,h=>by simp only[plainD]at h;cases h
 | .lst ds,n+1,h=>by simp only[plainD]at h;simp only[eqD];exact ji ds n h
 | .dct _ _ _,n,h=>by cases n <;> (simp only[plainD]at h;cases h)
theorem ji:∀(ds:List D) (n:Nat),plainDs n ds=true->gj ds ds=true
 |[],_,_=>by simp only[gj]
 |d::ds,n,h=>by
  rw[plainDs,U4]at h;rw[gj,gk d n h.1,ji ds n h.2];rfl
end
open PySem.SeqAt
theorem T5{l':List D}{K4:List V}{JT its':List Value}(rs:Reps X.K H l xs)(vl:Vals xs JT)(La:Reps X.K H l' K4)(LR:Vals K4 its')(f:∀(a b:D) (y z:V) (v u:Value),a∈l->b∈l'->Rep X.K H a y->Rep X.K H b z->L2.RelV y v->L2.RelV z u->EqAt A s v u (eqD a b))(j:Nat)(h1:j<JT.toArray.size)(h2:j<its'.toArray.size):EqAt A s JT.toArray[j] its'.toArray[j] (eqD (l.getD j .non) (l'.getD j .non)):=by
 have l1:=vl.length;have l2:=LR.length;have l3:=rs.length;have l4:=La.length;simp only[U9]at h1 h2;have g1:l[j]?=some (l[j]'(by lia)):=UT _;have g2:l'[j]?=some (l'[j]'(by lia)):=UT _;obtain⟨w1,ND,NF⟩:=rs.get g1;obtain⟨w2,QV,QY⟩:=La.get g2;obtain⟨u1,Mn,NG⟩:=vl.get ND;obtain⟨u2,OD,QZ⟩:=LR.get QV;have q1:JT.toArray[j]=u1:=by rw[UT h1]at Mn;simpa using Mn
 have q2:its'.toArray[j]=u2:=by rw[UT h2]at OD;simpa using OD
 rw[q1,q2,UU,UU,g1,g2];exact f _ _ w1 w2 u1 u2 (VZ _) (VZ _) NF QY NG QZ
theorem IE(I:Inv X pr σ H s)(ih:∀m,n=m+1->∀(d e:D) (x y:V) (v u:Value) (A:Around),plainD m d=true->plainD m e=true->A.units+m+1<cLine->Rep X.K H d x->Rep X.K H e y->L2.RelV x v->L2.RelV y u->EqAt A s v u (eqD d e))(d e:D)(x y:V)(v u:Value)(A:Around)(h:plainD n d=true)(h':plainD n e=true)(hu:A.units+n+1<cLine)(r:Rep X.K H d x)(q:Rep X.K H e y)(rx:L2.RelV x v)(ry:L2.RelV y u):EqAt A s v u (eqD d e)/\RcAt A s v u (eqD d e)/\RcNeAt A s v u (!eqD d e):=by
  have hA:A.units<cLine:=by lia
  have k1:=kd I h r rx;have k2:=kd I h' q ry;have key:∀p p',v=.ref p->u=.ref p'->RcAt A s v u (eqD d e)->EqAt A s v u (eqD d e):=fun p p' e1 e2 k=>by
   subst e1 e2;by_cases hp:p=p'
   ·subst hp;have e1:=k1.ref;have e2:=k2.ref;subst e1 e2;rw[<-jh I n d e _ h h' r q,gk d n h];exact .same _
   ·exact .of_refs hp k
  cases k1 with
  |n=>cases k2 with
   |n=>simp only[eqD];exact⟨.same _,.none_none,.none_none⟩
   |b b'=>simp only[eqD];exact⟨.none_bool _,.none_bool _,.none_bool _⟩
   |i i' t'=>simp only[eqD];exact⟨.none_int _ _,.none_int _ _,.none_int _ _⟩
   |s l' z' t' Oy=>simp only[eqD];exact⟨.none_str _ _,.none_str _ _,.none_str _ _⟩
   |t l' p' K4 its' Li La LR ip'=>simp only[eqD];exact⟨.none_tuple ip' hA,.none_tuple ip' hA,.none_tuple ip' hA⟩
   |l l' p' K4 its' Li La LR ip'=>simp only[eqD];exact⟨.none_list ip' hA,.none_list ip' hA,.none_list ip' hA⟩
  |b b=>cases k2 with
   |n=>simp only[eqD];exact⟨.bool_none _,.bool_none _,.bool_none _⟩
   |b b'=>simp only[eqD];exact⟨.bool_bool _ _,.bool_bool _ _,.bool_bool _ _⟩
   |i i' t'=>simp only[eqD];exact⟨.bool_int _ _ _,.bool_int _ _ _,.bool_int _ _ _⟩
   |s l' z' t' Oy=>simp only[eqD];exact⟨.bool_str _ _ _,.bool_str _ _ _,.bool_str _ _ _⟩
   |t l' p' K4 its' Li La LR ip'=>simp only[eqD];exact⟨.bool_tuple _ ip' hA,.bool_tuple _ ip' hA,.bool_tuple _ ip' hA⟩
   |l l' p' K4 its' Li La LR ip'=>simp only[eqD];exact⟨.bool_list _ ip' hA,.bool_list _ ip' hA,.bool_list _ ip' hA⟩
  |i i t=>cases k2 with
   |n=>simp only[eqD];exact⟨.int_none _ _,.int_none _ _,.int_none _ _⟩
   |b b'=>simp only[eqD];exact⟨.int_bool _ _ _,.int_bool _ _ _,.int_bool _ _ _⟩
   |i i' t'=>simp only[eqD];exact⟨.int_int _ _ _ _,.int_int _ _ _ _,.int_int _ _ _ _⟩
   |s l' z' t' Oy=>simp only[eqD];exact⟨.int_str _ _ _ _,.int_str _ _ _ _,.int_str _ _ _ _⟩
   |t l' p' K4 its' Li La LR ip'=>simp only[eqD];exact⟨.int_tuple _ _ ip' hA,.int_tuple _ _ ip' hA,.int_tuple _ _ ip' hA⟩
   |l l' p' K4 its' Li La LR ip'=>simp only[eqD];exact⟨.int_list _ _ ip' hA,.int_list _ _ ip' hA,.int_list _ _ ip' hA⟩
  |s l z t hz=>cases k2 with
   |n=>simp only[eqD];exact⟨.str_none _ _,.str_none _ _,.str_none _ _⟩
   |b b'=>simp only[eqD];exact⟨.str_bool _ _ _,.str_bool _ _ _,.str_bool _ _ _⟩
   |i i' t'=>simp only[eqD];exact⟨.str_int _ _ _ _,.str_int _ _ _ _,.str_int _ _ _ _⟩
   |s l' z' t' Oy=>
    have e1:(l==l')=(z==z'):=by
     rw[hz,Oy,Vr,Vz,Vz];exact⟨fun z=>by rw[z],S_inj⟩
    simp only[eqD,e1];exact⟨.str_str _ _ _ _,.str_str _ _ _ _,.str_str _ _ _ _⟩
   |t l' p' K4 its' Li La LR ip'=>simp only[eqD];exact⟨.str_tuple _ _ ip' hA,.str_tuple _ _ ip' hA,.str_tuple _ _ ip' hA⟩
   |l l' p' K4 its' Li La LR ip'=>simp only[eqD];exact⟨.str_list _ _ ip' hA,.str_list _ _ ip' hA,.str_list _ _ ip' hA⟩
  |t l p xs JT sq rs vl ip=>cases k2 with
   |n=>simp only[eqD];exact⟨.tuple_none ip hA,.tuple_none ip hA,.tuple_none ip hA⟩
   |b b'=>simp only[eqD];exact⟨.tuple_bool _ ip hA,.tuple_bool _ ip hA,.tuple_bool _ ip hA⟩
   |i i' t'=>simp only[eqD];exact⟨.tuple_int _ _ ip hA,.tuple_int _ _ ip hA,.tuple_int _ _ ip hA⟩
   |s l' z' t' Oy=>simp only[eqD];exact⟨.tuple_str _ _ ip hA,.tuple_str _ _ ip hA,.tuple_str _ _ ip hA⟩
   |t l' p' K4 its' Li La LR ip'=>
    cases n with
    |zero=>simp only[plainD]at h;cases h
    |succ n=>
     have hh:=h;have Q0:=h';simp only[plainD]at hh Q0;have el:=T5 (A:=A.in1) rs vl La LR fun a b y z v u ha hb ra rb rv ru=>(ih n rfl a b y z v u A.in1 (bh hh ha) (bh Q0 hb) (by show A.units+1+n+1<cLine;lia) ra rb rv ru)
     have l1:=vl.length;have l2:=LR.length;have l3:=rs.length;have l4:=La.length;have fin:((List.range (min JT.toArray.size its'.toArray.size)).all (fun j=>eqD (l.getD j .non) (l'.getD j .non))&&JT.toArray.size==its'.toArray.size)=eqD (.tup l) (.tup l'):=by
      simp only[eqD,U9];by_cases hl:l.length=l'.length
      ·rw[<-gX hl,show min JT.length its'.length=l.length by lia,show(JT.length==its'.length)=true by rw[Vz];lia,Xm]
      ·rw[iP hl,show(JT.length==its'.length)=false by rw[V7];lia,Yi]
     have k:=RcAt.tuples (e:=fun j=>eqD (l.getD j .non) (l'.getD j .non)) ip ip' hA el;rw[fin]at k;refine⟨key p p' rfl rfl k,k,?_⟩;rw[<-fin];exact .tuples ip ip' hA el
   |l l' p' K4 its' Li La LR ip'=>simp only[eqD];exact⟨.tuple_list ip ip' hA,.tuple_list ip ip' hA,.tuple_list ip ip' hA⟩
  |l l p xs JT sq rs vl ip=>cases k2 with
   |n=>simp only[eqD];exact⟨.list_none ip hA,.list_none ip hA,.list_none ip hA⟩
   |b b'=>simp only[eqD];exact⟨.list_bool _ ip hA,.list_bool _ ip hA,.list_bool _ ip hA⟩
   |i i' t'=>simp only[eqD];exact⟨.list_int _ _ ip hA,.list_int _ _ ip hA,.list_int _ _ ip hA⟩
   |s l' z' t' Oy=>simp only[eqD];exact⟨.list_str _ _ ip hA,.list_str _ _ ip hA,.list_str _ _ ip hA⟩
   |t l' p' K4 its' Li La LR ip'=>simp only[eqD];exact⟨.list_tuple ip ip' hA,.list_tuple ip ip' hA,.list_tuple ip ip' hA⟩
   |l l' p' K4 its' Li La LR ip'=>
    cases n with
    |zero=>simp only[plainD]at h;cases h
    |succ n=>
     have hh:=h;have Q0:=h';simp only[plainD]at hh Q0;have l1:=vl.length;have l2:=LR.length;have l3:=rs.length;have l4:=La.length;have e0:eqD (.lst l) (.lst l')=gj l l':=by simp only[eqD]
     have k:RcAt A s (.ref p) (.ref p') (eqD (.lst l) (.lst l'))/\RcNeAt A s (.ref p) (.ref p') (!eqD (.lst l) (.lst l')):=by
      rw[e0];by_cases hl:l.length=l'.length
      ·have el:=T5 (A:=A.in1) rs vl La LR fun a b y z v u ha hb ra rb rv ru=>(ih n rfl a b y z v u A.in1 (bh hh ha) (bh Q0 hb) (by show A.units+1+n+1<cLine;lia) ra rb rv ru)
       rw[<-gX hl,show l.length=JT.toArray.size by simp only[U9];lia];exact⟨.lists (e:=fun j=>eqD (l.getD j .non) (l'.getD j .non)) ip ip' (by simp only[U9];lia) hA el,.lists (e:=fun j=>eqD (l.getD j .non) (l'.getD j .non)) ip ip' (by simp only[U9];lia) hA el⟩
      ·rw[iP hl];exact⟨.lists_lengths ip ip' (by simp only[U9,bne_iff_ne];lia) hA,.lists_lengths ip ip' (by simp only[U9,bne_iff_ne];lia) hA⟩
     exact⟨key p p' rfl rfl k.1,k⟩
theorem SU(I:Inv X pr σ H s):∀(n:Nat) (d e:D) (x y:V) (v u:Value) (A:Around),plainD n d=true->plainD n e=true->A.units+n+1<cLine->Rep X.K H d x->Rep X.K H e y->L2.RelV x v->L2.RelV y u->EqAt A s v u (eqD d e)/\RcAt A s v u (eqD d e)/\RcNeAt A s v u (!eqD d e)
 | 0=>IE I fun _ z=>nomatch z
 |n+1=>IE I fun m z d e x y v u A h h' hu r q rx ry=>by
  cases z;exact(SU I n d e x y v u A h h' hu r q rx ry).1
theorem Eb(I:Inv X pr σ H s)(d e:D)(x y:V)(v u:Value)(A:Around)(n:Nat)(h:plainD n d=true)(h':plainD n e=true)(hu:A.units+n+1<cLine)(r:Rep X.K H d x)(q:Rep X.K H e y)(rx:L2.RelV x v)(ry:L2.RelV y u):EqAt A s v u (eqD d e):=(SU I n d e x y v u A h h' hu r q rx ry).1
end
variable{y:V}
section
def eqO(a b:D):Res R:=if plainD 40 a&&plainD 40 b then .ok (.f,.bl (eqD a b)) else .bad
def neO(a b:D):Res R:=if plainD 40 a&&plainD 40 b then .ok (.f,.bl (!eqD a b)) else .bad
open PySem.SeqAt in
theorem Ec(I:Inv X pr σ H s){e:D}{x:V}{v u:Value}(h:plainD 40 d=true)(h':plainD 40 e=true)(hu:A.units+64<cLine)(r:Rep X.K H d x)(q:Rep X.K H e y)(rx:RelV x v)(ry:RelV y u):
  RcAt A s v u (eqD d e)/\RcNeAt A s v u (!eqD d e):=(SU I 40 d e x y v u A h h' (by lia) r q rx ry).2
theorem Ed(hu:X.A.units+64<cLine):Kz X (compareOp .Eq) (rGA X.K eqO):=by
 rintro pr s σ H x y v u Q I rx ry ⟨G,fp,es,vs,a,b,r,⟨rel,k⟩,va,vb,e⟩;unfold eqO at e;split at e
 ·rename_i hp;cases e;rw[U4]at hp;exact(Ec I hp.1 hp.2 hu va vb rx ry).1 _ _ _ _ ⟨.bl _,H,I,rfl,k _ H G fp .refl (rel.push (bJ _))⟩
 ·cases e
theorem Ee(hu:X.A.units+64<cLine):Kz X (compareOp .NotEq) (rGA X.K neO):=by
 rintro pr s σ H x y v u Q I rx ry ⟨G,fp,es,vs,a,b,r,⟨rel,k⟩,va,vb,e⟩;unfold neO at e;split at e
 ·rename_i hp;cases e;rw[U4]at hp;exact(Ec I hp.1 hp.2 hu va vb rx ry).2 _ _ _ _ ⟨.bl _,H,I,rfl,k _ H G fp .refl (rel.push (bJ _))⟩
 ·cases e
def rH(a:D)(ds:List D):Bool:=ds.any fun d=>eqD d a
def Nj(a b:D):Res R:=match b with
 | .lst ds=>if plainD 40 a&&plainDs 40 ds then .ok (.f,.bl (rH a ds)) else .bad
 | .tup ds=>if plainD 40 a&&plainDs 40 ds then .ok (.f,.bl (rH a ds)) else .bad
 | .str l=>match a with
  | .str [c]=>.ok (.f,.bl (decide (c∈l)))
  |_=>.bad
 |_=>.bad
def Bb(a b:D):Res R:=(Nj a b).bind fun r=>match r.2 with
 | .bl k=>.ok (.f,.bl (!k))
 |_=>.bad
open PySem.SeqAt in
theorem pI(I:Inv X pr σ H s){a:D}{x:V}{v:Value}(h:plainD 40 a=true)(hu:A.units+64<cLine)(r:Rep X.K H a x)(rx:RelV x v):
  ∀(ds:List D) (xs:List V) (us:List Value),plainDs 40 ds=true->Reps X.K H ds xs->Vals xs us->∃e:Value->Bool,us.any e=rH a ds/\∀u∈us,EqAt A s u v (e u):=by
 classical
 intro ds xs us hp rs vl;refine⟨fun u=>decide (∃(j:Nat) (d:D),ds[j]?=some d/\us[j]?=some u/\eqD d a=true),?_,fun u NH=>?_⟩
 ·rw[Vr,V0];unfold rH;rw[V0];constructor
  ·rintro⟨u,_,hd⟩;obtain⟨j,d,h1,_,h2⟩:=VL hd;exact⟨d,Vu h1,h2⟩
  ·rintro⟨d,hd,h2⟩;obtain⟨j,hj⟩:=VM.mp hd;obtain⟨w1,ND,NF⟩:=rs.get hj;obtain⟨u1,Mn,NG⟩:=vl.get ND;exact⟨u1,Vu Mn,VA ⟨j,d,hj,Mn,h2⟩⟩
 ·obtain⟨j,hj⟩:=VM.mp NH;have l1:=vl.length;have l2:=rs.length;have hjl:=(U0.mp hj).1;have g1:ds[j]?=some (ds[j]'(by lia)):=UT _;obtain⟨w1,ND,NF⟩:=rs.get g1;obtain⟨u1,Mn,NG⟩:=vl.get ND;rw[hj]at Mn;cases Mn;have z:=Eb I _ _ w1 x u v A 40 (plainDs_mem hp g1) h (by lia) NF r NG rx;have e:decide (∃(j:Nat) (d:D),ds[j]?=some d/\us[j]?=some u/\eqD d a=true)=eqD (ds[j]'(by lia)) a:=by
   rw[Vr,Vc];constructor
   ·rintro⟨j2,d2,k1,k2,k3⟩;obtain⟨w2,QV,QY⟩:=rs.get k1;obtain⟨u2,OD,QZ⟩:=vl.get QV;rw[k2]at OD;cases OD;have:=NG.inj QZ;subst this;rw[jh I 40 _ _ _ (plainDs_mem hp g1) (plainDs_mem hp k1) NF QY];exact k3
   ·intro k3;exact⟨j,_,g1,hj,k3⟩
  show EqAt A s u v (decide (∃(j:Nat) (d:D),ds[j]?=some d/\us[j]?=some u/\eqD d a=true));rw[e];exact z
theorem mr(l:List Nat)(c:Nat):(!(Builtin.Str.occurrences (S l) (S [c]) 0 (S l).length 1).isEmpty)=decide (c∈l):=by
 have h:=PySem.StrLaws.found_one (S l) c;rw[cj]at h;exact h
theorem kF{e:Value->Bool}(us:List Value):us.toArray.any e=us.any e:=by simp
theorem Ht(hu:X.A.units+65<cLine):Kz X (compareOp .In) (rGA X.K Nj):=by
 rintro pr s σ H x y v u Q I rx ry ⟨G,fp,es,vs,a,b,r,⟨rel,k⟩,va,vb,e⟩;unfold Nj at e;split at e
 ·rename_i ds;split at e
  ·rename_i hp;cases e;rw[U4]at hp;obtain⟨p,xs,ev,sq,rs⟩:=dO vb;subst ev;cases ry;obtain⟨JT,vl,ip,_⟩:=I.list sq;obtain⟨ef,e1,e2⟩:=pI (A:=X.A.in1) I hp.1 (by show X.A.units+1+64<cLine;lia) va rx ds xs JT hp.2 rs vl;refine SeqAt.in_listAt ef ip.isList (fun z hz=>e2 z (by simpa using hz)) ?_;rw[kF,e1];exact⟨.bl _,H,I,rfl,k _ H G fp .refl (rel.push (bJ _))⟩
  ·cases e
 ·rename_i ds;split at e
  ·rename_i hp;cases e;rw[U4]at hp;obtain⟨p,xs,ev,sq,rs⟩:=c6 vb;subst ev;cases ry;obtain⟨JT,vl,ip,_⟩:=I.tuple sq;obtain⟨ef,e1,e2⟩:=pI (A:=X.A.in1) I hp.1 (by show X.A.units+1+64<cLine;lia) va rx ds xs JT hp.2 rs vl;refine SeqAt.in_tupleAt ef (show s.heap.IsTuple p JT.toArray from ip) (fun z hz=>e2 z (by simpa using hz)) ?_;rw[kF,e1];exact⟨.bl _,H,I,rfl,k _ H G fp .refl (rel.push (bJ _))⟩
  ·cases e
 ·rename_i l;split at e
  ·rename_i c;cases e;obtain⟨e1,h1⟩:=dF va;obtain⟨e2,h2⟩:=dF vb;subst e1;subst e2;refine rY pr s σ H _ _ v u Q I rx ry ⟨_,_,rfl,rfl,?_⟩;rw[mr];exact k _ H G fp .refl (rel.push (bJ _))
  ·cases e
 ·cases e
theorem Ef(hu:X.A.units+65<cLine):Kz X (compareOp .NotIn) (rGA X.K Bb):=by
 rintro pr s σ H x y v u Q I rx ry ⟨G,fp,es,vs,a,b,r,⟨rel,k⟩,va,vb,e⟩;unfold Bb at e;obtain⟨r0,e0,e⟩:=ae e;unfold Nj at e0;split at e0
 ·rename_i ds;split at e0
  ·rename_i hp;cases e0;cases e;rw[U4]at hp;obtain⟨p,xs,ev,sq,rs⟩:=dO vb;subst ev;cases ry;obtain⟨JT,vl,ip,_⟩:=I.list sq;obtain⟨ef,e1,e2⟩:=pI (A:=X.A.in1) I hp.1 (by show X.A.units+1+64<cLine;lia) va rx ds xs JT hp.2 rs vl;refine SeqAt.notIn_listAt ef ip.isList (fun z hz=>e2 z (by simpa using hz)) ?_;rw[kF,e1];exact⟨.bl _,H,I,rfl,k _ H G fp .refl (rel.push (bJ _))⟩
  ·cases e0
 ·rename_i ds;split at e0
  ·rename_i hp;cases e0;cases e;rw[U4]at hp;obtain⟨p,xs,ev,sq,rs⟩:=c6 vb;subst ev;cases ry;obtain⟨JT,vl,ip,_⟩:=I.tuple sq;obtain⟨ef,e1,e2⟩:=pI (A:=X.A.in1) I hp.1 (by show X.A.units+1+64<cLine;lia) va rx ds xs JT hp.2 rs vl;refine SeqAt.notIn_tupleAt ef (show s.heap.IsTuple p JT.toArray from ip) (fun z hz=>e2 z (by simpa using hz)) ?_;rw[kF,e1];exact⟨.bl _,H,I,rfl,k _ H G fp .refl (rel.push (bJ _))⟩
  ·cases e0
 ·rename_i l;split at e0
  ·rename_i c;cases e0;cases e;obtain⟨e1,h1⟩:=dF va;obtain⟨e2,h2⟩:=dF vb;subst e1;subst e2;refine lE pr s σ H _ _ v u Q I rx ry ⟨_,_,rfl,rfl,?_⟩;rw[mr];exact k _ H G fp .refl (rel.push (bJ _))
  ·cases e0
 ·cases e0
noncomputable def isO(a b:D):Res R:=match b with
 | .bl k=>.ok (.f,.bl (match a with | .bl j=>j==k|_=>false))
 | .non=>.ok (.f,.bl (match a with | .non=>true|_=>false))
 |_=>.bad
def isnO(a b:D):Res R:=(isO a b).bind fun r=>match r.2 with
 | .bl k=>.ok (.f,.bl (!k))
 |_=>.bad
theorem pJ{a b:D}{x:V}{v u:Value}{r:R}(va:Rep K H a x)(vb:Rep K H b y)(rx:RelV x v)(ry:RelV y u)(e:isO a b=.ok r):plainIs v u=true/\r=(.f,.bl (v==u)):=by
 unfold isO at e;split at e
 ·rename_i k;cases e;cases l9 vb;cases ry;cases a with
  |non=>cases ma va;cases rx;exact⟨rfl,rfl⟩
  |bl j=>cases l9 va;cases rx;refine⟨rfl,?_⟩;cases j <;> cases k <;> rfl
  |int i=>cases f9 va;obtain⟨t,rfl⟩:=rx;exact⟨rfl,rfl⟩
  |str l=>cases(dF va).1;obtain⟨t,rfl⟩:=rx;exact⟨rfl,rfl⟩
  |tup l=>obtain⟨p,xs,rfl,_⟩:=c6 va;cases rx;exact⟨rfl,rfl⟩
  |lst l=>obtain⟨p,xs,rfl,_⟩:=dO va;cases rx;exact⟨rfl,rfl⟩
  |dct tk ks vs=>rw[Rep]at va;obtain⟨p,xs,o,rfl,_⟩:=va;cases rx;exact⟨rfl,rfl⟩
 ·cases e;cases ma vb;cases ry;cases a with
  |non=>cases ma va;cases rx;exact⟨rfl,rfl⟩
  |bl j=>cases l9 va;cases rx;exact⟨rfl,rfl⟩
  |int i=>cases f9 va;obtain⟨t,rfl⟩:=rx;exact⟨rfl,rfl⟩
  |str l=>cases(dF va).1;obtain⟨t,rfl⟩:=rx;exact⟨rfl,rfl⟩
  |tup l=>obtain⟨p,xs,rfl,_⟩:=c6 va;cases rx;exact⟨rfl,rfl⟩
  |lst l=>obtain⟨p,xs,rfl,_⟩:=dO va;cases rx;exact⟨rfl,rfl⟩
  |dct tk ks vs=>rw[Rep]at va;obtain⟨p,xs,o,rfl,_⟩:=va;cases rx;exact⟨rfl,rfl⟩
 ·cases e
theorem Hu:Kz X (compareOp .Is) (rGA X.K isO):=by
 rintro pr s σ H x y v u Q I rx ry ⟨G,fp,es,vs,a,b,r,⟨rel,k⟩,va,vb,e⟩;obtain⟨h1,h2⟩:=pJ va vb rx ry e;subst h2;exact wpAny_is_plain h1 ⟨.bl _,H,I,rfl,k _ H G fp .refl (rel.push (bJ _))⟩
theorem Eg:Kz X (compareOp .IsNot) (rGA X.K isnO):=by
 rintro pr s σ H x y v u Q I rx ry ⟨G,fp,es,vs,a,b,r,⟨rel,k⟩,va,vb,e⟩;obtain⟨r0,e0,e⟩:=ae e;obtain⟨h1,h2⟩:=pJ va vb rx ry e0;subst h2;cases e;exact wpAny_isNot_plain h1 ⟨.bl _,H,I,rfl,k _ H G fp .refl (rel.push (bJ _))⟩
end
section
theorem Eh(hc:X.calm=true):bL X (.builtin "max") (rC X.K maxD):=by
 rintro pr s σ H xs us Q I rx ⟨G,fp,es,vs,ds,r,⟨rel,k⟩,vd,e⟩;unfold maxD at e;split at e
 ·rename_i d;split at e
  ·rename_i n ns hb;cases e;obtain⟨v,ev,vt⟩:=jQ vd;obtain⟨p,ep,sq⟩:=je rel.gh hb vt;subst ev;subst ep;exact sL hc pr s σ H _ us Q I rx ⟨p,n::ns,rfl,sq,by simp,k _ H G fp .refl (rel.push (aI _))⟩
  ·cases e
 ·rename_i i j;cases e;obtain⟨v,w',ev,v1,v2⟩:=ID vd;subst ev;cases aN v1;cases aN v2;obtain⟨u,u',rfl,⟨t,rfl⟩,t',rfl⟩:=nM rx;refine max_two_ints (I.ok.hd hc) fun h' tk kk=>?_
  have I2:Inv X pr σ H {s with heap:=h',toks:=tk}:=I.kept kk;refine⟨.int (if i<j then j else i),H,I2,?_,k _ H G fp .refl (rel.push (aI _))⟩;by_cases Nh:i<j
  ·rw[U2 Nh,U2 (show j>i from Nh)];exact⟨_,rfl⟩
  ·rw[U6 Nh,U6 (show ¬ j>i from Nh)];exact⟨_,rfl⟩
 ·cases e
def xg(f g:FX):FX:=fun env=>(f env).bind fun p=>(g p.2).bind fun q=>match(mq p.1.2).bind b8,q.1.2 with
 |some ns,.int d=>.ok ((.f,.int (NX.maxD ns d)),q.2)
 |_,_=>.bad
theorem Bc{k:Expr}{g:FX}{p pos MC:Pos}(hc:X.calm=true)(hg:Gl X "max")(hm:X.mg "max" = none)(he:QE X e f)(hk:QE X k g)(hs:starEach [e] X.env=[(false,eval e X.env)]:=by rfl):
  QE X (.Call (.Name "max" p) [e] [⟨some "default",k,MC⟩] pos) (xg f g):=aJ (Ai hc hg hm he hk hs) fun σ H Q J2=>by
 obtain⟨G,env,fp,r,env',rel,e,k⟩:=J2;obtain⟨⟨r1,JP⟩,e1,e⟩:=ae e;obtain⟨⟨r2,J4⟩,e2,e⟩:=ae e;dsimp only at e;split at e
 ·rename_i ns d MM hd;cases e;refine⟨G,env,fp,r1,JP,rel,e1,fun v H1 G1 Ke J8 JQ=>?_⟩;obtain⟨G2,b,rv,JR,JW⟩:=JQ.freeze;refine⟨G2,JP,b,r2,_,JR,e2,fun w' H3 G3 K7 Kq Kr=>?_⟩;have hw:=Kr.top;obtain⟨b3,KC,K2⟩:=Kr.drop;rw[hd]at hw;obtain⟨p',ep,sq⟩:=je KC.gh MM (Vw.of KC.gh (Rep.mono Kq.gg rv));subst ep;exact⟨p',ns,d,rfl,by rw[f9 hw],sq,k _ H3 G3 b3 (J8.trans (JW.trans (Kq.trans K2))) (KC.push (aI _))⟩
 ·cases e
noncomputable def Ei:List D->Res R
 |[.bl b]=>.ok (.f,.int (if b then 1 else 0))
 |[.int i]=>.ok (.f,.int i)
 |_=>.bad
theorem Ej:bL X (.type "int") (rC X.K Ei):=by
 rintro pr s σ H xs us Q I rx ⟨G,fp,es,vs,ds,r,⟨rel,k⟩,vd,e⟩;unfold Ei at e;split at e
 ·rename_i b;cases e;obtain⟨v,ev,v1⟩:=jQ vd;subst ev;cases Hh v1;obtain⟨u,rfl,ru⟩:=cO rx;cases ru;exact call_int_bool ⟨.int _,H,I.tok _,⟨_,rfl⟩,k _ H G fp .refl (rel.push (aI _))⟩
 ·rename_i i;cases e;obtain⟨v,ev,v1⟩:=jQ vd;subst ev;cases aN v1;obtain⟨u,rfl,t,rfl⟩:=cO rx;first
   |exact ZK ⟨.int _,H,I.tok _,⟨_,rfl⟩,k _ H G fp .refl (rel.push (aI _))⟩
   |exact ZK ⟨.int _,H,I,⟨_,rfl⟩,k _ H G fp .refl (rel.push (aI _))⟩
 ·cases e
noncomputable def nZ:D->String
 | .non=>"NoneType"
 | .bl _=>"bool"
 | .int _=>"int"
 | .str _=>"str"
 | .tup _=>"tuple"
 | .lst _=>"list"
 | .dct _ _ _=>"dict"
def xh(T:String)(d:D):Bool:=nZ d==T||(nZ d == "bool" && T == "int")
def eIs(T:String)(f:FO):FX:=fun env=>(f env).bind fun p=>(nG p.2 p.1).bind fun d=>.ok ((.f,.bl (xh T d)),p.2)
theorem Ek(K:W.Frag)(d:D)(hT:T = "int"\/T = "bool"\/T = "str"\/T = "list"\/T = "tuple"\/T = "dict"):PySem.W.kitOne K (.type (nZ d)) (.type T)=some (xh T d):=by
 rcases hT with rfl|rfl|rfl|rfl|rfl|rfl <;> cases d <;> (unfold PySem.W.kitOne PySem.W.kitCls PySem.W.subIn;kernel_rfl)
theorem xi:bL X (.builtin "isinstance") (fun xs H Q=>∃d x T,xs=[x,.ty T]/\Rep X.K H d x/\(T = "int"\/T = "bool"\/T = "str"\/T = "list"\/T = "tuple"\/T = "dict")/\Q (.bl (xh T d)) H):=by
 intro pr s σ H xs us Q I r h;obtain⟨d,x,T,rfl,rd,hT,q⟩:=h;obtain⟨u,w',rfl,r1,r2⟩:=nM r;cases(show w'=Value.type T from r2);have e:=Ek X.K d hT;have fin:∀tk,EP X pr σ Q (.bool (xh T d)) {s with toks:=tk}:=fun tk=>⟨.bl (xh T d),H,I.tok tk,rfl,q⟩
 cases d with
 |non=>cases ma rd;cases(show u=Value.none from r1);exact Wg PySem.W.kitx_none I.kIn True.intro e (fun z=>nomatch z) fin
 |bl y=>cases l9 rd;cases(show u=Value.bool y from r1);exact Wg PySem.W.kitx_bool I.kIn True.intro e (fun z=>nomatch z) fin
 |int i=>cases f9 rd;obtain⟨t,z⟩:=(show ∃t,u=Value.int i t from r1);cases z;exact Wg PySem.W.kitx_int I.kIn True.intro e (fun z=>nomatch z) fin
 |str l=>
  have hr:=(dF rd).1;subst hr;obtain⟨t,z⟩:=(show ∃t,u=Value.str (S l) t from r1)
  cases z;exact Wg PySem.W.kitx_str I.kIn True.intro e (fun z=>nomatch z) fin
 |lst l=>
  obtain⟨p,xs,ev,sq,_⟩:=dO rd;subst ev;cases(show u=Value.ref p from r1);obtain⟨JT,_,ip,_⟩:=I.list sq;obtain⟨o,ho,hc,_⟩:=ip.isList;exact Wg PySem.W.kitx_list I.kIn ⟨o,ho,hc⟩ e (fun z=>nomatch z) fin
 |tup l=>
  obtain⟨p,xs,ev,sq,_⟩:=c6 rd;subst ev;cases(show u=Value.ref p from r1);obtain⟨JT,_,ip,_⟩:=I.tuple sq;obtain⟨o,ho,hc,_⟩:=ip;exact Wg PySem.W.kitx_tuple I.kIn ⟨o,ho,hc⟩ e (fun z=>nomatch z) fin
 |dct tk ks vs=>
  rw[Rep]at rd;obtain⟨p,xs,o,ev,hr,dd,_⟩:=rd;subst ev;cases(show u=Value.ref p from r1);have ok:=hr.ok I.hok;cases tk with
  |true=>
   obtain⟨kvs,eo,_⟩:=dd;subst eo;obtain⟨_,_,_,_,o2,_,_,Mj,ex,_⟩:=ok;exact Wg PySem.W.kitx_dict I.kIn ⟨o2,Mj,ex.1⟩ e (fun z=>nomatch z) fin
  |false=>
   obtain⟨kvs,eo,_⟩:=dd;subst eo;obtain⟨_,_,_,_,o2,_,_,Mj,ex,_⟩:=ok;exact Wg PySem.W.kitx_dict I.kIn ⟨o2,Mj,ex.1⟩ e (fun z=>nomatch z) fin
theorem El{f:FO}{p q pos:Pos}(hT:T = "int"\/T = "bool"\/T = "str"\/T = "list"\/T = "tuple"\/T = "dict")(he:QO X e f)(hg:Gl X "isinstance")(hm:X.mg "isinstance" = none)(Ny:Gl X x)(Nz:X.mg x=none)(SV:bootBuiltins x=some (.type T))(hn:x≠"__name__":=by decide)(KN:(x==("__debug__" : Str))=false:=by decide)
  (hs:starEach [e,.Name x q] X.env=(false,eval e X.env)::starEach [.Name x q] X.env:=by rfl) (Nk:starEach [.Name x q] X.env=(false,eval (.Name x q) X.env)::starEach [] X.env:=by rfl) (KA:(backTo pos (starEach [.Name x q] X.env)).any (·.1)=false:=by rfl):
  QE X (.Call (.Name "isinstance" p) [e,.Name x q] [] pos) (eIs T f):=
 aJ (iN xi hg hm dk (a9 he (a9 (rO (v:=.ty T) Ny Nz SV rfl hn KN) dN Nk) hs) (by decide) (by decide) hs KA) fun σ H Q J2=>by
  obtain⟨G,env,fp,r,env',rel,e,k⟩:=J2;obtain⟨⟨o,JP⟩,e1,e⟩:=ae e;obtain⟨d,e2,e⟩:=ae e;cases e;exact⟨G,env,fp,o,_,rel,e1,fun v H1 G1 Ke J8 JQ KP=>⟨d,v,T,rfl,JQ.vwA KP e2,hT,k _ H1 G1 Ke J8 (JQ.push (bJ _))⟩⟩
noncomputable def or2{α:Type}(f g:PV.Env->Res α):PV.Env->Res α:=fun env=>match f env with
 | .ok a=>.ok a
 |_=>g env
theorem yJ{f g:PV.Env->Res α}{a:α}(h:or2 f g env=.ok a):f env=.ok a\/g env=.ok a:=by
 unfold or2 at h;split at h
 ·rename_i b hb;cases h;exact .inl hb
 ·exact .inr h
theorem ub{f g:FI}(h:QI X tg e f)(h2:QI X tg e g):QI X tg e (or2 f g):=fun pr s σ H R I J2=>by
 obtain⟨G,env,fp,ds,env',rel,ee,k⟩:=J2;rcases yJ ee with z|z
 ·exact h pr s σ H R I ⟨G,env,fp,ds,env',rel,z,k⟩
 ·exact h2 pr s σ H R I ⟨G,env,fp,ds,env',rel,z,k⟩
end
section
noncomputable def ins(lt:α->α->Bool)(x:α):List α->List α
 |[]=>[x]
 |y::ys=>if lt y x then y::ins lt x ys else x::y::ys
def a8(lt:α->α->Bool)(l:List α):List α:=l.foldr (ins lt) []
structure Ord(lt:α->α->Bool):Prop where
 irr:∀a,lt a a=false
 trans:∀a b c,lt a b=true->lt b c=true->lt a c=true
 tot:∀a b,lt a b=false->lt b a=false->a=b
theorem kG(lt:α->α->Bool)(x:α):∀l,(ins lt x l).Perm (x::l)
 |[]=>.refl _
 |y::ys=>by
  unfold ins;split
  ·exact(List.Perm.cons y (kG lt x ys)).trans (List.Perm.swap x y ys)
  ·exact .refl _
theorem de(lt:α->α->Bool):∀l,(a8 lt l).Perm l
 |[]=>.refl _
 |x::l=>(kG lt x _).trans (List.Perm.cons x (de lt l))
theorem jT{lt:α->α->Bool}(o:Ord lt)(x:α):∀l:List α,l.Pairwise (fun a b=>lt b a=false)->(ins lt x l).Pairwise (fun a b=>lt b a=false)
 |[],_=>by simp[ins]
 |y::ys,h=>by
  rw[Xa]at h;unfold ins;split
  ·rename_i hy;rw[Xa];refine⟨fun z hz=>?_,jT o x ys h.2⟩;rcases U5.mp ((kG lt x ys).mem_iff.mp hz) with rfl|hz
   ·cases e:lt z y with
    |false=>rfl
    |true=>
     have:=o.trans y z y hy e;rw[o.irr]at this;cases this
   ·exact h.1 z hz
  ·rename_i hy;have hy:lt y x=false:=by simpa using hy
   rw[Xa,Xa];refine⟨fun z hz=>?_,h⟩;rcases U5.mp hz with rfl|hz2
   ·exact hy
   ·cases e:lt z x with
    |false=>rfl
    |true=>
     exfalso;cases e2:lt x y with
     |true=>
      have:=o.trans z x y e e2;rw[h.1 z hz2]at this;cases this
     |false=>
      have hxy:=o.tot x y e2 hy;rw[hxy,h.1 z hz2]at e;cases e
theorem ia{lt:α->α->Bool}(o:Ord lt):∀l:List α,(a8 lt l).Pairwise (fun a b=>lt b a=false)
 |[]=>.nil
 |x::l=>jT o x _ (ia o l)
theorem mw{lt:α->α->Bool}(o:Ord lt):∀{a b:List α},a.Perm b->a.Pairwise (fun a b=>lt b a=false)->b.Pairwise (fun a b=>lt b a=false)->a=b
 |[],_,p,_,_=>p.nil_eq
 |x::xs,[],p,_,_=>absurd p.length_eq (by simp)
 |x::xs,y::ys,p,ha,hb=>by
  rw[Xa]at ha hb;have hx:x∈y::ys:=p.mem_iff.mp UR;have hy:y∈x::xs:=p.mem_iff.mpr UR;have e:x=y:=by
   rcases U5.mp hx with e|hx
   ·exact e
   ·rcases U5.mp hy with e|hy
    ·exact e.symm
    ·exact o.tot x y (hb.1 x hx) (ha.1 y hy)
  subst e;rw[mw o p.cons_inv ha.2 hb.2]
theorem jj{lt:α->α->Bool}(o:Ord lt){l ms:List α}(p:ms.Perm l)(h:ms.Pairwise (fun a b=>lt b a=false)):ms=a8 lt l:=mw o (p.trans (de lt l).symm) h (ia o l)
end
noncomputable def ltI(a b:Int):Bool:=decide (a<b)
noncomputable def OE(a b:List Nat):Bool:=decide (a<b)
theorem Bd:Ord ltI:=⟨fun a=>by simp[ltI],fun a b c=>by simp only[ltI,Vc];lia,fun a b=>by simp only[ltI,Wf];lia⟩
theorem Be:Ord OE:=by
 refine⟨fun a=>?_,fun a b c h1 h2=>?_,fun a b h1 h2=>?_⟩
 ·unfold OE;rw[Wf];exact List.lt_irrefl a
 ·unfold OE at *;rw[Vc] at *;exact List.lt_trans h1 h2
 ·unfold OE at *;rw[Wf] at *;exact List.le_antisymm (YA.mp h2) (YA.mp h1)
theorem Bf:Ord gN:=⟨fF,eE,eF⟩
noncomputable def gm:List D->Option (List (List Nat))
 |[]=>some []
 | .str b::ds=>(gm ds).map (b:: ·)
 |_=>none
noncomputable def jk:D->Option Key
 | .int i=>some (.inl i)
 | .str l=>some (.inr (S l))
 |_=>none
def dt:List D->Option (List Key)
 |[]=>some []
 |d::ds=>(jk d).bind fun k=>(dt ds).map (k:: ·)
def jl:D->Option (List Key)
 | .tup ds=>dt ds
 |_=>none
def jm:List D->Option (List (List Key))
 |[]=>some []
 |d::ds=>(jl d).bind fun k=>(jm ds).map (k:: ·)
def kT(k:List Key):D:=.tup (k.map kD)
section
theorem fP:∀{ds:List D}{bs:List (List Nat)}{xs:List V},gm ds=some bs->Reps K G ds xs->xs=bs.map (fun l=>V.str (S l))/\∀l∈bs,l.length<=sizeLine
 |[],_,_,e,r=>by
  cases e;rw[Reps]at r;exact⟨r,fun _ h=>nomatch h⟩
 |d::ds,_,_,e,r=>by
  cases d with
  |str b=>
   rw[gm,VF]at e;obtain⟨bs,e1,e2⟩:=e;subst e2;rw[Reps]at r;obtain⟨y,ys,e3,r1,r2⟩:=r;obtain⟨h1,h2⟩:=fP e1 r2;obtain⟨h3,h4⟩:=dF r1;subst h3;refine⟨by rw[e3,h1];rfl,fun l hl=>?_⟩;rcases U5.mp hl with rfl|hl
   ·exact h4
   ·exact h2 l hl
  |_=>simp[gm]at e
theorem eI{k:Key}(e:jk d=some k)(r:Rep K G d v):v=kV k/\d=kD k:=by
 cases d with
 |int i=>
  cases e;exact⟨f9 r,rfl⟩
 |str l=>
  cases e;refine⟨(dF r).1,?_⟩;show D.str l=D.str (S l).cps.toList;rw[cj]
 |_=>cases e
theorem ib:∀{ds:List D}{ks:List Key}{xs:List V},dt ds=some ks->Reps K G ds xs->xs=ks.map kV/\ds=ks.map kD
 |[],_,_,e,r=>by
  cases e;rw[Reps]at r;exact⟨r,rfl⟩
 |d::ds,_,_,e,r=>by
  rw[dt,VC]at e;obtain⟨k,e1,e⟩:=e;rw[VF]at e;obtain⟨ks,e2,e3⟩:=e;subst e3;rw[Reps]at r;obtain⟨y,ys,e4,r1,r2⟩:=r;obtain⟨h1,h2⟩:=eI e1 r1;obtain⟨h3,h4⟩:=ib e2 r2;rw[e4,h1,h2,h3,h4];exact⟨rfl,rfl⟩
theorem fQ{ks:List Key}(e:jl d=some ks)(r:Rep K G d v):∃p,v=.ref p/\G p=some (.tup (ks.map kV))/\d=kT ks:=by
 cases d with
 |tup ds=>
  obtain⟨p,xs,ev,g,rs⟩:=tM r;obtain⟨h1,h2⟩:=ib e rs;subst h1;exact⟨p,ev,g,by rw[h2];rfl⟩
 |_=>cases e
theorem jo:∀{ds:List D}{LS:List (List Key)}{xs:List V},jm ds=some LS->Reps K G ds xs->∃al:List (Addr×List Key),xs=al.map (fun a=>V.ref a.1)/\LS=al.map (·.2)/\ds=al.map (fun a=>kT a.2)/\∀a∈al,G a.1=some (.tup (a.2.map kV))/\Rep K G (kT a.2) (.ref a.1)
 |[],_,_,e,r=>by
  cases e;rw[Reps]at r;exact⟨[],r,rfl,rfl,fun _ h=>nomatch h⟩
 |d::ds,_,_,e,r=>by
  rw[jm,VC]at e;obtain⟨k,e1,e⟩:=e;rw[VF]at e;obtain⟨ks,e2,e3⟩:=e;subst e3;rw[Reps]at r;obtain⟨y,ys,e4,r1,r2⟩:=r;obtain⟨p,h1,h2,h5⟩:=fQ e1 r1;obtain⟨al,h3,h4,h6,h7⟩:=jo e2 r2;subst h1;refine⟨(p,k)::al,by rw[e4,h3];rfl,by rw[h4];rfl,by rw[h5,h6];rfl,fun a ha=>?_⟩;rcases U5.mp ha with rfl|ha
  ·exact⟨h2,by rw[<-h5];exact r1⟩
  ·exact h7 a ha
theorem gq{α:Type}{f:α->D}{g:α->V}:∀{l:List α},(∀a∈l,Rep K G (f a) (g a))->Reps K G (l.map f) (l.map g)
 |[],_=>Reps.nil
 |a::l,h=>.cons (h a UR) (gq fun b hb=>h b (US _ hb))
end
def sameKinds(k:List Key)(LS:List (List Key)):Bool:=!k.isEmpty&&LS.all fun j=>kinds j==kinds k
def jq(ds:List D):Option (List D):=match b8 ds with
 |some ns=>some ((a8 ltI ns).map D.int)
 |none=>match gm ds with
  |some ls=>some ((a8 OE ls).map D.str)
  |none=>match jm ds with
   |some (k::LS)=>if sameKinds k LS then some ((a8 gN (k::LS)).map kT) else none
   |_=>none
def cR:List D->Res R
 |[.lst ds]=>if ds.length<64 then match jq ds with
  |some l=>.ok (.l .f,.lst l)
  |none=>.bad
  else .bad
 |_=>.bad
theorem kH{k:List Key}{LS:List (List Key)}(h:sameKinds k LS=true):∃top t,∀j∈k::LS,kinds j=top::t:=by
 unfold sameKinds at h;rw[U4,Vg]at h;cases k with
 |nil=>simp at h
 |cons a k=>
  refine⟨a.isLeft,kinds k,fun j hj=>?_⟩;rcases U5.mp hj with rfl|hj
  ·rfl
  ·exact Vz.mp (h.2 j hj)
theorem yK{k:Key}(h:qK k):Rep K G (kD k) (kV k):=by
 cases k with
 |inl i=>exact aI i
 |inr x=>
  have:=gS (K:=K) (G:=G) (l:=x.cps.toList) h;rw[lR]at this;exact this
theorem Em(k:Key):jk (kD k)=some k:=by
 cases k with
 |inl i=>rfl
 |inr x=>
  show some (Sum.inr (S x.cps.toList))=_;rw[lR]
theorem jr:∀ks:List Key,dt (ks.map kD)=some ks
 |[]=>rfl
 |k::ks=>by
  rw[Vj,dt,Em,jr ks];rfl
theorem jU:∀LS:List (List Key),jm (LS.map kT)=some LS
 |[]=>rfl
 |k::LS=>by
  rw[Vj,jm];show(dt (k.map kD)).bind _=_;rw[jr,jU LS];rfl
section
theorem T6{lt:α->α->Bool}{p:α->α->Prop}(h:∀a b,p a b->lt b a=false){l:List α}(q:l.Pairwise p):l.Pairwise (fun a b=>lt b a=false):=q.imp (h _ _)
theorem uc(hc:X.calm=true):bL X (.builtin "sorted") (rC X.K cR):=by
 rintro pr s σ H xs us Q I rx ⟨G,fp,es,vs,ds,r,⟨rel,k⟩,vd,e⟩;unfold cR at e;split at e
 ·rename_i ds;split at e
  ·rename_i O0;split at e
   ·rename_i l hl;cases e;obtain⟨v,ev,p,ys,ep,sq,rs⟩:=jQ vd;subst ev;subst ep;unfold jq at hl;split at hl
    ·rename_i ns MM;cases hl;have hy:=dq MM rs;subst hy;have hlen:ns.length<64:=by have:=rs.length;rw[U1]at this;lia
     refine iA hc pr s σ H _ us Q I rx ⟨p,ns,rfl,sq,hlen,fun q ms hq pm sm=>?_⟩;have em:=jj Bd pm (T6 (fun a b h=>by unfold ltI;rw[Wf];lia) sm);subst em;obtain⟨JR,JW⟩:=rel.newL hq (gq (K:=X.K) (G:=G) (f:=D.int) (g:=V.int) fun a _=>aI a);exact k _ _ G _ JW JR
    ·split at hl
     ·rename_i ls hls;cases hl;obtain⟨hy,hz⟩:=fP hls rs;subst hy;have hlen:ls.length<64:=by have:=rs.length;rw[U1]at this;lia
      refine iC hc pr s σ H _ us Q I rx ⟨p,ls,rfl,sq,hlen,fun q ms hq pm sm=>?_⟩;have em:=jj Be pm (T6 (fun a b h=>by unfold OE;rw[Wf];exact h) sm);obtain⟨JR,JW⟩:=rel.newL hq (gq (K:=X.K) (G:=G) (f:=D.str) (g:=fun l=>V.str (S l)) (l:=ms) fun a ha=>gS (hz a (pm.mem_iff.mp ha)));rw[<-em]at k;exact k _ _ G _ JW JR
     ·split at hl
      ·rename_i kk LS hk;split at hl
       ·rename_i hsk;cases hl;obtain⟨al,h1,h2,h3,h4⟩:=jo hk rs;obtain⟨top,t,O5⟩:=kH hsk;subst h1;have hlen:al.length<64:=by have:=rs.length;rw[U1]at this;lia
        refine iE hc pr s σ H _ us Q I rx ⟨p,al,top,t,rfl,sq,fun a ha=>⟨SqT.of (rel.gh _ _ (h4 a ha).1),O5 a.2 (by rw[h2];exact WA.mpr ⟨a,ha,rfl⟩)⟩,hlen,fun q ms hq pm sm=>?_⟩;have em:ms.map (·.2)=a8 gN (kk::LS):=by
         rw[h2];refine jj Bf (pm.map _) ?_;rw[List.pairwise_map];exact sm
        obtain⟨JR,JW⟩:=rel.newL hq (gq (K:=X.K) (G:=G) (f:=fun a:Addr×List Key=>kT a.2) (g:=fun a=>V.ref a.1) (l:=ms) fun a ha=>(h4 a (pm.mem_iff.mp ha)).2);have ek:ms.map (fun a=>kT a.2)=(a8 gN (kk::LS)).map kT:=by rw[<-em,Vy];rfl
        rw[ek]at JR;exact k _ _ G _ JW JR
       ·cases hl
      ·cases hl
   ·cases e
  ·cases e
 ·cases e
def ltO(a b:D):Res R:=Qa a b
def geO(a b:D):Res R:=SR a b
theorem En(hu:X.A.units<cLine):Kz X (compareOp .Lt) (rG X.K ltO):=Hm
theorem Eo(hu:X.A.units<cLine):Kz X (compareOp .GtE) (rG X.K geO):=Hq
end
noncomputable def eNewD(tk:Bool):FX:=fun env=>.ok ((.d,.dct tk [] []),env)
variable{κ:Type}
section
def og(ks vs:List D)(k v:D):List D×List D:=if ks.any (eqD k) then(ks,(ks.zip vs).map fun p=>if eqD k p.1 then v else p.2) else(ks++[k],vs++[v])
def cS(tk:Bool)(k:D):Bool:=if tk then(jl k).isSome else(jk k).isSome
def JK(i:Nat)(fk fv:FX):FS:=fun env=>(fv env).bind fun p=>(fk p.2).bind fun q=>match p.2[i]?,q.2[i]? with
 |some (some _),some (some (.d,.dct tk ks vs))=>if cS tk q.1.2&&decide (ks.length<sizeLine) then .ok (.nx (q.2.set i (some (.d,.dct tk (og ks vs q.1.2 p.1.2).1 (og ks vs q.1.2 p.1.2).2)))) else .bad
 |_,_=>.bad
theorem ud(a b:Key):eqD (kD a) (kD b)=decide (a=b):=by
 cases a with
 |inl i=>
  cases b with
  |inl j=>simp only[kD,eqD];rw[Vr];simp
  |inr y=>simp only[kD,eqD];simp
 |inr x=>
  cases b with
  |inl j=>simp only[kD,eqD];simp
  |inr y=>
   simp only[kD,eqD];rw[Vr];simp only[Vz,Vc,Sum.inr.injEq];exact⟨fun h=>by rw[<-lR x,<-lR y,h],fun h=>by rw[h]⟩
theorem ue:∀a b:List Key,gj (a.map kD) (b.map kD)=decide (a=b)
 |[],[]=>by simp[gj]
 |[],_::_=>by simp[gj]
 |_::_,[]=>by simp[gj]
 |a::r,b::t=>by
  rw[Vj,Vj,gj,ud,ue r t,Vr];simp
theorem yL(a b:List Key):eqD (kT a) (kT b)=decide (a=b):=by
 unfold kT;rw[eqD];exact ue a b
theorem mx[DecidableEq κ](f:κ->D)(hf:∀a b,eqD (f a) (f b)=decide (a=b)){kvs:List (κ×V)}{vs:List D}{k:κ}{v:D}(r:Reps K G vs (kvs.map (·.2)))(ry:Rep K G v y):
  (iF kvs k y).map (fun kv=>f kv.1)=(og (kvs.map fun kv=>f kv.1) vs (f k) v).1/\Reps K G (og (kvs.map fun kv=>f kv.1) vs (f k) v).2 ((iF kvs k y).map (·.2)):=by
 have e:(kvs.map fun kv=>f kv.1).any (eqD (f k))=kvs.any fun kv=>decide (kv.1=k):=by
  rw[Xy];congr 1
  funext kv
  show eqD (f k) (f kv.1)=_;rw[hf,Vr];simp only[Vc];exact⟨fun z=>z.symm,fun z=>z.symm⟩
 unfold og iF;rw[e];split
 ·refine⟨?_,?_⟩
  ·rw[Vy];refine VO fun kv _=>?_
   show f (if kv.1=k then(kv.1,y) else kv).1=f kv.1;split <;> rfl
  ·rename_i hany;clear e hany;induction kvs generalizing vs with
   |nil=>
    have:vs=[]:=VQ (by rw[<-r.length];rfl);subst this;exact Reps.nil
   |cons kv kvs ih=>
    cases vs with
    |nil=>have:=r.length;simp at this
    |cons d vs=>
     rw[Vj,Reps.cons_iff]at r;rw[Vj,Xb,Vj,Vj,Vj];refine .cons ?_ (ih r.2);show Rep K G (if eqD (f k) (f kv.1)=true then v else d) (if kv.1=k then(kv.1,y) else kv).2;rw[hf];by_cases hk:kv.1=k
     ·rw[U2 (by simp[hk]),U2 hk];exact ry
     ·rw[U6 (by simp;exact fun z=>hk z.symm),U6 hk];exact r.1
 ·refine⟨?_,?_⟩
  ·rw[Vh];rfl
  ·rw[Vh];exact r.app (.one ry)
theorem Rel.chgD{es:PV.Env}{ks ws:List D}(q:Rel K G H es vs fp)(e:es[i]?=some (some (.d,.dct tk ks ws))):∃p xs u,vs[i]?=some (some (.ref p))/\H p=some u/\DictO u tk ks xs/\Reps K G ws xs/\
  ∀u' NI K4 NJ,DictO u' tk NI K4->Reps K G NJ K4->∃fq,Rel K G (upd H p u') (es.set i (some (.d,.dct tk NI NJ))) vs fq/\Step G H fp G (upd H p u') fq:=by
 obtain⟨v,fq,ev,g,st,Lm⟩:=q.out e;obtain⟨y,ys,e0,v',a,b,e1,e2,r1,r2⟩:=g.rep;cases e0;cases e1;rw[RepO]at r1;obtain⟨p,xs,u,e3,hp,dd,e4,rs⟩:=r1;subst e3;subst e4;subst e2;have nd:=Vt.mp (show(p::b).Nodup from g.nd);refine⟨p,xs,u,ev,hp,dd,rs,fun u' NI K4 NJ Nv La=>?_⟩;have g2:Rel K G (upd H p u') (some (.d,.dct tk NI NJ)::es.set i none) (some (.ref p)::vs) (p::b):=by
  refine⟨⟨some (.ref p),vs,rfl,.ref p,[p],b,rfl,rfl,?_,r2.step (.refl _) fun z hz=>ah fun e=>nd.1 (e▸hz)⟩,g.nd,g.gn,fun z o ez=>?_⟩
  ·rw[RepO];exact⟨p,K4,u',rfl,az,Nv,rfl,La⟩
  ·have:z≠p:=fun w=>by
    subst w;rw[g.gn z UR]at ez;cases ez
   rw[ah this];exact g.gh z o ez
 have QL:Step G H (p::b) G (upd H p u') (p::b):=by
  refine⟨.refl _,fun z o ez nz=>?_,fun z hz=>.inl hz,fun z o ez=>.inl ez,fun z o ez=>?_⟩
  ·have:z≠p:=fun w=>nz (by rw[w];exact UR)
   rw[ah this];exact ez
  ·by_cases w:z=p
   ·subst w;exact⟨_,az⟩
   ·exact⟨o,by rw[ah w];exact ez⟩
 obtain⟨fz,g3,Kq⟩:=g2.back (i:=i) (by rw[VS];exact(U0.mp e).1) ev;rw[WB]at g3;exact⟨fz,g3,st.trans (QL.trans Kq)⟩
theorem uf{k:Key}(e:jk d=some k)(r:Rep K G d v):qK k:=by
 cases d with
 |int i=>cases e;trivial
 |str l=>
  cases e;show(S l).cps.toList.length<=sizeLine;rw[cj];exact(dF r).2
 |_=>cases e
theorem ug{K:W.Frag}{G:Hp}:∀{ds:List D}{ks:List Key}{xs:List V},dt ds=some ks->Reps K G ds xs->∀k∈ks,qK k
 |[],_,_,e,_=>by
  cases e;exact fun _ h=>nomatch h
 |d::ds,_,_,e,r=>by
  rw[dt,VC]at e;obtain⟨k,e1,e⟩:=e;rw[VF]at e;obtain⟨ks,e2,e3⟩:=e;subst e3;rw[Reps]at r;obtain⟨y,ys,e4,r1,r2⟩:=r;intro z hz;rcases U5.mp hz with rfl|hz
  ·exact uf e1 r1
  ·exact ug e2 r2 z hz
theorem pK[DecidableEq κ]{P:κ->Prop}{kvs:List (κ×V)}{k:κ}(h:∀kv∈kvs,P kv.1)(hk:P k):∀kv∈iF kvs k y,P kv.1:=by
 intro kv LI;unfold iF at LI;split at LI
 ·obtain⟨z,hz,e⟩:=WA.mp LI;rw[<-e];split
  ·exact h z hz
  ·exact h z hz
 ·rcases Vs.mp LI with LI|LI
  ·exact h kv LI
  ·rw[Vi]at LI;rw[LI];exact hk
end
end PV
namespace NX
section
variable{prog:Program}{w:World}{A:Around}{E:Value->Shared->Prop}{s:Shared}{d:Addr}{es:Array DictEntry}{ep:Nat}
theorem kI(nm:(d==sysModules)=false):MeetsIn prog w (Builtin.«dict.__len__» ⟨[.ref d],[]⟩) (fun _ R s=>RawD s.heap d es ep/\R (.ok (.ret (.int es.size s.toks))) {s with toks:=s.toks+1}):=
 .of_wp fun A R s J2=>by
  obtain⟨⟨o,g,_,dat⟩,h⟩:=J2;show wpAny _ _ (dictSize d >>= fun _=>_) _ _ s;unfold dictSize;refine UQ (UQ (wpAny_dictEntries g dat (U7 ?_)));show wpAny _ _ (Builtin.Dict.pendingCount d >>= fun _=>_) _ _ s;refine UQ (wpAny_pendingCount_other nm (wpAny_ret_mkInt ?_));rw[Nat.add_zero];exact h
theorem Bg{Q:Value->Shared->Prop}(nm:(d==sysModules)=false)(x:RawD s.heap d es ep)(hf:(es.size:Int)<2 ^ 63)(h:Q (.int es.size (s.toks+1)) {s with toks:=s.toks+1+1}):wpAny (model prog w) A (call (.builtin "len") [.ref d]) Q E s:=by
 have ty:=wH x;refine Yg kind_len plain_len entry_len (args_len1 _) ?_;unfold Builtin.«len»;refine UQ (m:=oneArg "len" _) (U7 (UQ (m:=callSpecial? (.ref d) (Str.ofString "__len__")) (V2 (name:=Str.ofString "__len__") ty F.slot_dict_len
  (call_meetsIn F.slot_dict_len ty F.entry_dict_len (F.args_dict_len_1 _) (kI (es:=es) (ep:=ep) nm) ⟨x,?_⟩))))
 show wpAny _ _ _ _ _ {s with toks:=s.toks+1};refine UQ (Xk (U7 (UQ (Xu ?_))));show wpAny _ _ (if((es.size:Nat):Int)<0 then _ else _) _ _ _;rw[U6 (Int.not_lt.mpr (Int.natCast_nonneg _))];show wpAny _ _ (if((es.size:Nat):Int)>=2 ^ 63 then _ else _) _ _ _;rw[U6 (Int.not_le.mpr hf)];exact UQ (wpAny_mkInt (U7 ⟨_,rfl,h⟩))
end
end NX
namespace PV
variable{X:Cx}{σ:L2.St}{H:Hp}{e:Expr}{fa:FO}
section
def dS:List D->Res R
 |[.dct _ ks _]=>.ok (.f,.int ks.length)
 |ds=>Hs ds
theorem Ep{pr:List (Addr×Obj)}{s:Shared}(I:Inv X pr σ H s){p:Addr}{o:HO}{tk:Bool}{ks:List D}{xs:List V}(rd:Rd H p o)(dd:DictO o tk ks xs):(p==sysModules)=false/\∃es ep,RawD s.heap p es ep/\es.size=ks.length/\ks.length<=sizeLine:=by
 have ok:=rd.ok I.hok;cases tk with
 |true=>
  obtain⟨kvs,eo,ek,_⟩:=dd;subst eo;obtain⟨z,nm,ws,r,o2,es,ep,h1,h2,h3,h4,_⟩:=ok;refine⟨nm,es,ep,⟨o2,h1,h2,h3⟩,?_,by rw[ek,U1];exact z⟩;have:=Wy List.length h4;rw[U1,V8,<-XX r]at this;rw[ek,U1];exact this
 |false=>
  obtain⟨kvs,eo,ek,_⟩:=dd;subst eo;obtain⟨z,nm,ws,r,o2,es,ep,h1,h2,h3,h4,h5,_⟩:=ok;refine⟨nm,es,ep,⟨o2,h1,h2,h3⟩,?_,by rw[ek,U1];exact z⟩;have l1:=h5.length;have l2:kvs.length=ws.length:=XX r;rw[ek,U1];rw[V8]at l1;lia
theorem Bh:bL X (.builtin "len") (rC X.K dS):=by
 rintro pr s σ H xs us Q I rx ⟨G,fp,es,vs,ds,r,⟨rel,k⟩,vd,e⟩;unfold dS at e;split at e
 ·rename_i tk ks ws;cases e;obtain⟨v,ev,p,ys,o,ep,rd,dd,_⟩:=jQ vd;subst ev;subst ep;obtain⟨u,rfl,ru⟩:=cO rx;cases ru;obtain⟨nm,en,ep,raw,h1,h2⟩:=Ep I rd dd;refine Bg nm raw (by rw[h1];rw[Wn]at h2;lia) ?_;refine⟨.int ks.length,H,I.tok _,⟨_,by rw[h1]⟩,k _ H G fp .refl (rel.push (aI _))⟩
 ·exact D9 pr s σ H xs us Q I rx ⟨G,fp,es,vs,_,r,⟨rel,k⟩,vd,e⟩
def Gk(g:List Nat->List D->Res R)(fa:FO)(fs:FOs):FX:=fun env=>(fa env).bind fun p=>match K5 p.2 p.1 with
 | .ok (.str l)=>(fs p.2).bind fun q=>(l8 q.2 q.1).bind fun ds=>(g l ds).bind fun r=>.ok (r,q.2)
 |_=>.bad
inductive rMtS(K:W.Frag)(g:List Nat->List D->Res R)(x:V)(xs:List V)(H:Hp)(Q:VK):Prop
 |mk:∀G fp es vs l ds r,Goes K H G fp es vs r Q->x=.str (S l)->l.length<=sizeLine->OC K G H ds xs->g l ds=.ok r->rMtS K g x xs H Q
theorem Er{g:List Nat->List D->Res R}{id:String}{name:Str}{o:Expr}{es:List Expr}{fs:FOs}{apos J3:Pos}(slot:Slot "str" name id)(Nn:typeOf (.builtin id)=pure (.type "method_descriptor"))(hm:Ox X id (rMtS X.K g))(ho:QO X o fa)(ha:QOs X (e::es) fs)
  (KG:attributeBase o name X.env (eval o X.env)=eval o X.env:=by rfl)
  (Lo:((backTo J3 (starEach (e::es) X.env)).all (fun x=>!x.1)&&(backToKw J3 (keywordEach [] X.env)).all (fun x=>x.1.isSome)&&decide ((e::es).length+([]:List Keyword).length+(if([]:List Keyword).isEmpty then 0 else 1)<30))=true:=by rfl)
  (KO:(apos.endLine==J3.line)=true:=by rfl) (hs:starEach (e::es) X.env=(false,eval e X.env)::starEach es X.env:=by rfl) (Kx:(backTo J3 (starEach es X.env)).any (·.1)=false:=by rfl):
  QE X (.Call (.Attribute o name apos) (e::es) [] J3) (Gk g fa fs):=by
 refine aJ (wj PySem.F.plainAttrs_str slot Nn hm ho ha KG Lo KO hs Kx) fun σ H Q Kk=>?_
 obtain⟨G,env,fp,r,env',rel,e,k⟩:=Kk;obtain⟨⟨oa,JP⟩,e1,e⟩:=ae e;dsimp only at e;split at e
 ·rename_i l hl;obtain⟨⟨os,J4⟩,e2,e⟩:=ae e;obtain⟨ds,e3,e⟩:=ae e;obtain⟨r',e4,e⟩:=ae e;cases e;refine⟨G,env,fp,oa,JP,rel,e1,fun v H1 G1 Ke J8 JQ KP=>?_⟩;obtain⟨ev,hz⟩:=dH (JQ.vw KP hl);subst ev;exact⟨rfl,G1,JP,Ke,os,J4,JQ,e2,fun vs H2 G2 Kt JW JR MH=>⟨G2,Kt,J4,σ,l,ds,r,⟨JR,fun v H' G' JU st Kl=>k v H' G' JU (J8.trans (JW.trans st)) Kl⟩,rfl,hz,JR.vws MH e3,e4⟩⟩
 ·cases e
noncomputable def qQ(l:List Nat):List D->Res R
 |[.str c]=>match Builtin.Str.occurrences (S l) (S c) 0 (S l).length 1 with
  |i::_=>.ok (.f,.int i)
  |[]=>.bad
 |_=>.bad
theorem xj:Ox X "str.index" (rMtS X.K qQ):=by
 rintro pr s σ H x xs v us Q I rx rv ⟨G,fp,es,vs,l,ds,r,⟨rel,k⟩,ex,hz,vd,e⟩;unfold qQ at e;split at e
 ·rename_i c;split at e
  ·rename_i i rest ho;cases e;subst ex;obtain⟨w',ew,vc⟩:=jQ vd;obtain⟨ev,_⟩:=dH vc;subst ew;subst ev;obtain⟨t,rfl⟩:=rx;obtain⟨u,rfl,t',rfl⟩:=cO rv;exact call_gives YU (Yk _ _ _) PySem.F.entry_str_index (PySem.F.args_str_index_2 _ _) (gives_str_index (S l) (S c) t t' i rest ho) ⟨.int i,H,I.tok _,⟨_,rfl⟩,k _ H G fp .refl (rel.push (aI _))⟩
  ·cases e
 ·cases e
end
variable{K:W.Frag}{x:Str}{st:Stmt}{N:List Str}
theorem fnok_of{P:Program}{w:World}{mg:Str->Option Value}{base:Heap}{ps:List Str}{k:Nat}{g:FS}{f:Addr}{fd:FuncData}(F:Fun K x x st f fd)(sc:FnScope N ps (defScope st))
  (body:∀(Kc:Value) (A:Around) (outer:List PySem.Env) (s:Shared) (H:Hp) (E:XK),Room k (A.deeper (envOfC x (defScope st) s.heap.objs.size f Kc))->QSs (md:=.plain) (lK L4 P w K mg base N x (defScope st) f Kc A outer s H E).nox (aU st) g):
  FnOk P w K mg base L4 (k+1) f fd ps (spF K (fBody ps.length (N.length-ps.length) g)):=by
 refine F.ok sc (fun vs H Q E h=>?_) (fun Kc A outer s H vs Q E hr h=>?_)
 ·obtain⟨G,ds,r,_,rs,e,_⟩:=h;unfold fBody at e;split at e
  ·rename_i hl;rw[rs.length,hl]
  ·cases e
 ·obtain⟨G,ds,r,gh,rs,e,q⟩:=h;unfold fBody at e;split at e
  ·rename_i hl;refine⟨_,body Kc A outer s H E hr,G,ds.map (fun d=>some (O.f,d))++List.replicate (N.length-ps.length) none,[],⟨?_,V1,(fun _ h=>nomatch h),gh⟩,?_⟩
   ·have:=c8 (K:=K) (G:=G) (H:=H) (N.length-ps.length) rs;unfold L2.fE;rw[rs.length,hl];exact this
   ·obtain⟨o,eo,e⟩:=ae e;rw[eo];cases o with
    |rt r'=>
     cases e;exact fun v H' G' JU st rel=>q v H' G' JU st rel
    |nx env'=>
     cases e;exact fun σ' H' G' JU st rel=>q .non H' G' [] (st.trans (Step.cut fun _ h=>nomatch h)) (rel.nilF.push ja)
    |bk env'=>cases e
    |ct env'=>cases e
  ·cases e
noncomputable def xk(K:W.Frag):Sp:=fun vs H Q _=>∃(a:Addr) (ns:List Int),vs=[.ref a]/\SqL K H a (ns.map V.int)/\ns.length<=63/\∀H',Q (.bl true) H'
theorem Es{F:List D->Res R}(h:∀ns:List Int,ns.length<=63->∃o,F [.lst (ns.map D.int)]=.ok (o,.bl true)):∀vs H Q E,xk K vs H Q E->spF K F vs H Q E:=by
 rintro vs H Q E ⟨a,ns,rfl,sq,hl,q⟩;obtain⟨o,e⟩:=h ns hl;refine⟨H,_,_,.refl _,?_,e,fun v H' G' JU st rel=>?_⟩
 ·refine .one ?_;rw[Rep];exact⟨a,_,rfl,sq,gq fun n _=>aI n⟩
 ·rw[l9 rel.top];exact q H'
theorem _root_.L2.Room.u65{k:Nat}{A:Around}(r:Room k A):A.units+65<cLine:=by have:=r.un;lia
def Et(f:FX)(a:FG):FS:=fun env=>(f env).bind fun p=>(a p.1.2 p.2).bind fun e=>.ok (.nx e)
variable{f:FX}{a:FG}
theorem Eu{tg:Expr}{pos:Pos}(he:QE X e f)(hg:QG X tg a)(hs:swapsWithSole [tg] e pos.line X.env=pure false:=by rfl)(hw:swappedStores [tg] e X.env=pure none:=by rfl)
  (h1:(assignEach [tg] X.env).map (·.2)=[assign tg X.env]:=by rfl):QS (md:=md) X (.Assign [tg] e pos) (Et f a):=dE (C3 he hg hs hw h1) fun Dd σ H J2=>by
 obtain⟨G,env,fp,rel,k⟩:=J2;unfold Et at k;match q:f env,k with
 | .ok (r,JP),k=>
  have k:OutOk X.K G H fp Dd ((a r.2 JP).bind fun e=>.ok (.nx e)):=k;match q2:a r.2 JP,k with
  | .ok J4,k=>
   refine⟨G,env,fp,r,JP,rel,q,fun v H1 G1 Ke J8 JQ=>?_⟩;obtain⟨G2,b,rv,JR,JW⟩:=JQ.freeze;exact⟨G2,JP,b,r.2,J4,JR,rv,q2,fun σ' G' JU st Kl=>k σ' H1 G' JU (J8.trans (JW.trans st)) Kl⟩
theorem walk{l:PySem.W.OpenLaw}{q:Program}{loose:List Str}{XP:(Str->Option Value)->Heap->Prop}{YP:World->Heap->Prop}{d:DefRec}{K:Params->W.Frag}{k:Nat}(hn:l.most=some 63)(Qv:d.params.defaults=[])(hr:Room k PySem.callerA)
  (hY:∀(w:World) (h:Heap),YP w h->(K w.params).In h)
  (F:∀(w:World) (mg:Str->Option Value) (fa:Addr) (h:Heap),(K w.params).In h->h.Ns mainGlobals mg->mg d.name=some (.ref fa)->
   ∃fd:FuncData,(∀(s:Shared) (u:Value),BindsTo s fd ⟨[u],[]⟩ [(x,u)])/\∀base:Heap,(K w.params).In base->base.Ns mainGlobals mg->FnOk l.prog w (K w.params) mg base L4 k fa fd [x] (xk (K w.params))):
  PySem.W.WalkO q loose XP YP l.row.toRowW d [] (fun f vs=>PySem.call f vs):=
 L2.z7 (n:=63) (k:=k) (x:=x) (CX:=fun _=>L4) (sp:=fun w=>xk (K w.params)) hn (by decide) Qv hr hY F (fun _ _ a ns hl _ hS=>⟨a,ns,rfl,hS,hl,fun _=>rfl⟩) fun _ _ _ _ _ z=>z
theorem Ew:bootBuiltins "max" = some (.builtin "max"):=by decide +kernel
theorem Ex:bootBuiltins "min" = some (.builtin "min"):=by decide +kernel
theorem Ey:bootBuiltins "all" = some (.builtin "all"):=by decide +kernel
theorem uh:bootBuiltins "sorted" = some (.builtin "sorted"):=by decide +kernel
theorem Ez{h:Heap}{mg:Str->Option Value}{f:Addr}{oc:Value}{od an:Option Addr}{MT:Array (Option Value)}{kV doc pm Kc ct:Value}(X:K.In h)(G:h.Ns mainGlobals mg)
  (a:PySem.W.nsIn K mainGlobals x=some (some (.ref f))) (l:K.lookup f=some ⟨oc,od,.func (PySem.W.fnOf x x (bO st) (aU st) (defScope st) .none kV doc pm an Kc ct),MT⟩)
  (c:PySem.W.codeIn K Kc x=true) (k:PySem.W.keepIn K (.ref f)=true):Def K mg x st:=⟨f,_,yq l c k,Xl X G a⟩
noncomputable def isL:NameKind->Bool
 | .local=>true
 | .cell=>true
 |_=>false
def OF(sc:Scope):List Str:=(sc.names.filter fun y=>isL y.2).map (·.1)
def MP(N:List Str)(ix:List (Option Nat))(sc:Scope):List Str:=(OF sc).drop 1++ix.filterMap fun i=>i.bind fun i=>N[i]?
noncomputable def Q1:List Str->Bool
 |[]=>true
 |x::l=>!l.contains x&&Q1 l
theorem uk:∀{l:List Str},Q1 l=true->l.Nodup
 |[],_=>.nil
 |x::l,h=>by
  rw[Q1,U4]at h;refine Vt.mpr ⟨fun hm=>?_,uk h.2⟩;rw[List.contains_iff_mem.mpr hm]at h;cases h.1
inductive tQL(K:W.Frag)(f:FI)(σ:L2.St)(H:Hp)(R:It->Hp->Prop):Prop
 |mk:∀G env fp ds env',Rel K G H env σ fp->f env=.ok (ds,env')->(∀J H' G' JU,Step G H fp G' H' JU->Rel K G' H' env' σ JU->(∀G2,Same G' G2->(∀(i:Nat) (r:PV.R) (v:V),env'[i]?=some (some r)->σ[i]?=some (some v)->Rep K G2 r.2 v)->Walk K G2 J ds)->R J H')->tQL K f σ H R
def QIL(X:Cx)(tg e:Expr)(f:FI):Prop:=PI X tg e (tQL X.K f)
theorem Walk.mono{G G2:Hp}{J:It}{ds:List D}(w:Walk K G J ds)(gg:Same G G2):Walk K G2 J ds:=fun G' H' es vs fp g rel=>w G' H' es vs fp (gg.trans g) rel
variable{fi:FI}{ix:List (Option Nat)}{c:FT}
theorem yM{Q:VK}(h:tQ K (cb fi ix a c f) σ H Q):Ab (tQL K fi) ix (tQG K a) (tQT K c) (tQ K f) σ H Q:=by
 obtain⟨G,env,fp,r,env',rel,e,k⟩:=h;obtain⟨⟨ds,JP⟩,e1,e⟩:=ae e;obtain⟨rs,e2,e⟩:=ae e;refine⟨G,env,fp,ds,JP,rel,e1,fun J H1 G1 Ke J8 JQ wk D hD=>?_⟩;dsimp only at e e2;split at e
 ·rename_i hz;have er:r=(.l .f,.lst rs):=by cases e;rfl
  have ee:env'=if flatDs rs then JP else JP.map frz:=by cases e;rfl
  subst er;obtain⟨G2,MX,NB,K6,hrE,KH⟩:=JQ.lend;have wk2:=wk G2 MX K6;have JR:Rel K G2 H1 (cz ix JP) (jN ix σ) []:=⟨dP K6 (fun i r er=>let⟨v,ev,_⟩:=JQ.view er;⟨v,ev⟩) ix,V1,(fun _ h=>nomatch h),NB⟩
  obtain⟨Kr,Kq⟩:=JR.newL (ds:=[]) (xs:=[]) hD .nil;refine⟨fun i m σ1 H2=>m=ds.length-i/\i<=ds.length/\∃G' es JU acc rest,Step G2 H1 [] G' H2 JU/\Rel K G' H2 (some (.l .f,.lst acc)::es) (some (.ref D)::σ1) JU/\b7 a c f (ds.drop i) es=.ok rest/\acc++rest=rs,
   ⟨_,rfl,VJ _,G2,cz ix JP,_,[],rs,Kq,Kr,e2,rfl⟩,?_⟩
  rintro i m σ1 H2 ⟨rfl,hi,G3,es,K7,acc,rest,K2,KC,e4,MY⟩;obtain⟨w1,w2⟩:=wk2 G3 H2 _ _ _ K2.gg KC i;by_cases Kw:i<ds.length
  ·have hd:ds[i]?=some ds[i]:=UT Kw;obtain⟨go,yl⟩:=w1 _ hd;rw[Xr Kw]at e4;unfold b7 at e4;obtain⟨SO,h1,e4⟩:=ae e4;obtain⟨⟨b,Qc⟩,h2,e4⟩:=ae e4;dsimp only at e4;refine .inr ⟨go,fun x H3 y=>?_⟩;obtain⟨G4,rx,LJ,LP⟩:=yl x H3 y;obtain⟨fa,fb,T7,ra,relb,bk⟩:=LJ.frame;refine⟨G4,es,fb,ds[i],SO,relb,rx,h1,fun σ2 G5 Q2 MZ Lr=>?_⟩;refine⟨G5,SO,Q2,b,Qc,Lr,h2,fun H6 G6 M0 SW NK=>?_⟩;have Q3:=MZ.trans SW;cases b with
   |false=>
    refine iteF ⟨ds.length-(i+1),by lia,rfl,Kw,?_⟩;obtain⟨O6,Q4⟩:=bk G6 H6 Qc σ2 M0 Q3 NK;rw[<-T7]at Q4;exact⟨G6,Qc,_,acc,rest,K2.trans (LP.trans Q4),O6,e4,MY⟩
   |true=>
    have e4:((f Qc).bind fun q=>(b7 a c f (ds.drop (i+1)) q.2).bind fun rs=>.ok (q.1.2::rs))=.ok rest:=e4;obtain⟨⟨r,SX⟩,h3,e4⟩:=ae e4;obtain⟨Q5,h4,e4⟩:=ae e4;cases e4;refine GV ⟨G6,Qc,M0,r,SX,NK,h3,fun v H7 G7 fp7 st8 rel8=>?_⟩;obtain⟨G8,fp8,rv,rel9,st9⟩:=rel8.freeze;obtain⟨O6,Q4⟩:=bk G8 H7 SX σ2 fp8 (Q3.trans (st8.trans st9)) rel9;rw[<-T7]at Q4;obtain⟨p,xs,ep,hp,QU,cg⟩:=O6.chg (i:=0) (ds:=acc) (ds':=acc++[r.2]) rfl;have ep:some (some (V.ref D))=some (some (V.ref p)):=ep;cases ep;obtain⟨fq,rely,sty⟩:=cg (xs++[v]) (QU.app (.one rv));refine⟨xs,hp,?_,ds.length-(i+1),by lia,rfl,Kw,G8,SX,fq,acc++[r.2],Q5,K2.trans (LP.trans (Q4.trans sty)),rely,h4,?_⟩
    ·rw[QU.length];have:=Wy List.length MY;rw[VD,Va]at this;lia
    ·rw[<-MY,VH];rfl
  ·have ei:i=ds.length:=by lia
   subst ei;rw[YL]at e4;cases e4;rw[Vm]at MY;subst MY;refine .inl ⟨w2 rfl,?_⟩;obtain⟨fa,O7,SY⟩:=KC.only;obtain⟨k1,k2⟩:=KH H2 G3 fa _ _ (K2.trans SY) O7;rw[ee]at k;by_cases hc:flatDs acc=true
   ·rw[U2 hc]at k;obtain⟨G5,Q2,LP,LJ⟩:=k1 (by rw[aw,kA];exact hc);exact k _ H2 G5 Q2 (J8.trans LP) LJ
   ·rw[U6 hc]at k;obtain⟨G5,Q2,LP,LJ⟩:=k2;exact k _ H2 G5 Q2 (J8.trans LP) LJ
 ·cases e
variable{i:Nat}
section
variable{md:Mode}{scope:Scope}{tg iter elt:Expr}{ifs:List Expr}{pos:Pos}
variable{l:Expr}{g fj:FI}
theorem EA(h:QI X tg e fi):QIL X tg e fi:=jd h fun σ H R ⟨G,env,fp,ds,env',rel,e,k⟩=>⟨G,env,fp,ds,env',rel,e,fun J H' G' JU st Kl wk=>k J H' G' JU st Kl fun _ gg _=>wk.mono gg⟩
theorem EB(h:QIL X tg e fi)(h2:QIL X tg e fj):QIL X tg e (or2 fi fj):=fun pr s σ H R I J2=>by
 obtain⟨G,env,fp,ds,env',rel,ee,k⟩:=J2;rcases yJ ee with z|z
 ·exact h pr s σ H R I ⟨G,env,fp,ds,env',rel,z,k⟩
 ·exact h2 pr s σ H R I ⟨G,env,fp,ds,env',rel,z,k⟩
noncomputable def gY(i:Nat):FI:=fun env=>match env[i]? with
 |some (some (_,.lst ds))=>.ok (ds,env)
 |_=>.bad
theorem Bi(h:PE X l (nK i)):QIL X tg l (gY i):=jd (rT h) fun σ H R J2=>by
 obtain⟨G,env,fp,ds,env',rel,e,k⟩:=J2;unfold gY at e;split at e
 ·rename_i o ds hr;cases e;obtain⟨v,ev,rv⟩:=rel.view hr;obtain⟨p,xs,T8,sq,rs⟩:=dO rv;refine⟨v,ev,p,T8,⟨xs,sq⟩,k _ H G fp .refl rel fun G2 gg K6=>?_⟩;obtain⟨p',K4,Q6,Li,La⟩:=dO (K6 i _ v hr ev);rw[T8]at Q6;cases Q6;exact mf Li La
 ·cases e
theorem xl(hc:X.calm=true)(hi:QIL X tg iter fi)(hg:∀C s H fp pn,(MP X.N ix scope).Nodup->QG (aY X scope (MP X.N ix scope) C s H fp pn) tg a)(ht:∀C s H fp pn,QTs (aY X scope (MP X.N ix scope) C s H fp pn) ifs c)(he:∀C s H fp pn,QE (aY X scope (MP X.N ix scope) C s H fp pn) elt f)
  (hf:fY scope X.env=true:=by rfl) (hk:scope.kind=.function:=by rfl) (Ku:∀y∈scope.names,y.2≠.cell:=by decide +kernel) (Lc:∀y∈scope.names,y.2=.local->scope.names.lookup y.1=some .local:=by decide +kernel) (Lq:yt X scope (MP X.N ix scope) ix=true:=by rfl) (QK:Q1 (MP X.N ix scope)=true:=by rfl)
  (hs:∀x,foldedSetIterable iter X.env x=pure x:=by intro _;rfl):QE X (.ListComp elt [⟨tg,iter,ifs,0⟩] scope pos) (cb fi ix a c f):=
 aJ (Af (g:=tQG X.K a) (tc:=tQT X.K c) (te:=tQ X.K f) ix _ hc hi (fun C s H fp pn=>hg C s H fp pn (uk QK)) ht he hf hk Ku Lc Lq hs) fun _ _ _=>yM
theorem xm{y:Str}{py Lx:Pos}(hN:X.N.Nodup)(SD:X.N[i]?=some y)(hy:Loc X.env.scope y)(hc:X.calm=true)(hi:QIL X tg iter fi)(hg:∀C s H fp pn,(MP X.N ix scope).Nodup->QG (aY X scope (MP X.N ix scope) C s H fp pn) tg a)(ht:∀C s H fp pn,QTs (aY X scope (MP X.N ix scope) C s H fp pn) ifs c)
  (he:∀C s H fp pn,QE (aY X scope (MP X.N ix scope) C s H fp pn) elt f) (OX:swapsWith (.ListComp elt [⟨tg,iter,ifs,0⟩] scope pos) (some (.Name y py)) Lx.line X.env=pure true:=by rfl)
  (hf:fY scope X.env=true:=by rfl) (hk:scope.kind=.function:=by rfl) (Ku:∀y∈scope.names,y.2≠.cell:=by decide +kernel) (Lc:∀y∈scope.names,y.2=.local->scope.names.lookup y.1=some .local:=by decide +kernel) (Lq:yt X scope (MP X.N ix scope) ix=true:=by rfl) (QK:Q1 (MP X.N ix scope)=true:=by rfl)
  (hs:∀x,foldedSetIterable iter X.env x=pure x:=by intro _;rfl) (OP:X.fn y=true\/X.env.scope.names.lookup y=some .local:=by first|exact .inl rfl|exact .inr rfl):
  QS (md:=md) X (.Assign [.Name y py] (.ListComp elt [⟨tg,iter,ifs,0⟩] scope pos) Lx) (aW i (cb fi ix a c f)):=
 dE (Ag (i:=i) (g:=tQG X.K a) (tc:=tQT X.K c) (te:=tQ X.K f) ix _ hN SD hy hc hi (fun C s H fp pn=>hg C s H fp pn (uk QK)) ht he OX hf hk Ku Lc Lq hs OP) fun D σ H ⟨G,env,fp,rel,k⟩=>yM (tN rel k)
end
section
variable{a:Expr}{pos:Pos}
def Bj(fa:FO):FX:=fun env=>(fa env).bind fun p=>(K5 p.2 p.1).bind fun d=>match d with
 | .int i=>.ok ((.f,.int (-i)),p.2)
 |_=>.bad
theorem EC(ha:QO X a fa):QE X (.UnaryOp .USub a pos) (Bj fa):=aJ (GJ De ha) fun σ H Q J2=>by
 obtain⟨G,env,fp,r,env',rel,e,k⟩:=J2;obtain⟨⟨o,e1⟩,h1,e⟩:=ae e;obtain⟨d,h2,e⟩:=ae e;dsimp only at e;split at e
 ·rename_i i;cases e;refine⟨G,env,fp,o,_,rel,h1,fun v H1 G1 Ke J8 JQ KP=>?_⟩;have:=aN (JQ.vw KP h2);exact⟨i,this,k _ H1 G1 Ke J8 (JQ.push (aI _))⟩
 ·cases e
def Gm(a b:D):Res R:=Hl a b
theorem Bk:Kz X (binaryOp .Mult) (rG X.K Gm):=D3
end
end PV
namespace HT
variable{prog:Program}{w:World}{A:Around}{E:Value->Shared->Prop}{s:Shared}
theorem gu{t sl:Addr}{items:Array Value}{vl vu:Value}{lo hi:Option Int}{Q:Value->Shared->Prop}(ht:IsTup s.heap t items)(hs:s.heap.IsSliceOf sl vl vu .none)(pl:IsPart vl lo)(pu:IsPart vu hi)
  (hw:sIx items.size 0 lo=0/\sIx items.size items.size hi=items.size) (h:Q (.ref t) s):wpAny (model prog w) A (getItem (.ref t) (.ref sl)) Q E s:=by
 obtain⟨os,MU,RN,Nm⟩:=id hs;have Sv:s.TypeIs (.ref sl) "slice":=⟨os,MU,RN⟩
 unfold getItem;try with_reducible refine Xk ?_
 first|refine UQ (U7 ?_)|skip
 refine UQ (wpAny_sequenceKey ht.typeIs (by decide) ?_);refine UQ (V2 (name:=Str.ofString "__getitem__") ht.typeIs Wo
  (WJ Wo ht.typeIs entry_tuple_getitem ?_ (args_tuple_getitem _ _)))
 show wpAny _ _ (Builtin.Tuple.tupleItemsOf (.ref t) >>= _) _ _ s;refine UQ (tupleItemsOf_ ht ?_);refine UQ (Xw Sv ?_);rw[U2 (by decide)];refine UQ (dD hs pl pu ?_);have hyes:(((sIx items.size 0 lo:Nat):Int)==0&&(1:Int)==1&&(sIx items.size items.size hi-sIx items.size 0 lo)==items.size)=true:=by
  rw[hw.1,hw.2];simp
 show wpAny _ _ (if(((sIx items.size 0 lo:Nat):Int)==0&&(1:Int)==1&&(sIx items.size items.size hi-sIx items.size 0 lo)==items.size)=true then _ else _) _ _ s;rw[U2 hyes];refine UQ (m:=Builtin.Tuple.tupleIsExact _) ?_;unfold Builtin.Tuple.tupleIsExact;refine UQ (Xw ht.typeIs (U7 ?_));rw[U2 (by decide)];exact UQ (Zc (U7 ⟨_,rfl,U7 h⟩))
end HT
namespace PV
section
variable{X:Cx}{pos:Pos}{fa:FO}
theorem Bl:OR X (fun x lo hi H Q=>∃a xs,x=.ref a/\SqT X.K H a xs/\(HT.sIx xs.length 0 lo=0/\HT.sIx xs.length xs.length hi=xs.length)/\Q x H):=by
 intro pr s σ H x v vl vu lo hi sl Q I rx hs pl pu h;obtain⟨a,xs,rfl,hx,hw,q⟩:=h;cases rx;obtain⟨JT,r,ht,hz⟩:=I.tuple hx;have hlen:JT.toArray.size=xs.length:=by rw[U9];exact r.length.symm
 refine⟨"tuple",_,PyProof.Rows.slot_tuple_getitem.lookup,ht.typeIs,?_⟩;exact HT.gu ht hs pl pu (by rw[hlen];exact hw) ⟨.ref a,H,I,rfl,q⟩
def Qf(k:D)(lo hi:Option Int):Res R:=match k with
 | .tup ds=>if HT.sIx ds.length 0 lo=0/\HT.sIx ds.length ds.length hi=ds.length then .ok (.f,.tup ds) else QR k lo hi
 |_=>QR k lo hi
def jI(fa:FO)(lo hi:FP):FX:=fun env=>(fa env).bind fun p=>(lo p.2).bind fun q=>(hi q.2).bind fun t=>(K5 t.2 p.1).bind fun d=>(Qf d q.1 t.1).bind fun r=>.ok (r,t.2)
inductive rSlW(K:W.Frag)(x:V)(lo:Option Int)(hi:Option Int)(H:Hp)(Q:VK):Prop
 |mk:∀G fp es vs d r,Goes K H G fp es vs r Q->Vw K G H d x->Qf d lo hi=.ok r->rSlW K x lo hi H Q
theorem ED:OR X (rSlW X.K):=by
 rintro pr s σ H x v vl vu lo hi sl Q I rx hs pl pu ⟨G,fp,es,vs,d,r,⟨rel,k⟩,vd,e⟩;unfold Qf at e;split at e
 ·rename_i ds;split at e
  ·rename_i hw;cases e;obtain⟨p,xs,ev,sq,rs⟩:=ft vd;subst ev;refine Bl pr s σ H _ v vl vu lo hi sl Q I rx hs pl pu ⟨p,xs,rfl,aV rel.gh sq,by rw[rs.length];exact hw,?_⟩;exact k _ H G fp .refl (rel.push vd)
  ·exact D8 pr s σ H x v vl vu lo hi sl Q I rx hs pl pu ⟨G,fp,es,vs,_,r,⟨rel,k⟩,vd,e⟩
 ·exact D8 pr s σ H x v vl vu lo hi sl Q I rx hs pl pu ⟨G,fp,es,vs,_,r,⟨rel,k⟩,vd,e⟩
theorem EE{e:Expr}{lo hi:Option Expr}{p2:Pos}{fl fh:FP}(he:QO X e fa)(hl:QP X lo fl)(hh:QP X hi fh):QE X (.Subscript e (.Slice lo hi none p2) pos) (jI fa fl fh):=
 aJ (wd ED he hl hh) fun σ H Q J2=>by
  obtain⟨G,env,fp,r,env',rel,e,k⟩:=J2;obtain⟨⟨o,JP⟩,e1,e⟩:=ae e;obtain⟨⟨i,J4⟩,e2,e⟩:=ae e;obtain⟨⟨j,KI⟩,e3,e⟩:=ae e;obtain⟨d,e4,e⟩:=ae e;obtain⟨r',e5,e⟩:=ae e;cases e;exact⟨G,env,fp,o,JP,rel,e1,fun v H1 G1 Ke J8 JQ KP=>⟨G1,JP,Ke,i,J4,JQ,e2,fun H2 G2 Kt JW JR=>⟨G2,J4,Kt,j,KI,JR,e3,fun H3 G3 K7 Kq Kr=>
   ⟨G3,K7,KI,σ,d,r,⟨Kr,fun v H' G' JU st Kl=>k v H' G' JU (J8.trans (JW.trans (Kq.trans st))) Kl⟩,Kr.vw ((KP.mono JW.gg).mono Kq.gg) e4,e5⟩⟩⟩⟩
end
end PV
namespace L2
noncomputable def RY(lo c:Int)(n:Nat):It where
 go:=fun i _=>i<n
 yld:=fun i H x H'=>H'=H/\x=V.int (lo+(i:Int)*c)
 stop:=fun i _=>n<=i
theorem qR{P:Program}{w:World}{K:W.Frag}{tg:Expr}(it:Addr)(lo c:Int)(n:Nat):Turn P w K tg (RY lo c n) [it] it (fun i h=>IsRangeIter h it (lo+(i:Nat)*c) ((n:Int)-(i:Nat)) c) where
 mem:=by simp
 obj:=fun i h st b hb=>by
  have e:b=it:=by simpa using hb
  subst e;exact⟨_,st,fun v z=>by
   have z':Data.fields _=Data.cell v:=z;cases z'⟩
 keep:=fun i h h' st k=>k it (by simp) _ st
 item:=by
  intro X hP hw hK hc i pr s σ H E I hf st hg;subst hP hw hK;obtain⟨f0,f1,f2,f3,f4,f5⟩:=hf it (by simp);have W:=Walks.range (prog:=X.prog) (w:=X.w) (I.ok.hd hc) it lo c n;refine W.item i s _ _ hg st fun v h' tk hv Lm kk=>?_
  obtain⟨t,rfl⟩:=hv;have I1:Inv X pr σ H {s with heap:=h',toks:=tk}:=I.turned (fun b o hb e=>kk b o (by simpa using hb) e) f0 f1 f3 f4 f5;exact⟨_,rfl,rR (s:={s with heap:=h',toks:=tk}) (n:="range_iterator") Lm rfl rfl (by decide) ⟨.int (lo+i*c),H,I1,⟨t,rfl⟩,⟨rfl,rfl⟩,Lm,fun b hb=>(hf b hb).1⟩⟩
 done:=by
  intro X hP hw hK hc i pr s σ H E I hf st hg;subst hP hw hK;obtain⟨f0,f1,f2,f3,f4,f5⟩:=hf it (by simp);exact wpAny_pyNext_range_end (I.ok.hd hc) st (by have:n<=i:=hg;lia) fun h' eb=>⟨rfl,I.turned (t':=s.toks) (fun b o hb e=>eb b o hb e) f0 f1 f3 f4 f5⟩
 self:=fun _ _ _ _ _ st h=>wpAny_pyIter_rangeiter st h
theorem eJ{n:Int}(h:-(2 ^ 63)<=n)(h2:n<2 ^ 63):Builtin.Range.rangeFitsLong n=true:=by
 unfold Builtin.Range.rangeFitsLong;simp;lia
theorem ic{lo hi c:Int}(h1:-1048576<=lo)(h2:lo<=1048576)(h3:-1048576<=hi)(h4:hi<=1048576)(hc:c = -1\/1<=c):0<=Builtin.Range.rangeSize lo hi c/\Builtin.Range.rangeSize lo hi c<=4194304:=by
 unfold Builtin.Range.rangeSize;rcases hc with rfl|hc
 ·rw[U6 (by decide)];split
  ·show 0<=(lo-hi-1) / 1+1/\(lo-hi-1) / 1+1<=_;rw[Int.ediv_one];lia
  ·lia
 ·rw[U2 (by lia)];split
  ·have:=Int.ediv_le_self c (show 0<=hi-lo-1 by lia);have:=Int.ediv_nonneg (show 0<=hi-lo-1 by lia) (show 0<=c by lia);lia
  ·lia
theorem oh{lo hi c:Int}(h1:-1048576<=lo)(h2:lo<=1048576)(h3:-1048576<=hi)(h4:hi<=1048576)(hc:c = -1\/1<=c)(h5:c<=1048576):Builtin.Range.small lo hi c=true:=by
 obtain⟨r1,r2⟩:=ic h1 h2 h3 h4 hc;unfold Builtin.Range.small;rw[eJ (by lia) (by lia),eJ (by lia) (by lia),eJ (by lia) (by lia),eJ (by lia) (by lia),eJ (by lia) (by lia),eJ (by lia) (by lia)];simp
section
variable{X:Cx}{tg:Expr}
theorem xn{pr:List (Addr×Obj)}{σ:St}{H:Hp}{s:Shared}{R:It->Hp->Prop}{E:Value->Shared->Prop}{lo hi c:Int}{t u v:Tok}{tk:Nat}(I:Inv X pr σ H s)(sm:Builtin.Range.small lo hi c=true)(r0:0<=Builtin.Range.rangeSize lo hi c)
  (q:R (RY lo c (Builtin.Range.rangeSize lo hi c).toNat) H):wpAny (model X.prog X.w) X.A (pyIter (.ref s.heap.objs.size)) (Sl X pr σ tg R) E {s with heap:=s.heap.push {cls:=.type "range",data:=.fields #[.int lo t,.int hi u,.int c v]},toks:=tk}:=by
 refine wpAny_pyIter_range (IsRange.new ..) sm ?_;have I1:Inv X pr σ H {s with heap:=s.heap.push {cls:=.type "range",data:=.fields #[.int lo t,.int hi u,.int c v]},toks:=tk}:=I.kept fun b o e=>UZ _ e
 refine⟨(s.heap.push {cls:=.type "range",data:=.fields #[.int lo t,.int hi u,.int c v]}).objs.size,[(s.heap.push {cls:=.type "range",data:=.fields #[.int lo t,.int hi u,.int c v]}).objs.size],_,_,H,rfl,
  I1.kept (t':=tk) fun b o e=>UZ _ e,qR _ lo c (Builtin.Range.rangeSize lo hi c).toNat,?_,fun b hb=>?_,q⟩
 ·have e1:lo+((0:Nat):Int)*c=lo:=by simp
  have e2:(((Builtin.Range.rangeSize lo hi c).toNat:Nat):Int)-((0:Nat):Int)=Builtin.Range.rangeSize lo hi c:=by lia
  show IsRangeIter _ _ (lo+((0:Nat):Int)*c) ((((Builtin.Range.rangeSize lo hi c).toNat:Nat):Int)-((0:Nat):Int)) c;rw[e1,e2];exact Ve _ rfl
 ·have e:b=(s.heap.push {cls:=.type "range",data:=.fields #[.int lo t,.int hi u,.int c v]}).objs.size:=by simpa using hb
  subst e;exact I1.fpOk (U3 _) (I1.hok.fresh (U3 _))
def dU(i j c:Int):Prop:=(-1048576<=i/\i<=1048576)/\(-1048576<=j/\j<=1048576)/\(c = -1\/1<=c)/\c<=1048576
instance (i j c:Int):Decidable (dU i j c):=by unfold dU;infer_instance
def Hv(ta:TA):TI:=fun σ H R=>ta σ H fun vs H1=>∃i j c:Int,vs=[.int i,.int j,.int c]/\dU i j c/\R (RY i c (Builtin.Range.rangeSize i j c).toNat) H1
theorem xo{x c:Int}(hc:c = -1\/1<=c)(h5:c<=1048576):Builtin.divisionGoesByPylong x c=false:=by
 unfold Builtin.divisionGoesByPylong;have h:¬ ((if(c==0)=true then 0 else c.natAbs.log2 / 30+1)>300):=by
  split
  ·lia
  ·have:c.natAbs.log2<60:=(Nat.log2_lt (by lia)).mpr (by lia);lia
 simp only[Vx h,Xq]
theorem um{a b d:Expr}{ta:TA}{p pos:Pos}(hg:Gl X "range")(hm:X.mg "range" = none)(ha:PA X [a,b,d] ta)(hs:starEach [a,b,d] X.env=[(false,eval a X.env),(false,eval b X.env),(false,eval d X.env)]:=by rfl)(Nk:starEach [b,d] X.env=[(false,eval b X.env),(false,eval d X.env)]:=by rfl):
  PI X tg (.Call (.Name "range" p) [a,b,d] [] pos) (Hv ta):=by
 intro pr s σ H R I h;refine Call_ (fW I hg hm boot_range (Wc (Kh (ha pos pr s σ H _ I h) fun us s1 ⟨vs,H1,I1,r1,q1⟩=>?_) (by rw[hs,Nk]) (by rw[Nk];rfl)));obtain⟨i,j,c,e,⟨⟨q1,q2⟩,⟨q3,q4⟩,q5,q6⟩,q⟩:=q1;subst e;cases r1 with
 |cons r rr=>
  cases rr with
  |cons r' rr=>
   cases rr with
   |cons r'' rr=>
    cases rr;obtain⟨t,rfl⟩:=r;obtain⟨t',rfl⟩:=r';obtain⟨t'',rfl⟩:=r'';exact call_range_3 (by lia) (xn (tk:=s1.toks) I1 (oh q1 q2 q3 q4 q5 q6) (ic q1 q2 q3 q4 q5).1 q) (.inl (xo q5 q6))
end
end L2
namespace PV
section
variable{X:Cx}{tg:Expr}
def EF:List D->Res R
 |[d]=>match(mq d).bind b8 with
  |some (n::ns)=>.ok (.f,.int (Ah (n::ns)))
  |_=>.bad
 |[.int i,.int j]=>.ok (.f,.int (if j<i then j else i))
 |_=>.bad
theorem EG(hc:X.calm=true):bL X (.builtin "min") (rC X.K EF):=by
 rintro pr s σ H xs us Q I rx ⟨G,fp,es,vs,ds,r,⟨rel,k⟩,vd,e⟩;unfold EF at e;split at e
 ·rename_i d;split at e
  ·rename_i n ns hb;cases e;obtain⟨v,ev,vt⟩:=jQ vd;obtain⟨p,ep,sq⟩:=je rel.gh hb vt;subst ev;subst ep;exact sM hc pr s σ H _ us Q I rx ⟨p,n::ns,rfl,sq,by simp,k _ H G fp .refl (rel.push (aI _))⟩
  ·cases e
 ·rename_i i j;cases e;obtain⟨v,w',ev,v1,v2⟩:=ID vd;subst ev;cases aN v1;cases aN v2;exact r9 hc pr s σ H _ us Q I rx ⟨i,j,rfl,k _ H G fp .refl (rel.push (aI _))⟩
 ·cases e
noncomputable def JL:List D->Res R
 |[.int i]=>.ok (.f,.int (if i<0 then -i else i))
 |_=>.bad
def gZ(fs:FOs):FI:=fun env=>(fs env).bind fun p=>(l8 p.2 p.1).bind fun d=>match d with
 |[.int i,.int j,.int c]=>if dU i j c then .ok ((List.range (Builtin.Range.rangeSize i j c).toNat).map fun(k:Nat)=>D.int (i+(k:Int)*c),p.2) else .bad
 |_=>.bad
theorem qS{K:W.Frag}{G:Hp}(lo c:Int)(n:Nat):Walk K G (RY lo c n) ((List.range n).map fun(k:Nat)=>D.int (lo+(k:Int)*c)):=by
 intro G' H' es vs fp gg rel i;refine⟨fun d hd=>?_,fun e=>?_⟩
 ·rw[Vd]at hd;cases hc:(List.range n)[i]? with
  |none=>rw[hc]at hd;cases hd
  |some c=>
   rw[hc]at hd;cases hd;obtain⟨h1,h2⟩:=U0.mp hc;rw[Vl]at h1;rw[W9]at h2;subst h2;refine⟨h1,fun x H2 ⟨e1,e2⟩=>?_⟩;subst e1;exact⟨G',by rw[e2];exact aI _,rel,.refl⟩
 ·rw[U1,Vl]at e;exact Z5 e.symm
theorem uo{a b d:Expr}{fs:FOs}{p pos:Pos}(hg:Gl X "range")(hm:X.mg "range" = none)(ha:QOs X [a,b,d] fs)(hs:starEach [a,b,d] X.env=[(false,eval a X.env),(false,eval b X.env),(false,eval d X.env)]:=by rfl)(Nk:starEach [b,d] X.env=[(false,eval b X.env),(false,eval d X.env)]:=by rfl):
  QI X tg (.Call (.Name "range" p) [a,b,d] [] pos) (gZ fs):=
 jd (um hg hm ha hs Nk) fun σ H R J2=>by
  obtain⟨G,env,fp,ds,env',rel,e,k⟩:=J2;obtain⟨⟨o,JP⟩,e1,e⟩:=ae e;obtain⟨d,e2,e⟩:=ae e;dsimp only at e;split at e
  ·rename_i i j c;split at e
   ·rename_i hj;cases e;refine⟨G,env,fp,o,_,rel,e1,fun vs H1 G1 Ke J8 JQ KP=>?_⟩;obtain⟨y,ys,ev,v1,z,zs,Qd,v2,y3,zs3,RZ,v3,e3⟩:=JQ.vws KP e2;have e3:zs3=[]:=e3;subst e3;have h1:=aN v1;have h2:=aN v2;have h3:=aN v3;subst h1 h2 h3 RZ Qd;exact⟨i,j,c,ev,hj,k _ H1 G1 Ke J8 JQ (qS i c _)⟩
   ·cases e
  ·cases e
end
end PV
namespace NX
section
open PySem.SeqAt
open PySem.AutoSeq1 (wpAny_loadPart')
theorem js{M:Model}{A:Around}{E:Value->Shared->Prop}{s:Shared}{β:Type}(f:Nat->β->Sem (ForInStep β))(n:Nat)(I:Nat->β->Shared->Prop)(Q:β->Shared->Prop)
  (turn:∀(i:Nat) (b:β) (s:Shared),i<n->I i b s->wpAny M A (f i b) (fun r s'=>match r with | .yield b'=>I (i+1) b' s' | .done b'=>Q b' s') E s)
  (fin:∀(b:β) (s:Shared),I n b s->Q b s) (b:β) (h:I 0 b s):wpAny M A (forIn [0:n] b f) Q E s:=by
 rw[Std.Legacy.Range.forIn_eq_forIn_range'];refine wpAny_forIn_list f (fun rest b s=>∃i,i<=n/\rest=List.range' i (n-i)/\I i b s) Q ?_ ?_ _ b ?_
 ·rintro x rest b s ⟨i,hi,hr,h⟩;by_cases Qg:i<n
  ·have e:n-i=(n-(i+1))+1:=by lia
   rw[e,List.range'_succ]at hr;injection hr with h1 h2;subst h1;refine Kh (turn x b s Qg h) fun r s' T9=>?_
   cases r with
   |yield b'=>exact⟨x+1,by lia,h2,T9⟩
   |done b'=>exact T9
  ·have e:n-i=0:=by lia
   rw[e]at hr;cases hr
 ·rintro b s ⟨i,hi,hr,h⟩;by_cases Qg:i<n
  ·have e:n-i=(n-(i+1))+1:=by lia
   rw[e,List.range'_succ]at hr;cases hr
  ·have e:i=n:=by lia
   subst e;exact fin b s h
 ·refine⟨0,VJ _,?_,h⟩;simp[Std.Legacy.Range.size]
theorem iI(l:Addr)(items:Array Value)(n:Nat)(dd:Option Addr)(sl:Array (Option Value))(ns:List Str)(c:Str)(t:Tok)(hi:Vals (ns.map V.str) items.toList)(i:Nat)(hx:ns[i]?=some c)(h0:∀j,j<i->ns[j]?≠some c):
  Meets (Builtin.«tuple.index» ⟨[.ref l,.str c t],[]⟩)
   (fun _ R s=>s.heap.get? l=some {cls:=.type "tuple",dict:=dd,data:=.seq items n,slots:=sl}/\R (.ok (.ret (.int (i:Int) s.toks))) {s with toks:=s.toks+1}):=
 .of_wp fun prog w A R s h=>by
  obtain⟨hp,g,d,tk,os⟩:=s;obtain⟨hl,h⟩:=h;have z1:items.size=ns.length:=by have:=hi.length;simp at this;lia
  have Qg:i<ns.length:=(U0.mp hx).1;have key:∀(j:Nat),j<ns.length->∃(b:Str) (u:Tok),items[j]?=some (.str b u)/\ns[j]?=some b:=by
   intro j hj;obtain⟨v,hv,hr⟩:=hi.get (i:=j) (x:=V.str ns[j]) (by simp[hj]);obtain⟨u,rfl⟩:=hr;exact⟨ns[j],u,by rw[<-Y5];exact hv,by simp[hj]⟩
  wp_walk using wpAny_loadPart' hl,js _ _ (fun j b s'=>b.1=none/\s'=⟨hp,g,d,tk,os⟩/\j<=i) _
  case turn=>
   rintro j ⟨b1,b2⟩ s' hj ⟨hb,rfl,Ua⟩;simp only at hb;subst hb;obtain⟨b,u,e1,e2⟩:=key j (by lia);have he:EqAt A.in1 ⟨hp,g,d,tk,os⟩ (.str b u) (.str c t) (b==c):=EqAt.str_str b u c t;by_cases hbc:b=c
   ·have hji2:j=i:=by
     rcases Y6 j i with Kw|hge
     ·exact absurd (by rw[e2,hbc]) (h0 j Kw)
     ·lia
    subst hji2 hbc;rw[e1];refine UQ (he prog w _ _ ?_);rw[show(b==b)=true from VI b]
    wp_walk
    exact⟨_,rfl,h⟩
   ·rw[e1];refine UQ (he prog w _ _ ?_);rw[show(b==c)=false from V7.mpr hbc]
    wp_walk
    refine⟨rfl,rfl,?_⟩;rcases Y6 j i with Kw|hge
    ·exact Kw
    ·have:j=i:=by lia
     subst this;rw[e2]at hx;cases hx;exact absurd rfl hbc
  case fin=>
   rintro⟨b1,b2⟩ s' ⟨hb,rfl,Ua⟩;rw[Y7]at Ua;lia
  case h=>exact⟨rfl,rfl,VJ _⟩
end
end NX
namespace L2
section
variable{X:Cx}{o e:Expr}{es:List Expr}{to:TE}{t:TA}{name:Str}{apos J3:Pos}{id:String}{r:V->List V->Hp->VK->Prop}
noncomputable def Ju(K:W.Frag)(r:V->List V->Hp->VK->Prop)(to:TE)(t:TA):TE:=fun σ H Q=>to σ H fun x H1=>(∃p ys,x=.ref p/\SqT K H1 p ys)/\t σ H1 fun xs H2=>r x xs H2 Q
theorem EH(slot:Slot "tuple" name id)(Nn:typeOf (.builtin id)=pure (.type "method_descriptor"))(hm:Ox X id r)(ho:PE X o to)(ha:PA X (e::es) t)
  (KG:attributeBase o name X.env (eval o X.env)=eval o X.env:=by rfl)
  (Lo:((backTo J3 (starEach (e::es) X.env)).all (fun x=>!x.1)&&(backToKw J3 (keywordEach [] X.env)).all (fun x=>x.1.isSome)
   && decide ((e::es).length+([]:List Keyword).length+(if([]:List Keyword).isEmpty then 0 else 1)<30))=true:=by rfl)
  (KO:(apos.endLine==J3.line)=true:=by rfl) (hs:starEach (e::es) X.env=(false,eval e X.env)::starEach es X.env:=by rfl) (Kx:(backTo J3 (starEach es X.env)).any (·.1)=false:=by rfl):
  PE X (.Call (.Attribute o name apos) (e::es) [] J3) (Ju X.K r to t):=by
 intro pr s σ H Q I h;refine wpAny_Call_method_late KG Lo KO rfl (Kh (ho pr s σ H _ I h) fun v s1 Kk=>?_);obtain⟨x,H1,I1,r1,⟨p,ys,ex,sq⟩,q1⟩:=Kk;subst ex;cases r1;obtain⟨JT,_,⟨ob,ho,hc,⟨n,hd⟩,hn⟩,_⟩:=I1.tupleN sq;refine⟨"tuple",id,PySem.F.plainAttrs_tuple,slot,Nn,⟨ob,ho,hc⟩,fun a e2=>?_,?_⟩
 ·cases e2;exact⟨ob,ho,hn⟩
 have hA:=ha J3 pr s1 σ H1 _ I1 q1;rw[hs]at hA ⊢;refine XH (by show(false||(backTo J3 (starEach es X.env)).any (·.1))=false;rw[Kx] <;> rfl) (Xp ?_);exact Kh hA fun us s2 ⟨vs,H2,I2,r2,q2⟩=>hm pr s2 σ H2 (.ref p) vs _ us Q I2 rfl r2 q2
end
end L2
namespace PV
section
variable{X:Cx}
def EI(g:List D->List D->Res R)(fa:FO)(fs:FOs):FX:=fun env=>(fa env).bind fun p=>(K5 p.2 p.1).bind fun a=>match a with
 | .tup _=>(fs p.2).bind fun q=>(K5 q.2 p.1).bind fun a2=>match a2 with
  | .tup l=>(l8 q.2 q.1).bind fun ds=>(g l ds).bind fun r=>.ok (r,q.2)
  |_=>.bad
 |_=>.bad
inductive rMtT(K:W.Frag)(g:List D->List D->Res R)(x:V)(xs:List V)(H:Hp)(Q:VK):Prop
 |mk:∀G fp es vs l ds r,Goes K H G fp es vs r Q->Vw K G H (.tup l) x->OC K G H ds xs->g l ds=.ok r->rMtT K g x xs H Q
theorem EJ{g:List D->List D->Res R}{id:String}{name:Str}{o e:Expr}{es:List Expr}{fa:FO}{fs:FOs}{apos J3:Pos}(slot:Slot "tuple" name id)(Nn:typeOf (.builtin id)=pure (.type "method_descriptor"))(hm:Ox X id (rMtT X.K g))(ho:QO X o fa)(ha:QOs X (e::es) fs)
  (KG:attributeBase o name X.env (eval o X.env)=eval o X.env:=by rfl)
  (Lo:((backTo J3 (starEach (e::es) X.env)).all (fun x=>!x.1)&&(backToKw J3 (keywordEach [] X.env)).all (fun x=>x.1.isSome)&&decide ((e::es).length+([]:List Keyword).length+(if([]:List Keyword).isEmpty then 0 else 1)<30))=true:=by rfl)
  (KO:(apos.endLine==J3.line)=true:=by rfl) (hs:starEach (e::es) X.env=(false,eval e X.env)::starEach es X.env:=by rfl) (Kx:(backTo J3 (starEach es X.env)).any (·.1)=false:=by rfl):
  QE X (.Call (.Attribute o name apos) (e::es) [] J3) (EI g fa fs):=by
 refine aJ (EH slot Nn hm ho ha KG Lo KO hs Kx) fun σ H Q Kk=>?_
 obtain⟨G,env,fp,r,env',rel,e,k⟩:=Kk;obtain⟨⟨oa,JP⟩,e1,e⟩:=ae e;obtain⟨da,NA,e⟩:=ae e;dsimp only at e;split at e
 ·obtain⟨⟨os,J4⟩,e2,e⟩:=ae e;obtain⟨d2,hd2,e⟩:=ae e;dsimp only at e;split at e
  ·obtain⟨ds,e3,e⟩:=ae e;obtain⟨r',e4,e⟩:=ae e;cases e;refine⟨G,env,fp,oa,JP,rel,e1,fun v H1 G1 Ke J8 JQ KP=>?_⟩;obtain⟨p,xs,ev,sq,_⟩:=c6 (Vw.rep JQ.gh (JQ.vw KP NA));exact⟨⟨p,xs,ev,sq⟩,G1,JP,Ke,os,_,JQ,e2,fun vs H2 G2 Kt JW JR MH=>⟨G2,Kt,_,σ,_,ds,r,⟨JR,fun v H' G' JU st Kl=>k v H' G' JU (J8.trans (JW.trans st)) Kl⟩,JR.vw (KP.mono JW.gg) hd2,JR.vws MH e3,e4⟩⟩
  ·cases e
 ·cases e
def my(l:List D):List D->Res R
 |[.str c]=>match gm l with
  |some bs=>if c∈bs then .ok (.f,.int (bs.idxOf c:Nat)) else .bad
  |none=>.bad
 |_=>.bad
theorem EK{a b:List Nat}(h:S a=S b):a=b:=by
 have:=Wy (fun s:Str=>s.cps.toList) h;simpa only[cj] using this
theorem pL:∀(bs:List (List Nat)) (c:List Nat) (j:Nat),bs[j]?=some c->bs.idxOf c<=j
 |[],c,j,h=>by simp at h
 |b::bs,c,0,h=>by
  simp at h;subst h;simp[List.idxOf_cons]
 |b::bs,c,j+1,h=>by
  rw[YB]at h;have:=pL bs c j h;rw[List.idxOf_cons];cases b==c with
  |true=>exact VJ _
  |false=>exact Nat.succ_le_succ this
theorem oi:Ox X "tuple.index" (rMtT X.K my):=by
 rintro pr s σ H x xs v us Q I rx rv ⟨G,fp,es,vs,l,ds,r,⟨rel,k⟩,vx,vd,e⟩;unfold my at e;split at e
 ·rename_i c;split at e
  ·rename_i bs hb;split at e
   ·rename_i hc;cases e;obtain⟨p,ys,ev,sq,rs⟩:=c6 (Vw.rep rel.gh vx);obtain⟨hy,_⟩:=fP hb rs;subst ev;cases rx;obtain⟨w',ew,vc⟩:=jQ vd;obtain⟨ev,_⟩:=dH vc;subst ew;subst ev;obtain⟨u,rfl,t',rfl⟩:=cO rv;obtain⟨JT,vl,⟨ob,h1,h2,⟨n,h3⟩,h4⟩,_⟩:=I.tupleN sq;subst hy;obtain⟨cls,dict,data,slots⟩:=ob;dsimp only at h2 h3 h4;subst h2 h3 h4;have Kw:=VY hc;refine PySem.call_meets Yt ⟨_,h1,rfl⟩ PySem.F.entry_tuple_index (PySem.F.args_tuple_index_2 _ _) (iI p JT.toArray n _ _ (bs.map S) (S c) t' (by rw[Vy];exact vl) (bs.idxOf c) ?_ ?_) ⟨h1,⟨.int (bs.idxOf c:Nat),H,I.tok _,⟨_,rfl⟩,k _ H G fp .refl (rel.push (aI _))⟩⟩
    ·rw[Vd,UT Kw,Yd Kw];rfl
    ·intro j hj he;rw[Vd,UT (by lia)]at he;have he:=EK (Vq he);have:=pL bs c j (by rw[UT (by lia),he]);lia
   ·cases e
  ·cases e
 ·cases e
def bc(a b:D):Res R:=match a,b with
 | .tup [],.tup l=>.ok (.f,.tup l)
 |a,b=>addD a b
theorem Bm:Kz X (binaryOp .Add) (rG X.K bc):=by
 rintro pr s σ H x y v u Q I rx ry ⟨G,fp,es,vs,a,b,r,⟨rel,k⟩,va,vb,e⟩;unfold bc at e;split at e
 ·rename_i l;cases e;obtain⟨p,xs,e1,h1,r1⟩:=ft va;obtain⟨p2,Qe,e2,h2,r2⟩:=ft vb;subst e1;subst e2;cases rx;cases ry;have hx:xs=[]:=VQ (by rw[r1.length];rfl);subst hx;obtain⟨JT,v1,⟨⟨cls,dd,data,sl⟩,ho,hc,n,hd⟩,_⟩:=I.tuple (aV rel.gh h1);obtain⟨MV,v2,⟨⟨Qt,P5,data2,P6⟩,Mj,Ng,n2,hd2⟩,_⟩:=I.tuple (aV rel.gh h2);dsimp only at hc hd Ng hd2;subst hc hd Ng hd2;cases v1;exact YZ ⟨_,ho,rfl⟩ ⟨_,Mj,rfl⟩ YG ZC XG XA (Xv _ _) (tuple_addW0 p p2 _ _ n n2 dd P5 sl P6 rfl) ⟨ho,Mj,⟨.ref p2,H,I,rfl,k _ H G fp .refl (rel.push vb)⟩⟩
 ·exact D1 pr s σ H _ _ v u Q I rx ry ⟨G,fp,es,vs,a,b,r,⟨rel,k⟩,va,vb,e⟩
def kJ(fs:FOs):FI:=or2 (qN true true fs) (or2 (qN true false fs) (or2 (qN false true fs) (qN false false fs)))
theorem Bn{MI:List Expr}{kt:Nat}{pt:Pos}{e1 e2:Expr}{fs:FOs}{p pos:Pos}(hg:Gl X "zip")(hm:X.mg "zip" = none)(ha:QOs X [e1,e2] fs)(he:starEach [e1,e2] X.env=(false,eval e1 X.env)::starEach [e2] X.env:=by rfl)(KA:(backTo pos (starEach [e2] X.env)).any (·.1)=false:=by rfl):
  QI X (.Tuple MI kt pt) (.Call (.Name "zip" p) [e1,e2] [] pos) (kJ fs):=ub (pE true true hg hm ha he KA) (ub (pE true false hg hm ha he KA) (ub (pE false true hg hm ha he KA) (pE false false hg hm ha he KA)))
end
end PV
namespace NX
section
open PySem.AutoSeq1 (wpAny_loadPart')
theorem mz(l:Addr)(items:Array Value)(n:Nat)(dd:Option Addr)(sl:Array (Option Value))(x:Int)(u:Tok)(h1:¬ (!Builtin.List.listFitsIndex x)=true)(h2:¬ items.size*x.toNat>(2 ^ 63-1) / 8)(h3:¬ Builtin.List.listTooLong (items.size*x.toNat)=true)(h4:(List.foldl (fun x1 x2=>x1++x2) #[] (List.replicate (if items.isEmpty=true then 0 else x.toNat) items)).size<=sizeLine):
  Meets (Builtin.«list.__mul__» ⟨[.ref l,.int x u],[]⟩)
   (fun _ R s=>s.heap.get? l=some {cls:=.type "list",dict:=dd,data:=.seq items n,slots:=sl}/\R (.ok (.ret (.ref s.heap.objs.size))) {s with heap:=s.heap.push {cls:=.type "list",data:=.seq (List.foldl (fun x1 x2=>x1++x2) #[] (List.replicate (if items.isEmpty=true then 0 else x.toNat) items))}}):=
 .of_wp fun prog w A R s h=>by
  obtain⟨hp,g,d,tk,os⟩:=s;obtain⟨hl,h⟩:=h
  wp_walk using wpAny_loadPart' hl
  rw[U6 (by lia)]
  wp_walk
  exact⟨_,rfl,h⟩
theorem mC(a:Int)(t:Tok)(l:Addr)(T:String)(items:Array Value)(n:Nat)(dd:Option Addr)(sl:Array (Option Value)):
  Meets (Builtin.«int.__rmul__» ⟨[.int a t,.ref l],[]⟩)
   (fun _ R s=>s.heap.get? l=some {cls:=.type "list",dict:=dd,data:=.seq items n,slots:=sl}/\R (.ok (.ret .notImplemented)) s):=
 .of_wp fun prog w A R s h=>by
  obtain⟨hp,g,d,tk,os⟩:=s;obtain⟨hl,h⟩:=h
  wp_walk using wpAny_loadPart' hl
  exact⟨_,rfl,h⟩
end
end NX
namespace PV
variable{md:Mode}{X:Cx}
section
inductive rRepS(K:W.Frag)(x:V)(y:V)(H:Hp)(Q:VK):Prop
 |mk:∀l k xs,x=.ref l->y=.int k->SqL K H l xs->-(2 ^ 62)<=k->k<2 ^ 62->xs.length*k.toNat<=sizeLine->(∀p,H p=none->Q (.ref p) (upd H p (.lst (List.replicate k.toNat xs).flatten)))->rRepS K x y H Q
theorem Bo:Kz X (binaryOp .Mult) (rRepS X.K):=by
 intro pr s σ H x y v u Q I rx ry h;obtain⟨l,k,xs,rfl,rfl,hH,h1,h2,hz,q⟩:=h;cases rx;obtain⟨t,rfl⟩:=ry;obtain⟨JT,r,p1,_⟩:=I.list hH;have hl:=r.length;obtain⟨⟨cls,dd,data,sl⟩,ho,hc,n,hd⟩:=id p1.isList;simp only at hc hd;subst hc hd;have hlen:JT.toArray.size*k.toNat<=sizeLine:=by rw[U9,<-hl];exact hz
 have hcap:¬ JT.toArray.size*k.toNat>(2 ^ 63-1) / 8:=by
  have:(sizeLine:Nat)<=(2 ^ 63-1) / 8:=by decide
  lia
 have M1:¬ (!Builtin.List.listFitsIndex k)=true:=by
  rw[fitsIndex_both (by lia) (by lia)];exact UY
 have Q7:¬ Builtin.List.listTooLong (JT.toArray.size*k.toNat)=true:=by
  rw[wm hlen];exact UY
 have Q8:List.foldl (fun x1 x2=>x1++x2) #[] (List.replicate (if JT.toArray.isEmpty=true then 0 else k.toNat) JT.toArray)=(List.replicate k.toNat JT).flatten.toArray:=by
  have f0:∀m:Nat,List.foldl (fun x1 x2=>x1++x2) #[] (List.replicate m JT.toArray)=(List.replicate m JT).flatten.toArray:=fun m=>by
   have:=lP JT m [];rw[XE]at this;exact this
  rw[f0];cases JT with
  |nil=>simp
  |cons a r'=>rw[U6 (by simp)]
 have hsz:(List.foldl (fun x1 x2=>x1++x2) #[] (List.replicate (if JT.toArray.isEmpty=true then 0 else k.toNat) JT.toArray)).size<=sizeLine:=by
  rw[Q8,U9,so,Z6];rw[U9]at hlen;exact hlen
 refine wpAny_binaryOp_repeat_ref (T:="list") (U:="int") (by decide) ⟨_,ho,rfl⟩ (fun s'=>Zb s' k t) noFill_list_mul F.fills_int_mul F.slot_int_rmul repeat_list F.slot_int_index.lookup
  (call_meets F.slot_int_rmul (Zb s k t) F.entry_int_rmul (F.args_int_rmul_2 _ _) (mC k t l "" JT.toArray n dd sl)
   ⟨ho,rfl,⟨_,ho,rfl⟩,call_meets F.slot_list_mul ⟨_,ho,rfl⟩ F.entry_list_mul (F.args_list_mul_2 _ _) (mz l JT.toArray n dd sl k t M1 hcap Q7 hsz) ⟨ho,?_⟩⟩)
 rw[Q8];exact⟨.ref _,_,I.lnew (t':=s.toks) (r.rep k.toNat) (by rw[so,Z6];exact hz),rfl,q _ I.fresh⟩
theorem pM{K:W.Frag}{G:Hp}{ds:List D}{xs:List V}(r:Reps K G ds xs):∀n:Nat,Reps K G (List.replicate n ds).flatten (List.replicate n xs).flatten
 | 0=>.nil
 |n+1=>by
  rw[Wr,Wr,W0,W0];exact r.app (pM r n)
def g7(a b:D):Res R:=match a,b with
 | .lst ds,.int k=>if 0<=k/\k<1000000/\ds.length*k.toNat<=sizeLine then .ok (.l .f,.lst (List.replicate k.toNat ds).flatten) else .bad
 |a,b=>Gm a b
theorem Bp:Kz X (binaryOp .Mult) (rG X.K g7):=by
 rintro pr s σ H x y v u Q I rx ry ⟨G,fp,es,vs,a,b,r,⟨rel,k⟩,va,vb,e⟩;unfold g7 at e;split at e
 ·rename_i ds j;split at e
  ·rename_i hj;cases e;obtain⟨p,xs,e1,h1,r1⟩:=va;subst e1;cases aN vb;refine Bo pr s σ H _ _ v u Q I rx ry ⟨p,j,xs,rfl,rfl,h1,by lia,by lia,by rw[r1.length];exact hj.2.2,fun q hq=>?_⟩;obtain⟨JR,JW⟩:=rel.newL hq (pM r1 j.toNat);exact k _ _ G _ JW JR
  ·cases e
 ·exact Bk pr s σ H _ _ v u Q I rx ry ⟨G,fp,es,vs,a,b,r,⟨rel,k⟩,va,vb,e⟩
def Jv(i:Nat)(fk fv:FX):FS:=fun env=>(fv env).bind fun p=>(fk p.2).bind fun q=>match p.2[i]?,q.2[i]? with
 |some (some _),some (some (.l .f,.lst ds))=>(match q.1.2 with
  | .int k=>(match ixN ds.length k with
   |some j=>.ok (.nx (q.2.set i (some (.l .f,.lst (ds.set j p.1.2)))))
   |none=>.bad)
  |_=>.bad)
 |_,_=>.bad
end
variable{K:W.Frag}{G H:Hp}{es:PV.Env}{vs:L2.St}{fp:List Addr}{p:Addr}{u:HO}{tk:Bool}{xs:List V}
section
theorem Rel.own{ks ws:List D}(q:Rel K G H es vs fp)(np:p∉fp)(gp:G p=none)(h:DictO u tk ks xs)(rs:Reps K G ws xs):
  Rel K G (upd H p u) (some (.d,.dct tk ks ws)::es) (some (.ref p)::vs) (p::fp):=by
 refine⟨⟨some (.ref p),vs,rfl,.ref p,[p],fp,rfl,rfl,?_,q.rep.step (.refl _) fun z hz=>ah fun e=>np (e▸hz)⟩,Vt.mpr ⟨np,q.nd⟩,fun z hz=>?_,fun b o e=>?_⟩
 ·rw[RepO];exact⟨p,xs,u,rfl,az,h,rfl,rs⟩
 ·rcases U5.mp hz with rfl|hz
  ·exact gp
  ·exact q.gn z hz
 ·rw[ah fun z=>by subst z;rw[gp]at e;cases e];exact q.gh b o e
theorem Rel.aside(q:Rel K G H es vs fp)(hp:H p=none):Rel K G (upd H p u) es vs fp:=by
 have np:p∉fp:=fun z=>by
  obtain⟨u,e⟩:=q.rep.live p z;rw[hp]at e;cases e
 exact⟨q.rep.step (.refl _) fun z hz=>ah fun e=>np (e▸hz),q.nd,q.gn,fun b o e=>by rw[ah (aH (q.gh b o e) hp)];exact q.gh b o e⟩
theorem Step.aside{G2 H2:Hp}{Kt:List Addr}{u2:HO}(q:Rel K G H es vs fp)(hp:H p=none)(hu:isT u=false)(st:Step G (upd H p u) fp G2 H2 Kt):
  Step G H fp G2 (upd H2 p u2) (p::Kt)/\p∉Kt/\G2 p=none/\H2 p=some u:=by
 have np:p∉fp:=fun z=>by
  obtain⟨u,e⟩:=q.rep.live p z;rw[hp]at e;cases e
 have ne:∀{b o},H b=some o->b≠p:=fun e=>aH e hp
 refine⟨⟨st.gg,fun b o e nb=>?_,fun b hb=>?_,fun b o e=>?_,fun b o e=>?_⟩,fun z=>?_,?_,st.keep p u az np⟩
 ·rw[ah (ne e)];exact st.keep b o (by rw[ah (ne e)];exact e) nb
 ·rcases U5.mp hb with rfl|hb
  ·exact .inr hp
  ·rcases st.fpn b hb with h|h
   ·exact .inl h
   ·by_cases e:b=p
    ·subst e;exact .inr hp
    ·rw[ah e]at h;exact .inr h
 ·rcases st.gnew b o e with h|h|h|⟨h1,h2⟩
  ·exact .inl h
  ·exact .inr (.inl h)
  ·by_cases e:b=p
   ·subst e;exact .inr (.inr (.inl hp))
   ·rw[ah e]at h;exact .inr (.inr (.inl h))
  ·by_cases e:b=p
   ·subst e;exact .inr (.inr (.inl hp))
   ·rw[ah e]at h2;exact .inr (.inr (.inr ⟨h1,h2⟩))
 ·obtain⟨o',h⟩:=st.there b o (by rw[ah (ne e)];exact e);exact⟨o',by rw[ah (ne e)];exact h⟩
 ·rcases st.fpn p z with h|h
  ·exact np h
  ·rw[az]at h;cases h
 ·cases e:G2 p with
  |none=>rfl
  |some o=>
   rcases st.gnew p o e with h|h|h|⟨h1,h2⟩
   ·have:=q.gh p o h;rw[hp]at this;cases this
   ·exact absurd h np
   ·rw[az]at h;cases h
   ·rw[az]at h2;cases h2;rw[hu]at h1;cases h1
def pN(fk fv:FX):FX:=fun env=>(fk env).bind fun p=>(fv p.2).bind fun q=>if cS false p.1.2 then .ok ((.d,.dct false [p.1.2] [q.1.2]),q.2) else .bad
theorem xq{k v:Expr}{fk fv:FX}{pos:Pos}(hk:QE X k fk)(hv:QE X v fv):QE X (.Dict [some k] [v] pos) (pN fk fv):=
 aJ (Ax (wG hk hv Aw) rfl rfl (Xt _ _) (show 1<=15 by decide)) fun σ H Q J2 p hp=>by
  obtain⟨G,env,fp,r,env',rel,e,kk⟩:=J2;obtain⟨⟨r1,JP⟩,e1,e⟩:=ae e;obtain⟨⟨r2,J4⟩,e2,e⟩:=ae e;dsimp only at e;split at e
  ·rename_i Lp;cases e;refine⟨G,env,fp,r1,JP,rel.aside hp,e1,fun x H1 G1 Ke J8 JQ=>?_⟩;obtain⟨G2,b,rx,JR,JW⟩:=JQ.freeze;refine⟨G2,JP,b,r2,_,JR,e2,fun y H3 G3 K7 Kq Kr=>?_⟩;obtain⟨G4,b4,ry,KC,K2⟩:=Kr.freeze;have Ub:Rep X.K G4 r1.2 x:=Rep.mono (Kq.gg.trans K2.gg) rx;unfold cS at Lp;rw[U6 UY,VX]at Lp;obtain⟨kd,Qy⟩:=Lp;obtain⟨ex,dx⟩:=eI Qy Ub;obtain⟨st,np,gp,QD⟩:=Step.aside (u2:=.dK [(kd,y)]) rel hp rfl (J8.trans (JW.trans (Kq.trans K2)));refine⟨QD,[(kd,y)],by rw[ex];rfl,(show 1<=15 by decide),?_⟩;exact kk _ _ G4 _ st (KC.own np gp ⟨[(kd,y)],rfl,by rw[dx];rfl,rfl,fun kv LI=>by rw[Vi.mp LI];exact uf Qy Ub⟩ (.one ry))
  ·cases e
def getD(ks vs:List D)(k:D):Option D:=((ks.zip vs).find? fun p=>eqD k p.1).map (·.2)
theorem jt{κ:Type}[DecidableEq κ]{K:W.Frag}{G:Hp}(f:κ->D)(hf:∀a b,eqD (f a) (f b)=decide (a=b)){k:κ}:∀{kvs:List (κ×V)}{vs:List D},Reps K G vs (kvs.map (·.2))->((getD (kvs.map fun kv=>f kv.1) vs (f k)).isSome=(lY kvs k).isSome)/\∀d,getD (kvs.map fun kv=>f kv.1) vs (f k)=some d->∃v,lY kvs k=some v/\Rep K G d v
 |[],vs,r=>⟨rfl,fun d h=>nomatch h⟩
 |kv::kvs,vs,r=>by
  cases vs with
  |nil=>have:=r.length;simp at this
  |cons d0 vs=>
   rw[Vj,Reps.cons_iff]at r;obtain⟨h1,h2⟩:=jt f hf (k:=k) r.2;unfold getD lY at h1 h2 ⊢;rw[Vj,Xb];have e:eqD (f k) (f kv.1)=decide (kv.1=k):=by
    rw[hf,Vr,Vc,Vc];exact⟨fun z=>z.symm,fun z=>z.symm⟩
   by_cases hk:kv.1=k
   ·rw[Wl (by show eqD (f k) (f kv.1)=true;rw[e];exact VA hk),Wl (by exact VA hk)];refine⟨rfl,fun d h=>?_⟩;cases h;exact⟨_,rfl,r.1⟩
   ·rw[Wm (by show ¬ eqD (f k) (f kv.1)=true;rw[e];simpa using hk),Wm (by simpa using hk)];exact⟨h1,h2⟩
theorem om(gh:Same G H){ks vs:List D}{o:HO}{b:D}{y:V}(rd:Rd H p o)(dd:DictO o tk ks xs)(rs:Reps K G vs xs)(hk:cS tk b=true)(ry:Rep K G b y):
  ∃ov,DGet H p y ov/\(getD ks vs b).isSome=ov.isSome/\∀d,getD ks vs b=some d->∃v,ov=some v/\Rep K G d v:=by
 unfold cS at hk;cases tk with
 |true=>
  rw[U2 rfl,VX]at hk;obtain⟨kk,hk⟩:=hk;obtain⟨pz,ez,gz,dz⟩:=fQ hk ry;obtain⟨kvs,eo,ek,ex,_⟩:=dd;subst eo ex ez dz;have ek:ks=kvs.map fun kv=>kT kv.1:=ek
  obtain⟨h1,h2⟩:=jt (K:=K) (G:=G) kT yL (k:=kk) rs;rw[<-ek]at h1 h2;exact⟨lY kvs kk,.inr ⟨kvs,kk,pz,rd,rfl,gh _ _ gz,rfl⟩,h1,h2⟩
 |false=>
  rw[U6 UY,VX]at hk;obtain⟨kk,hk⟩:=hk;obtain⟨ez,dz⟩:=eI hk ry;obtain⟨kvs,eo,ek,ex,_⟩:=dd;subst eo ex ez dz;obtain⟨h1,h2⟩:=jt (K:=K) (G:=G) kD ud (k:=kk) rs;rw[<-ek]at h1 h2;exact⟨lY kvs kk,.inl ⟨kvs,kk,rd,rfl,rfl⟩,h1,h2⟩
def dgD(a b:D):Res R:=match a with
 | .dct tk ks vs=>if cS tk b then(match getD ks vs b with
  |some d=>.ok (.f,d)
  |none=>.bad) else .bad
 |_=>.bad
theorem Hw{a b:Expr}{fa fb:FO}{pos:Pos}(hu:X.A.units+1<cLine)(ha:QO X a fa)(hb:QO X b fb)(hs:NoSl b:=by exact fun _ _=>rfl):QE X (.Subscript a b pos) (ao dgD fa fb):=
 aJ (Au hu ha hb hs) fun σ H Q h=>by
  obtain⟨G,env,fp,r,env',rel,e,k⟩:=h;obtain⟨⟨oa,e1⟩,ha,e⟩:=ae e;obtain⟨⟨ob,e2⟩,hb,e⟩:=ae e;obtain⟨da,NA,e⟩:=ae e;obtain⟨db,KN,e⟩:=ae e;obtain⟨r',hr,e⟩:=ae e;cases e;refine⟨G,env,fp,oa,e1,rel,ha,fun x H1 G1 Ke J8 JQ KP=>⟨G1,e1,Ke,ob,e2,JQ,hb,fun y H2 G2 Kt JW JR MH=>?_⟩⟩;have va:=JR.vw (KP.mono JW.gg) NA;have vb:=JR.vw MH KN;unfold dgD at hr;split at hr
  ·rename_i tk ks vs;split at hr
   ·rename_i Lp;split at hr
    ·rename_i d hd;cases hr;obtain⟨p,xs,o,ev,rd,dd,rs⟩:=va;subst ev;have vb':Rep X.K G2 db y:=by
      cases db with
      |lst l=>cases tk <;> simp[cS,jl,jk]at Lp
      |dct _ _ _=>cases tk <;> simp[cS,jl,jk]at Lp
      |_=>exact vb
     obtain⟨ov,g,_,h2⟩:=om JR.gh rd dd rs Lp vb';obtain⟨v,ho,rv⟩:=h2 d hd;subst ho;exact⟨p,v,rfl,g,k _ H2 G2 Kt (J8.trans JW) (JR.push rv)⟩
    ·cases hr
   ·cases hr
  ·cases hr
def inP(a b:D):Res R:=match b with
 | .dct tk ks vs=>if cS tk a then .ok (.f,.bl (getD ks vs a).isSome) else .bad
 |_=>Nj a b
def rJ(a b:D):Res R:=match b with
 | .dct tk ks vs=>if cS tk a then .ok (.f,.bl (!(getD ks vs a).isSome)) else .bad
 |_=>Bb a b
theorem EL(hu:X.A.units+65<cLine):Kz X (compareOp .In) (rGA X.K inP):=by
 rintro pr s σ H x y v u Q I rx ry ⟨G,fp,es,vs,a,b,r,⟨rel,k⟩,va,vb,e⟩;unfold inP at e;split at e
 ·rename_i tk ks ws;split at e
  ·rename_i Lp;cases e;obtain⟨p,xs,o,ev,rd,dd,rs⟩:=vb;subst ev;cases ry;obtain⟨ov,g,h1,_⟩:=om (K:=X.K) (G:=H) (fun _ _ z=>z) rd dd rs Lp va;exact Js (by lia) I g rx fun s' I'=>⟨.bl ov.isSome,H,I',rfl,by rw[<-h1];exact k _ H G fp .refl (rel.push (bJ _))⟩
  ·cases e
 ·exact Ht hu pr s σ H x y v u Q I rx ry ⟨G,fp,es,vs,a,b,r,⟨rel,k⟩,va,vb,e⟩
theorem Bq(hu:X.A.units+65<cLine):Kz X (compareOp .NotIn) (rGA X.K rJ):=by
 rintro pr s σ H x y v u Q I rx ry ⟨G,fp,es,vs,a,b,r,⟨rel,k⟩,va,vb,e⟩;unfold rJ at e;split at e
 ·rename_i tk ks ws;split at e
  ·rename_i Lp;cases e;obtain⟨p,xs,o,ev,rd,dd,rs⟩:=vb;subst ev;cases ry;obtain⟨ov,g,h1,_⟩:=om (K:=X.K) (G:=H) (fun _ _ z=>z) rd dd rs Lp va;exact Ar (by lia) I g rx fun s' I'=>⟨.bl (!ov.isSome),H,I',rfl,by rw[<-h1];exact k _ H G fp .refl (rel.push (bJ _))⟩
  ·cases e
 ·exact Ef hu pr s σ H x y v u Q I rx ry ⟨G,fp,es,vs,a,b,r,⟨rel,k⟩,va,vb,e⟩
end
noncomputable def isLf:O->Bool
 | .l .f=>true
 | .pin _ (.l .f)=>true
 |_=>false
section
variable{G' H':Hp}
theorem RepE.append:∀{es LX:PV.Env}{vs LH:L2.St}{a b:List Addr},RepE K G H es vs a->RepE K G H LX LH b->RepE K G H (es++LX) (vs++LH) (a++b)
 |[],LX,vs,LH,a,b,r,q=>by
  rw[r.1,r.2];exact q
 |none::es,LX,vs,LH,a,b,r,q=>by
  obtain⟨y,ys,e,r⟩:=r;subst e;exact⟨y,ys++LH,rfl,RepE.append r q⟩
 |some x::es,LX,vs,LH,a,b,r,q=>by
  obtain⟨y,ys,e,v,a1,b1,e1,e2,r1,r2⟩:=r;subst e e2;exact⟨y,ys++LH,rfl,v,a1,b1++b,e1,VH _ _ _,r1,RepE.append r2 q⟩
theorem RepE.clean{G2 G3:Hp}(h:∀p u,isT u=true->G2 p=some u->G3 p=some u):∀{es:PV.Env}{vs:L2.St}{a:List Addr},(∀r,some r∈es->aw r.1 r.2=true)->RepE K G2 H es vs a->RepE K G3 H es vs a
 |[],_,_,_,r=>r
 |none::es,vs,a,hc,r=>by
  obtain⟨y,ys,e,r⟩:=r;exact⟨y,ys,e,RepE.clean h (fun r hr=>hc r (US _ hr)) r⟩
 |some x::es,vs,a,hc,r=>by
  obtain⟨y,ys,e,v,a1,b1,e1,e2,r1,r2⟩:=r;exact⟨y,ys,e,v,a1,b1,e1,e2,r1.clean h (hc x UR),RepE.clean h (fun r hr=>hc r (US _ hr)) r2⟩
end
variable{e:Expr}{x:Str}{c:O}{F:Addr->List D->Res R}{d0:D}{ds:List D}
section
def Jw(i:Nat):FX:=fun env=>match env[i]? with
 |some (some (ow,.lst ds))=>if isLf ow then(match ds.getLast? with
  |some d=>.ok ((.f,d),env.set i (some (ow,.lst ds.dropLast)))
  |none=>.bad) else .bad
 |_=>.bad
def iJ(i:Nat)(f:FX):FS:=fun env=>(f env).bind fun p=>match p.2[i]? with
 |some (some (.pin q c,d0))=>.ok (.rt (.t [p.1.1,.pin q c],.tup [p.1.2,d0]))
 |_=>.bad
theorem Br{i:Nat}{f:FX}{pos:Pos}(he:QE X e f):QS (md:=.mut) X (.Return (some e) pos) (iJ i f):=dE (rP he) fun Dd σ H J2=>by
 obtain⟨G,env,fp,rel,k⟩:=J2;unfold iJ at k;match q:f env,k with
 | .ok (r,JP),k=>
  have k:OutOk (md:=.mut) X.K G H fp Dd (match JP[i]? with
   |some (some (.pin q c,d0))=>.ok (.rt (.t [r.1,.pin q c],.tup [r.2,d0]))
   |_=>.bad):=k
  split at k
  ·rename_i z c d0 hz;refine⟨G,env,fp,r,JP,rel,q,fun v H1 G1 Ke J8 JQ=>?_⟩;obtain⟨y,ys,ey,v',a,b,e1,e2,r1,r2⟩:=JQ.rep;cases ey;cases e1;subst e2;obtain⟨v0,a0,b0,S1,ro,_,pm⟩:=r2.take hz;have hv0:v0=.ref z:=by
    have:=ro;rw[RepO]at this;exact this.1
   subst hv0;have sub:∀w∈a++a0,w∈a++b:=fun w hw=>by
    rcases Vs.mp hw with hw|hw
    ·exact UX _ hw
    ·exact UW _ (pm.mem_iff.mpr (UX _ hw))
   have nd:=Vp.mp JQ.nd;have nd2:=Vp.mp (pm.nodup_iff.mp nd.2.1);refine k v H1 G1 (a++a0) (J8.trans (Step.cut sub)) ⟨r.1,r.2,z,c,d0,rfl,⟨⟨some v,[some (.ref z)],rfl,v,a,a0,rfl,rfl,r1,some (.ref z),[],rfl,.ref z,a0,[],rfl,(Vm _).symm,ro,rfl,rfl⟩,?_,fun p hp=>JQ.gn p (sub p hp),JQ.gh⟩⟩;rw[Vp];exact⟨nd.1,nd2.1,fun p hp w hw e=>nd.2.2 p hp w (pm.mem_iff.mpr (UX _ hw)) e⟩
  ·exact k.elim
def ju(np nn:Nat)(c:O)(g:FS)(p:Addr):List D->Res R
 |d0::ds=>if ds.length+1=np then(g (some (.pin p c,d0)::(ds.map (fun d=>some (O.f,d))++List.replicate nn none))).bind fun o=>match o with
  | .rt r=>.ok r
  |_=>.bad
  else .bad
 |[]=>.bad
inductive spM(K:W.Frag)(c:O)(F:Addr->List D->Res R)(vs:List V)(H:Hp)(Q:VK)(zz:XK):Prop
 |mk:∀G p LH d0 ds r MJ,Same G H->vs=.ref p::LH->RepO K G H c d0 (.ref p) MJ->MJ.Nodup->(∀z∈MJ,G z=none)->Reps K G ds LH->F p (d0::ds)=.ok r->(∀v H' G' JU,Step G H MJ G' H' JU->IB .mut K G' H' r v JU->Q v H')->spM K c F vs H Q zz
theorem EM{P:Program}{w:World}{mg:Str->Option Value}{base:Heap}{st:Stmt}{N ps:List Str}{k:Nat}{c:O}{g:FS}(Df:Def K mg x st)(sc:FnScope N ps (defScope st))
  (hb:∀(kV doc pm:Value) (an:Option Addr) (Kc ct:Value) (us:List Value),us.length=ps.length->bindArgs (PySem.W.fnOf x x (bO st) (aU st) (defScope st) .none kV doc pm an Kc ct) ⟨us,[]⟩=pure (ps.zip us))
  (body:∀(f:Addr) (Kc:Value) (A:Around) (outer:List PySem.Env) (s:Shared) (H:Hp) (E:XK),Room k (A.deeper (envOfC x (defScope st) s.heap.objs.size f Kc))->QSs (md:=.mut) (lK L4 P w K mg base N x (defScope st) f Kc A outer s H E).nox (aU st) g):
  Ct P w K mg base x (k+1) (spM K c (ju ps.length (N.length-ps.length) c g)):=by
 obtain⟨f,fd,F,m⟩:=Df;refine⟨f,fd,ps,F.ok sc (fun vs H Q E h=>?_) (fun Kc A outer s H vs Q E hr h=>?_),m,F.kp,F.binds hb⟩
 ·obtain⟨G,p,LH,d0,ds,r,MJ,_,ev,_,_,_,rs,e,_⟩:=h;unfold ju at e;split at e
  ·rename_i S2 ds' heq;cases heq;split at e
   ·rename_i hl;rw[ev,Va,rs.length,hl]
   ·cases e
  ·cases e
 ·obtain⟨G,p,LH,d0,ds,r,MJ,gh,ev,r0,nd,gn,rs,e,q⟩:=h;unfold ju at e;split at e
  ·rename_i S2 ds' heq;cases heq;split at e
   ·rename_i hl;refine⟨_,body f Kc A outer s H E hr,G,some (.pin p c,d0)::(ds.map (fun d=>some (O.f,d))++List.replicate (N.length-ps.length) none),MJ,⟨?_,nd,gn,gh⟩,?_⟩
    ·have:=c8 (K:=K) (G:=G) (H:=H) (N.length-ps.length) rs;unfold L2.fE;rw[ev,Va,rs.length,hl];exact⟨some (.ref p),_,rfl,.ref p,MJ,[],rfl,(Vm _).symm,by rw[RepO];exact⟨rfl,r0⟩,this⟩
    ·obtain⟨o,eo,e⟩:=ae e;rw[eo];cases o with
     |rt r'=>
      cases e;exact fun v H' G' JU st rel=>q v H' G' JU st rel
     |nx env'=>cases e
     |bk env'=>cases e
     |ct env'=>cases e
   ·cases e
  ·cases e
noncomputable def mD:O->O->Bool
 | .l .f,.l .f=>true
 | .l .f,.pin _ (.l .f)=>true
 | .d,.d=>true
 | .d,.pin _ .d=>true
 |_,_=>false
theorem yN{ow:O}{d:D}{v:V}{a:List Addr}(h:mD c ow=true)(r:RepO K G H ow d v a):(∃p,v=.ref p)/\RepO K G H c d v a/\∀(G' H':Hp) (d':D) (a':List Addr),RepO K G' H' c d' v a'->RepO K G' H' ow d' v a':=by
 have O8:∀{d:D},RepO K G H (.l .f) d v a->∃p,v=.ref p:=fun{d} r=>by
  cases d with
  |lst ds=>obtain⟨p,_,e,_⟩:=fH.mp r;exact⟨p,e⟩
  |_=>simp only[RepO]at r
 have O9:∀{d:D},RepO K G H .d d v a->∃p,v=.ref p:=fun{d} r=>by
  cases d with
  |dct tk ks ws=>rw[RepO]at r;obtain⟨p,_,_,e,_⟩:=r;exact⟨p,e⟩
  |_=>simp only[RepO]at r
 unfold mD at h;split at h
 ·exact⟨O8 r,r,fun _ _ _ _ z=>z⟩
 ·rw[RepO]at r;exact⟨⟨_,r.1⟩,r.2,fun _ _ _ _ z=>by rw[RepO];exact⟨r.1,z⟩⟩
 ·exact⟨O9 r,r,fun _ _ _ _ z=>z⟩
 ·rw[RepO]at r;exact⟨⟨_,r.1⟩,r.2,fun _ _ _ _ z=>by rw[RepO];exact⟨r.1,z⟩⟩
 ·cases h
open Classical in
noncomputable def g8(F:Addr->List D->Res R)(c:O)(d0:D)(ds:List D):Res (R×D):=
 if h:∃x:R×D,∀p,F p (d0::ds)=.ok (.t [x.1.1,.pin p c],.tup [x.1.2,x.2]) then .ok (Classical.choose h) else .bad
theorem pO{r:R}{d':D}(h:∀p,F p (d0::ds)=.ok (.t [r.1,.pin p c],.tup [r.2,d'])):g8 F c d0 ds=.ok (r,d'):=by
 have h':∃x:R×D,∀p,F p (d0::ds)=.ok (.t [x.1.1,.pin p c],.tup [x.1.2,x.2]):=⟨(r,d'),h⟩
 unfold g8;rw[dif_pos h'];have e:=(XN h' 0).symm.trans (h 0);generalize Classical.choose h'=x at e;obtain⟨⟨o,d⟩,d2⟩:=x;cases e;rfl
theorem pP{x:R×D}(h:g8 F c d0 ds=.ok x)(p:Addr):F p (d0::ds)=.ok (.t [x.1.1,.pin p c],.tup [x.1.2,x.2]):=by
 unfold g8 at h;split at h
 ·rename_i h';cases h;exact XN h' p
 ·cases h
end
section
variable{p pos:Pos}{es:List Expr}{fs:FOs}
end
section
variable{G' H':Hp}
end
section
end
end PV
namespace NX
theorem EN{P:Program}{w:World}{k:Key}{u:Value}(h:(mixKind P w).is k u=true):RelV (kV k) u:=by
 rw[qz]at h;cases k with
 |inl i=>
  have h:Value.isInt i u=true:=h;cases u with
  |int j t=>
   have e:(j==i)=true:=h;rw[Vz]at e;exact⟨t,by rw[e]⟩
  |_=>cases h
 |inr x=>
  obtain⟨t,e⟩:=Value.isStrOf_shape h;exact⟨t,e⟩
theorem EO{κ:Type}{kvs:List (κ×V)}{vs:List (κ×Value)}(r:KV kvs vs):∀{i:Nat}{k:κ}{v:V},kvs[i]?=some (k,v)->∃u,vs[i]?=some (k,u)/\RelV v u:=by
 induction r with
 |nil=>intro i k v e;simp at e
 | @cons p q ps qs hq _ ih=>
  intro i k v e;cases i with
  |zero=>
   simp at e;subst e;obtain⟨qk,qv⟩:=q;obtain⟨e1,e2⟩:=hq;cases e1;exact⟨qv,rfl,e2⟩
  |succ i=>exact ih (by simpa using e)
theorem pQ{X:Cx}{pr:List (Addr×Obj)}{σ:L2.St}{H:Hp}{s:Shared}{a:Addr}{o:Obj}{ep:Nat}{es:Array DictEntry}{kvs:List (Key×V)}(I:Inv X pr σ H s)(hd:o.data=.dict es ep)(ha:H a=some (.frz o (.dK kvs))):
  s.heap.get? a=some o/\∃vs,KV kvs vs/\s.heap.DictAt (mixKind X.prog X.w) a vs ep:=by
 obtain⟨ho,z,nm,vs,r,o',LX,OO,g1,ex,dat,rest⟩:=(show ObjOk X.prog X.w H s.heap a (.frz o (.dK kvs)) from I.hok a _ ha)
 have e:=g1.symm.trans ho;cases e;have e2:=dat.symm.trans hd;cases e2;exact⟨ho,vs,r,o,es,ho,ex,hd,rest⟩
theorem xr{X:Cx}{pr:List (Addr×Obj)}{σ:L2.St}{H:Hp}{s:Shared}{a:Addr}{o:Obj}{kvs:List (Key×V)}(I:Inv X pr σ H s)(ha:H a=some (.dK kvs))(ho:s.heap.get? a=some o):Inv X pr σ (upd H a (.frz o (.dK kvs))) s:=by
 have ok:=(show ObjOk X.prog X.w H s.heap a (.dK kvs) from I.hok a _ ha)
 have nt:∀c xs,H c=some (.tup xs)->c≠a:=fun c xs e z=>by rw[z,ha]at e;cases e
 have nf:∀c q u,H c=some (.frz q u)->c≠a:=fun c q u e z=>by rw[z,ha]at e;cases e
 have nb:∀c ps,H c=some (.tbl ps)->c≠a:=fun c ps e z=>by rw[z,ha]at e;cases e
 have no:∀c b,H c=some (.own b)->c≠a:=fun c b e z=>by rw[z,ha]at e;cases e
 have S0:Inv X pr σ (upd H a (.frz o (.dK kvs))) {s with heap:=s.heap,gens:=s.gens,drawn:=s.drawn,toks:=s.toks}:=by
  refine I.step (ch:=[]) (fun c hc=>nomatch hc) (fun c q _ _ _ e _=>e) (fun c q _ _ _ e _=>⟨q.slots,e⟩) (fun c q _ e n=>?_) (fun c q _ e=>⟨q,e⟩)
   (fun c l e=>by rw[ah (nt c l e)];exact e) (fun c q u e=>by rw[ah (nf c q u e)];exact e) (fun c ps e=>⟨#[],by rw[ah (nb c ps e),e];simp⟩) (fun m hm=>hm) (fun c ob e=>?_) I.bare
  ·have:c≠a:=fun z=>by rw[z,ha]at n;cases n
   rw[ah this];exact n
  ·by_cases ec:c=a
   ·subst ec;rw[az]at e;cases e;exact⟨ho,ok.stay (fun _ _ _ q=>q) (fun d q=>by rw[ah (no d _ q)];exact q) fun d l q=>by rw[ah (nt d l q)];exact q⟩
   ·rw[ah ec]at e;exact(I.hok c ob e).stay (fun _ _ _ q=>q) (fun d q=>by rw[ah (no d _ q)];exact q) fun d l q=>by rw[ah (nt d l q)];exact q
 exact S0
end NX
namespace PV
def IF(f:FX):FI:=fun env=>(f env).bind fun p=>match p.1 with
 |(.d,.dct false ks vs)=>.ok ((ks.zip vs).map fun z=>D.tup [z.1,z.2],p.2)
 |_=>.bad
section
variable{X:Cx}
def xt(fa fb:FX):FX:=fun env=>(fa env).bind fun p=>(fb p.2).bind fun q=>.ok ((.t [.f,q.1.1],.tup [p.1.2,q.1.2]),q.2)
theorem Bs{a b:Expr}{fa fb:FX}{x1}{pos:Pos}(ha:QE X a fa)(hb:QE X b fb)(h1:starEach [a,b] X.env=(false,eval a X.env)::starEach [b] X.env:=by rfl)(h2:starEach [b] X.env=(false,eval b X.env)::starEach [] X.env:=by rfl):
  QE X (.Tuple [a,b] x1 pos) (xt fa fb):=
 aJ (sd (a9 ha (a9 hb dN h2) h1)) fun σ H Q J2=>by
  obtain⟨G,env,fp,r,env',rel,e,k⟩:=J2;obtain⟨⟨r1,JP⟩,e1,e⟩:=ae e;obtain⟨⟨⟨o2,d2⟩,J4⟩,e2,e⟩:=ae e;cases e;refine⟨G,env,fp,r1,JP,rel,e1,fun v H1 G1 Ke J8 JQ=>?_⟩;obtain⟨G2,b,rv,JR,JW⟩:=JQ.freeze;refine⟨G2,JP,b,(o2,d2),J4,JR,e2,fun v2 H3 G3 K7 Kq Kr=>⟨by rw[line_eq];exact(by decide:2<=16777216),fun p hp=>?_⟩⟩;obtain⟨KC,K2⟩:=Kr.newF (u:=.tup [v,v2]) hp;refine k _ _ _ K7 (J8.trans (JW.trans (Kq.trans K2))) ?_;obtain⟨y,ys,ey,v',a',b',Q9,ef,q1,q2⟩:=KC.rep;cases ey;cases Q9;subst ef;refine⟨⟨some (.ref p),σ,rfl,.ref p,a',b',rfl,rfl,?_,q2⟩,KC.nd,KC.gn,KC.gh⟩;show RepO X.K _ _ (.t [.f,o2]) (.tup [r1.2,d2]) (.ref p) a';rw[RepO];refine⟨p,[v,v2],rfl,az,?_⟩;rw[RepT];refine⟨v,[v2],[],a',rfl,rfl,cZ.mpr ⟨Rep.mono (Kq.gg.trans K2.gg) rv,rfl⟩,?_⟩;rw[RepT];refine⟨v2,[],a',[],rfl,by rw[Vm],q1,?_⟩;rw[RepT];exact⟨rfl,rfl⟩
noncomputable def IG(i:Nat):FX:=fun env=>match env[i]? with
 |some (some (.t [.f,.l .f],.tup [a,.lst _]))=>.ok ((.f,.non),env.set i (some (.t [.f,.l .f],.tup [a,.lst []])))
 |_=>.bad
def qT:List D->Res R
 |[.dct false ks _]=>.ok (.l .f,.lst ks)
 |ds=>gW ds
theorem uq:∀{xs:List V}{us:List Value},xs.length=us.length->(∀(i:Nat) (a:V) (b:Value),xs[i]?=some a->us[i]?=some b->RelV a b)->Vals xs us
 |[],[],_,_=>.nil
 |x::xs,u::us,hl,h=>.cons (h 0 x u rfl rfl) (uq (by simpa using hl) fun i a b ha hb=>h (i+1) a b (by simpa using ha) (by simpa using hb))
 |[],_::_,hl,_=>by simp at hl
 |_::_,[],hl,_=>by simp at hl
theorem mE(hc:X.calm=true):bL X (.type "list") (fun vs H Q=>∃p kvs,vs=[.ref p]/\Rd H p (.dK kvs)/\∀l,H l=none->Q (.ref l) (upd H l (.lst (kvs.map fun kv=>kV kv.1)))):=by
 intro pr s σ H xs us Q I r h;obtain⟨p,kvs,rfl,hp,q⟩:=h;obtain⟨u,rfl,rx⟩:=cO r;cases rx;obtain⟨z,nm,vs,rr,hD⟩:=qJ I.hok hp;obtain⟨ep,OG⟩:=hD.dictAt;have hl:=rr.length;refine PySem.W.kdl_call (PySem.W.kdl_dict (knd:=mixKind X.prog X.w) (kvs:=vs) (ep:=ep) nm) (I.ok.hd hc) OG (by rw[<-hl];exact z) fun h' tk Rc c' hk hS Nr=>?_
 refine⟨.ref s.heap.objs.size,_,I.laid (o:=.lst (kvs.map fun kv=>kV kv.1)) (t':=tk) hk (U3 _) ⟨by rw[U1];exact z,Rc.toList,c',?_,by rw[Array.toArray_toList];exact hS⟩,rfl,q _ (I.hok.fresh (U3 _))⟩;refine uq (by rw[U1,hl];exact(Nr.1.symm.trans (V8 (xs:=Rc)).symm)) fun i a b ha hb=>?_
 rw[Y5]at hb;obtain⟨k,x,e1,e2⟩:=Nr.2 i b hb;rw[Vd]at ha;cases LI:kvs[i]? with
 |none=>rw[LI]at ha;cases ha
 |some kv=>
  rw[LI]at ha;obtain⟨k',v'⟩:=kv;obtain⟨u,hu,_⟩:=EO rr LI;rw[e1]at hu;cases hu;cases ha;exact EN e2
theorem xu(hc:X.calm=true):bL X (.type "list") (rC X.K qT):=by
 rintro pr s σ H xs us Q I rx ⟨G,fp,es,vs,ds,r,⟨rel,k⟩,vd,e⟩;unfold qT at e;split at e
 ·rename_i ks ws;cases e;obtain⟨v,ev,vt⟩:=jQ vd;have rp:=vt.rep rel.gh;rw[Rep]at rp;obtain⟨p,ys,o,ep,rd,dd,rs⟩:=rp;obtain⟨kvs,eo,ek,ex,hf⟩:=(show ∃kvs:List (Key×V),o=.dK kvs/\ks=kvs.map (fun kv=>kD kv.1)/\ys=kvs.map (·.2)/\∀kv∈kvs,qK kv.1 from dd)
  subst ev ep eo;refine mE hc pr s σ H _ us Q I rx ⟨p,kvs,rfl,rd,fun q hq=>?_⟩;have rk:Reps X.K G ks (kvs.map fun kv=>kV kv.1):=by
   rw[ek];refine Reps.ofAll (by rw[U1,U1]) fun i d v hd hv=>?_
   rw[Vd]at hd hv;cases LI:kvs[i]? with
   |none=>rw[LI]at hd;cases hd
   |some kv=>
    rw[LI]at hd hv;cases hd;cases hv;exact yK (hf _ (Vu LI))
  obtain⟨JR,JW⟩:=rel.newL hq rk;exact k _ _ G _ JW JR
 ·exact tV pr s σ H xs us Q I rx ⟨G,fp,es,vs,ds,r,⟨rel,k⟩,vd,e⟩
end
end PV
namespace NX
section
variable{prog:Program}{w:World}{A:Around}{E:Value->Shared->Prop}{s:Shared}
end
section
variable{prog:Program}{w:World}{A:Around}{E:Value->Shared->Prop}{s:Shared}
end
section
variable{X:Cx}{e:Expr}{ta:TA}{p p2 pos Ld:Pos}
end
end NX
namespace PV
section
variable{X:Cx}{e:Expr}{fs:FOs}{p p2 pos Ld:Pos}
theorem xv{K:W.Frag}{σ:L2.St}{H:Hp}{Q Q':List V->Hp->Prop}(h:tOs K fs σ H Q)(k:∀vs H,Q vs H->Q' vs H):tOs K fs σ H Q':=by
 obtain⟨G,env,fp,o,env',rel,e,q⟩:=h;exact⟨G,env,fp,o,env',rel,e,fun vs H' G' JU st Kl ok=>k _ _ (q vs H' G' JU st Kl ok)⟩
end
end PV
namespace NX
section
open PySem.AutoSeq1 (wpAny_loadPart')
end
end NX
namespace PV
section
variable{X:Cx}
end
section
variable{md:Mode}{X:Cx}{scope:Scope}{N:List Str}{tg iter elt:Expr}{ifs:List Expr}{pos:Pos}{fi:FI}{a:FG}{c:FT}{f:FX}{j k0:Nat}
end
section
variable{X:Cx}{x:Str}{p pos:Pos}{e:Expr}{es:List Expr}{f0:FX}{fs:FOs}
end
section
variable{X:Cx}
end
end PV
namespace NX
section
variable{prog:Program}{w:World}{A:Around}{R:Result->Shared->Prop}{it:Addr}{fp wr:List Addr}{n:Nat}{Pv:Nat->Value->Prop}{Sx:Nat->Heap->Prop}{kw:List (Str×Value)}
end
section
variable{X:Cx}{e k:Expr}{te tk:TE}{p pos MC:Pos}
end
end NX
namespace PV
variable{X:Cx}
section
end
variable{es:List Expr}{fa:FO}
section
def Gn(g:List D->List D->Res R)(fa:FO)(fs:FOs):FX:=fun env=>(fa env).bind fun p=>(K5 p.2 p.1).bind fun a=>match a with
 | .lst _=>(fs p.2).bind fun q=>(K5 q.2 p.1).bind fun a2=>match a2 with
  | .lst l=>(l8 q.2 q.1).bind fun ds=>(g l ds).bind fun r=>.ok (r,q.2)
  |_=>.bad
 |_=>.bad
inductive rMtL(K:W.Frag)(g:List D->List D->Res R)(x:V)(xs:List V)(H:Hp)(Q:VK):Prop
 |mk:∀G fp es vs l ds r,Goes K H G fp es vs r Q->Vw K G H (.lst l) x->OC K G H ds xs->g l ds=.ok r->rMtL K g x xs H Q
theorem ER{g:List D->List D->Res R}{id:String}{name:Str}{o e:Expr}{fs:FOs}{apos J3:Pos}(slot:Slot "list" name id)(Nn:typeOf (.builtin id)=pure (.type "method_descriptor"))(hm:Ox X id (rMtL X.K g))(ho:QO X o fa)(ha:QOs X (e::es) fs)
  (KG:attributeBase o name X.env (eval o X.env)=eval o X.env:=by rfl)
  (Lo:((backTo J3 (starEach (e::es) X.env)).all (fun x=>!x.1)&&(backToKw J3 (keywordEach [] X.env)).all (fun x=>x.1.isSome)&&decide ((e::es).length+([]:List Keyword).length+(if([]:List Keyword).isEmpty then 0 else 1)<30))=true:=by rfl)
  (KO:(apos.endLine==J3.line)=true:=by rfl) (hs:starEach (e::es) X.env=(false,eval e X.env)::starEach es X.env:=by rfl) (Kx:(backTo J3 (starEach es X.env)).any (·.1)=false:=by rfl):
  QE X (.Call (.Attribute o name apos) (e::es) [] J3) (Gn g fa fs):=by
 refine aJ (wj XD slot Nn hm ho ha KG Lo KO hs Kx) fun σ H Q Kk=>?_
 obtain⟨G,env,fp,r,env',rel,e,k⟩:=Kk;obtain⟨⟨oa,JP⟩,e1,e⟩:=ae e;obtain⟨da,NA,e⟩:=ae e;dsimp only at e;split at e
 ·obtain⟨⟨os,J4⟩,e2,e⟩:=ae e;obtain⟨d2,hd2,e⟩:=ae e;dsimp only at e;split at e
  ·obtain⟨ds,e3,e⟩:=ae e;obtain⟨r',e4,e⟩:=ae e;cases e;refine⟨G,env,fp,oa,JP,rel,e1,fun v H1 G1 Ke J8 JQ KP=>?_⟩;obtain⟨p,xs,ev,sq,_⟩:=JQ.vw KP NA;subst ev;exact⟨.inl ⟨rfl,xs,sq⟩,G1,JP,Ke,os,_,JQ,e2,fun vs H2 G2 Kt JW JR MH=>⟨G2,Kt,_,σ,_,ds,r,⟨JR,fun v H' G' JU st Kl=>k v H' G' JU (J8.trans (JW.trans st)) Kl⟩,JR.vw (KP.mono JW.gg) hd2,JR.vws MH e3,e4⟩⟩
  ·cases e
 ·cases e
open PySem.SeqAt in
theorem Bu{pr:List (Addr×Obj)}{σ:L2.St}{H:Hp}{s:Shared}(I:Inv X pr σ H s){a:D}{x:V}{v:Value}{A:Around}(h:plainD 40 a=true)(hu:A.units+64<cLine)(r:Rep X.K H a x)(rx:RelV x v):
  ∀(ds:List D) (xs:List V) (us:List Value),plainDs 40 ds=true->Reps X.K H ds xs->Vals xs us->∃e:Value->Bool,(∀(j:Nat) (d:D) (u:Value),ds[j]?=some d->us[j]?=some u->e u=eqD d a)/\∀u∈us,EqAt A s u v (e u):=by
 classical
 intro ds xs us hp rs vl;have key:∀(j:Nat) (d:D) (u:Value),ds[j]?=some d->us[j]?=some u->decide (∃(j:Nat) (d:D),ds[j]?=some d/\us[j]?=some u/\eqD d a=true)=eqD d a:=by
  intro j d u hd hj;obtain⟨w1,ND,NF⟩:=rs.get hd;obtain⟨u1,Mn,NG⟩:=vl.get ND;rw[hj]at Mn;cases Mn;rw[Vr,Vc];constructor
  ·rintro⟨j2,d2,k1,k2,k3⟩;obtain⟨w2,QV,QY⟩:=rs.get k1;obtain⟨u2,OD,QZ⟩:=vl.get QV;rw[k2]at OD;cases OD;have:=NG.inj QZ;subst this;rw[jh I 40 _ _ _ (plainDs_mem hp hd) (plainDs_mem hp k1) NF QY];exact k3
  ·intro k3;exact⟨j,_,hd,hj,k3⟩
 refine⟨fun u=>decide (∃(j:Nat) (d:D),ds[j]?=some d/\us[j]?=some u/\eqD d a=true),key,fun u NH=>?_⟩;obtain⟨j,hj⟩:=VM.mp NH;have l1:=vl.length;have l2:=rs.length;have hjl:=(U0.mp hj).1;have g1:ds[j]?=some (ds[j]'(by lia)):=UT _;obtain⟨w1,ND,NF⟩:=rs.get g1;obtain⟨u1,Mn,NG⟩:=vl.get ND;rw[hj]at Mn;cases Mn;have z:=Eb I _ _ w1 x u v A 40 (plainDs_mem hp g1) h (by lia) NF r NG rx;show EqAt A s u v (decide (∃(j:Nat) (d:D),ds[j]?=some d/\us[j]?=some u/\eqD d a=true));rw[key j _ u g1 hj];exact z
def mF(l:List D):List D->Res R
 |[a]=>if plainD 40 a&&plainDs 40 l&&l.any (fun d=>eqD d a) then .ok (.f,.int (l.findIdx (fun d=>eqD d a):Nat)) else .bad
 |_=>.bad
theorem oq(hu:X.A.units+65<cLine):Ox X "list.index" (rMtL X.K mF):=by
 rintro pr s σ H x xs v us Q I rx rv ⟨G,fp,es,vs,l,ds,r,⟨rel,k⟩,vx,vd,e⟩;unfold mF at e;split at e
 ·rename_i a;split at e
  ·rename_i hp;rw[U4,U4]at hp;cases e;obtain⟨p,ys,ev,sq,rs⟩:=vx;subst ev;cases rx;obtain⟨w',ew,va⟩:=jQ vd;subst ew;obtain⟨u,rfl,ru⟩:=cO rv;obtain⟨JT,vl,pl,hz⟩:=I.list sq;obtain⟨⟨cls,dd,data,sl⟩,ho,hc,n,hd⟩:=id pl.isList;simp only at hc hd;subst hc hd;obtain⟨ef,Uc,O3⟩:=Bu (A:=X.A.in1) I hp.1.1 (by first|lia|(simp only[Around.in1_units];lia)) (va.rep rel.gh) ru l ys JT hp.1.2 (Reps.mono rel.gh rs) vl;have Kw:l.findIdx (fun d=>eqD d a)<l.length:=List.findIdx_lt_length.mpr (by rw[<-V0];exact hp.2);have l1:=vl.length;have l2:=rs.length;have hlt2:l.findIdx (fun d=>eqD d a)<JT.toArray.size:=by rw[U9];lia
   have hb:(l.findIdx (fun d=>eqD d a):Int)<2 ^ 63-1:=by
    rw[Wn]at hz;lia
   refine PySem.call_meets YC ⟨_,ho,rfl⟩ PySem.F.entry_list_index (PySem.F.args_list_index_2 _ _) (PySem.SeqAt.list_indexAt p JT.toArray n _ _ u ef (l.findIdx fun d=>eqD d a) hlt2 hb ?_ ?_) ⟨ho,fun y hy=>?_,⟨.int (l.findIdx (fun d=>eqD d a):Nat),H,I.tok _,⟨_,rfl⟩,k _ H G fp .refl (rel.push (aI _))⟩⟩
   ·rw[Uc _ _ _ (UT Kw) (by rw[Zg];exact UT _)];exact Zh (w:=Kw)
   ·intro m hm hlt3;rw[Uc m (l[m]'(by lia)) _ (UT _) (by rw[Zg];exact UT _)];exact List.not_of_lt_findIdx hlt3
   ·exact O3 y (by simpa using hy)
  ·cases e
 ·cases e
end
section
variable{K:W.Frag}{G G' H H':Hp}{es:PV.Env}{vs:L2.St}{fp:List Addr}
theorem Rel.lendM2(q:Rel K G H es vs fp)(a:List Addr)(ha:∀z∈a,z∉fp)(hga:∀z∈a,G z=none):∃G1,Same G G1/\Same G1 H/\(∀z∈a,G1 z=none)/\(∀(i:Nat) (r:R) (v:V),es[i]?=some (some r)->vs[i]?=some (some v)->Rep K G1 r.2 v)/\
  ∀(H2 G2:Hp) (Kt:List Addr) (rs:PV.Env) (ws:L2.St),Step G1 H a G2 H2 Kt->Rel K G2 H2 rs ws Kt->((∀r,some r∈rs->aw r.1 r.2=true)->∃G3 K7,Step G H (a++fp) G3 H2 K7/\Rel K G3 H2 (rs++es) (ws++vs) K7)/\∃G3 K7,Step G H (a++fp) G3 H2 K7/\Rel K G3 H2 (rs++es.map PV.frz) (ws++vs) K7:=by
 have hg:Same G (fun p=>if p∈fp then H p else G p):=fun p u e=>by
  show(if p∈fp then H p else G p)=some u;by_cases hp:p∈fp
  ·rw[U2 hp];exact q.gh p u e
  ·rw[U6 hp];exact e
 have hh:Same (fun p=>if p∈fp then H p else G p) H:=fun p u e=>by
  have e:(if p∈fp then H p else G p)=some u:=e;by_cases hp:p∈fp
  ·rw[U2 hp]at e;exact e
  ·rw[U6 hp]at e;exact q.gh p u e
 have hk:∀p∈fp,∀u,H p=some u->(fun p=>if p∈fp then H p else G p) p=some u:=fun p hp u e=>by
  show(if p∈fp then H p else G p)=some u;rw[U2 hp];exact e
 refine⟨fun p=>if p∈fp then H p else G p,hg,hh,fun z hz=>?_,fun i r v e ev=>q.rep.rep hg hk e ev,fun H2 G2 Kt rs ws st k=>⟨fun cl=>?_,?_⟩⟩
 ·show(if z∈fp then H z else G z)=none;rw[U6 (ha z hz)];exact hga z hz
 ·have kept:∀p∈fp,H2 p=H p:=fun p hp=>by
   obtain⟨u,hu⟩:=q.rep.live p hp;rw[hu];exact st.keep p u hu fun z=>ha p z hp
  have apart:∀p∈Kt,p∉fp:=fun p hp hf=>by
   rcases st.fpn p hp with z|z
   ·exact ha p z hf
   ·obtain⟨u,hu⟩:=q.rep.live p hf;rw[z]at hu;cases hu
  have g3:Same G (fun p=>if p∈fp then none else G2 p):=fun p u e=>by
   show(if p∈fp then none else G2 p)=some u;rw[U6 (fun z=>by rw[q.gn p z]at e;cases e)];exact st.gg p u (hg p u e)
  refine⟨fun p=>if p∈fp then none else G2 p,Kt++fp,⟨g3,fun p u e n=>?_,fun p hp=>?_,fun p u e=>?_,st.there⟩,⟨RepE.append (RepE.clean (fun p u t e=>?_) cl k.rep) (q.rep.step g3 kept),?_,fun p hp=>?_,fun p u e=>?_⟩⟩
  ·exact st.keep p u e fun z=>n (UX _ z)
  ·rcases Vs.mp hp with hp|hp
   ·exact(st.fpn p hp).imp_left (UX _)
   ·exact .inl (UW _ hp)
  ·have e:(if p∈fp then none else G2 p)=some u:=e;by_cases hp:p∈fp
   ·rw[U2 hp]at e;cases e
   ·rw[U6 hp]at e;rcases st.gnew p u e with z|z|z
    ·have z:(if p∈fp then H p else G p)=some u:=z;rw[U6 hp]at z;exact .inl z
    ·exact .inr (.inl (UX _ z))
    ·exact .inr (.inr z)
  ·show(if p∈fp then none else G2 p)=some u;by_cases hp:p∈fp
   ·exfalso;obtain⟨u',hu,hm⟩:=q.rep.mut p hp;have:=st.gg p u' (hk p hp u' hu);rw[e]at this;cases this;cases u with
    |lst _=>cases t
    |dK _=>cases t
    |dT _=>cases t
    |_=>cases hm
   ·rw[U6 hp];exact e
  ·rw[Vp];exact⟨k.nd,q.nd,fun p hp z hz e=>apart p hp (e▸hz)⟩
  ·show(if p∈fp then none else G2 p)=none;by_cases hf:p∈fp
   ·rw[U2 hf]
   ·rw[U6 hf];rcases Vs.mp hp with hp|hp
    ·exact k.gn p hp
    ·exact absurd hp hf
  ·have e:(if p∈fp then none else G2 p)=some u:=e;by_cases hp:p∈fp
   ·rw[U2 hp]at e;cases e
   ·rw[U6 hp]at e;exact k.gh p u e
 ·have Ud:=hg.trans st.gg;have rf:RepE K G2 H2 (es.map PV.frz) vs []:=q.rep.frz Ud fun p hp u e=>st.gg p u (hk p hp u e)
  have ra:=RepE.append k.rep rf;rw[Vm]at ra;refine⟨G2,Kt,⟨Ud,fun p u e n=>st.keep p u e fun z=>n (UX _ z),fun p hp=>(st.fpn p hp).imp_left (UX _),fun p u e=>?_,st.there⟩,⟨ra,k.nd,k.gn,k.gh⟩⟩;rcases st.gnew p u e with z|z|z
  ·have z:(if p∈fp then H p else G p)=some u:=z;by_cases hp:p∈fp
   ·exact .inr (.inl (UW _ hp))
   ·rw[U6 hp]at z;exact .inl z
  ·exact .inr (.inl (UX _ z))
  ·exact .inr (.inr z)
end
def eFunW(c:O)(F:Addr->List D->Res R)(i:Nat)(fs:FOs):FX:=fun env=>(fs env).bind fun p=>match p.1 with
 | .var j::os=>if j=i then(match p.2[i]? with
  |some (some (ow,d0))=>if mD c ow then(eZ (p.2.set i none) os).bind fun ds=>(g8 F c d0 ds).bind fun x=>if aw x.1.1 x.1.2&&aw c x.2 then .ok (x.1,(p.2.set i none).set i (some (ow,x.2))) else .ok (x.1,((p.2.set i none).map frz).set i (some (ow,x.2))) else .bad
  |_=>.bad) else .bad
 |_=>.bad
section
variable{x:Str}{p pos:Pos}{e:Expr}{f0:FX}{fs:FOs}
theorem Bv{F:Addr->List D->Res R}{c:O}{i k:Nat}(C:Ct X.prog X.w X.K X.mg X.base x k (spM X.K c F))(hr:Room k X.A)(hg:Gl X x)(ha:QOs X (e::es) fs)(KN:(x==("__debug__" : Str))=false:=by decide)
  (he:starEach (e::es) X.env=(false,eval e X.env)::starEach es X.env:=by rfl) (KA:(backTo pos (starEach es X.env)).any (·.1)=false:=by rfl):QE X (.Call (.Name x p) (e::es) [] pos) (eFunW c F i fs):=
 aJ (wt C hr hg ha KN he KA) fun σ H Q J2=>by
  obtain⟨G,env,fp,r,env',rel,e,k⟩:=J2;obtain⟨⟨os,e1⟩,ha,e⟩:=ae e;dsimp only at e;split at e
  ·rename_i j TN;split at e
   ·rename_i hj;subst hj;split at e
    ·rename_i ow d0 hi;split at e
     ·rename_i how;obtain⟨ds,hd,e⟩:=ae e;obtain⟨z,hz,e⟩:=ae e;refine⟨G,env,fp,_,e1,rel,ha,fun vs H1 G1 Ke J8 JQ KP=>?_⟩;show spM X.K c F (vs++[]) H1 Q _;rw[Vm];obtain⟨y,ys,ey,k1,k2⟩:=KP;obtain⟨v0,a,b,ev,r0,r2,pm⟩:=JQ.rep.take hi;have k1:σ[j]?=some (some y):=k1;rw[k1]at ev;cases ev;obtain⟨⟨q,hq⟩,rc,back⟩:=yN how r0;subst hq;have nd:=Vp.mp (pm.nodup_iff.mp JQ.nd);have Pa:Rel X.K G1 H1 (e1.set j none) σ b:=⟨r2,nd.2.1,fun w hw=>JQ.gn w (pm.mem_iff.mpr (UW _ hw)),JQ.gh⟩
      obtain⟨G2,MX,NB,S3,K6,KH⟩:=Pa.lendM2 a (fun w hw hb=>nd.2.2 w hw w hb rfl) (fun w hw=>JQ.gn w (pm.mem_iff.mpr (UX _ hw)));refine⟨G2,q,ys,d0,ds,_,a,NB,ey,rc.step MX (fun _ _=>rfl),nd.1,S3,c5 MX K6 k2 hd,pP hz q,fun v H' G' JU st rt=>?_⟩;obtain⟨o',d',p',c',S2,er,rl⟩:=rt;cases er;have fin:∀(ee:PV.Env),ee.length=e1.length->(∃G3 K7,Step G1 H1 (a++b) G3 H' K7/\Rel X.K G3 H' (some z.1::some (.pin q c,z.2)::ee) (some v::some (.ref q)::σ) K7)->(z.1,ee.set j (some (ow,z.2)))=(r,env')->Q v H':=by
       rintro ee S4 ⟨G3,K7,Kq,Kr⟩ S5;cases S5;obtain⟨a1,b1,ef,ro,KD,comb⟩:=Rel.frame Kr;have Pb:Rel X.K G3 H' (some (ow,z.2)::ee) (some (.ref q)::σ) b1:=by
        obtain⟨y2,ys2,Q9,v2,a2,b2,S6,S7,Rf,S8⟩:=KD.rep;cases Q9;cases S6;rw[RepO]at Rf;exact⟨⟨_,_,rfl,_,a2,b2,rfl,S7,back _ _ _ _ Rf.2,S8⟩,KD.nd,KD.gn,KD.gh⟩
       obtain⟨fq,Pc,S9⟩:=Pb.back (i:=j) (by rw[S4];exact(U0.mp hi).1) k1;obtain⟨Pd,Rg⟩:=comb G3 H' _ _ fq S9 Pc;rw[<-ef]at Rg;exact k v H' G3 _ (J8.trans ((Kq.perm (fun w=>pm.mem_iff.symm) (fun w hw=>hw)).trans Rg)) Pd
      obtain⟨b1,b2⟩:=KH H' G' JU _ _ st rl;split at e
      ·rename_i LC;rw[U4]at LC;have e:=Res.ok.inj e;refine fin (e1.set j none) (by rw[VS]) (b1 fun w hw=>?_) e;rcases U5.mp hw with hw|hw
       ·cases hw;exact LC.1
       ·rw[Vi]at hw;cases hw;simp only[aw];exact LC.2
      ·have e:=Res.ok.inj e;exact fin ((e1.set j none).map frz) (by rw[U1,VS]) b2 e
     ·cases e
    ·cases e
   ·cases e
  ·cases e
end
theorem vals_pick{xs:List V}{us:List Value}(r:Vals xs us):∀ix:List Nat,Vals (ix.filterMap fun i=>xs[i]?) (ix.filterMap fun i=>us[i]?)
 |[]=>.nil
 |i::ix=>by
  have ih:=vals_pick r ix;cases e:xs[i]? with
  |none=>
   rw[Yu e,Yu (r.none_of e)];exact ih
  |some d=>
   obtain⟨v,e2,rv⟩:=r.get e;rw[Yv e,Yv e2];exact .cons rv ih
section
variable{pos:Pos}
end
section
end
section
variable{scope:Scope}{N:List Str}{tg iter elt:Expr}{ifs:List Expr}{pos:Pos}{fi:FI}{a:FG}{c:FT}{f:FX}
end
end PV
namespace L2
section
variable{X:Cx}{tg:Expr}
end
end L2
namespace PV
variable{X:Cx}
section
variable{tg:Expr}
end
abbrev FB:=PV.Env->Bool
noncomputable def JM(g:FS)(x:FB):FB:=fun env=>match g env with
 | .ok (.nx e)=>x e
 |_=>false
noncomputable def xIf(c:FT)(x:FB):FB:=fun env=>match c env with
 | .ok (true,e)=>x e
 |_=>false
noncomputable def mG(fs:FOs):FB:=fun env=>match fs env with
 | .ok (os,_)=>decide (os.length<=3)
 |_=>false
inductive tX(K:W.Frag)(x:FB)(Ww:Hp->Prop)(σ:L2.St)(H:Hp):Prop
 |mk:∀G env fp,Rel K G H env σ fp->x env=true->(∀H' G' JU,Step G H fp G' H' JU->Rel K G' H' [] [] []->Ww H')->tX K x Ww σ H
def QX(X:Cx)(st:List Stmt)(x:FB)(Ww:Hp->Prop):Prop:=PX X st (tX X.K x Ww)
variable{st:Stmt}{e:Expr}{es:List Expr}{C:Addr}
section
variable{QN:List Stmt}{g:FS}{x:FB}{Ww:Hp->Prop}{c:FT}{pos np J3:Pos}{fs:FOs}{y:Str}
theorem ES{a b:List Stmt}{ct:Expr}(hc:QT X.nox ct c)(ha:QX X a x Ww):QX X (.If ct a b pos::QN) (xIf c x) Ww:=pd (Hc (PT.nox hc) ha) fun σ H J2=>by
 obtain⟨G,env,fp,rel,e,k⟩:=J2;unfold xIf at e;match q:c env,e with
 | .ok (true,JP),e=>exact⟨G,env,fp,true,JP,rel,q,fun H1 G1 Ke J8 JQ=>⟨rfl,G1,JP,Ke,JQ,e,fun H' G' JU st r=>k H' G' JU (J8.trans st) r⟩⟩
theorem pR{K:W.Frag}{G:Hp}{σ:L2.St}:∀{os:List Opd}{vs:List V},i7 K G σ os vs->vs.length=os.length
 |[],_,r=>by have r:_=[]:=r;rw[r];rfl
 |_::_,_,⟨y,ys,e,_,q⟩=>by rw[e,Va,Va,pR q]
theorem pS(O:XCl X.mg X.base y C)(acc:Acc X C Ww)(hc:X.calm=true)(hg:Gl X y)(ha:QOs X.nox (e::es) fs)(KN:(y==("__debug__" : Str))=false:=by decide)
  (he:starEach (e::es) X.env=(false,eval e X.env)::starEach es X.env:=by rfl) (KA:(backTo J3 (starEach es X.env)).any (·.1)=false:=by rfl):
  QX X (.Raise (some (.Call (.Name y np) (e::es) [] J3)) none pos::QN) (mG fs) Ww:=pd (wI O acc hc hg (DH ha) KN he KA) fun σ H J2=>by
 obtain⟨G,env,fp,rel,e,k⟩:=J2;unfold mG at e;match q:fs env,e with
 | .ok (os,JP),e=>
  refine⟨G,env,fp,os,JP,rel,q,fun vs H1 G1 Ke J8 JQ KP=>⟨?_,k H1 G1 Ke J8 JQ.nilF⟩⟩;rw[pR KP];have e:decide (os.length<=3)=true:=e;have:=VL e;rw[line_eq];lia
end
inductive spX(K:W.Frag)(C:Addr)(F:List D->Bool)(vs:List V)(H:Hp)(Q:VK)(E:XK):Prop
 |mk:∀G ds,Same G H->Reps K G ds vs->F ds=true->(∀H' G' JU,Step G H [] G' H' JU->Rel K G' H' [] [] []->E (.ref C) none H')->spX K C F vs H Q E
noncomputable def kK(np nn:Nat)(x:FB):List D->Bool:=fun ds=>decide (ds.length=np)&&x (ds.map (fun d=>some (O.f,d))++List.replicate nn none)
variable{K:W.Frag}{mg:Str->Option Value}{x:Str}
theorem pT{P:Program}{w:World}{base:Heap}{N ps:List Str}{k:Nat}{gx:FB}(Df:Def K mg x st)(sc:FnScope N ps (defScope st))
  (hb:∀(kV doc pm:Value) (an:Option Addr) (Kc ct:Value) (us:List Value),us.length=ps.length->bindArgs (PySem.W.fnOf x x (bO st) (aU st) (defScope st) .none kV doc pm an Kc ct) ⟨us,[]⟩=pure (ps.zip us))
  (body:∀(f:Addr) (Kc:Value) (A:Around) (outer:List PySem.Env) (s:Shared) (H:Hp) (E:XK),Room k (A.deeper (envOfC x (defScope st) s.heap.objs.size f Kc))->QX (lK (OB P w base C) P w K mg base N x (defScope st) f Kc A outer s H E) (aU st) gx (fun H'=>E (.ref C) none H')):
  CtX P w K mg base x (k+1) C (spX K C (kK ps.length (N.length-ps.length) gx)):=by
 obtain⟨f,fd,F,m⟩:=Df;refine⟨f,fd,ps,Ay F sc (fun vs H Q E h=>?_) (fun Kc A outer s H vs Q E hr h=>?_),m,F.kp,F.binds hb⟩
 ·obtain⟨G,ds,_,rs,e,_⟩:=h;unfold kK at e;have:=VL ((U4 _ _).mp e).1;rw[rs.length,this]
 ·obtain⟨G,ds,gh,rs,e,q⟩:=h;unfold kK at e;have hl:=VL ((U4 _ _).mp e).1;have e:=((U4 _ _).mp e).2;refine⟨_,body f Kc A outer s H E hr,G,ds.map (fun d=>some (O.f,d))++List.replicate (N.length-ps.length) none,[],⟨?_,V1,(fun _ h=>nomatch h),gh⟩,e,q⟩;have:=c8 (K:=K) (G:=G) (H:=H) (N.length-ps.length) rs;unfold L2.fE;rw[rs.length,hl];exact this
abbrev FXE:=PV.Env->Option PV.Env
inductive tQX(K:W.Frag)(x:FXE)(σ:L2.St)(H:Hp)(Ww:Hp->Prop):Prop
 |mk:∀G env fp env',Rel K G H env σ fp->x env=some env'->(∀H' G' JU,Step G H fp G' H' JU->Rel K G' H' env' σ JU->Ww H')->tQX K x σ H Ww
def xFun(F:List D->Bool)(fs:FOs):FXE:=fun env=>match fs env with
 | .ok (os,e)=>match eZ e os with
  | .ok ds=>if F ds then some e else none
  |_=>none
 |_=>none
def Pe(X:Cx)(e:Expr)(C:Addr)(x:FXE):Prop:=Nx X e C (tQX X.K x)
variable{p:Pos}
section
variable{md:Mode}{pos:Pos}{a b:Expr}{F:List D->Bool}{fs:FOs}{k:Nat}{xe:FXE}{rest:List Stmt}
theorem ur(c:CtX X.prog X.w X.K X.mg X.base x k C (spX X.K C F))(hr:Room k X.A)(hg:Gl X x)(ha:QOs X.nox (e::es) fs)(KN:(x==("__debug__" : Str))=false:=by decide)
  (he:starEach (e::es) X.env=(false,eval e X.env)::starEach es X.env:=by rfl) (KA:(backTo pos (starEach es X.env)).any (·.1)=false:=by rfl):Pe X (.Call (.Name x p) (e::es) [] pos) C (xFun F fs):=
 fun pr s σ H Ww I ⟨G,env,fp,env',rel,e,kk⟩=>pe c hr hg ha KN he KA pr s σ H Ww I (by
  unfold xFun at e;match q:fs env,e with
  | .ok (os,e1),e=>
   dsimp only at e;match q2:eZ e1 os,e with
   | .ok ds,e=>
    dsimp only at e;split at e
    ·rename_i hF;cases e;refine⟨G,env,fp,os,_,rel,q,fun vs H1 G1 Ke J8 JQ KP=>?_⟩;obtain⟨G2,MX,NB,K6,_,KH⟩:=JQ.lend;refine⟨G2,ds,NB,c5 MX K6 KP q2,hF,fun H' G' JU st Kl=>?_⟩;obtain⟨k1,_⟩:=KH H' G' [] (.f,.non) .non (st.trans (Step.cut fun _ h=>nomatch h)) (Kl.push ja);obtain⟨G3,K7,Kq,Kr⟩:=k1 rfl;obtain⟨fq,KC,K2⟩:=Kr.drop;exact kk H' G3 fq (J8.trans (Kq.trans K2)) KC
    ·cases e)
theorem ET(h:Pe X a C xe):Pe X (.Subscript a b pos) C xe:=DI h
end
def fBodyJ(j np nn:Nat)(c:O)(g:FS)(p:Addr):List D->Res R
 |d0::ds=>if ds.length+1=np/\j<=ds.length then(g ((ds.take j).map (fun d=>some (O.f,d))++some (.pin p c,d0)::((ds.drop j).map (fun d=>some (O.f,d))++List.replicate nn none))).bind fun o=>match o with
  | .rt r=>.ok r
  |_=>.bad
  else .bad
 |[]=>.bad
inductive spJ(j:Nat)(K:W.Frag)(c:O)(F:Addr->List D->Res R)(vs:List V)(H:Hp)(Q:VK)(zz:XK):Prop
 |mk:∀va v vb,vs=va++v::vb->va.length=j->spM K c F (v::(va++vb)) H Q zz->spJ j K c F vs H Q zz
theorem pU{K:W.Frag}{G H:Hp}{es:PV.Env}{us:L2.St}{fp:List Addr}(h:RepE K G H es us fp):∀{ds:List D}{vs:List V},Reps K G ds vs->RepE K G H (ds.map (fun d=>some (O.f,d))++es) (vs.map some++us) fp
 |[],vs,r=>by
  rw[Reps]at r;subst r;exact h
 |d::ds,vs,r=>by
  rw[Reps]at r;obtain⟨y,ys,e,r1,r2⟩:=r;subst e;exact⟨some y,_,rfl,y,[],fp,rfl,rfl,cZ.mpr ⟨r1,rfl⟩,pU h r2⟩
theorem jV{K:W.Frag}{G:Hp}:∀{j:Nat}{ds:List D}{va vb:List V},va.length=j->Reps K G ds (va++vb)->Reps K G (ds.take j) va/\Reps K G (ds.drop j) vb
 | 0,ds,[],vb,_,r=>⟨by rw[Zl];exact .nil,r⟩
 |j+1,[],v::va,vb,_,r=>by
  rw[Reps]at r;cases r
 |j+1,d::ds,v::va,vb,hl,r=>by
  rw[Wj,Reps]at r;obtain⟨y,ys,e,r1,r2⟩:=r;cases e;obtain⟨q1,q2⟩:=jV (Nat.succ.inj hl) r2;exact⟨.cons r1 q1,q2⟩
theorem EU{P:Program}{w:World}{base:Heap}{N ps:List Str}{j k:Nat}{c:O}{g:FS}(Df:Def K mg x st)(sc:FnScope N ps (defScope st))
  (hb:∀(kV doc pm:Value) (an:Option Addr) (Kc ct:Value) (us:List Value),us.length=ps.length->bindArgs (PySem.W.fnOf x x (bO st) (aU st) (defScope st) .none kV doc pm an Kc ct) ⟨us,[]⟩=pure (ps.zip us))
  (body:∀(f:Addr) (Kc:Value) (A:Around) (outer:List PySem.Env) (s:Shared) (H:Hp) (E:XK),Room k (A.deeper (envOfC x (defScope st) s.heap.objs.size f Kc))->QSs (md:=.mut) (lK L4 P w K mg base N x (defScope st) f Kc A outer s H E).nox (aU st) g):
  Ct P w K mg base x (k+1) (spJ j K c (fBodyJ j ps.length (N.length-ps.length) c g)):=by
 obtain⟨f,fd,F,m⟩:=Df;refine⟨f,fd,ps,F.ok sc (fun vs H Q E h=>?_) (fun Kc A outer s H vs Q E hr h=>?_),m,F.kp,F.binds hb⟩
 ·obtain⟨va,v,vb,R0,R1,G,p,LH,d0,ds,r,MJ,_,ev,_,_,_,rs,e,_⟩:=h;cases ev;unfold fBodyJ at e;dsimp only at e;split at e
  ·rename_i hl;have:=rs.length;rw[VD]at this;rw[R0,VD,Va];lia
  ·cases e
 ·obtain⟨va,v,vb,R0,R1,G,p,LH,d0,ds,r,MJ,gh,ev,r0,nd,gn,rs,e,q⟩:=h;cases ev;unfold fBodyJ at e;dsimp only at e;split at e
  ·rename_i hl;have hlen:=rs.length;rw[VD]at hlen;obtain⟨ra,rb⟩:=jV R1 rs;refine⟨_,body f Kc A outer s H E hr,G,(ds.take j).map (fun d=>some (O.f,d))++some (.pin p c,d0)::((ds.drop j).map (fun d=>some (O.f,d))++List.replicate (N.length-ps.length) none),MJ,⟨?_,nd,gn,gh⟩,?_⟩
   ·have z:=c8 (K:=K) (G:=G) (H:=H) (N.length-ps.length) rb;have z2:RepE K G H (some (.pin p c,d0)::((ds.drop j).map (fun d=>some (O.f,d))++List.replicate (N.length-ps.length) none)) (some (.ref p)::(vb.map some++List.replicate (N.length-ps.length) none)) MJ:=
     ⟨some (.ref p),_,rfl,.ref p,MJ,[],rfl,(Vm _).symm,by rw[RepO];exact⟨rfl,r0⟩,z⟩
    have z3:=pU z2 ra;unfold L2.fE;have e1:vs.length=ps.length:=by rw[R0,VD,Va];lia
    rw[e1,R0,Vh,Vj,VH,Wj];exact z3
   ·obtain⟨o,eo,e⟩:=ae e;rw[eo];cases o with
    |rt r'=>
     cases e;exact fun v H' G' JU st rel=>q v H' G' JU st rel
    |nx env'=>cases e
    |bk env'=>cases e
    |ct env'=>cases e
  ·cases e
def qU(j:Nat)(c:O)(F:Addr->List D->Res R)(i:Nat)(fs:FOs):FX:=fun env=>(fs env).bind fun p=>match p.1[j]? with
 |some (.var j')=>if j'=i then(match p.2[i]? with
  |some (some (ow,d0))=>if mD c ow then(eZ (p.2.set i none) (p.1.eraseIdx j)).bind fun ds=>(g8 F c d0 ds).bind fun x=>if aw x.1.1 x.1.2&&aw c x.2 then .ok (x.1,(p.2.set i none).set i (some (ow,x.2))) else .ok (x.1,((p.2.set i none).map frz).set i (some (ow,x.2))) else .bad
  |_=>.bad) else .bad
 |_=>.bad
theorem jW{K:W.Frag}{G:Hp}{σ:L2.St}:∀{j:Nat}{os:List Opd}{vs:List V}{o:Opd},i7 K G σ os vs->os[j]?=some o->∃va y vb,vs=va++y::vb/\va.length=j/\OpdOk K G σ o y/\i7 K G σ (os.eraseIdx j) (va++vb)
 | 0,o'::os,_,o,⟨y,ys,e,k1,k2⟩,h=>by
  cases h;exact⟨[],y,ys,e,rfl,k1,k2⟩
 |j+1,o'::os,_,o,⟨y,ys,e,k1,k2⟩,h=>by
  obtain⟨va,z,vb,e2,hl,q1,q2⟩:=jW (j:=j) k2 (by simpa using h);exact⟨y::va,z,vb,by rw[e,e2];rfl,by rw[Va,hl],q1,y,va++vb,rfl,k1,q2⟩
section
variable{pos:Pos}{fs:FOs}
theorem Bw{F:Addr->List D->Res R}{c:O}{i j0 k:Nat}(C:Ct X.prog X.w X.K X.mg X.base x k (spJ j0 X.K c F))(hr:Room k X.A)(hg:Gl X x)(ha:QOs X (e::es) fs)(KN:(x==("__debug__" : Str))=false:=by decide)
  (he:starEach (e::es) X.env=(false,eval e X.env)::starEach es X.env:=by rfl) (KA:(backTo pos (starEach es X.env)).any (·.1)=false:=by rfl):QE X (.Call (.Name x p) (e::es) [] pos) (qU j0 c F i fs):=
 aJ (wt C hr hg ha KN he KA) fun σ H Q J2=>by
  obtain⟨G,env,fp,r,env',rel,e,k⟩:=J2;obtain⟨⟨os,e1⟩,ha,e⟩:=ae e;dsimp only at e;split at e
  ·rename_i j MU;split at e
   ·rename_i hj;subst hj;split at e
    ·rename_i ow d0 hi;split at e
     ·rename_i how;obtain⟨ds,hd,e⟩:=ae e;obtain⟨z,hz,e⟩:=ae e;refine⟨G,env,fp,_,e1,rel,ha,fun vs H1 G1 Ke J8 JQ KP=>?_⟩;show spJ j0 X.K c F (vs++[]) H1 Q _;rw[Vm];obtain⟨va,y,vb,ey,R1,k1,k2⟩:=jW KP MU;refine⟨va,y,vb,ey,R1,?_⟩;obtain⟨v0,a,b,ev,r0,r2,pm⟩:=JQ.rep.take hi;have k1:σ[j]?=some (some y):=k1;rw[k1]at ev;cases ev;obtain⟨⟨q,hq⟩,rc,back⟩:=yN how r0;subst hq;have nd:=Vp.mp (pm.nodup_iff.mp JQ.nd);have Pa:Rel X.K G1 H1 (e1.set j none) σ b:=⟨r2,nd.2.1,fun w hw=>JQ.gn w (pm.mem_iff.mpr (UW _ hw)),JQ.gh⟩
      obtain⟨G2,MX,NB,S3,K6,KH⟩:=Pa.lendM2 a (fun w hw hb=>nd.2.2 w hw w hb rfl) (fun w hw=>JQ.gn w (pm.mem_iff.mpr (UX _ hw)));refine⟨G2,q,va++vb,d0,ds,_,a,NB,rfl,rc.step MX (fun _ _=>rfl),nd.1,S3,c5 MX K6 k2 hd,pP hz q,fun v H' G' JU st rt=>?_⟩;obtain⟨o',d',p',c',S2,er,rl⟩:=rt;cases er;have fin:∀(ee:PV.Env),ee.length=e1.length->(∃G3 K7,Step G1 H1 (a++b) G3 H' K7/\Rel X.K G3 H' (some z.1::some (.pin q c,z.2)::ee) (some v::some (.ref q)::σ) K7)->(z.1,ee.set j (some (ow,z.2)))=(r,env')->Q v H':=by
       rintro ee S4 ⟨G3,K7,Kq,Kr⟩ S5;cases S5;obtain⟨a1,b1,ef,ro,KD,comb⟩:=Rel.frame Kr;have Pb:Rel X.K G3 H' (some (ow,z.2)::ee) (some (.ref q)::σ) b1:=by
        obtain⟨y2,ys2,Q9,v2,a2,b2,S6,S7,Rf,S8⟩:=KD.rep;cases Q9;cases S6;rw[RepO]at Rf;exact⟨⟨_,_,rfl,_,a2,b2,rfl,S7,back _ _ _ _ Rf.2,S8⟩,KD.nd,KD.gn,KD.gh⟩
       obtain⟨fq,Pc,S9⟩:=Pb.back (i:=j) (by rw[S4];exact(U0.mp hi).1) k1;obtain⟨Pd,Rg⟩:=comb G3 H' _ _ fq S9 Pc;rw[<-ef]at Rg;exact k v H' G3 _ (J8.trans ((Kq.perm (fun w=>pm.mem_iff.symm) (fun w hw=>hw)).trans Rg)) Pd
      obtain⟨b1,b2⟩:=KH H' G' JU _ _ st rl;split at e
      ·rename_i LC;rw[U4]at LC;have e:=Res.ok.inj e;refine fin (e1.set j none) (by rw[VS]) (b1 fun w hw=>?_) e;rcases U5.mp hw with hw|hw
       ·cases hw;exact LC.1
       ·rw[Vi]at hw;cases hw;simp only[aw];exact LC.2
      ·have e:=Res.ok.inj e;exact fin ((e1.set j none).map frz) (by rw[U1,VS]) b2 e
     ·cases e
    ·cases e
   ·cases e
  ·cases e
end
section
variable{pos:Pos}{f0:FX}{fs:FOs}
end
end PV
namespace NX
def Rh(o:Obj)(n:Nat)(a:Addr):It:=
 ⟨fun i H=>∃kvs k v,H a=some (.frz o (.dK kvs))/\kvs.length=n/\kvs[i]?=some (k,v),
  fun i H x H'=>H'=H/\∀kvs k v,H a=some (.frz o (.dK kvs))->kvs[i]?=some (k,v)->x=kV k,
  fun i H=>∃kvs,H a=some (.frz o (.dK kvs))/\kvs.length=n/\kvs.length<=i⟩
theorem uu{P:Program}{w:World}{K:W.Frag}{tg:Expr}(o:Obj)(es:Array DictEntry)(ep n:Nat)(a it:Addr)(hd:o.data=.dict es ep):
  Turn P w K tg (Rh o n a) [it] it (fun i h=>h.IsKeyIter it a i n ep) where
 mem:=by simp
 obj:=fun i h st b hb=>by
  have e:b=it:=by simpa using hb
  subst e;obtain⟨o,e,c,d⟩:=st;exact⟨o,e,fun v z=>by rw[d]at z;cases z⟩
 keep:=fun i h h' st k=>by
  obtain⟨o,e,c,d⟩:=st;exact⟨o,k it (by simp) o e,c,d⟩
 item:=by
  intro X hP hw hK hc i pr s σ H E I hf st hg;subst hP hw hK;obtain⟨kvs,k,v,ha,hn,hx⟩:=hg;obtain⟨ho,vs,r,hm⟩:=pQ I hd ha;have hl:vs.length=n:=by rw[<-hn];exact r.length.symm
  subst hl;obtain⟨u,hu,ru⟩:=EO r hx;obtain⟨f0,f1,f2,f3,f4,f5⟩:=hf it (by simp);refine wpAny_pyNext_dict_item st hm hu fun key h' Lp Lm sb=>?_
  have I1:Inv X pr σ H {s with heap:=h'}:=I.turned (t':=s.toks) (fun b o hb e=>(sb.2 b hb).trans e) f0 f1 f3 f4 f5;obtain⟨o',e,c,d⟩:=id Lm;exact⟨key,rfl,rR (s:={s with heap:=h'}) e c d (by decide) ⟨kV k,H,I1,EN Lp,⟨rfl,fun kvs' k' v' h1 h2=>by
   rw[ha]at h1;cases h1;rw[hx]at h2;cases h2;rfl⟩,Lm,fun b hb=>(hf b hb).1⟩⟩
 done:=by
  intro X hP hw hK hc i pr s σ H E I hf st hg;subst hP hw hK;obtain⟨kvs,ha,hn,hi⟩:=hg;obtain⟨ho,vs,r,hm⟩:=pQ I hd ha;have hl:vs.length=n:=by rw[<-hn];exact r.length.symm
  subst hl;obtain⟨f0,f1,f2,f3,f4,f5⟩:=hf it (by simp);exact wpAny_pyNext_dict_end (I.ok.hd hc) st hm (Wt (by lia)) fun h' eb=>⟨rfl,I.turned (t':=s.toks) (fun b o hb e=>eb b o hb e) f0 f1 f3 f4 f5⟩
 self:=fun _ _ _ _ _ st h=>wpAny_pyIter_keyiter st h
def Jx(td:TE):TI:=fun σ H R=>td σ H fun v H1=>∃a o kvs,v=.ref a/\H1 a=some (.frz o (.dK kvs))/\R (Rh o kvs.length a) H1
theorem Bx{X:Cx}{l tg:Expr}{td:TE}(hl:PE X l td):PI X tg l (Jx td):=by
 intro pr s σ H R I h;refine Kh (hl pr s σ H _ I h) fun v s1 Kk=>?_
 obtain⟨x,H1,I1,r1,a,o,kvs,ex,ha,q⟩:=Kk;subst ex;cases r1;obtain⟨ho,z,nm,vs,r,o',LX,OO,g1,ex,dat,rest⟩:=(show ObjOk X.prog X.w H1 s1.heap a (.frz o (.dK kvs)) from I1.hok a _ ha)
 have e:=g1.symm.trans ho;cases e;have OG:s1.heap.DictAt (mixKind X.prog X.w) a vs OO:=⟨_,LX,g1,ex,dat,rest⟩
 refine wpAny_pyIter_dict nm OG ?_;refine⟨s1.heap.objs.size,[s1.heap.objs.size],_,Rh _ kvs.length a,H1,rfl,I1.kept (t':=s1.toks) fun b o e=>UZ _ e,uu _ LX OO kvs.length a _ dat,⟨_,Ve _ rfl,rfl,?_⟩,fun b hb=>?_,q⟩
 ·rw[r.length];rfl
 ·have e:b=s1.heap.objs.size:=by simpa using hb
  subst e;exact I1.fpOk (U3 _) (I1.hok.fresh (U3 _))
theorem eL{X:Cx}{pr:List (Addr×Obj)}{σ:L2.St}{H:Hp}{s:Shared}{a:Addr}{o:Obj}{kvs:List (Key×V)}(I:Inv X pr σ H s)(ha:H a=some (.frz o (.dK kvs)))(h0:∀q u,X.H₀ a≠some (.frz q u)):Inv X pr σ (upd H a (.dK kvs)) s:=by
 have ok:=(show ObjOk X.prog X.w H s.heap a (.frz o (.dK kvs)) from I.hok a _ ha)
 have nn:∀c,H c=none->c≠a:=fun c e z=>by rw[z,ha]at e;cases e
 have nt:∀c xs,H c=some (.tup xs)->c≠a:=fun c xs e z=>by rw[z,ha]at e;cases e
 have nb:∀c ps,H c=some (.tbl ps)->c≠a:=fun c ps e z=>by rw[z,ha]at e;cases e
 have no:∀c b,H c=some (.own b)->c≠a:=fun c b e z=>by rw[z,ha]at e;cases e
 have nf:∀c,H c=none->upd H a (.dK kvs) c=none:=fun c e=>by rw[ah (nn c e)];exact e
 refine⟨I.ok,I.os,I.bare,⟨I.base.keep,I.base.slot,fun b q e n x=>nf b (I.base.free b q e n x),I.base.there,fun b xs e=>?_,fun b q u e=>?_,fun b ps e=>?_⟩,I.loc,I.cell,nf _ I.free,fun x c e=>nf _ (I.freeC x c e),fun p hp=>?_,fun c ob e=>?_,I.len⟩
 ·have h:=I.base.tups b xs e;rw[ah (nt b xs h)];exact h
 ·have:b≠a:=fun z=>h0 q u (z▸e)
  rw[ah this];exact I.base.frzs b q u e
 ·obtain⟨m,h⟩:=I.base.tbls b ps e;exact⟨m,by rw[ah (nb b _ h)];exact h⟩
 ·obtain⟨h1,h2,h3⟩:=I.pin p hp;exact⟨h1,nf _ h2,h3⟩
 ·by_cases ec:c=a
  ·subst ec;rw[az]at e;cases e;exact(show ObjOk X.prog X.w H s.heap c (.dK kvs) from ok.2).stay (fun _ _ _ q=>q) (fun d q=>by rw[ah (no d _ q)];exact q) fun d l q=>by rw[ah (nt d l q)];exact q
  ·rw[ah ec]at e;exact(I.hok c ob e).stay (fun _ _ _ q=>q) (fun d q=>by rw[ah (no d _ q)];exact q) fun d l q=>by rw[ah (nt d l q)];exact q
def Ri(a:Addr)(o:Obj)(kvs:List (Key×V))(D:Ends):Ends:=
 ⟨fun σ H=>H a=some (.frz o (.dK kvs))/\D.nx σ (upd H a (.dK kvs)),fun v H=>H a=some (.frz o (.dK kvs))/\D.rt v (upd H a (.dK kvs)),fun σ H=>H a=some (.frz o (.dK kvs))/\D.bk σ (upd H a (.dK kvs)),fun σ H=>H a=some (.frz o (.dK kvs))/\D.ct σ (upd H a (.dK kvs))⟩
def Hx(t:TS):TS:=fun D σ H=>∃a kvs,H a=some (.dK kvs)/\∀o,t (Ri a o kvs D) σ (upd H a (.frz o (.dK kvs)))
theorem By{X:Cx}{st:Stmt}{t:TS}(h:PS X st t):PS X st (Hx t):=by
 rintro pr s σ H D I ⟨a,kvs,ha,k⟩;obtain⟨z,nm,vs,r,o,es,ep,g1,rest⟩:=(show ObjOk X.prog X.w H s.heap a (.dK kvs) from I.hok a _ ha)
 have h0:∀q u,X.H₀ a≠some (.frz q u):=fun q u e=>by
  have:=I.base.frzs a q u e;rw[ha]at this;cases this
 refine Kh (h pr s σ _ _ (xr I ha g1) (k o)) fun f s' sp=>?_
 cases f with
 |next=>obtain⟨σ',H',I',e,q⟩:=sp;exact⟨σ',_,eL I' e h0,q⟩
 |brk=>obtain⟨σ',H',I',e,q⟩:=sp;exact⟨σ',_,eL I' e h0,q⟩
 |cont=>obtain⟨σ',H',I',e,q⟩:=sp;exact⟨σ',_,eL I' e h0,q⟩
 |ret u=>obtain⟨v,σ',H',I',rv,e,q⟩:=sp;exact⟨v,σ',_,eL I' e h0,rv,q⟩
end NX
namespace PV
variable{K:W.Frag}{G:Hp}{es:PV.Env}{fp:List Addr}{i:Nat}{p:Addr}
section
variable{H:Hp}{vs:L2.St}
theorem Rel.asD{d:D}(q:Rel K G H es vs fp)(e:es[i]?=some (some (.pin p .d,d))):vs[i]?=some (some (.ref p))/\∃fq,Rel K G H (es.set i (some (.d,d))) vs fq/\Step G H fp G H fq:=by
 obtain⟨v,fq,ev,g,st,Lm⟩:=q.out e;obtain⟨y,ys,e0,v',a,b,e1,e2,r1,r2⟩:=g.rep;cases e0;cases e1;rw[RepO]at r1;obtain⟨ep,r1⟩:=r1;subst ep;have g2:Rel K G H (some (.d,d)::es.set i none) (some (.ref p)::vs) fq:=⟨⟨_,_,rfl,_,a,b,rfl,e2,r1,r2⟩,g.nd,g.gn,g.gh⟩
 obtain⟨fz,g3,Kq⟩:=g2.back (i:=i) (by rw[VS];exact(U0.mp e).1) ev;rw[WB]at g3;exact⟨ev,fz,g3,st.trans Kq⟩
theorem Rel.asP{d:D}(q:Rel K G H es vs fp)(e:es[i]?=some (some (.d,d)))(hv:vs[i]?=some (some (.ref p))):∃fq,Rel K G H (es.set i (some (.pin p .d,d))) vs fq/\Step G H fp G H fq:=by
 obtain⟨v,fq,ev,g,st,Lm⟩:=q.out e;rw[hv]at ev;cases ev;obtain⟨y,ys,e0,v',a,b,e1,e2,r1,r2⟩:=g.rep;cases e0;cases e1;have g2:Rel K G H (some (.pin p .d,d)::es.set i none) (some (.ref p)::vs) fq:=⟨⟨_,_,rfl,_,a,b,rfl,e2,by rw[RepO];exact⟨rfl,r1⟩,r2⟩,g.nd,g.gn,g.gh⟩
 obtain⟨fz,g3,Kq⟩:=g2.back (i:=i) (by rw[VS];exact(U0.mp e).1) hv;rw[WB]at g3;exact⟨fz,g3,st.trans Kq⟩
theorem Rel.chgP{pp:Addr}{tk:Bool}{ks ws:List D}(q:Rel K G H es vs fp)(e:es[i]?=some (some (.pin pp .d,.dct tk ks ws))):∃p xs u,vs[i]?=some (some (.ref p))/\H p=some u/\DictO u tk ks xs/\Reps K G ws xs/\
  ∀u' NI K4 NJ,DictO u' tk NI K4->Reps K G NJ K4->∃fq,Rel K G (upd H p u') (es.set i (some (.pin pp .d,.dct tk NI NJ))) vs fq/\Step G H fp G (upd H p u') fq:=by
 have hi:i<es.length:=(U0.mp e).1;obtain⟨hv,fa,qa,sa⟩:=q.asD e;obtain⟨p,xs,u,ev,hp,dd,rs,cg⟩:=qa.chgD (i:=i) (by rw[VU hi]);rw[hv]at ev;cases ev;refine⟨pp,xs,u,hv,hp,dd,rs,fun u' NI K4 NJ d' r'=>?_⟩;obtain⟨fb,qb,sb⟩:=cg u' NI K4 NJ d' r';rw[WB]at qb;obtain⟨fc,qc,sc⟩:=qb.asP (i:=i) (by rw[VU hi]) hv;rw[WB]at qc;exact⟨fc,qc,sa.trans (sb.trans sc)⟩
end
def sPutP(i:Nat)(fk fv:FX):FS:=fun env=>(fv env).bind fun p=>(fk p.2).bind fun q=>match p.2[i]?,q.2[i]? with
 |some (some _),some (some (.pin pp .d,.dct tk ks vs))=>if cS tk q.1.2&&decide (ks.length<sizeLine) then .ok (.nx (q.2.set i (some (.pin pp .d,.dct tk (og ks vs q.1.2 p.1.2).1 (og ks vs q.1.2 p.1.2).2)))) else .bad
 |_,_=>.bad
variable{X:Cx}
section
variable{md:Mode}
theorem Bz{o ix value:Expr}{fk fv:FX}{pos pos':Pos}(hu:X.A.units+1<cLine)(ho:PE X o (nK i))(hi:QE X ix fk)(hv:QE X value fv)(hs:swapsWith value (some (.Subscript o ix pos')) pos.line X.env=pure false:=by rfl):
  QS (md:=md) X (.Assign [.Subscript o ix pos'] value pos) (sPutP i fk fv):=dE (Av hu ho hi hv hs) fun Dd σ H J2=>by
 obtain⟨G,env,fp,rel,k⟩:=J2;unfold sPutP at k;match q1:fv env,k with
 | .ok (r1,JP),k=>
  have k:OutOk X.K G H fp Dd ((fk JP).bind fun q=>match JP[i]?,q.2[i]? with
   |some (some _),some (some (.pin pp .d,.dct tk ks vs))=>if cS tk q.1.2&&decide (ks.length<sizeLine) then .ok (.nx (q.2.set i (some (.pin pp .d,.dct tk (og ks vs q.1.2 r1.2).1 (og ks vs q.1.2 r1.2).2)))) else .bad
   |_,_=>.bad):=k
  match q2:fk JP,k with
  | .ok (r2,J4),k=>
   have k:OutOk X.K G H fp Dd (match JP[i]?,J4[i]? with
    |some (some _),some (some (.pin pp .d,.dct tk ks vs))=>if cS tk r2.2&&decide (ks.length<sizeLine) then .ok (.nx (J4.set i (some (.pin pp .d,.dct tk (og ks vs r2.2 r1.2).1 (og ks vs r2.2 r1.2).2)))) else .bad
    |_,_=>.bad):=k
   split at k
   ·rename_i rr pp tk ks ws h1 h2;split at k
    ·rename_i hc;rw[U4,Vc]at hc;refine⟨G,env,fp,r1,JP,rel,q1,fun y H1 G1 Ke J8 JQ=>?_⟩;obtain⟨G2,b,ry,JR,JW⟩:=JQ.freeze;obtain⟨v0,S1,_⟩:=JR.view h1;refine⟨v0,S1,G2,JP,b,r2,J4,JR,q2,fun z H3 G3 K7 Kq Kr=>?_⟩;obtain⟨G4,b4,rz,KC,K2⟩:=Kr.freeze;obtain⟨p,xs,u,ep,hp,dd,rs,cg⟩:=KC.chgP h2;rw[S1]at ep;cases ep;have Ue:Rep X.K G4 r1.2 y:=Rep.mono (Kq.gg.trans K2.gg) ry;cases tk with
     |true=>
      obtain⟨kvs,eu,ek,ex,M1⟩:=dd;subst eu;subst ex;have hk:=hc.1;unfold cS at hk;rw[U2 rfl,VX]at hk;obtain⟨kk,hk⟩:=hk;obtain⟨pz,ez,gz,dz⟩:=fQ hk rz;subst ez;obtain⟨t1,t2⟩:=mx (K:=X.K) (G:=G4) kT yL (k:=kk) rs Ue;have ek:ks=kvs.map fun kv=>kT kv.1:=ek
      rw[<-ek,<-dz]at t1 t2;have hfk:∀key∈kk,qK key:=by
       cases hd:r2.2 with
       |tup ds=>
        rw[hd]at hk rz;obtain⟨_,K4,_,_,La⟩:=tM rz;exact ug hk La
       |_=>rw[hd]at hk;cases hk
      obtain⟨fq,LJ,LP⟩:=cg (.dT (iF kvs kk y)) _ _ _ ⟨iF kvs kk y,rfl,t1.symm,rfl,pK (P:=fun ks=>∀k∈ks,qK k) M1 hfk⟩ t2;have hlen:kvs.length<sizeLine:=by have:=hc.2;rw[ek,U1]at this;exact this
      exact⟨p,_,rfl,DPut.t hp (KC.gh _ _ gz) hlen,k _ _ G4 fq (J8.trans (JW.trans (Kq.trans (K2.trans LP)))) LJ⟩
     |false=>
      obtain⟨kvs,eu,ek,ex,M1⟩:=dd;subst eu;subst ex;have hk:=hc.1;unfold cS at hk;rw[U6 UY,VX]at hk;obtain⟨kk,hk⟩:=hk;obtain⟨ez,dz⟩:=eI hk rz;subst ez;obtain⟨t1,t2⟩:=mx (K:=X.K) (G:=G4) kD ud (k:=kk) rs Ue;rw[<-ek,<-dz]at t1 t2;obtain⟨fq,LJ,LP⟩:=cg (.dK (iF kvs kk y)) _ _ _ ⟨iF kvs kk y,rfl,t1.symm,rfl,pK (P:=qK) M1 (uf hk rz)⟩ t2;have hlen:kvs.length<sizeLine:=by have:=hc.2;rw[ek,U1]at this;exact this
      exact⟨p,_,rfl,DPut.k hp hlen,k _ _ G4 fq (J8.trans (JW.trans (Kq.trans (K2.trans LP)))) LJ⟩
    ·exact k.elim
   ·exact k.elim
end
def cleanE(i:Nat)(env:PV.Env):Bool:=(env.set i none).all fun r=>match r with
 |some r=>aw r.1 r.2
 |none=>true
noncomputable def xw(i:Nat)(p:Addr)(env:PV.Env):Bool:=match env[i]? with
 |some (some (.pin q .f,_))=>decide (q=p)
 |_=>false
def qV(i:Nat)(p:Addr)(d:D):Out->Res Out
 | .nx env=>if xw i p env&&cleanE i env then .ok (.nx (env.set i (some (.pin p .d,d)))) else .bad
 | .rt (.t [o,.pin q .f],.tup [r,_])=>if decide (q=p)&&aw o r then .ok (.rt (.t [o,.pin p .d],.tup [r,d])) else .bad
 |_=>.bad
def xx(i:Nat)(a:FG)(g:FS):FS:=fun env=>match env[i]? with
 |some (some (.pin p .d,.dct false ks vs))=>(cQ a g ks (env.set i (some (.pin p .f,.dct false ks vs)))).bind (qV i p (.dct false ks vs))
 |_=>.bad
noncomputable def off(G:Hp)(p:Addr):Hp:=fun z=>if z=p then none else G z
variable{kvs:List (Key×V)}{o:Obj}{vs:List D}
theorem mH{H G' H':Hp}{Ke JU:List Addr}{σ:L2.St}{d':D}(gp:G p=none)(pf:p∈fp)(f1:∀z∈Ke,z∈fp)
  (st:Step (upd G p (.frz o (.dK kvs))) (upd H p (.frz o (.dK kvs))) Ke G' H' JU) (rel:Rel K G' H' es σ JU) (hi:es[i]?=some (some (.pin p .f,d'))) (cl:cleanE i es=true) (hf:∀kv∈kvs,qK kv.1) (rs:Reps K G vs (kvs.map (·.2))):
  H' p=some (.frz o (.dK kvs))/\∃G2 fz,Step G H fp G2 (upd H' p (.dK kvs)) fz/\Rel K G2 (upd H' p (.dK kvs)) (es.set i (some (.pin p .d,.dct false (kvs.map fun kv=>kD kv.1) vs))) σ fz:=by
 have Ta:G' p=some (.frz o (.dK kvs)):=st.gg p _ az;refine⟨rel.gh p _ Ta,?_⟩;obtain⟨v,fq,ev,g,J8,_⟩:=rel.out hi;have JW:=st.trans J8;obtain⟨y,ys,e0,v',a,b,e1,e2,r1,r2⟩:=g.rep;cases e0;cases e1;rw[RepO]at r1;obtain⟨ep,r1⟩:=r1;obtain⟨_,ea⟩:=cZ.mp r1;subst ea;subst ep;have e2:fq=b:=e2;subst e2;have np:∀z∈fq,z≠p:=fun z hz e=>by
  have:=g.gn z hz;rw[e,Ta]at this;cases this
 have Tc:(off G' p) p=none:=U2 rfl;have Rj:∀z,z≠p->(off G' p) z=G' z:=fun z h=>U6 h
 have gg:Same G (off G' p):=fun z u e=>by
  have hz:z≠p:=fun h=>by rw[h,gp]at e;cases e
  rw[Rj z hz];exact st.gg z u (by rw[ah hz];exact e)
 have rc:RepE K (off G' p) H' (es.set i none) σ fq:=by
  refine RepE.clean (fun z u t e=>?_) (fun r hr=>?_) r2
  ·have hz:z≠p:=fun h=>by rw[h,Ta]at e;cases e;cases t
   rw[Rj z hz];exact e
  ·have:=Vg.mp cl _ hr;exact this
 have JR:Rel K (off G' p) (upd H' p (.dK kvs)) (some (.pin p .d,.dct false (kvs.map fun kv=>kD kv.1) vs)::es.set i none) (some (.ref p)::σ) (p::fq):=by
  refine⟨⟨some (.ref p),σ,rfl,.ref p,[p],fq,rfl,rfl,?_,rc.step (.refl _) fun z hz=>ah (np z hz)⟩,Vt.mpr ⟨fun h=>np p h rfl,g.nd⟩,fun z hz=>?_,fun z u e=>?_⟩
  ·rw[RepO];refine⟨rfl,?_⟩;rw[RepO];exact⟨p,kvs.map (·.2),.dK kvs,rfl,az,⟨kvs,rfl,rfl,rfl,hf⟩,rfl,Reps.mono gg rs⟩
  ·rcases U5.mp hz with h|h
   ·rw[h];exact Tc
   ·rw[Rj z (np z h)];exact g.gn z h
  ·by_cases hz:z=p
   ·rw[hz,Tc]at e;cases e
   ·rw[Rj z hz]at e;rw[ah hz];exact rel.gh z u e
 have LQ:Step G H fp (off G' p) (upd H' p (.dK kvs)) (p::fq):=by
  refine⟨gg,fun z u e n=>?_,fun z hz=>?_,fun z u e=>?_,fun z u e=>?_⟩
  ·have hz:z≠p:=fun h=>n (h▸pf)
   rw[ah hz];exact JW.keep z u (by rw[ah hz];exact e) fun h=>n (f1 z h)
  ·rcases U5.mp hz with h|h
   ·exact .inl (h▸pf)
   ·rcases JW.fpn z h with h2|h2
    ·exact .inl (f1 z h2)
    ·rw[ah (np z h)]at h2;exact .inr h2
  ·by_cases hz:z=p
   ·rw[hz,Tc]at e;cases e
   ·rw[Rj z hz]at e;rcases JW.gnew z u e with h|h|h|⟨t,h⟩
    ·rw[ah hz]at h;exact .inl h
    ·exact .inr (.inl (f1 z h))
    ·rw[ah hz]at h;exact .inr (.inr (.inl h))
    ·rw[ah hz]at h;exact .inr (.inr (.inr ⟨t,h⟩))
  ·by_cases hz:z=p
   ·exact⟨_,by rw[hz,az]⟩
   ·obtain⟨u',h⟩:=JW.there z u (by rw[ah hz];exact e);exact⟨u',by rw[ah hz];exact h⟩
 obtain⟨fz,g3,Kq⟩:=JR.back (i:=i) (by rw[VS];exact(U0.mp hi).1) ev;rw[WB]at g3;exact⟨_,fz,LQ.trans Kq,g3⟩
theorem xy{H:Hp}{f1 b0:List Addr}{o:Obj}{i:Nat}{D0:Ends}{r:Res Out}(gp:G p=none)(R3:Step G H fp G H (p::b0))(R4:∀z∈f1,z∈p::b0)(hf:∀kv∈kvs,qK kv.1)(rs:Reps K G vs (kvs.map (·.2)))
  (k:OutOk (md:=.mut) K G H fp D0 (r.bind (qV i p (.dct false (kvs.map fun kv=>kD kv.1) vs)))):OutOk (md:=.mut) K (upd G p (.frz o (.dK kvs))) (upd H p (.frz o (.dK kvs))) f1 (Ri p o kvs D0) r:=by
 cases r with
 |bad=>exact k
 |exc c=>exact k
 |ok out=>
  have k:OutOk (md:=.mut) K G H fp D0 (qV i p (.dct false (kvs.map fun kv=>kD kv.1) vs) out):=k;unfold qV at k;split at k
  ·rename_i e';split at k
   ·rename_i LC;rw[U4]at LC;obtain⟨h1,h2⟩:=LC;unfold xw at h1;split at h1
    ·rename_i q' d' hq';rw[Vc]at h1;subst h1;intro σ' H' G' JU st rl;obtain⟨z,G2,fz,JW,Td⟩:=mH (G:=G) (H:=H) (fp:=q'::b0) gp UR R4 st rl hq' h2 hf rs;exact⟨z,k σ' _ G2 fz (R3.trans JW) Td⟩
    ·cases h1
   ·exact k.elim
  ·rename_i o' q' r d0 _;split at k
   ·rename_i LC;rw[U4,Vc]at LC;obtain⟨h1,h2⟩:=LC;subst h1;rintro v H' G' JU st ⟨o2,d2,p2,c2,d02,er,rl⟩;cases er;obtain⟨z,G2,fz,JW,Td⟩:=mH (G:=G) (H:=H) (fp:=q'::b0) (i:=1) gp UR R4 st rl rfl (by show(List.all [some (o',r),none] _)=true;simp only[WT,List.all_nil,h2,VW]) hf rs;exact⟨z,k v _ G2 fz (R3.trans JW) ⟨_,_,_,_,_,rfl,Td⟩⟩
   ·exact k.elim
  ·exact k.elim
theorem uv{a:Addr}(h:G a=some (.frz o (.dK kvs)))(hf:∀kv∈kvs,qK kv.1):Walk K G (Rh o kvs.length a) (kvs.map fun kv=>kD kv.1):=by
 intro G' H' es vs fp gg rel i;have h':H' a=some (.frz o (.dK kvs)):=rel.gh _ _ (gg _ _ h);refine⟨fun d hd=>?_,fun e=>⟨kvs,h',rfl,by rw[U1]at e;lia⟩⟩;rw[Vd]at hd;cases hk:kvs[i]? with
 |none=>rw[hk]at hd;cases hd
 |some kv=>
  rw[hk]at hd;cases hd;refine⟨⟨kvs,kv.1,kv.2,h',rfl,hk⟩,fun y H2 ⟨e,hy⟩=>?_⟩;subst e;have:=hy kvs kv.1 kv.2 h' hk;subst this;exact⟨G',yK (hf _ (Vu hk)),rel,.refl⟩
section
theorem BA{tg iter:Expr}{body:List Stmt}{a:FG}{g:FS}{pos:Pos}(hp:PassesOwn (model X.prog X.w) X.A X.env X.xe)(hc:X.calm=true)(hn:PE X iter (nK i))(hg:QG X tg a)(hb:QSs (md:=.mut) X body g)(hs:∀x,foldedSetIterable iter X.env x=pure x:=by intro _;rfl):
  QS (md:=.mut) X (.For tg iter body [] pos) (xx i a g):=
 dE (By (yn hp hc (Bx hn) hg hb hs)) fun D0 σ H J2=>by
  obtain⟨G,env,fp,rel,k⟩:=J2;unfold xx at k;split at k
  ·rename_i p ks vs hi;obtain⟨v,fq,ev,g1,R3,_⟩:=rel.out hi;obtain⟨y,ys,e0,v',a0,b0,e1,e2,r1,r2⟩:=g1.rep;cases e0;cases e1;rw[RepO]at r1;obtain⟨ep,r1⟩:=r1;subst ep;rw[RepO]at r1;obtain⟨p',xs,o0,ev1,hH,dd,ea,rs⟩:=r1;cases ev1;subst ea;subst e2;obtain⟨kvs,eo,ek,ex,hf⟩:=(show ∃kvs:List (Key×V),o0=.dK kvs/\ks=kvs.map (fun kv=>kD kv.1)/\xs=kvs.map (·.2)/\∀kv∈kvs,qK kv.1 from dd)
   subst eo ex ek;have nd:=Vt.mp (show(p::b0).Nodup from g1.nd);have gp:G p=none:=g1.gn p UR;have Ug:∀z∈b0,z≠p:=fun z hz e=>nd.1 (e▸hz)
   refine⟨p,kvs,hH,fun o=>?_⟩;have Uh:Same G (upd G p (.frz o (.dK kvs))):=fun z u e=>by rw[ah (aH e gp)];exact e
   have relA:Rel X.K (upd G p (.frz o (.dK kvs))) (upd H p (.frz o (.dK kvs))) (some (.pin p .f,.dct false (kvs.map fun kv=>kD kv.1) vs)::env.set i none) (some (.ref p)::σ) b0:=by
    refine⟨⟨_,_,rfl,.ref p,[],b0,rfl,rfl,?_,r2.step Uh fun z hz=>ah (Ug z hz)⟩,nd.2,fun z hz=>?_,fun z u e=>?_⟩
    ·rw[RepO];refine⟨rfl,cZ.mpr ⟨?_,rfl⟩⟩;rw[Rep];exact⟨p,kvs.map (·.2),.dK kvs,rfl,.inr ⟨o,az⟩,⟨kvs,rfl,rfl,rfl,hf⟩,Reps.mono Uh rs⟩
    ·rw[ah (Ug z hz)];exact g1.gn z (US _ hz)
    ·by_cases hz:z=p
     ·subst hz;rw[az]at e ⊢;exact e
     ·rw[ah hz]at e ⊢;exact g1.gh z u e
   obtain⟨f1,JQ,J8⟩:=relA.back (i:=i) (by rw[VS];exact(U0.mp hi).1) ev;rw[WB]at JQ;have R4:∀z∈f1,z∈p::b0:=fun z hz=>by
    rcases J8.fpn z hz with h|h
    ·exact US _ h
    ·exfalso;obtain⟨u,hu⟩:=JQ.rep.live z hz;rw[h]at hu;cases hu
   refine⟨.ref p,ev,p,o,kvs,rfl,az,?_⟩;have k1:=xy (o:=o) (G:=G) (H:=H) (fp:=fp) gp R3 R4 hf rs k;have wk:Walk X.K (upd G p (.frz o (.dK kvs))) (Rh o kvs.length p) (kvs.map fun kv=>kD kv.1):=uv az hf;generalize (kvs.map fun kv=>kD kv.1)=ds at k1 wk JQ;refine⟨fun j m σ' H'=>m=ds.length-j/\j<=ds.length/\∃G' env' JU,Same (upd G p (.frz o (.dK kvs))) G'/\Rel X.K G' H' env' σ' JU/\OutOk (md:=.mut) X.K G' H' JU (Ri p o kvs D0) (cQ a g (ds.drop j) env'),⟨_,rfl,VJ _,_,_,f1,.refl _,JQ,k1⟩,?_⟩;rintro j m σ2 H2 ⟨rfl,hj,G2,J4,Kt,gg,JR,k2⟩;obtain⟨w1,w2⟩:=wk G2 H2 _ _ _ gg JR j;by_cases Kw:j<ds.length
   ·have hd:ds[j]?=some ds[j]:=UT Kw;obtain⟨go,yl⟩:=w1 _ hd;rw[Xr Kw]at k2;refine .inr ⟨go,fun σ' H'=>∃G' env' JU,Same (upd G p (.frz o (.dK kvs))) G'/\Rel X.K G' H' env' σ' JU/\OutOk (md:=.mut) X.K G' H' JU (Ri p o kvs D0) (cQ a g (ds.drop (j+1)) env'),fun σ' H' z=>⟨ds.length-(j+1),by lia,rfl,Kw,z⟩,fun x H3 y=>?_⟩;obtain⟨G3,rx,Kr,Kq⟩:=yl x H3 y;unfold cQ at k2;match q3:a ds[j] J4,k2 with
    | .ok KI,k2=>
     refine⟨G3,J4,Kt,ds[j],KI,Kr,rx,q3,fun σ4 G4 SQ K2 KC=>⟨G4,KI,SQ,KC,?_⟩⟩;have k3:OutOk (md:=.mut) X.K G2 H2 Kt (Ri p o kvs D0) ((g KI).bind fun o=>match o with | .nx e=>cQ a g (ds.drop (j+1)) e | .ct e=>cQ a g (ds.drop (j+1)) e | .bk e=>.ok (.nx e) | .rt r=>.ok (.rt r)):=k2;match q4:g KI,k3 with
     | .ok (.nx e),k3=>exact fun σ' H' G' JU st rel=>⟨G',e,JU,gg.trans (Kq.gg.trans (K2.gg.trans st.gg)),rel,OutOk.after (Kq.trans (K2.trans st)) k3⟩
     | .ok (.ct e),k3=>exact fun σ' H' G' JU st rel=>⟨G',e,JU,gg.trans (Kq.gg.trans (K2.gg.trans st.gg)),rel,OutOk.after (Kq.trans (K2.trans st)) k3⟩
     | .ok (.bk e),k3=>exact fun σ' H' G' JU st rel=>k3 σ' H' G' JU (Kq.trans (K2.trans st)) rel
     | .ok (.rt r),k3=>exact fun v H' G' JU st rel=>k3 v H' G' JU (Kq.trans (K2.trans st)) rel
   ·have e:j=ds.length:=by lia
    subst e;rw[YL]at k2;exact .inl ⟨w2 rfl,k2 σ2 H2 G2 Kt .refl JR⟩
  ·exact k.elim
end
end PV
namespace NX
section
variable{X:Cx}
end
end NX
namespace PV
section
variable{X:Cx}
end
inductive Ext:Hp->Hp->Prop
 |refl {H:Hp}:Ext H H
 |new {H H1:Hp}{p:Addr}{xs:List V}:Ext H H1->H1 p=none->Ext H (upd H1 p (.tup xs))
theorem Ext.trans{H H1 H2:Hp}(a:Ext H H1)(b:Ext H1 H2):Ext H H2:=by
 induction b with
 |refl=>exact a
 |new _ hp ih=>exact .new ih hp
theorem Ext.rel{K:W.Frag}{G H H':Hp}{env:PV.Env}{σ:L2.St}{fp:List Addr}(e:Ext H H')(r:Rel K G H env σ fp):∃G',Rel K G' H' env σ fp/\Step G H fp G' H' fp:=by
 induction e with
 |refl=>exact⟨G,r,.refl⟩
 |new _ hp ih=>
  obtain⟨G1,r1,s1⟩:=ih;obtain⟨r2,s2⟩:=r1.newF hp;exact⟨_,r2,s1.trans s2⟩
inductive BExp where
 |con (b:Bool)|var (j:Nat)|not (x:BExp)|and (x y:BExp)
abbrev Kn:=List (Nat×Bool)
def R5(kn:Kn):BExp->Option Bool
 | .con b=>some b
 | .var j=>kn.lookup j
 | .not x=>(R5 kn x).map (!·)
 | .and x y=>(R5 kn x).bind fun b=>if b=true then R5 kn y else some false
def Hy(kn:Kn)(σ:L2.St):Prop:=∀j b,kn.lookup j=some b->σ[j]?=some (some (.bl b))
inductive tBE(i:Nat)(a:Addr)(x:BExp)(σ:L2.St)(H:Hp)(Q:VK):Prop
 |mk:∀kn b,σ[i]?=some (some (.ref a))->Hy kn σ->R5 kn x=some b->(∀H',Ext H H'->Q (.bl b) H')->tBE i a x σ H Q
def BE(X:Cx)(e:Expr)(i:Nat)(a:Addr)(x:BExp):Prop:=PE X e (tBE i a x)
section
variable{X:Cx}{a:Addr}{o:Obj}{i:Nat}{e b:Expr}{rest:List Expr}{x y:BExp}{pos p q:Pos}{n:Str}
theorem uw:∀{cs:List Addr}{JT:List Value},Vals (cs.map V.ref) JT->JT=cs.map Value.ref
 |[],_,.nil=>rfl
 |c::cs,_,.cons h r=>by rw[Vj,uw r,show _=Value.ref c from h]
theorem pV{C:Addr}{vs:Array Value}(hp:(a,o)∈X.pn)(hc:o.cls=.ref C)(hv:o.data=.fields vs)(k:Asks X.K C):bL X (.builtin "isinstance") (fun xs H Q=>
  (∃c b,xs=[.ref a,.ref c]/\PySem.W.kitOne X.K (.ref C) (.ref c)=some b/\Q (.bl b) H)\/(∃T b,xs=[.ref a,.ty T]/\PySem.W.kitOne X.K (.ref C) (.type T)=some b/\Q (.bl b) H)\/
  ∃(tp:Addr) (cs:List Addr) (b:Bool),xs=[.ref a,.ref tp]/\H tp=some (.tup (cs.map V.ref))/\PySem.W.kitAny X.K (.ref C) (cs.map Value.ref)=some b/\Q (.bl b) H):=by
 intro pr s σ H xs us Q I r h;obtain⟨pa,_⟩:=I.pin (a,o) (UX _ hp);have ex:ExAt a C s.heap:=⟨o,vs,pa,hc,hv⟩
 have fin:∀b,Q (.bl b) H->∀tk,EP X pr σ Q (.bool b) {s with toks:=tk}:=fun b q tk=>⟨.bl b,H,I.tok tk,rfl,q⟩
 rcases h with⟨c,b,rfl,e,q⟩|⟨T,b,rfl,e,q⟩|⟨tp,cs,b,rfl,ht,e,q⟩
 ·obtain⟨u,w',rfl,r1,r2⟩:=nM r;cases(show u=Value.ref a from r1);cases(show w'=Value.ref c from r2);exact Wg (nV k) I.kIn ex e (fun z=>nomatch z) (fin b q)
 ·obtain⟨u,w',rfl,r1,r2⟩:=nM r;cases(show u=Value.ref a from r1);cases(show w'=Value.type T from r2);exact Wg (nV k) I.kIn ex e (fun z=>nomatch z) (fin b q)
 ·obtain⟨u,w',rfl,r1,r2⟩:=nM r;cases(show u=Value.ref a from r1);cases(show w'=Value.ref tp from r2);obtain⟨_,JT,rv,ot,e1,e2,⟨n,e3⟩,_⟩:=I.hok tp _ ht;cases uw rv;obtain⟨c',d',da',RH⟩:=ot;dsimp only at e2 e3;subst e2;subst e3;exact PySem.W.kia_tup (nV k) I.kIn ex e1 e (fun z=>nomatch z) (fin b q)
inductive Cls(mg:Str->Option Value):List Expr->List Addr->Prop
 |nil:Cls mg [] []
 |cons {x:Str}{p:Pos}{es:List Expr}{c:Addr}{cs:List Addr}:mg x=some (.ref c)->Cls mg es cs->Cls mg (.Name x p::es) (c::cs)
variable{C:Addr}{vs:Array Value}
theorem qW{x:Str}{c:Addr}{b:Bool}(hp:(a,o)∈X.pn)(hc:o.cls=.ref C)(hv:o.data=.fields vs)(k:Asks X.K C)(he:PE X e (nK i))(hg:Gl X "isinstance")(hm:X.mg "isinstance" = none)(Ny:Gl X x)(Nz:X.mg x=some (.ref c))(hb:PySem.W.kitOne X.K (.ref C) (.ref c)=some b)(KN:(x==("__debug__" : Str))=false:=by decide)
  (hs:starEach [e,.Name x q] X.env=(false,eval e X.env)::starEach [.Name x q] X.env:=by rfl) (Nk:starEach [.Name x q] X.env=(false,eval (.Name x q) X.env)::starEach [] X.env:=by rfl) (KA:(backTo pos (starEach [.Name x q] X.env)).any (·.1)=false:=by rfl):
  BE X (.Call (.Name "isinstance" p) [e,.Name x q] [] pos) i a (.con b):=
 aJ (iN (pV hp hc hv k) hg hm dk (a9 he (a9 (zx (v:=.ref c) Ny Nz rfl KN) dN Nk) hs) (by decide) (by decide) hs KA) fun σ H Q J2=>by
  obtain⟨kn,c',hi,hk,ev,kk⟩:=J2;cases ev;exact⟨.ref a,hi,.inl ⟨c,b,rfl,hb,kk H .refl⟩⟩
theorem yO{x:Str}{T:String}{b:Bool}(hp:(a,o)∈X.pn)(hc:o.cls=.ref C)(hv:o.data=.fields vs)(k:Asks X.K C)(he:PE X e (nK i))(hg:Gl X "isinstance")(hm:X.mg "isinstance" = none)(Ny:Gl X x)(Nz:X.mg x=none)(SV:bootBuiltins x=some (.type T))(hb:PySem.W.kitOne X.K (.ref C) (.type T)=some b)(hn:x≠"__name__":=by decide)(KN:(x==("__debug__" : Str))=false:=by decide)
  (hs:starEach [e,.Name x q] X.env=(false,eval e X.env)::starEach [.Name x q] X.env:=by rfl) (Nk:starEach [.Name x q] X.env=(false,eval (.Name x q) X.env)::starEach [] X.env:=by rfl) (KA:(backTo pos (starEach [.Name x q] X.env)).any (·.1)=false:=by rfl):
  BE X (.Call (.Name "isinstance" p) [e,.Name x q] [] pos) i a (.con b):=
 aJ (iN (pV hp hc hv k) hg hm dk (a9 he (a9 (rO (v:=.ty T) Ny Nz SV rfl hn KN) dN Nk) hs) (by decide) (by decide) hs KA) fun σ H Q J2=>by
  obtain⟨kn,c',hi,hk,ev,kk⟩:=J2;cases ev;exact⟨.ref a,hi,.inr (.inl ⟨T,b,rfl,hb,kk H .refl⟩)⟩
end
section
variable{md:Mode}{X:Cx}{x:Str}{pos:Pos}{C:Addr}{xe:FXE}
end
end PV
namespace PV
section
variable{X:Cx}
end
end PV
namespace PV
variable{K:W.Frag}{G H:Hp}{p:Addr}{u:HO}{fp:List Addr}
section
theorem AllO.length{P:D->V->List Addr->Prop}:∀{ds:List D}{xs:List V}{fp:List Addr},AllO P ds xs fp->xs.length=ds.length
 |[],xs,fp,r=>by
  rw[r.1];rfl
 |d'::ds,xs,fp,r=>by
  obtain⟨y,ys,a1,b1,e1,e2,p,r⟩:=r;subst e1;rw[Va,Va,r.length]
theorem BB(gh:Same G H)(gp:G p=none):Same G (upd H p u):=fun z o ez=>by
 have:z≠p:=fun w=>by
  subst w;rw[gp]at ez;cases ez
 rw[ah this];exact gh z o ez
theorem xA(hp:p∈fp):Step G H fp G (upd H p u) fp:=by
 refine⟨.refl _,fun z o ez nz=>?_,fun z hz=>.inl hz,fun z o ez=>.inl ez,fun z o ez=>?_⟩
 ·have:z≠p:=fun w=>nz (w▸hp)
  rw[ah this];exact ez
 ·by_cases w:z=p
  ·subst w;exact⟨_,az⟩
  ·exact⟨o,by rw[ah w];exact ez⟩
end
variable{md:Mode}{X:Cx}{scope:Scope}{N:List Str}{f:FX}
section
variable{tg iter elt:Expr}{ifs:List Expr}{pos:Pos}{fi:FI}{a:FG}{c:FT}
end
variable{x:Str}{fb:FX}
section
variable{p pos LG:Pos}{e1 e2 e3:Expr}{fo:FO}
def xB(F:List D->Res R)(fo:FO)(fb:FX)(j:Nat):FX:=fun env=>(fo env).bind fun p=>(fb p.2).bind fun q=>match q.2[j]? with
 |some (some (_,dj))=>(nG q.2 p.1).bind fun d1=>(F [d1,.tup [q.1.2,dj]]).bind fun r=>.ok (r,if aw r.1 r.2 then q.2 else q.2.map frz)
 |_=>.bad
theorem BD{F:List D->Res R}{k j:Nat}{x1}(C:Ct X.prog X.w X.K X.mg X.base x k (spF X.K F))(hr:Room k X.A)(hg:Gl X x)(ho:QO X e1 fo)(hb:QE X e2 fb)(hj:PE X e3 (nK j))(KN:(x==("__debug__" : Str))=false:=by decide)
  (h1:starEach [e1,.Tuple [e2,e3] x1 LG] X.env=(false,eval e1 X.env)::starEach [.Tuple [e2,e3] x1 LG] X.env:=by rfl) (h2:starEach [.Tuple [e2,e3] x1 LG] X.env=(false,eval (.Tuple [e2,e3] x1 LG) X.env)::starEach [] X.env:=by rfl)
  (h3:starEach [e2,e3] X.env=(false,eval e2 X.env)::starEach [e3] X.env:=by rfl) (h4:starEach [e3] X.env=(false,eval e3 X.env)::starEach [] X.env:=by rfl)
  (KA:(backTo pos (starEach [.Tuple [e2,e3] x1 LG] X.env)).any (·.1)=false:=by rfl):QE X (.Call (.Name x p) [e1,.Tuple [e2,e3] x1 LG] [] pos) (xB F fo fb j):=
 aJ (wt C hr hg (a9 ho (a9 (sd (a9 hb (a9 hj dN h4) h3)) dN h2) h1) KN h1 KA) fun σ H Q J2=>by
  obtain⟨G,env,fp,r,env',rel,e,k⟩:=J2;obtain⟨⟨o,JP⟩,q1,e⟩:=ae e;obtain⟨⟨r2,J4⟩,q2,e⟩:=ae e;dsimp only at e;split at e
  ·rename_i oj dj hdj;obtain⟨d1,q3,e⟩:=ae e;obtain⟨r',q4,e⟩:=ae e;refine⟨G,env,fp,o,JP,rel,q1,fun v1 H1 G1 Ke J8 JQ KP=>?_⟩;refine⟨G1,JP,Ke,r2,J4,JQ,q2,fun v2 H2 G2 Kt JW JR=>?_⟩;obtain⟨G3,b,rv,Kr,Kq⟩:=JR.freeze;obtain⟨v3,RZ,_⟩:=Kr.view hdj;refine⟨v3,RZ,by rw[line_eq];exact(by decide:2<=16777216),fun t ht=>?_⟩;obtain⟨KC,K2⟩:=Kr.newF (u:=.tup [v2,v3]) ht;show spF X.K F ([v1,.ref t]++[]) _ Q _;rw[Vm];obtain⟨G5,Te,g5h,K6,_,KH⟩:=KC.lend;have a1:=c5 (os:=[o]) (vs:=[v1]) (ds:=[d1]) Te K6 (by
    exact⟨v1,[],rfl,(((KP.mono JW.gg).mono Kq.gg).mono K2.gg),rfl⟩) (by
    show(nG J4 o).bind _=_;rw[q3];rfl)
   have a2:Rep X.K G5 (.tup [r2.2,dj]) (.ref t):=by
    rw[Rep];exact⟨t,[v2,v3],rfl,Te t _ az,.cons (Rep.mono (K2.gg.trans Te) rv) (.one (K6 j _ v3 hdj RZ))⟩
   refine⟨G5,[d1,.tup [r2.2,dj]],r',g5h,a1.app (.one a2),q4,fun v H' G' JU st Kl=>?_⟩;obtain⟨k1,k2⟩:=KH H' G' JU r' v st Kl;have s4:=J8.trans (JW.trans (Kq.trans K2));by_cases hc:aw r'.1 r'.2=true
   ·rw[U2 hc]at e;cases e;obtain⟨G6,M0,MZ,Lr⟩:=k1 hc;exact k v H' G6 M0 (s4.trans MZ) Lr
   ·rw[U6 hc]at e;cases e;obtain⟨G6,M0,MZ,Lr⟩:=k2;exact k v H' G6 M0 (s4.trans MZ) Lr
  ·cases e
end
section
variable{p pos p1 p2 q1 q2:Pos}{o o':Expr}{j1 j2:_}
end
section
end
section
variable{a b:Expr}{fa:FX}{pos:Pos}
end
abbrev tL:O:=.t [.f,.l .f]
section
theorem ou{a:D}{l:List D}{v:V}:RepO K G H tL (.tup [a,.lst l]) v fp<->∃t y q zs,v=.ref t/\G t=some (.tup [y,.ref q])/\Rep K G a y/\H q=some (.lst zs)/\fp=[q]/\Reps K G l zs:=by
 unfold tL;rw[RepO];constructor
 ·rintro⟨t,xs,et,gt,rt⟩;rw[RepT]at rt;obtain⟨y1,t1,a1,b1,ex1,ea1,q1,rt⟩:=rt;rw[RepT]at rt;obtain⟨y2,t2,a2,b2,ex2,ea2,q2,rt⟩:=rt;rw[RepT]at rt;obtain⟨ett,eb⟩:=rt;obtain⟨rep1,ea⟩:=cZ.mp q1;obtain⟨q,zs,el,hl,eal,rz⟩:=fH.mp q2;subst ea ett eb ex2 ex1 el eal ea2 ea1;exact⟨t,y1,q,zs,et,gt,rep1,hl,rfl,rz⟩
 ·rintro⟨t,y,q,zs,et,gt,ra,hq,ef,rz⟩;refine⟨t,[y,.ref q],et,gt,?_⟩;subst ef;rw[RepT];refine⟨y,[.ref q],[],[q],rfl,rfl,cZ.mpr ⟨ra,rfl⟩,?_⟩;rw[RepT];refine⟨.ref q,[],[q],[],rfl,rfl,fH.mpr ⟨q,zs,rfl,hq,rfl,rz⟩,?_⟩;rw[RepT];exact⟨rfl,rfl⟩
end
section
end
variable{e:Expr}
section
def Hz(f:FX):FX:=fun env=>(f (env.map frz)).bind fun p=>.ok (p.1,if aw p.1.1 p.1.2 then env else env.map frz)
def xC(f:FT):FT:=fun env=>(f (env.map frz)).bind fun p=>.ok (p.1,env)
theorem HA(h:QE X e f):QE X e (Hz f):=aJ h fun σ H Q J2=>by
 obtain⟨G,env,fp,r,env',rel,e,k⟩:=J2;obtain⟨⟨r1,JP⟩,e1,e⟩:=ae e;obtain⟨G1,g1,Tf,K6,hE,KH⟩:=rel.lend;refine⟨G1,env.map frz,[],r1,JP,⟨hE,V1,(fun _ h=>nomatch h),Tf⟩,e1,fun v H' G' JU st Kl=>?_⟩;obtain⟨a,O7,SY⟩:=Kl.only;obtain⟨k1,k2⟩:=KH H' G' a r1 v (st.trans SY) O7;have e:Res.ok (r1,if aw r1.1 r1.2 then env else env.map frz)=.ok (r,env'):=e;by_cases hc:aw r1.1 r1.2=true
 ·rw[U2 hc]at e;cases e;obtain⟨G6,M0,MZ,Lr⟩:=k1 hc;exact k v H' G6 M0 MZ Lr
 ·rw[U6 hc]at e;cases e;obtain⟨G6,M0,MZ,Lr⟩:=k2;exact k v H' G6 M0 MZ Lr
theorem BF{f:FT}(h:QT X e f):QT X e (xC f):=i8 h fun σ H Q J2=>by
 obtain⟨G,env,fp,b,env',rel,e,k⟩:=J2;obtain⟨⟨b1,JP⟩,e1,e⟩:=ae e;cases e;obtain⟨G1,g1,Tf,K6,hE,KH⟩:=rel.lend;refine⟨G1,env.map frz,[],b1,JP,⟨hE,V1,(fun _ h=>nomatch h),Tf⟩,e1,fun H' G' JU st Kl=>?_⟩;have rl:Rel X.K G' H' [some (.f,.bl b1)] [some (.bl b1)] []:=(Kl.nilF).push (by rw[Rep]);obtain⟨k1,_⟩:=KH H' G' [] (.f,.bl b1) (.bl b1) (st.trans (Step.cut fun _ h=>nomatch h)) rl;obtain⟨G6,M0,MZ,Lr⟩:=k1 rfl;obtain⟨bb,NK,SW⟩:=Lr.drop;exact k H' G6 bb (MZ.trans SW) NK
end
variable{i:Nat}
section
theorem Rel.chgV{o:O}{d:D}{env:PV.Env}{vs:L2.St}(q:Rel K G H env vs fp)(e:env[i]?=some (some (o,d))):
  ∃v a,vs[i]?=some (some v)/\RepO K G H o d v a/\a.Nodup/\∀u x o' d',u∈a->RepO K G (upd H u x) o' d' v a->∃fq,Rel K G (upd H u x) (env.set i (some (o',d'))) vs fq/\Step G H fp G (upd H u x) fq:=by
 obtain⟨v,fq,ev,g,st,Lm⟩:=q.out e;obtain⟨y,ys,e0,v',c,b,e1,e2,r1,r2⟩:=g.rep;cases e0;cases e1;subst e2;obtain⟨n1,n2,n3⟩:=Vp.mp g.nd;refine⟨v,c,ev,r1,n1,fun u x o' d' hu r'=>?_⟩;have g2:Rel K G (upd H u x) (some (o',d')::env.set i none) (some v::vs) (c++b):=by
  refine⟨⟨some v,vs,rfl,v,c,b,rfl,rfl,r',r2.step (.refl _) fun z hz=>ah fun e=>?_⟩,g.nd,g.gn,BB g.gh (g.gn u (UX _ hu))⟩;subst e;exact n3 z hu z hz rfl
 have QL:Step G H (c++b) G (upd H u x) (c++b):=xA (UX _ hu);obtain⟨fz,g3,Kq⟩:=g2.back (i:=i) (by rw[VS];exact(U0.mp e).1) ev;rw[WB]at g3;exact⟨fz,g3,st.trans (QL.trans Kq)⟩
end
section
variable{a b:Expr}{fa:FX}{pos:Pos}
end
section
variable{pos LG:Pos}
end
variable{C:Addr}
section
variable{pos:Pos}{rest a b:List Stmt}{ct:Expr}
end
theorem acc_on{P:Program}{w:World}{mg:Str->Option Value}{base:Heap}{qual:Str}{f:Addr}{cd:Value}{A:Around}{outer:List PySem.Env}{s:Shared}{E:XK}
  (pr:List (Addr×Obj)) (σ:L2.St) (e:Value) (s':Shared) (h:XP (lK (OB P w base C) P w K mg base N qual scope f cd A outer s H E) pr σ C (fun H'=>E (.ref C) none H') e s'):
  (lK (OB P w base C) P w K mg base N qual scope f cd A outer s H E).xe e s':=by
 obtain⟨s1,H1,I,a,t,B,H',rfl,os,bare,U,hok,L5,hB,hW⟩:=h;have SM:∀b,b∈Kv (envOfC qual scope s.heap.objs.size f cd::outer)->b∈s.heap.objs.size::Kv outer:=I.stkSub;have up:∀b,b∈Kv outer->b∈Kv (envOfC qual scope s.heap.objs.size f cd::outer):=fun b hb=>by
  obtain⟨en,he,hf⟩:=W7.mp hb;exact W7.mpr ⟨en,US _ he,hf⟩
 have nl:∀b o,s.heap.get? b=some o->b∉Kv outer->b∉Kv (envOfC qual scope s.heap.objs.size f cd::outer):=fun b o e n z=>by
  rcases U5.mp (SM b z) with r|r
  ·exact absurd (U8 e) (by rw[r];exact Wv _)
  ·exact n r
 have nt:∀b,H' b≠none->b∉Kv (envOfC qual scope s.heap.objs.size f cd::outer):=fun b n z=>by
  obtain⟨_,o,ho,_⟩:=I.stack.mem z;exact n (U.free b o ho (I.stkFree b z) (fun z=>nomatch z))
 refine wpAny_leaves_onW (base:=B) (L:=s.heap.objs.size) I.ok.frames rfl L5 fun h2 Rl sm=>?_
 have k:∀b u,s'.heap.get? b=some u->(H' b≠none\/∃o,s1.heap.get? b=some o)->b∉Kv (envOfC qual scope s.heap.objs.size f cd::outer)->h2.get? b=some u:=fun b u q hh n=>Rl.1 b u (hB b u q hh n)
 have sl:∀b u,s'.heap.get? b=some u->b∈Kv outer->∃z,h2.get? b=some {u with slots:=z}:=fun b u q n=>by
  obtain⟨_,o,ho,hd⟩:=L5.2.2.1.mem (up b n);rw[q]at ho;cases ho;exact sm b u q hd
 have there:∀b o,s.heap.get? b=some o->∃o1 o2,s1.heap.get? b=some o1/\s'.heap.get? b=some o2:=fun b o q=>by
  obtain⟨o1,e1⟩:=I.base.there b o q (fun z=>nomatch z);obtain⟨o2,e2⟩:=U.there b o1 e1 (fun z=>nomatch z);exact⟨o1,o2,e1,e2⟩
 refine⟨a,t,B,H',rfl,os.trans I.os,bare,⟨fun b o q n hb hx=>?_,fun b o q n hb hx=>?_,fun b o q n hx=>?_,fun b o q hx=>?_,fun c xs q=>U.tups c xs (I.base.tups c xs q),fun c ob xs q=>U.frzs c ob xs (I.base.frzs c ob xs q),fun c ps q=>?_⟩,fun b o e=>?_,Rl,fun b u q hb n=>?_,hW⟩
 ·have e1:=I.base.keep b o q n hb hx;have nb:=nl b o q hb;exact k b o (U.keep b o e1 (I.base.free b o q n hx) nb (fun z=>nomatch z)) (.inr ⟨o,e1⟩) nb
 ·obtain⟨z,e1⟩:=I.base.slot b o q n hb hx;obtain⟨z2,e2⟩:=U.slot b _ e1 (I.base.free b o q n hx) (up b hb) (fun z=>nomatch z);obtain⟨z3,e3⟩:=sl b _ e2 hb;exact⟨z3,e3⟩
 ·obtain⟨o1,e1⟩:=I.base.there b o q hx;exact U.free b o1 e1 (I.base.free b o q n hx) (fun z=>nomatch z)
 ·obtain⟨o1,o2,e1,e2⟩:=there b o q;by_cases hb:b∈Kv outer
  ·obtain⟨z,e3⟩:=sl b o2 e2 hb;exact⟨_,e3⟩
  ·exact⟨o2,k b o2 e2 (.inr ⟨o1,e1⟩) (nl b o q hb)⟩
 ·obtain⟨m1,e1⟩:=I.base.tbls c ps q;obtain⟨m2,e2⟩:=U.tbls c _ e1;exact⟨m1++m2,by rw[e2,WO]⟩
 ·refine(hok b o e).stay (fun c u hc q=>?_) (fun _ q=>q) fun _ _ q=>q
  have hn:H' c≠none:=by
   rcases hc with rfl|hc
   ·rw[e];exact fun z=>nomatch z
   ·rw[hc];exact fun z=>nomatch z
  exact k c u q (.inl hn) (nt c hn)
 ·have h1:∃u0,s'.heap.get? b=some u0/\(H' b≠none\/∃o,s1.heap.get? b=some o)/\b∉Kv (envOfC qual scope s.heap.objs.size f cd::outer):=by
   rcases hb with hb|⟨o,ho⟩
   ·cases hq:H' b with
    |none=>exact absurd hq hb
    |some ho=>
     obtain⟨u0,e0⟩:=ook_get (hok b ho hq);exact⟨u0,e0,.inl (fun z=>nomatch z),nt b hb⟩
   ·obtain⟨o1,o2,e1,e2⟩:=there b o ho;exact⟨o2,e2,.inr ⟨o1,e1⟩,nl b o ho n⟩
  obtain⟨u0,e0,hh,n0⟩:=h1;have:=k b u0 e0 hh n0;rw[show h2.get? b=some u from q]at this;cases this;exact hB b _ e0 hh n0
section
variable{y:Str}{p pos pos' J3:Pos}{es:List Expr}{F:List D->Bool}{fs:FOs}{k:Nat}{rest:List Stmt}{Ww:Hp->Prop}
end
section
variable{a:Addr}{j jc:Nat}{x1 x2:BExp}{e1 e2 vc:Expr}{n nc:Str}{pos pos1 Ld pos' pos'' bp p:Pos}
theorem uy:bL X (.type "int") (fun xs H Q=>∃b:Bool,xs=[.bl b]/\Q (.int (if b=true then 1 else 0)) H):=by
 rintro pr s σ H xs us Q I rx ⟨b,ex,q⟩;subst ex;obtain⟨u,rfl,ru⟩:=cO rx;cases ru;exact call_int_bool ⟨.int _,H,I.tok _,⟨_,rfl⟩,q⟩
end
section
variable{pos:Pos}{xe:FXE}
end
noncomputable def dg(i:Int):List Nat:=(Str.ofString (toString i)).cps.toList
def JN:List D->Res R
 |[.int i]=>if i.natAbs.log2<1920 then .ok (.f,.str (dg i)) else .bad
 |_=>.bad
section
end
section
end
section
variable{pos:Pos}
def Jy(f:FX):FX:=fun env=>(f env).bind fun p=>match p.1.1 with
 | .l .f=>.ok ((.l (.l .f),.lst [p.1.2]),p.2)
 |_=>.bad
def Jz(i:Nat)(f:FX):FX:=fun env=>if qP env i then(f env).bind fun p=>(match p.1.1,p.2[i]? with
 | .l .f,some (some (.l (.l .f),.lst ds))=>if ds.length<sizeLine then .ok ((.f,.non),p.2.set i (some (.l (.l .f),.lst (ds++[p.1.2])))) else .bad
 |_,_=>.bad)
 else .bad
def uz(i:Nat)(f:FX):FX:=fun env=>match env[i]? with
 |some (some (.t [.f,.l .f],.tup [_,.lst _]))=>(f env).bind fun q=>(match q.2[i]? with
  |some (some (.t [.f,.l .f],.tup [d,.lst ds]))=>if ds.length<sizeLine then .ok ((.f,.non),q.2.set i (some (.t [.f,.l .f],.tup [d,.lst (ds++[q.1.2])]))) else .bad
  |_=>.bad)
 |_=>.bad
theorem BG{o:Expr}{j Lx ipos apos J3}(ho:PE X o (nK i))(he:QE X e f)
  (KG:attributeBase (.Subscript o (.Constant (.int 1) j ipos) Lx) "append" X.env (eval (.Subscript o (.Constant (.int 1) j ipos) Lx) X.env)=eval (.Subscript o (.Constant (.int 1) j ipos) Lx) X.env:=by rfl)
  (Lo:((backTo J3 (starEach [e] X.env)).all (fun x=>!x.1)&&(backToKw J3 (keywordEach [] X.env)).all (fun x=>x.1.isSome)&&decide ([e].length+([]:List Keyword).length+(if([]:List Keyword).isEmpty then 0 else 1)<30))=true:=by rfl)
  (KO:(apos.endLine==J3.line)=true:=by rfl) (hs:starEach [e] X.env=(false,eval e X.env)::starEach [] X.env:=by rfl) (Kx:(backTo J3 (starEach [] X.env)).any (·.1)=false:=by rfl):
  QE X (.Call (.Attribute (.Subscript o (.Constant (.int 1) j ipos) Lx) "append" apos) [e] [] J3) (uz i f):=by
 refine aJ (wj XD Yr Ys iX (Dm yp ho yg (by exact fun _ _=>rfl)) (kC he nX hs) KG Lo KO hs Kx) fun σ H Q Kk=>?_
 obtain⟨G,env,fp,r,env',rel,e,k⟩:=Kk;unfold uz at e;split at e
 ·rename_i d0 l0 hi;obtain⟨⟨r1,JP⟩,e1,e⟩:=ae e;dsimp only at e;split at e
  ·rename_i d ds Nm;split at e
   ·rename_i hl;cases e;obtain⟨v,a,b,ev,r0,_,_⟩:=rel.rep.take hi;obtain⟨t,y,q,zs,et,gt,rd,hq,ef,rz⟩:=ou.mp r0;subst et;refine⟨.ref t,ev,t,[y,.ref q],1,.ref q,rfl,rfl,SqT.of (rel.gh _ _ gt),rfl,.inl ⟨rfl,zs,SqL.of hq⟩,G,env,fp,[r1.2],JP,rel,by show(f env).bind _=_;rw[e1];rfl,fun vs H1 G1 Ke J8 JQ rs=>?_⟩;rw[Reps]at rs;obtain⟨x,ys,SS,ry,rn⟩:=rs;rw[Reps]at rn;subst rn;obtain⟨v2,c,Qd,r2,nd,cg⟩:=JQ.chgV Nm;rw[ev]at Qd;cases Qd;obtain⟨t2,y2,q2,Tg,et2,Ui,rd2,hq2,ef2,Uj⟩:=ou.mp r2;cases et2;have:=J8.gg _ _ gt;rw[Ui]at this;cases this;subst ef2;obtain⟨fq,JR,JW⟩:=cg q (.lst (Tg++[x])) tL (.tup [d,.lst (ds++[r1.2])]) (by simp) (ou.mpr ⟨t,y,q,Tg++[x],rfl,Ui,rd2,az,rfl,Uj.app (.one ry)⟩);exact⟨q,Tg,x,rfl,SS,hq2,by rw[Uj.length];exact hl,k _ _ G1 fq (J8.trans JW) (JR.push ja)⟩
   ·cases e
  ·cases e
 ·cases e
end
end PV
namespace NX
namespace ST
end ST
end NX
namespace PV
section
variable{X:Cx}{e:Expr}{fs:FOs}{p p2 pos Ld:Pos}
end
def lenSI:List D->Res R
 |[.lst ds]=>match b8 ds with
  |some ns=>if ns.length<=4000 then .ok (.f,.int ((ns.foldl step_dedup []).length:Nat)) else .bad
  |none=>.bad
 |_=>.bad
section
variable{X:Cx}{e:Expr}{fs:FOs}{p p2 pos Ld:Pos}
theorem BH(hc:X.calm=true)(hg:Gl X "len")(hm:X.mg "len" = none)(Ny:Gl X "set")(Nz:X.mg "set" = none)(ha:QOs X [e] fs)
  (he:backTo pos (starEach [.Call (.Name "set" p2) [e] [] Ld] X.env)=[(false,eval (.Call (.Name "set" p2) [e] [] Ld) X.env)]:=by rfl)
  (O3:starEach [e] X.env=(false,eval e X.env)::starEach [] X.env:=by rfl) (O4:(backTo Ld (starEach [] X.env)).any (·.1)=false:=by rfl):
  QE X (.Call (.Name "len" p) [.Call (.Name "set" p2) [e] [] Ld] [] pos) (aA lenSI fs):=
 aJ (ST.pe_lenI hc hg hm Ny Nz ha he O3 O4) fun σ H Q h=>by
  refine xv (nW h) fun xs H1 Kk=>?_
  obtain⟨G,fp,es,vs,ds,r,⟨rel,k⟩,vd,e⟩:=Kk;unfold lenSI at e;split at e
  ·rename_i ds;split at e
   ·rename_i ns MM;split at e
    ·rename_i h4;cases e;obtain⟨v,ev,p,ys,ep,sq,rs⟩:=jQ vd;subst ev ep;have hy:=dq MM rs;subst hy;exact .mk p ns rfl sq h4 (k _ H1 G fp .refl (rel.push (aI _)))
    ·cases e
   ·cases e
  ·cases e
end
noncomputable def xOf(xe:FXE):FB:=fun env=>(xe env).isSome
section
variable{X:Cx}{rest:List Stmt}{xe:FXE}{e a b:Expr}{C:Addr}{pos p:Pos}{Ww:Hp->Prop}
theorem BI{op:CmpOp}(h:Pe X a C xe)(hm:behindInMarks op b=false:=by with_unfolding_all rfl):Pe X (.Compare a [op] [b] pos) C xe:=AF h hm
theorem yP{σ:L2.St}{H:Hp}(h:tX X.K (xOf xe) Ww σ H):tQX X.K xe σ H Ww:=by
 obtain⟨G,env,fp,rel,e,k⟩:=h;obtain⟨env',e'⟩:=VX.mp e;exact⟨G,env,fp,env',rel,e',fun H' G' JU st r=>k H' G' JU st r.nilF⟩
theorem EV(acc:∀pr σ e s',XP X pr σ C Ww e s'->X.xe e s')(h:Pe X e C xe):QX X (.Return (some e) pos::rest) (xOf xe) Ww:=pd (DO acc h) fun _ _ z=>yP z
theorem EW{c d:List Stmt}(acc:∀pr σ e s',XP X pr σ C Ww e s'->X.xe e s')(h:Pe X e C xe)(he:∀whole,isTrue e X.env whole=(do let v <-whole;standAt e.pos;holding [v] (truthy v)):=by intro _;rfl):
  QX X (.If (.UnaryOp .Not e p) c d pos::rest) (xOf xe) Ww:=pd (DP acc h he) fun _ _ z=>yP z
end
inductive Ext2:Hp->Hp->Prop
 |refl {H:Hp}:Ext2 H H
 |tup {H H1:Hp}{p:Addr}{xs:List V}:Ext2 H H1->H1 p=none->Ext2 H (upd H1 p (.tup xs))
 |lst {H H1:Hp}{p:Addr}{bs:List Bool}:Ext2 H H1->H1 p=none->Ext2 H (upd H1 p (.lst (bs.map V.bl)))
theorem Ext2.trans{H H1 H2:Hp}(a:Ext2 H H1)(b:Ext2 H1 H2):Ext2 H H2:=by
 induction b with
 |refl=>exact a
 |tup _ hp ih=>exact .tup ih hp
 |lst _ hp ih=>exact .lst ih hp
section
variable{X:Cx}{a:Addr}{i j:Nat}{e:Expr}{es:List Expr}{x:BExp}{xs:List BExp}{pos p q lpos:Pos}{n:Str}
theorem Ext.keep{H H':Hp}{z:Addr}{u:HO}(e:Ext H H')(h:H z=some u):H' z=some u:=by
 induction e with
 |refl=>exact h
 |new _ hp ih=>
  rw[ah (fun q=>by rw[q,hp]at ih;cases ih)];exact ih
end
section
variable{md:Mode}{X:Cx}{x:Str}{pos:Pos}{C:Addr}{xe:FXE}
end
end PV
namespace NX
section
variable{X:Cx}{rest a:List Stmt}{tx ta tb:TX}{tc:TT}{e ct:Expr}{C:Addr}{pos p:Pos}{Ww:Hp->Prop}
end
end NX
namespace PV
section
variable{md:Mode}{X:Cx}{x:Str}{pos:Pos}{C:Addr}{xe:FXE}{rest a:List Stmt}{e ct:Expr}{Ww:Hp->Prop}
end
end PV
namespace NX
section
variable{X:Cx}{rest body:List Stmt}{tx:TX}{tc:TT}{tb:TS}{u ux:L2.St->Hp->Prop}{e a b c:Expr}{es:List Expr}{C:Addr}{pos p:Pos}{Ww:Hp->Prop}
end
end NX
namespace PV
section
variable{X:Cx}{rest body:List Stmt}{xe:FXE}{x cx bx:FB}{c:FT}{g:FS}{e a b ct:Expr}{es:List Expr}{C:Addr}{pos p:Pos}{Ww:Hp->Prop}
end
end PV
namespace NX
abbrev CS(X:Cx)(a:Addr)(o:Obj):Cx:={X with pn:=(a,o)::X.pn}
variable{X:Cx}
section
variable{pr:List (Addr×Obj)}{σ:L2.St}{H:Hp}{s:Shared}{a:Addr}{o:Obj}
theorem BJ(ok:X.Ok)(I:Inv (asX X a o) pr σ H s):Inv (CS X a o) pr σ H s:=
 ⟨⟨ok.mod,ok.kind,ok.glob,ok.blt,ok.above,ok.inj,ok.has,ok.cab,ok.hd,ok.frames,ok.stk,ok.exf,ok.bs,ok.bsz,ok.noex,ok.exfs,ok.funs,ok.frf⟩,I.os,I.bare,I.base,I.loc,I.cell,I.free,I.freeC,I.pin,I.hok,I.len⟩
theorem gw(ok:X.Ok)(I:Inv (CS X a o) pr σ H s):Inv X pr σ H s:=⟨ok,I.os,I.bare,I.base,I.loc,I.cell,I.free,I.freeC,fun p hp=>I.pin p (US _ hp),I.hok,I.len⟩
end
theorem pss_keep{body rest:List Stmt}{x n y:Str}{i j:Nat}{C P:Addr}{np NM pos p1 p2 p3:Pos}{tx:TX}{tr:Addr->TS}(O:XCl X.mg X.base x P)(up:PySem.W.mroIn X.K C (.ref P)=some true)(hg:Gl X x)(hx:PSX X body C tx)
  (hr:∀a o vs,o.cls=.ref C->o.data=.fields vs->PSs (CS X a o) rest (tr a)) (hN:X.N.Nodup) (hi:X.N[i]?=some n) (hl:X.env.kindOf n=some .local) (Ni:X.env.scope.names.lookup n=some .local) (hj:X.N[j]?=some y) (hy:X.env.scope.names.lookup y=some .local)
  (hd:(n==("__debug__" : Str))=false:=by decide) (LY:(n==("__classdict__" : Str))=false:=by decide) (OX:swapsWith (.Name n p2) (some (.Name y p1)) p3.line X.env=pure false:=by rfl)
  (hs:X.stack=X.env::X.outer:=by rfl) (hf:X.env.frame=some X.env.locals:=by rfl) (KN:(x==("__debug__" : Str))=false:=by decide):
  PSs X (.Try body [.ExceptHandler (some (.Name x np)) (some n) [.Assign [.Name y p1] (.Name n p2) p3] NM] [] [] pos::rest) (fun D σ H=>tx σ H fun H'=>∀a,tr a D (((σ.set i (some (.ref a))).set j (some (.ref a))).set i none) H'):=by
 intro pr s σ H D I h;refine Wh (wpAny_Try_except (VN (hx pr s σ H _ I h) (fun _ _ z=>z.elim) fun e s1 z=>?_));obtain⟨s0,H1,I1,a,tt,B,H',rfl,MU,hgen,un,hok,L5,Nl,hW⟩:=z;have nt:∀b,H' b≠none->b∉Kv X.stack:=fun b n z=>by
  obtain⟨_,o,ho,_⟩:=I1.stack.mem z;exact n (un.free b o ho (I1.stkFree b z) fun z=>nomatch z)
 have key:∀h6:Heap,Heap.FlyingW B X.stack a (.ref C) (.ref tt) h6->s1.heap.UpToSlots h6->Inv X pr σ H' {s1 with heap:=h6}:=fun h6 f6 sm=>by
  have sl:∀b u,s1.heap.get? b=some u->b∈Kv X.stack->∃z,h6.get? b=some {u with slots:=z}:=fun b u q n=>by
   obtain⟨_,o,ho,hd⟩:=L5.2.2.1.mem n;rw[q]at ho;cases ho;exact sm b u q hd
  refine I1.call' (ch:=[]) MU ⟨fun b o q n hb hx=>?_,fun b o q n hb hx=>?_,un.free,fun b o q hx=>?_,un.tups,un.frzs,un.tbls⟩ (fun b o e=>?_) hgen fun b z=>nomatch z
  ·have:=un.keep b o q n hb hx;exact f6.1 b o (Nl b o this (.inr ⟨o,q⟩) hb)
  ·obtain⟨z,e⟩:=un.slot b o q n hb hx;obtain⟨z',e'⟩:=sl b _ e hb;exact⟨z',e'⟩
  ·obtain⟨o',e⟩:=un.there b o q hx;by_cases hb:b∈Kv X.stack
   ·obtain⟨z,e'⟩:=sl b o' e hb;exact⟨_,e'⟩
   ·exact⟨o',f6.1 b o' (Nl b o' e (.inr ⟨o,q⟩) hb)⟩
  ·refine(hok b o e).stay (fun c u hc q=>?_) (fun _ q=>q) fun _ _ q=>q
   have hc:H' c≠none:=by
    rcases hc with rfl|hc
    ·rw[e];exact fun z=>nomatch z
    ·rw[hc];exact fun z=>nomatch z
   exact f6.1 c u (Nl c u q (.inl hc) (nt c hc))
 have Th:a∉Kv X.stack:=fun z=>by
  obtain⟨_,o,ho,hd⟩:=L5.2.2.1.mem z;obtain⟨_,_,_,oe,vs,T,oT,ts,he,_,hv,_⟩:=L5;rw[he]at ho;cases ho;exact hd vs hv
 have naH:H' a=none:=by
  cases hq:H' a with
  |none=>rfl
  |some u=>
   exfalso;obtain⟨ob,e⟩:=ook_get (hok a u hq);have:=Nl a ob e (.inl (by rw[hq];exact fun z=>nomatch z)) Th;rw[L5.2.1]at this;cases this
 have naL:a≠X.env.locals:=fun z=>Th (by
  unfold Kv;rw[hs,WC,hf,z];exact UR)
 have naF:a∉X.fs:=fun z=>Th (by
  have z:a∈X.outer.filterMap (·.frame):=z;unfold Kv;rw[hs,WC,hf];exact US _ z)
 have fl:Heap.FlyingW B (X.env::X.outer) a (.ref C) (.ref tt) s1.heap:=by rw[<-hs];exact L5
 refine wpAny_looks_onW (by rw[<-hs];exact I1.ok.frames) hf fl fun h4 L1 R6=>?_
 refine wpAny_landsW L1 fun h5 Pf sm5=>?_
 have Ro:=R6.trans sm5;have I5:=wK (key h5 (by rw[hs];exact Pf) Ro) a;obtain⟨ob,hob,hobc⟩:=Pf.there;refine wpAny_handleBy_cons (codeAny_handlers_test (iV I5 hg (show(handX X a).mg x=some (.ref P) from by obtain⟨_,_,_,_,_,O⟩:=O;exact O.bound) ?_ KN)) (by intro q;cases q);obtain⟨_,_,_,bm,FB,O⟩:=O;obtain⟨tl,N,nm,q,bs,hdct,sn,sub,ab,col,dd,k0,k1,k2,k3,k5,mN,hC,hNN,T2,T⟩:=O.obj;refine wR I5.kIn up (I5.bk _ _ hC) hob hobc (T.hasType FB.hasBase) (codeAny_handlers_suite_as ?_);refine lands_againW Pf fun h6 Rp sm6=>?_
 have I6:=key h6 (by rw[hs];exact Rp) (Ro.trans sm6);obtain⟨_,_,_,oe,vs,_,_,_,he,LC,hv,_⟩:=id Rp;have I7:=DK (a:=a) (o:=oe) I6 he naH naL naF fun v z=>by rw[hv]at z;cases z
 have MO:i<σ.length:=by rw[I.len];exact(U0.mp hi).1
 refine ka (X:=asX X a oe) (x:=n) (i:=i) (v:=.ref a) I7 hN hi (.inl Ni) rfl (fun s2 I2=>?_) (.inr Ni);have Rq:PSs (asX X a oe) [.Assign [.Name y p1] (.Name n p2) p3] _:=iM (rQ (X:=asX X a oe) (i:=j) hN hj (.inl hy) (yf (X:=asX X a oe) hi (.inl Ni) hd LY) OX (.inr hy)) nL;refine VN (Rq pr s2 _ H' {nx:=fun σ' Ma=>σ'=(σ.set i (some (.ref a))).set j (some (.ref a))/\Ma=H',rt:=fun _ _=>False} I2 ⟨.ref a,VU MO,rfl,rfl⟩) (fun f s3 q=>?_) fun _ _ z=>z.elim
 have go:∀{σ':L2.St}{Ma:Hp},Inv (asX X a oe) pr σ' Ma s3->∀{Q:Unit->Shared->Prop}{A':Around}{E':Value->Shared->Prop},(∀s4,Inv (CS X a oe) pr (σ'.set i none) Ma s4->Q () s4)->wpAny (model X.prog X.w) A' (do bindName X.env n .none;unbindBehindTheSuite X.env n NM) Q E' s3:=fun{σ' Ma} I8 {Q A' E'} kk=>by
  have I9:=BJ I6.ok I8;obtain⟨m,hm,_⟩:=id I9.loc;exact wpAny_nameGoes_keeps hl hm (by rw[I9.ok.kind];rfl) fun h' v MA sb=>kk _ (wM (X:=CS X a oe) I9 hN hi hm MA sb)
 cases f with
 |next=>
  obtain⟨σ',Ma,I8,rfl,rfl⟩:=q;refine go I8 fun s4 I9=>Kh (hr a oe vs LC.1 hv pr s4 _ _ D I9 (hW a)) fun f s5 q=>?_
  cases f with
  |next=>obtain⟨σ',Ma,I,q⟩:=q;exact⟨_,_,gw I6.ok I,q⟩
  |brk=>obtain⟨σ',Ma,I,q⟩:=q;exact⟨_,_,gw I6.ok I,q⟩
  |cont=>obtain⟨σ',Ma,I,q⟩:=q;exact⟨_,_,gw I6.ok I,q⟩
  |ret u=>obtain⟨v,σ',Ma,I,r,q⟩:=q;exact⟨v,_,_,gw I6.ok I,r,q⟩
 |brk=>obtain⟨_,_,_,z⟩:=q;exact z.elim
 |cont=>obtain⟨_,_,_,z⟩:=q;exact z.elim
 |ret u=>obtain⟨_,_,_,_,_,z⟩:=q;exact z.elim
section
variable{e:Expr}{es:List Expr}{x y:Str}{C:Addr}{k i:Nat}{sp:Sp}{p pos:Pos}
end
end NX
namespace PV
inductive tBT(i:Nat)(a:Addr)(b:Bool)(σ:L2.St)(H:Hp)(Q:Bool->Hp->Prop):Prop
 |mk:σ[i]?=some (some (.ref a))->(∀H',Ext H H'->Q b H')->tBT i a b σ H Q
def BT(X:Cx)(e:Expr)(i:Nat)(a:Addr)(b:Bool):Prop:=PT X e (tBT i a b)
def BW(X:Cx)(e:Expr)(i:Nat)(a:Addr)(b:Bool):Prop:=PW X e (tBT i a b)
section
variable{X:Cx}{a:Addr}{i:Nat}{e d ct:Expr}{es:List Expr}{b c:Bool}{pos:Pos}{rest sb:List Stmt}{t:TS}
theorem xD(h:BE X e i a (.con b))(he:∀whole,isTrue e X.env whole=(do let v <-whole;standAt e.pos;holding [v] (truthy v)):=by intro _;rfl):BT X e i a b:=i8 (yj h he) fun σ H Q ⟨hi,k⟩=>⟨[],b,hi,(fun j b z=>by cases z),rfl,fun H' x=>⟨b,rfl,k H' x⟩⟩
theorem yQ(h:BT X e i a b):BT X (.UnaryOp .Not e pos) i a (!b):=i8 (ym h) fun σ H Q ⟨hi,k⟩=>⟨hi,k⟩
theorem yR(h:BT X e i a b):BW X (.BoolOp .Or [e] pos) i a b:=yk h
theorem EX(h:BT X e i a false)(h2:BW X (.BoolOp .Or (d::es) pos) i a b):BW X (.BoolOp .Or (e::d::es) pos) i a b:=tw (CZ h h2) fun σ H Q ⟨hi,k⟩=>⟨hi,fun H1 x1=>iteF ⟨hi,fun H2 x2=>k H2 (x1.trans x2)⟩⟩
theorem IH(h:BW X e i a b):BT X e i a b:=h.pt
end
section
variable{X:Cx}
noncomputable def rp(l:List Nat):List Nat:=(reprText (S l)).cps.toList
end
end PV
namespace NX
section
variable{X:Cx}{rest body:List Stmt}{tx:TX}{te to:TE}{tb:TS}{ux:L2.St->Hp->Prop}{e o:Expr}{es:List Expr}{x:Str}{C:Addr}{pos p apos J3:Pos}{Ww:Hp->Prop}{T id:String}{name:Str}
end
end NX
namespace PV
section
variable{X:Cx}{rest body:List Stmt}{xe:FXE}{x bx:FB}{f:FX}{g:FS}{a:FG}{fi:FI}{e o tg iter:Expr}{es:List Expr}{y:Str}{C:Addr}{pos p apos J3:Pos}{Ww:Hp->Prop}{T id:String}
end
end PV
namespace NX
variable{M:Model}{A:Around}{E:Value->Shared->Prop}{env:Env}{s:Shared}
section
def JA(M:Model)(A:Around)(E:Value->Shared->Prop)(MF:Env)(r:Result)(s':Shared):Prop:=match r with
 | .ok _=>False
 | .error x=>∃m,s'.heap.Ns MF.locals m/\∀h',Heap.SameBut MF.locals s'.heap h'->wpAny M A (passOn "comprehension.variables-let-go" x MF:Sem Value) (fun _ _=>False) E {s' with heap:=h'}
theorem same{B:Type}{t:Sem B}{Q Q':B->Shared->Prop}(h:wpAny M A t Q E s)(k:∀b s,Q b s->Q' b s):wpAny M A t Q' E s:=VN h k fun _ _ z=>z
end
variable{e:Value}{α:Type}
section
theorem uA{env':Env}(h:env.frame=env'.frame):noteFrame e env=noteFrame e env':=by
 unfold noteFrame PySem.frameOf;rw[h]
theorem uB{NN:String}{env':Env}(h:env.frame=env'.frame):(passOn NN e env:Sem α)=passOn NN e env':=by
 unfold PySem.passOn;rw[h]
theorem uC{base:Heap}{l:List Env}{L e:Addr}{cls a0:Value}{NN:String}{Q:α->Shared->Prop}(hf:env.frame=some L)(hh:Heap.HeldW base l e cls a0 L s.heap)
  (hE:∀h',Heap.HeldW base l e cls a0 L h'->(∀b o,s.heap.get? b=some o->(∀vs,o.data≠.fields vs)->h'.get? b=some o)->E (.ref e) {s with heap:=h'}):wpAny M A (passOn NN (.ref e) env:Sem α) Q E s:=by
 obtain⟨hkb,hen,hl,oe,vs,T,oT,ts,he,L6,hd,h1,Qh,R7,hT,Qi,h3⟩:=hh;have Rr:3<ts.size:=(Array.getElem?_eq_some_iff.mp h3).1;have other:∀b,b≠T->(s.heap.update T (Obj.mapFields (·.setIfInBounds 3 ((some L).elim Value.none fun f=>rawInt f)))).get? b=s.heap.get? b:=fun b hb=>VE _ _ (Wx hb)
 have Uk:∀b o,s.heap.get? b=some o->(∀vs,o.data≠.fields vs)->b≠T:=fun b o hb Rt q=>by
  rw[q,hT]at hb;injection hb with hb;subst hb;exact Rt ts Qi
 unfold PySem.passOn;refine UQ (V3 he hd h1 ?_);rw[U6 (by simp)];refine UQ ?_;unfold setFlight;rw[hf];refine UQ (V3 he hd h1 ?_);rw[U2 (show(Value.ref T != Value.none)=true from by simp)];refine Zk hT Qi Rr (wpAny_throw (hE _ ⟨fun b o Ti=>(other b fun q=>by rw[q,Qh]at Ti;cases Ti).trans (hkb b o Ti),hen,hl.of_keeps fun b o hb Rt=>⟨o,(other b (Uk b o hb Rt)).trans hb,rfl⟩,?_⟩ fun b o hb Rt=>(other b (Uk b o hb Rt)).trans hb));exact⟨oe,vs,T,_,_,(other e (Wx R7)).trans he,L6,hd,h1,Qh,R7,Xf _ hT (Obj.isFreed_of_fields (XB Qi _)),XB Qi _,by simp[Rr]⟩
end
def XPF(X:Cx)(C:Addr)(Ww:Hp->Prop)(e:Value)(s':Shared):Prop:=∃(a t:Addr) (B:Heap) (H':Hp) (L:Addr),X.env.frame=some L/\e=.ref a/\s'.os=X.s₀.os/\AllBare s'.gens/\Un X.fs X.ex X.H₀ H' X.s₀.heap s'.heap/\HOk X.prog X.w H' s'.heap/\
 Heap.HeldW B X.stack a (.ref C) (.ref t) L s'.heap/\(∀b u,s'.heap.get? b=some u->(H' b≠none\/∃o,X.s₀.heap.get? b=some o/\b∉X.ex)->b∉Kv X.stack->B.get? b=some u)/\(∀b,H' b≠none->b∉Kv X.stack)/\Ww H'
variable{X:Cx}{scope:Scope}{wi:TI}{g:TG}{te:TE}{tx:TX}
section
variable{N:List Str}{tg iter elt:Expr}{pos:Pos}{Cl:Addr}
theorem comp_out{pr Mi:List (Addr×Obj)}{σ σ6:L2.St}{H2:Hp}{s2 s9:Shared}{fp:List Addr}{C L:Addr}{Ww:Hp->Prop}(I2:Inv X pr σ H2 s2)(f2:∀b∈fp,qA X pr H2 b)(hC:s2.heap.objs.size<=C)
  (hs:X.stack=X.env::X.outer) (hf:X.env.frame=some L) (xp:XP (aY X scope N C s2 H2 fp (X.pn++pr)) Mi σ6 Cl Ww e s9):
  notedBy (model X.prog X.w) X.A (compEnvC scope (clOf scope X.env) C X.env) (fun e s'=>JA (model X.prog X.w) X.A (XPF X Cl Ww) (compEnvC scope (clOf scope X.env) C X.env) (.error e) s') e s9:=by
 obtain⟨s8,H8,I8,a,t,B,H',rfl,os,bare,U,hok,L5,Nl,hW⟩:=xp;have MK:Un (Kv X.stack) fp H2 H8 s2.heap s8.heap:=I8.base;have Tj:H8 C=none:=I8.free;have os8:s8.os=s2.os:=I8.os;have U:Un (Kv X.stack) [] H8 H' s8.heap s9.heap:=U;have L5:Heap.FlyingW B X.stack a (.ref Cl) (.ref t) s9.heap:=L5;have Nl:∀b u,s9.heap.get? b=some u->(H' b≠none\/∃o,s8.heap.get? b=some o)->b∉Kv X.stack->B.get? b=some u:=Nl;have hok:HOk X.prog X.w H' s9.heap:=hok;obtain⟨m,MM,_⟩:=I8.loc;have MM:s8.heap.Ns C m:=MM;obtain⟨oC,es,ep,R8,hdC,hrC⟩:=id MM;have stk:∀b,b∈Kv X.stack->∃o,s2.heap.get? b=some o:=fun b z=>by
  obtain⟨_,o,ho,_⟩:=I2.stack.mem z;exact⟨o,ho⟩
 have nC:C∉Kv X.stack:=fun z=>by
  obtain⟨o,ho⟩:=stk C z;exact absurd (U8 ho) (Nat.not_lt.mpr hC)
 have Ul:s9.heap.get? C=some oC:=U.keep C oC R8 Tj nC (fun z=>nomatch z);have nt:∀b,H' b≠none->b∉Kv X.stack:=fun b n z=>by
  obtain⟨o,ho⟩:=stk b z;have f1:=I2.stkFree b z;have OH:b∉fp:=fun hb=>by
   have:=(f2 b hb).2.2.1;have h2:=(f2 b hb).2.1;exact(U5.mp (I2.stkSub b z)).elim h2 this
  obtain⟨o1,e1⟩:=MK.there b o ho OH;exact n (U.free b o1 e1 (MK.free b o ho f1 OH) (fun z=>nomatch z))
 unfold notedBy;rw[uA (env:=compEnvC scope (clOf scope X.env) C X.env) (env':=X.env) rfl];have fl:Heap.FlyingW B (X.env::X.outer) a (.ref Cl) (.ref t) s9.heap:=by rw[<-hs];exact L5
 refine wpAny_looks_onW (by rw[<-hs];exact I2.ok.frames) hf fl fun h4 L1 R6=>?_
 have L1:Heap.HeldW B X.stack a (.ref Cl) (.ref t) L h4:=by rw[hs];exact L1
 refine⟨m,R6.ns ⟨oC,es,ep,Ul,hdC,hrC⟩,fun h5 sb=>?_⟩;rw[uB (env:=compEnvC scope (clOf scope X.env) C X.env) (env':=X.env) rfl];have Um:∀b o,(PySem.W.hideAll B [C]).get? b=some o->B.get? b=some o/\b≠C:=fun b o q=>⟨Yb _ q,fun z=>by
  rw[z,Ze [C] UR]at q;cases q⟩
 have Tn:∀b,B.get? b=none->(PySem.W.hideAll B [C]).get? b=none:=fun b q=>by
  cases z:(PySem.W.hideAll B [C]).get? b with
  |none=>rfl
  |some o=>
   have:=(Um b o z).1;rw[q]at this;cases this
 have To:B.get? C=some oC:=Nl C oC Ul (.inr ⟨oC,R8⟩) nC;have ne5:∀b,b≠C->h5.get? b=h4.get? b:=fun b hb=>sb.2 b hb
 have ff:∀{l:List Env},h4.FunFrames B l->h5.FunFrames (PySem.W.hideAll B [C]) l:=fun{l}=>by
  induction l with
  |nil=>exact fun _=>trivial
  |cons en l ih=>
   rintro⟨hk,⟨L',o,R9,MA,MS,ON⟩,hr⟩;exact⟨hk,⟨L',o,R9,Tn _ MA,(ne5 L' fun z=>by rw[z,To]at MA;cases MA).trans MS,ON⟩,ih hr⟩
 have Ru:Heap.HeldW (PySem.W.hideAll B [C]) X.stack a (.ref Cl) (.ref t) L h5:=by
  obtain⟨k1,k2,k3,oe,vs,T,oT,ts,he,L6,hd,h1,Qh,R7,hT,Qi,h3⟩:=L1;have aC:a≠C:=fun z=>by rw[z,To]at k2;cases k2
  have TC:T≠C:=fun z=>by rw[z,To]at Qh;cases Qh
  refine⟨fun b o q=>?_,Tn _ k2,ff k3,oe,vs,T,oT,ts,(ne5 a aC).trans he,L6,hd,h1,Tn _ Qh,R7,(ne5 T TC).trans hT,Qi,h3⟩;obtain⟨q1,q2⟩:=Um b o q;exact(ne5 b q2).trans (k1 b o q1)
 refine uC (s:={s9 with heap:=h5}) hf Ru fun h6 OI k6=>?_
 have Mq:∀b u,s9.heap.get? b=some u->(H' b≠none\/∃o,s8.heap.get? b=some o)->b∉Kv X.stack->b≠C->h6.get? b=some u:=fun b u q hh n hb=>OI.1 b u (W2 [C] (Nl b u q hh n) (by
  intro z;exact hb (Vi.mp z)))
 have Uo:∀b u,s9.heap.get? b=some u->b∈Kv X.stack->∃z,h6.get? b=some {u with slots:=z}:=fun b u q n=>by
  obtain⟨_,o,ho,hd⟩:=L5.2.2.1.mem n;rw[q]at ho;cases ho;obtain⟨z,e4⟩:=R6 b u q hd;exact⟨z,k6 b _ ((ne5 b fun zz=>nC (zz▸n)).trans e4) hd⟩
 have ME:∀b o,X.s₀.heap.get? b=some o->b≠C:=fun b o e z=>by
  have:=U8 e;have h2:=I2.sz;rw[z]at this;lia
 have OH:∀b o,X.s₀.heap.get? b=some o->b∉X.ex->b∉fp:=fun b o e hx hb=>by
  rcases(f2 b hb).2.2.2.1 with z|z
  ·exact hx z
  ·exact absurd (U8 e) (Nat.not_lt.mpr z)
 have Pg:∀b,b∈X.fs->b∈Kv X.stack:=fun b hb=>by
  have hb:b∈X.outer.filterMap (·.frame):=hb;unfold Kv;rw[hs,WC,hf];exact US _ hb
 have nst:∀b o,X.s₀.heap.get? b=some o->b∉X.fs->b∉Kv X.stack:=fun b o e n z=>(U5.mp (I2.stkSub b z)).elim (fun r=>by
  have:=U8 e;have h2:=I2.ok.above;rw[r]at this;lia) n
 refine⟨a,t,_,H',L,hf,rfl,os.trans (os8.trans I2.os),bare,⟨fun b o q n hb hx=>?_,fun b o q n hb hx=>?_,fun b o q n hx=>?_,fun b o q hx=>?_,fun c xs q=>U.tups c xs (MK.tups c xs (I2.base.tups c xs q)),fun c ob xs q=>U.frzs c ob xs (MK.frzs c ob xs (I2.base.frzs c ob xs q)),fun c ps q=>?_⟩,fun b o e=>?_,OI,fun b u q hb n=>?_,nt,hW⟩
 ·have e2:=I2.base.keep b o q n hb hx;have n2:=I2.base.free b o q n hx;have nf:=OH b o q hx;have ns:=nst b o q hb;have e8:=MK.keep b o e2 n2 ns nf;have e9:=U.keep b o e8 (MK.free b o e2 n2 nf) ns (fun z=>nomatch z);exact Mq b o e9 (.inr ⟨o,e8⟩) ns (ME b o q)
 ·obtain⟨z2,e2⟩:=I2.base.slot b o q n hb hx;have n2:=I2.base.free b o q n hx;have nf:=OH b o q hx;obtain⟨z8,e8⟩:=MK.slot b _ e2 n2 (Pg b hb) nf;obtain⟨z9,e9⟩:=U.slot b _ e8 (MK.free b _ e2 n2 nf) (Pg b hb) (fun z=>nomatch z);obtain⟨z6,e6⟩:=Uo b _ e9 (Pg b hb);exact⟨z6,e6⟩
 ·obtain⟨o2,e2⟩:=I2.base.there b o q hx;have n2:=I2.base.free b o q n hx;have nf:=OH b o q hx;obtain⟨o8,e8⟩:=MK.there b o2 e2 nf;exact U.free b o8 e8 (MK.free b o2 e2 n2 nf) (fun z=>nomatch z)
 ·obtain⟨o2,e2⟩:=I2.base.there b o q hx;have nf:=OH b o q hx;obtain⟨o8,e8⟩:=MK.there b o2 e2 nf;obtain⟨o9,e9⟩:=U.there b o8 e8 (fun z=>nomatch z);by_cases hb:b∈Kv X.stack
  ·obtain⟨z,e6⟩:=Uo b o9 e9 hb;exact⟨_,e6⟩
  ·exact⟨o9,Mq b o9 e9 (.inr ⟨o8,e8⟩) hb (ME b o q)⟩
 ·obtain⟨m0,e0⟩:=I2.base.tbls c ps q;obtain⟨m1,e1⟩:=MK.tbls c _ e0;obtain⟨m2,e2⟩:=U.tbls c _ e1;exact⟨m0++m1++m2,by rw[e2,WO,WO,WO]⟩
 ·refine(hok b o e).stay (fun c u hc q=>?_) (fun _ q=>q) fun _ _ q=>q
  have hn:H' c≠none:=by
   rcases hc with rfl|hc
   ·rw[e];exact fun z=>nomatch z
   ·rw[hc];exact fun z=>nomatch z
  exact Mq c u q (.inl hn) (nt c hn) fun z=>hn (by rw[z];exact U.free C oC R8 Tj (fun z=>nomatch z))
 ·have Uq:b≠C:=by
   rcases hb with hb|⟨o,ho,_⟩
   ·exact fun z=>hb (by rw[z];exact U.free C oC R8 Tj (fun z=>nomatch z))
   ·exact ME b o ho
  have h1:∃u0,s9.heap.get? b=some u0/\(H' b≠none\/∃o,s8.heap.get? b=some o):=by
   rcases hb with hb|⟨o,ho,hx⟩
   ·cases hq:H' b with
    |none=>exact absurd hq hb
    |some ho=>
     obtain⟨u0,e0⟩:=ook_get (hok b ho hq);exact⟨u0,e0,.inl (fun z=>nomatch z)⟩
   ·obtain⟨o2,e2⟩:=I2.base.there b o ho hx;obtain⟨o8,e8⟩:=MK.there b o2 e2 (OH b o ho hx);obtain⟨o9,e9⟩:=U.there b o8 e8 (fun z=>nomatch z);exact⟨o9,e9,.inr ⟨o8,e8⟩⟩
  obtain⟨u0,e0,hh⟩:=h1;have:=Mq b u0 e0 hh n Uq;rw[show h6.get? b=some u from q]at this;cases this;exact W2 [C] (Nl b _ e0 hh n) (fun z=>Uq (Vi.mp z))
end
section
variable{tg iter elt:Expr}{pos:Pos}{Cl:Addr}
end
section
variable{e:Expr}{es:List Expr}{x:Str}{C:Addr}{pos p:Pos}{T id:String}
end
end NX
namespace PV
section
variable{X:Cx}{scope:Scope}{rest:List Stmt}{tg iter elt e:Expr}{es:List Expr}{pos p:Pos}{fi:FI}{a:FG}{f:FX}{x:FXE}{b:FB}{C:Addr}{Ww:Hp->Prop}{y:Str}{id:String}
end
section
variable{X:Cx}{a:Addr}{i:Nat}{e e1 e2 ct:Expr}{b:Bool}{l l1 l2:List Nat}{pos p q bp:Pos}{rest sb:List Stmt}{v:V}
theorem BK:Kz X (binaryOp .Mult) (fun x y H Q=>∃(l:List Nat) (b:Bool),x=.str (S l)/\y=.int (if b=true then 1 else 0)/\Q (.str (S (if b=true then l else[]))) H):=by
 rintro pr s σ H x y v u Q I rx ry ⟨l,b,ex,ey,q⟩;subst ex ey;obtain⟨t,rfl⟩:=rx;obtain⟨t',rfl⟩:=ry;cases b with
 |false=>exact PySem.P.mul_str_none (by decide) (by decide) ⟨.str (S []),H,I.tok _,⟨_,rfl⟩,q⟩
 |true=>
  refine PySem.P.mul_str (by decide) (fun _ z=>by cases z) (fun _ z=>by cases z) ?_;exact⟨.str (S l),H,I,⟨_,rfl⟩,q⟩
inductive tSE(i:Nat)(a:Addr)(l:List Nat)(σ:L2.St)(H:Hp)(Q:VK):Prop
 |mk:σ[i]?=some (some (.ref a))->(∀H',Ext H H'->Q (.str (S l)) H')->tSE i a l σ H Q
def SE(X:Cx)(e:Expr)(i:Nat)(a:Addr)(l:List Nat):Prop:=PE X e (tSE i a l)
theorem kM{x:Str}{j cp}(hx:x=S l)(h:BE X e i a (.con b))(hg:Gl X "int")(hm:X.mg "int" = none)(Lz:starEach [e] X.env=(false,eval e X.env)::starEach [] X.env:=by rfl)(KA:(backTo pos (starEach [] X.env)).any (·.1)=false:=by rfl):
  SE X (.BinOp (.Constant (.str x) j cp) .Mult (.Call (.Name "int" p) [e] [] pos) bp) i a (if b=true then l else[]):=
 aJ (zN BK yi (lM uy hg hm (by decide +kernel) (a9 h dN Lz) (by decide) (by decide) Lz KA)) fun σ H Q J2=>by
  obtain⟨hi,k⟩:=J2;subst hx;exact⟨[],b,hi,(fun j b z=>by cases z),rfl,fun H1 x1=>⟨b,rfl,l,b,rfl,rfl,k H1 x1⟩⟩
theorem yS(h1:SE X e1 i a l1)(h2:SE X e2 i a l2)(hl:l1.length+l2.length<=1000):SE X (.BinOp e1 .Add e2 bp) i a (l1++l2):=aJ (zN jL h1 h2) fun σ H Q ⟨hi,k⟩=>
 ⟨hi,fun H1 x1=>⟨hi,fun H2 x2=>⟨_,_,rfl,rfl,by rw[lS,lS,line_eq];lia,by rw[Dt];exact k H2 (x1.trans x2)⟩⟩⟩
noncomputable def Sa(i:Nat)(a:Addr)(v:V):TS:=fun D σ H=>σ[i]?=some (some (.ref a))/\∀H',Ext H H'->D.rt v H'
theorem EY(h:BT X ct i a false)(hr:PSs X rest (Sa i a v)):PSs X (.If ct sb [] pos::rest) (Sa i a v):=fun pr s σ H D I ⟨hi,k⟩=>
 Wh (wpAny_If (Kh (h pr s σ H (fun b H'=>b=false/\Ext H H') I ⟨hi,fun H' x=>⟨rfl,x⟩⟩) fun d s1 J2=>by
  obtain⟨H1,I1,e,x1⟩:=J2;subst e;exact Xz (hr pr s1 σ H1 D I1 ⟨hi,fun H2 x2=>k H2 (x1.trans x2)⟩)))
theorem yT(h:SE X e i a l):PSs X [.Return (some e) pos] (Sa i a (.str (S l))):=ky (iM (rP h) nL) fun D σ H ⟨hi,k⟩=>⟨hi,k⟩
inductive tTF(K:W.Frag)(F:List D->Bool)(C:Addr)(l:List Nat)(D:Ends)(σ:L2.St)(H:Hp):Prop
 |mk:∀v u,σ=[some v,some u,none,none]->spX K C F [v,u] H (fun _ _=>False) (fun _ _ H'=>∀Ma,Ext H' Ma->D.rt (.str (S l)) Ma)->tTF K F C l D σ H
theorem yU{k:Nat}{y nt nu n ye x:Str}{F:List D->Bool}{C P:Addr}{rest:List Stmt}{j p0 p1 p2 p3 p4 pu p5 p6 p7 pos np NM p8 p9:_}(c:CtX X.prog X.w X.K X.mg X.base y k C (spX X.K C F))(hr:Room k X.A)(hgy:Gl X y)(O:XCl X.mg X.base x P)(up:PySem.W.mroIn X.K C (.ref P)=some true)(hg:Gl X x)
  (Rv:∀a o vs,o.cls=.ref C->o.data=.fields vs->PSs (CS X a o) rest (Sa 2 a (.str (S l))))
  (hN:X.N.Nodup) (h1:PE X.nox (.Name nt p4) (nK 0)) (h2:PE X.nox (.Name nu pu) (nK 1)) (hj:X.N[2]?=some ye) (hy:X.env.scope.names.lookup ye=some .local) (hi:X.N[3]?=some n) (hl:X.env.kindOf n=some .local) (Ni:X.env.scope.names.lookup n=some .local)
  (hd:(n==("__debug__" : Str))=false:=by decide) (LY:(n==("__classdict__" : Str))=false:=by decide) (hs0:swapsWith (.Constant .none j p1) (some (.Name ye p0)) p2.line X.env=pure false:=by rfl) (hs1:swapsWith (.Call (.Name y p3) [.Name nt p4,.Name nu pu] [] p5) none p6.line X.env=pure false:=by rfl) (OX:swapsWith (.Name n p8) (some (.Name ye p7)) p9.line X.env=pure false:=by rfl)
  (he:starEach [.Name nt p4,.Name nu pu] X.env=(false,eval (.Name nt p4) X.env)::starEach [.Name nu pu] X.env:=by rfl) (O3:starEach [.Name nu pu] X.env=(false,eval (.Name nu pu) X.env)::starEach [] X.env:=by rfl) (KA:(backTo p5 (starEach [.Name nu pu] X.env)).any (·.1)=false:=by rfl)
  (hs:X.stack=X.env::X.outer:=by rfl) (hf:X.env.frame=some X.env.locals:=by rfl) (KN:(x==("__debug__" : Str))=false:=by decide) (hdby:(y==("__debug__" : Str))=false:=by decide):
  PSs X (.Assign [.Name ye p0] (.Constant .none j p1) p2::.Try [.Expr (.Call (.Name y p3) [.Name nt p4,.Name nu pu] [] p5) p6] [.ExceptHandler (some (.Name x np)) (some n) [.Assign [.Name ye p7] (.Name n p8) p9] NM] [] [] pos::rest) (tTF X.K F C l):=
 ky (iM (rQ (i:=2) hN hj (.inl hy) yh hs0 (.inr hy)) (pss_keep (i:=3) (j:=2) O up hg (wJ (pe c hr hgy (a9 h1 (a9 h2 dN O3) he) hdby he KA) hs1) Rv hN hi hl Ni hj hy hd LY OX hs hf KN)) fun D σ H J2=>by
  obtain⟨v,u,e,sp⟩:=J2;subst e;refine⟨v,rfl,u,rfl,?_⟩;obtain⟨G,ds,gh,rs,hF,q⟩:=sp;exact⟨G,ds,gh,rs,hF,fun H' G' JU st rel a=>⟨rfl,q H' G' JU st rel⟩⟩
end
section
variable{X:Cx}{f:FX}{b:FB}{x:FXE}{e o:Expr}{es:List Expr}{y:Str}{C:Addr}{pos p apos J3:Pos}{Ww:Hp->Prop}{id:String}{i:Nat}
end
end PV
namespace PV
theorem yV{np nn:Nat}{x:FB}{ds:List D}(e:kK np nn x ds=true):ds.length=np:=by
 unfold kK at e;exact VL ((U4 _ _).mp e).1
end PV
namespace PV
noncomputable def mT1(F:List D->Bool)(l:List Nat):List D->Res R:=fun ds=>if F ds then .ok (.f,.str l) else .bad
theorem uD{P:Program}{w:World}{K:W.Frag}{mg:Str->Option Value}{base:Heap}{x:Str}{st:Stmt}{N ps:List Str}{k:Nat}{F:List D->Bool}{C:Addr}{l:List Nat}(Df:Def K mg x st)(sc:FnScope N ps (defScope st))
  (hb:∀(kV doc pm:Value) (an:Option Addr) (Kc ct:Value) (us:List Value),us.length=ps.length->bindArgs (PySem.W.fnOf x x (bO st) (aU st) (defScope st) .none kV doc pm an Kc ct) ⟨us,[]⟩=pure (ps.zip us))
  (hN:N.length=4) (hp:ps.length=2) (hF:∀ds,F ds=true->ds.length=2) (hl:l.length<=1000)
  (body:∀(f:Addr) (Kc:Value) (A:Around) (outer:List PySem.Env) (s:Shared) (H:Hp) (E:XK),Room k (A.deeper (envOfC x (defScope st) s.heap.objs.size f Kc))->PSs (lK L4 P w K mg base N x (defScope st) f Kc A outer s H E).nox (aU st) (tTF K F C l)):Ct P w K mg base x (k+1) (spF K (mT1 F l)):=by
 obtain⟨f,fd,Fn,m⟩:=Df;refine⟨f,fd,ps,Fn.ok sc (fun vs H Q E h=>?_) (fun Kc A outer s H vs Q E hr h=>?_),m,Fn.kp,Fn.binds hb⟩
 ·obtain⟨G,ds,r,_,rs,e,_⟩:=h;unfold mT1 at e;split at e
  ·rename_i hh;rw[rs.length,hF ds hh,hp]
  ·cases e
 ·obtain⟨G,ds,r,gh,rs,e,q⟩:=h;unfold mT1 at e;split at e
  ·rename_i hh;cases e;have hlen:=hF ds hh;obtain⟨v,u,ev⟩:∃v u,vs=[v,u]:=by have q:=rs.length;rw[hlen]at q;match vs,q with|[v,u],_=>exact⟨v,u,rfl⟩
   subst ev;refine⟨_,body f Kc A outer s H E hr,v,u,?_,G,ds,gh,rs,hh,fun H' G' JU st rel Ma x=>?_⟩
   ·unfold L2.fE;rw[hN];rfl
   ·obtain⟨G2,JR,JW⟩:=x.rel rel;exact q (.str (S l)) Ma G2 [] (st.trans ((Step.cut (fq:=[]) fun _ h=>nomatch h).trans JW)) (JR.push (gS (by rw[line_eq];lia)))
  ·cases e
def MQ(st:Stmt):List Str:=(bO st).args.map (·.arg)
abbrev OJ(st:Stmt):Prop:=FnScope (OF (defScope st)) (MQ st) (defScope st)
abbrev Tp(x:Str)(st:Stmt):Prop:=∀(kV doc pm:Value) (an:Option Addr) (Kc ct:Value) (us:List Value),us.length=(MQ st).length->bindArgs (PySem.W.fnOf x x (bO st) (aU st) (defScope st) .none kV doc pm an Kc ct) ⟨us,[]⟩=pure ((MQ st).zip us)
section
variable{P:Program}{w:World}{K:W.Frag}{mg:Str->Option Value}{base:Heap}{x:Str}{st:Stmt}{k j:Nat}{g:FS}{c:O}{f:Addr}{fd:FuncData}
abbrev Sb(md:Mode)(P:Program)(w:World)(K:W.Frag)(mg:Str->Option Value)(base:Heap)(x:Str)(st:Stmt)(k:Nat)(g:FS)(f:Addr):Prop:=∀(Kc:Value) (A:Around) (outer:List PySem.Env) (s:Shared) (H:Hp) (E:XK),Room k (A.deeper (envOfC x (defScope st) s.heap.objs.size f Kc))->(OF (defScope st)).Nodup->QSs (md:=md) (lK L4 P w K mg base (OF (defScope st)) x (defScope st) f Kc A outer s H E).nox (aU st) g
theorem JB(Df:Def K mg x st)(sc:OJ st)(hb:Tp x st)(body:∀f,Sb .plain P w K mg base x st k g f):Ct P w K mg base x (k+1) (spF K (fBody (MQ st).length ((OF (defScope st)).length-(MQ st).length) g)):=Hk Df sc hb fun f Kc A outer s H E hr=>body f Kc A outer s H E hr sc.nd
theorem HB(Df:Def K mg x st)(sc:OJ st)(hb:Tp x st)(body:∀f,Sb .mut P w K mg base x st k g f):Ct P w K mg base x (k+1) (spM K c (ju (MQ st).length ((OF (defScope st)).length-(MQ st).length) c g)):=EM Df sc hb fun f Kc A outer s H E hr=>body f Kc A outer s H E hr sc.nd
theorem HC(Df:Def K mg x st)(sc:OJ st)(hb:Tp x st)(body:∀f,Sb .mut P w K mg base x st k g f):Ct P w K mg base x (k+1) (spJ j K c (fBodyJ j (MQ st).length ((OF (defScope st)).length-(MQ st).length) c g)):=EU Df sc hb fun f Kc A outer s H E hr=>body f Kc A outer s H E hr sc.nd
theorem EZ(F:Fun K x x st f fd)(sc:OJ st)(body:Sb .plain P w K mg base x st k g f):FnOk P w K mg base L4 (k+1) f fd (MQ st) (spF K (fBody (MQ st).length ((OF (defScope st)).length-(MQ st).length) g)):=fnok_of F sc fun Kc A outer s H E hr=>body Kc A outer s H E hr sc.nd
end
noncomputable def Al(p:Str->Prop):List Str->Prop
 |[]=>True
 |x::l=>p x/\Al p l
theorem Al.mem{p:Str->Prop}{x:Str}:∀{l:List Str},Al p l->l.contains x=true->p x
 |y::l,h,e=>by
  rw[Yc,X1]at e;rcases e with e|e
  ·rw[Vz.mp e];exact h.1
  ·exact Al.mem h.2 e
theorem Al.imp{p q:Str->Prop}(k:∀x,p x->q x):∀{l:List Str},Al p l->Al q l
 |[],h=>h
 |_::_,h=>⟨k _ h.1,Al.imp k h.2⟩
noncomputable def Ad(p:Str->Nat->Prop):List (Str×Nat)->Prop
 |[]=>True
 |x::l=>p x.1 x.2/\Ad p l
theorem Al.cons{p:Str->Prop}{x:Str}{l:List Str}(a:p x)(b:Al p l):Al p (x::l):=⟨a,b⟩
theorem Ad.cons{p:Str->Nat->Prop}{x:Str}{i:Nat}{l:List (Str×Nat)}(a:p x i)(b:Ad p l):Ad p ((x,i)::l):=⟨a,b⟩
theorem Ad.mem{p:Str->Nat->Prop}{x:Str}{i:Nat}:∀{l:List (Str×Nat)},Ad p l->l.contains (x,i)=true->p x i
 |y::l,h,e=>by
  rw[Yc,X1]at e;rcases e with e|e
  ·rw[<-Vz.mp e]at h;exact h.1
  ·exact Ad.mem h.2 e
end PV
namespace LW
open PV
abbrev xE(f:FX):FI:=or2 (CP f) (fM f)
def jv:FS:=(dM (ao bc (aa (av (.int 1))) (aa (xg (cb (xE (ao ixD (oVar 0) (aa (av (.int 1))))) [none,none,none] (gT 3 (ax (aq 0) (ax (aq 1) (ax (aq 2) b6)))) fO (aA maxD (osCons (oVar 0) (osCons (oVar 2) osNil)))) (av (.int 0))))))
def bV:List D->Res R:=fBody 1 0 jv
def mI:FS:=(dM (cb (xE (ao ixD (oVar 0) (aa (av (.int 1))))) [none,none,none,some 1,some 2] (gT 3 (ax (aq 0) (ax (aq 1) (ax (aq 2) b6)))) (tJ (eBl (aT eqO (oVar 0) (oVar 3))) (eBl (aT eqO (oVar 1) (oVar 4)))) (ay 2)))
def gy:List D->Res R:=fBody 3 0 mI
def dW:FS:=(dM (aA bK (osCons (aa (cb (xE (ao ixD (oVar 0) (aa (av (.int 1))))) [none] (aq 0) fO (ao ixD (oVar 0) (aa (av (.int 0)))))) osNil)))
def bP:List D->Res R:=fBody 1 0 dW
def pW:FS:=(sSeq (aW 3 (EI my (aa (ao ixD (oVar 0) (aa (av (.int 0))))) (osCons (oVar 2) osNil)))
  (dM (aA CQ (osCons (aa (cb (kJ (osCons (aa (ay 1)) (osCons (aa (ao ixD (oVar 0) (aa (av (.int 1))))) osNil))) [none,none,some 3] (gT 2 (ax (aq 0) (ax (aq 1) b6))) fO (ao geO (oVar 0) (aa (ao ixD (aa (ao ixD (oVar 1) (aa (av (.int 1))))) (oVar 2)))))) osNil))))
def iQ:List D->Res R:=fBody 3 1 pW
def uE:FS:=(sSeq (sIf (wV (eBl (c7 iQ (osCons (oVar 0) (osCons (oVar 1) (osCons (oVar 2) osNil))))))
  (dM (av .non))
  bM)
  (sSeq (aW 3 (EI my (aa (ao ixD (oVar 0) (aa (av (.int 0))))) (osCons (oVar 2) osNil)))
  (dM (aA bK (osCons (aa (cb (kJ (osCons (aa (ay 1)) (osCons (aa (ao ixD (oVar 0) (aa (av (.int 1))))) osNil))) [none,none,some 3] (gT 2 (ax (aq 0) (ax (aq 1) b6))) fO (ao bc (aa (ao xa (oVar 0) (aa (ao ixD (aa (ao ixD (oVar 1) (aa (av (.int 1))))) (oVar 2))))) (aa (ao ixD (aa (ao ixD (oVar 1) (aa (av (.int 2))))) (oVar 2)))))) osNil)))))
def kN:List D->Res R:=fBody 3 1 uE
def cB:FS:=(sIf (tJ (eBl (aT neO (oVar 4) (oVar 1))) (eBl (aT eqO (aa (ao ixD (aa (ao dgD (oVar 0) (oVar 4))) (aa (av (.int 0))))) (oVar 2))))
  (iJ 0 (cU (af (av (.str [111,110,101])) (af (ao ixD (aa (ao dgD (oVar 0) (oVar 4))) (aa (av (.int 1)))) (af (ay 3) aD)))))
  bM)
def gA:FS:=(xx 0 (aq 4)
  cB)
def mJ:FS:=(sSeq (sIf (eBl (aT rJ (oVar 1) (oVar 0)))
  (sPutP 0 (ay 1) (cU (af (ay 2) (af (ay 3) aD))))
  (sIf (eBl (aT neO (aa (ao ixD (aa (ao dgD (oVar 0) (oVar 1))) (aa (av (.int 0))))) (oVar 2)))
  (iJ 0 (cU (af (av (.str [116,119,111])) (af (ao ixD (aa (ao dgD (oVar 0) (oVar 1))) (aa (av (.int 1)))) (af (ay 3) aD)))))
  bM))
  (iJ 0 (av .non)))
def yW:FS:=(sSeq gA
  mJ)
def mK:Addr->List D->Res R:=ju 4 1 (.d) yW
def bj:FS:=(sSeq (aW 10 (eFunW (.d) mK 2 (osCons (oVar 2) (osCons (oVar 9) (osCons (oVar 7) (osCons (aa (ao bc (oVar 5) (aa (cU (af (ay 6) aD))))) osNil))))))
  (sIf (eBl (aT isnO (oVar 10) (aa (av .non))))
  (iJ 2 (ay 10))
  bM))
def du:FS:=(me (xE (ay 8)) (aq 9)
  bj)
def bo:FS:=(sSeq (aW 7 (c7 kN (osCons (oVar 1) (osCons (oVar 4) (osCons (oVar 6) osNil)))))
  (sSeq (aW 8 (c7 gy (osCons (oVar 0) (osCons (oVar 3) (osCons (oVar 6) osNil)))))
  (sSeq (sIf (tJ (eBl (aT isO (oVar 7) (aa (av .non)))) (eBl (ao gtD (aa (aA dS (osCons (oVar 8) osNil))) (aa (av (.int 0))))))
  (iJ 2 (cU (af (av (.str [115,116,117,99,107])) (af (ay 5) (af (ay 6) aD)))))
  bM)
  (sSeq (sIf (tJ (eBl (aT isnO (oVar 7) (aa (av .non)))) (eBl (aT eqO (aa (aA dS (osCons (oVar 8) osNil))) (aa (av (.int 0))))))
  (iJ 2 (cU (af (av (.str [102,114,101,101])) (af (ay 5) (af (ay 6) aD)))))
  bM)
  du))))
def fR:FS:=(me (xE (ao ixD (oVar 0) (aa (av (.int 0))))) (aq 6)
  bo)
def ie:FS:=(iJ 2 (av .non))
def mL:FS:=(sSeq (aW 4 (ao ixD (aa (ao dgD (oVar 2) (oVar 3))) (aa (av (.int 0)))))
  (sSeq (aW 5 (ao ixD (aa (ao dgD (oVar 2) (oVar 3))) (aa (av (.int 1)))))
  (sSeq fR
  ie)))
def df:Addr->List D->Res R:=fBodyJ 2 4 7 (.d) mL
def dh:FS:=(sSeq (aW 4 (qU 2 (.d) df 2 (osCons (oVar 0) (osCons (oVar 1) (osCons (oVar 2) (osCons (aa (ao ixD (aa (aA qT (osCons (oVar 2) osNil))) (oVar 3))) osNil))))))
  (sSeq (sIf (eBl (aT isnO (oVar 4) (aa (av .non))))
  (dM (jH 4))
  bM)
  (aW 3 (ao bc (oVar 3) (aa (av (.int 1)))))))
def kO:FS:=(bZ (eBl (ao ltO (oVar 3) (aa (aA dS (osCons (oVar 2) osNil)))))
  dh 100000)
def mM:FS:=(dM (cU (af (av (.str [115,97,109,101])) (af (cb (bU (aa (c7 bV (osCons (oVar 0) osNil)))) [none,some 2] (aq 0) fO (ao ixD (aa (ao dgD (oVar 1) (oVar 0))) (aa (av (.int 0))))) aD))))
def yX:FS:=(sSeq (sIf (eBl (aT neO (aa (ao ixD (oVar 0) (aa (av (.int 0))))) (aa (ao ixD (oVar 1) (aa (av (.int 0)))))))
  pC
  bM)
  (sSeq (aW 2 (pN (av (.int 0)) (cU (af (c7 bP (osCons (oVar 1) osNil)) (af (cU aD) aD)))))
  (sSeq (aW 3 (av (.int 0)))
  (sSeq kO
  mM))))
def pX:List D->Res R:=fBody 2 3 yX
def gB:List D->Bool:=kK 2 3 (xIf (eBl (aT neO (aa (ao ixD (oVar 0) (aa (av (.int 0))))) (aa (ao ixD (oVar 1) (aa (av (.int 0))))))) (mG (osCons (aa (av (.str [116,104,101,32,99,104,97,114,116,32,97,110,100,32,116,104,101,32,110,101,116,32,104,97,118,101,32,110,111,116,32,116,104,101,32,115,97,109,101,32,109,111,118,101,115]))) osNil)))
def mO:FS:=(dM (aT eqO (aa (ao ixD (aa (c7 pX (osCons (oVar 0) (osCons (oVar 1) osNil)))) (aa (av (.int 0))))) (aa (av (.str [115,97,109,101])))))
def b9:List D->Res R:=fBody 2 0 mO
def aK:List D->Bool:=kK 2 0 (xOf (xFun gB (osCons (oVar 0) (osCons (oVar 1) osNil))))
def cJ:FS:=(sSeq (aW 4 (ao bc (aa (jI (oVar 2) c9 (cI (ay 3)))) (aa (jI (oVar 2) (cI (ao bc (oVar 3) (aa (av (.int 1))))) c9))))
  (sIf (eBl (xB b9 (oVar 0) (ao ixD (oVar 1) (aa (av (.int 0)))) 4))
  (aW 2 (jH 4))
  bM))
def jw:FS:=(me (gZ (osCons (aa (ao xa (aa (aA dS (osCons (aa (ao ixD (oVar 1) (aa (av (.int 1))))) osNil))) (aa (av (.int 1))))) (osCons (aa (Bj (aa (av (.int 1))))) (osCons (aa (Bj (aa (av (.int 1))))) osNil)))) (aq 3)
  cJ)
def ig:FS:=(dM (xt (ao ixD (oVar 1) (aa (av (.int 0)))) (jH 2)))
def mP:FS:=(sSeq (sIf (wV (eBl (c7 b9 (osCons (oVar 0) (osCons (oVar 1) osNil)))))
  pC
  bM)
  (sSeq (aW 2 (aA gW (osCons (aa (ao ixD (oVar 1) (aa (av (.int 1))))) osNil)))
  (sSeq jw
  ig)))
def dX:List D->Res R:=fBody 2 3 mP
def gC:List D->Bool:=kK 2 3 (xIf (wV (eBl (c7 b9 (osCons (oVar 0) (osCons (oVar 1) osNil))))) (mG (osCons (aa (av (.str [116,104,101,32,110,101,116,39,115,32,114,117,110,32,105,115,32,110,111,116,32,116,104,101,32,99,104,97,114,116]))) osNil)))
def aM:List D->Bool:=kK 2 3 (xOf (xFun aK (osCons (oVar 0) (osCons (oVar 1) osNil))))
def fA:FS:=(sSeq (sIf (eBl (ao ltO (oVar 1) (aa (aA dS (osCons (oVar 0) osNil)))))
  (dM (ao ixD (oVar 0) (oVar 1)))
  bM)
  (dM (av (.int 0))))
def au:List D->Res R:=fBody 2 0 fA
def cC:FS:=(sSeq (aW 10 (ao bc (aa (ao bc (aa (jI (oVar 5) c9 (cI (ay 7)))) (aa (ao ixD (oVar 3) (aa (ao dR (aa (ao bc (oVar 8) (oVar 6))) (aa (av (.int 26))))))))) (aa (jI (oVar 5) (cI (ao bc (oVar 7) (aa (av (.int 1))))) c9))))
  (jb (vP 9 (ao ixD (aa (iG (af (ay 10) (af (av (.str [109,111,118,101,115,97])) aD)))) (aa (aA Ei (osCons (aa (aT eqO (oVar 10) (aa (av (.str [109,111,118,101,115]))))) osNil)))))))
def fB:FS:=(me (bU (oVar 2)) (aq 6)
  cC)
def dY:FS:=(dM (aA cR (osCons (oVar 9) osNil)))
def cD:FS:=(aW 5 (ao bc (oVar 5) (aa (ao ixD (oVar 3) (aa (ao dR (aa (ao bc (aa (ao dQ (oVar 4) (aa (ao bc (oVar 6) (aa (av (.int 1))))))) (aa (ao g7 (aa (ao g7 (aa (av (.int 3))) (oVar 6))) (oVar 6))))) (aa (av (.int 26)))))))))
def fC:FS:=(me (bU (aa (ao bc (aa (av (.int 1))) (aa (ao dR (oVar 4) (aa (av (.int 7)))))))) (aq 6)
  cD)
def dZ:FS:=(sSeq (aW 7 (ao dR (oVar 1) (aa (aA dS (osCons (oVar 5) osNil)))))
  (sSeq (aW 8 (Gk qQ (oVar 3) (osCons (aa (ao ixD (oVar 5) (oVar 7))) osNil)))
  (sSeq (aW 9 (iG aD))
  (sSeq fB
  dY))))
def ij:FS:=(sSeq (aW 3 (av (.str [97,98,99,100,101,102,103,104,105,106,107,108,109,110,111,112,113,114,115,116,117,118,119,120,121,122])))
  (sSeq (aW 4 (ao dR (oVar 0) (aa (ao qO (aa (av (.int 10))) (aa (av (.int 20)))))))
  (sSeq (aW 5 (av (.str [])))
  (sSeq fC
  dZ))))
def cK:List D->Res R:=fBody 3 8 ij
def cc:FS:=(sSeq (aW 2 (ao dR (aa (ao bc (aa (ao bc (aa (ao g7 (oVar 2) (aa (av (.int 48271))))) (aa (ao g7 (oVar 7) (oVar 7))))) (oVar 4))) (aa (av (.int 2147483647)))))
  (jb (vP 6 (ao dR (aa (ao dQ (oVar 2) (aa (av (.int 7))))) (aa (av (.int 4)))))))
def cE:FS:=(me (bU (aa (ao bc (aa (ao g7 (aa (av (.int 2))) (oVar 1))) (aa (av (.int 1)))))) (aq 7)
  cc)
def dI:FS:=(sSeq (aW 8 (aA bK (osCons (aa (cb (xE (jI (oVar 6) c9 (cI (ay 1)))) [none,some 5] (aq 0) fO (ao g7 (oVar 0) (oVar 1)))) osNil)))
  (sSeq (aW 9 (aA bK (osCons (aa (cb (xE (jI (oVar 6) (cI (ay 1)) (cI (ao g7 (aa (av (.int 2))) (oVar 1))))) [none,some 5] (aq 0) fO (ao g7 (oVar 0) (oVar 1)))) osNil)))
  (jb (vP 3 (cU (af (ao bc (aa (ao g7 (aa (ao ixD (oVar 6) (aa (ao g7 (aa (av (.int 2))) (oVar 1))))) (oVar 5))) (aa (ao dR (aa (ao dQ (oVar 2) (aa (av (.int 28))))) (oVar 5)))) (af (ay 8) (af (ay 9) aD))))))))
def bG:FS:=(sSeq (aW 5 (ao bc (aa (av (.int 1))) (aa (ao dR (aa (c7 au (osCons (oVar 0) (osCons (aa (ao bc (aa (av (.int 4))) (oVar 4))) osNil)))) (aa (ao qO (aa (av (.int 10))) (aa (av (.int 40)))))))))
  (sSeq (aW 6 (iG aD))
  (sSeq cE
  dI)))
def d4:FS:=(me (bU (aa (ao bc (aa (av (.int 1))) (aa (ao dR (aa (c7 au (osCons (oVar 0) (osCons (aa (av (.int 3))) osNil)))) (aa (av (.int 3)))))))) (aq 4)
  bG)
def dJ:FS:=(dM (jH 3))
def gD:FS:=(sSeq (aW 2 (ao bc (aa (ao dR (aa (c7 au (osCons (oVar 0) (osCons (aa (av (.int 2))) osNil)))) (aa (av (.int 2147483629))))) (aa (av (.int 1)))))
  (sSeq (aW 3 (iG aD))
  (sSeq d4
  dJ)))
def cn:List D->Res R:=fBody 2 8 gD
def bq:FS:=(sSeq (sIf (eBl (ao ltO (oVar 4) (aa (ao ixD (aa (ao ixD (oVar 5) (aa (av (.int 1))))) (oVar 2)))))
  (dM (av .non))
  bM)
  (jb (vP 3 (ao bc (aa (ao xa (oVar 4) (aa (ao ixD (aa (ao ixD (oVar 5) (aa (av (.int 1))))) (oVar 2))))) (aa (ao ixD (aa (ao ixD (oVar 5) (aa (av (.int 2))))) (oVar 2)))))))
def cT:FS:=(me (kJ (osCons (aa (ay 1)) (osCons (aa (ay 0)) osNil))) (gT 2 (ax (aq 4) (ax (aq 5) b6)))
  bq)
def d5:FS:=(dM (aA bK (osCons (oVar 3) osNil)))
def ik:FS:=(sSeq (aW 3 (iG aD))
  (sSeq cT
  d5))
def cM:List D->Res R:=fBody 3 3 ik
def cq:FS:=(sSeq (aW 6 (c7 cM (osCons (oVar 0) (osCons (aa (ao ixD (oVar 2) (oVar 4))) (osCons (oVar 5) osNil)))))
  (sIf (eBl (aT isnO (oVar 6) (aa (av .non))))
  (sSeq (sIf (eBl (aT rJ (oVar 6) (oVar 2)))
  (jb (vP 2 (ay 6)))
  bM)
  (jb (vP 3 (cU (af (ay 4) (af (ay 5) (af (Gn mF (oVar 2) (osCons (oVar 6) osNil)) aD)))))))
  bM))
def il:FS:=(me (bU (oVar 1)) (aq 5)
  cq)
def gE:FS:=(aW 4 (ao bc (oVar 4) (aa (av (.int 1)))))
def cu:FS:=(sSeq il
  gE)
def ir:FS:=(bZ (tJ (eBl (ao ltO (oVar 4) (aa (aA dS (osCons (oVar 2) osNil))))) (eBl (ao leD (aa (aA dS (osCons (oVar 2) osNil))) (aa (av (.int 8))))))
  cu 100000)
def gF:FS:=(sSeq (sIf (eBl (ao gtD (aa (aA dS (osCons (oVar 2) osNil))) (aa (av (.int 8)))))
  (dM (av .non))
  bM)
  (dM (jH 3)))
def jX:FS:=(sSeq (aW 2 (iG (af (aA bK (osCons (aa (cb (or2 (gY 0) (fM (ay 0))) [none] (aq 0) fO (ao ixD (oVar 0) (aa (av (.int 0)))))) osNil)) aD)))
  (sSeq (aW 3 (iG aD))
  (sSeq (aW 4 (av (.int 0)))
  (sSeq ir
  gF))))
def bA:List D->Res R:=fBody 2 5 jX
def jx:FS:=(sSeq (aW 3 (ao dR (oVar 1) (aa (ao qO (aa (av (.int 10))) (aa (av (.int 12)))))))
  (sSeq (Et (ao ixD (oVar 0) (aa (ao dR (oVar 3) (aa (aA dS (osCons (oVar 0) osNil)))))) (gT 3 (ax (aq 4) (ax (aq 5) (ax (aq 6) b6)))))
  (sSeq (aW 7 (ao ixD (oVar 0) (aa (ao dR (aa (ao dQ (oVar 3) (aa (av (.int 8))))) (aa (aA dS (osCons (oVar 0) osNil)))))))
  (sSeq (aW 8 (ao bc (aa (av (.int 2))) (aa (ao dR (aa (ao dQ (oVar 3) (aa (av (.int 320))))) (aa (av (.int 1000)))))))
  (sSeq (aW 9 (aA bK (osCons (aa (cb (or2 (gY 5) (fM (ay 5))) [none] (aq 0) fO (av (.int 0)))) osNil)))
  (sSeq (aW 10 (cU (af (ay 4) (af (ay 5) (af (ay 6) aD)))))
  (sSeq (sIf (eBl (aT eqO (aa (ao dR (aa (ao dQ (oVar 3) (aa (av (.int 64))))) (aa (av (.int 5))))) (aa (av (.int 1)))))
  (aW 10 (cU (af (ao bc (oVar 4) (oVar 8)) (af (ay 5) (af (ay 6) aD)))))
  bM)
  (sSeq (sIf (eBl (aT eqO (aa (ao dR (aa (ao dQ (oVar 3) (aa (av (.int 64))))) (aa (av (.int 5))))) (aa (av (.int 2)))))
  (sSeq (aW 5 (aA bK (osCons (aa (cb (or2 (gY 5) (fM (ay 5))) [none,some 8] (aq 0) fO (ao g7 (oVar 0) (oVar 1)))) osNil)))
  (aW 10 (cU (af (ao g7 (oVar 4) (oVar 8)) (af (ay 5) (af (aA bK (osCons (aa (cb (or2 (gY 6) (fM (ay 6))) [none,some 8] (aq 0) fO (ao g7 (oVar 0) (oVar 1)))) osNil)) aD))))))
  bM)
  (sSeq (sIf (eBl (aT eqO (aa (ao dR (aa (ao dQ (oVar 3) (aa (av (.int 64))))) (aa (av (.int 5))))) (aa (av (.int 3)))))
  (sSeq (aW 5 (aA bK (osCons (aa (cb (kJ (osCons (aa (ay 5)) (osCons (aa (ao ixD (oVar 7) (aa (av (.int 1))))) osNil))) [none,none] (gT 2 (ax (aq 0) (ax (aq 1) b6))) fO (ao bc (oVar 0) (oVar 1)))) osNil)))
  (aW 10 (cU (af (ao bc (oVar 4) (aa (ao ixD (oVar 7) (aa (av (.int 0)))))) (af (ay 5) (af (aA bK (osCons (aa (cb (kJ (osCons (aa (ay 6)) (osCons (aa (ao ixD (oVar 7) (aa (av (.int 2))))) osNil))) [none,none] (gT 2 (ax (aq 0) (ax (aq 1) b6))) fO (ao bc (oVar 0) (oVar 1)))) osNil)) aD))))))
  bM)
  (sSeq (sIf (eBl (aT eqO (aa (ao dR (aa (ao dQ (oVar 3) (aa (av (.int 64))))) (aa (av (.int 5))))) (aa (av (.int 4)))))
  (aW 10 (cU (af (ay 8) (af (ay 9) (af (ay 9) aD)))))
  bM)
  (sSeq (aW 11 (ao dR (oVar 2) (aa (ao bc (aa (aA dS (osCons (oVar 0) osNil))) (aa (av (.int 1)))))))
  (dM (ao bc (aa (ao bc (aa (jI (oVar 0) c9 (cI (ay 11)))) (aa (iG (af (ay 10) aD))))) (aa (jI (oVar 0) (cI (ay 11)) c9)))))))))))))))
def dv:List D->Res R:=fBody 3 9 jx
def bY:FS:=(sSeq (aW 5 (ao bc (aa (jI (oVar 3) c9 (cI (ay 4)))) (aa (jI (oVar 3) (cI (ao bc (oVar 4) (aa (av (.int 1))))) c9))))
  (sIf (eBl (aT eqO (aa (c7 bA (osCons (oVar 5) (osCons (oVar 1) osNil)))) (oVar 2)))
  (aW 3 (ay 5))
  bM))
def gG:FS:=(me (gZ (osCons (aa (ao xa (aa (aA dS (osCons (oVar 0) osNil))) (aa (av (.int 1))))) (osCons (aa (Bj (aa (av (.int 1))))) (osCons (aa (Bj (aa (av (.int 1))))) osNil)))) (aq 4)
  bY)
def fD:FS:=(dM (jH 3))
def jy:FS:=(sSeq (aW 3 (aA gW (osCons (oVar 0) osNil)))
  (sSeq gG
  fD))
def cF:List D->Res R:=fBody 3 3 jy
def iu:FS:=(dM (cU (af (aA bK (osCons (oVar 0) osNil)) (af (aA cR (osCons (aa (cb (or2 (gY 1) (fM (ay 1))) [none,none,none,some 0] (gT 3 (ax (aq 0) (ax (aq 1) (ax (aq 2) b6)))) fO (cU (af (ay 0) (af (ao ixD (oVar 3) (oVar 1)) (af (ay 2) aD)))))) osNil)) aD))))
def cN:List D->Res R:=fBody 2 0 iu
def bD:FS:=(sSeq (aW 8 (cb (or2 (gY 5) (fM (ay 5))) [none,none,none,some 6] (gT 3 (ax (aq 0) (ax (aq 1) (ax (aq 2) b6)))) (eBl (aT inP (oVar 0) (oVar 3))) (ay 2)))
  (aW 6 (ao bc (oVar 6) (aa (cb (or2 (gY 8) (fM (ay 8))) [none,some 6] (aq 0) (eBl (aT rJ (oVar 0) (oVar 1))) (ay 0))))))
def bQ:FS:=(me (bU (oVar 3)) (aq 7)
  bD)
def bE:FS:=(sSeq (aW 9 (aA maxD (osCons (aa (ao bc (aa (iG (af (av (.int 0)) aD))) (aa (cb (or2 (gY 5) (fM (ay 5))) [none,none,none] (gT 3 (ax (aq 0) (ax (aq 1) (ax (aq 2) b6)))) fO (aA maxD (osCons (oVar 0) (osCons (oVar 2) osNil))))))) osNil)))
  (sSeq (sIf (eBl (aT neO (aa (ao bc (oVar 9) (aa (av (.int 1))))) (aa (aA lenSI (osCons (oVar 6) osNil)))))
  (dM (av .non))
  bM)
  (dM (cU (af (ao ixD (oVar 0) (aa (av (.int 0)))) (af (ay 5) aD))))))
def jz:FS:=(sSeq (aW 2 (ao dR (oVar 1) (aa (ao qO (aa (av (.int 10))) (aa (av (.int 12)))))))
  (sSeq (aW 3 (ao bc (aa (av (.int 1))) (aa (aA maxD (osCons (aa (ao bc (aa (iG (af (av (.int 0)) aD))) (aa (cb (xE (ao ixD (oVar 0) (aa (av (.int 1))))) [none,none,none] (gT 3 (ax (aq 0) (ax (aq 1) (ax (aq 2) b6)))) fO (aA maxD (osCons (oVar 0) (osCons (oVar 2) osNil))))))) osNil)))))
  (sSeq (aW 4 (cU (af (ao dR (oVar 2) (oVar 3)) (af (ao ixD (aa (ao ixD (oVar 0) (aa (av (.int 0))))) (aa (ao dR (aa (ao dQ (oVar 2) (aa (av (.int 8))))) (aa (aA dS (osCons (aa (ao ixD (oVar 0) (aa (av (.int 0))))) osNil)))))) (af (ao dR (aa (ao dQ (oVar 2) (aa (av (.int 24))))) (oVar 3)) aD)))))
  (sSeq (aW 5 (cb (xE (ao ixD (oVar 0) (aa (av (.int 1))))) [none,some 4] (aq 0) (eBl (aT neO (oVar 0) (oVar 1))) (ay 0)))
  (sSeq (sIf (eBl (aT eqO (aa (aA dS (osCons (oVar 5) osNil))) (aa (aA dS (osCons (aa (ao ixD (oVar 0) (aa (av (.int 1))))) osNil)))))
  (aW 5 (aA cR (osCons (aa (ao bc (oVar 5) (aa (iG (af (ay 4) aD))))) osNil)))
  bM)
  (sSeq (aW 6 (iG (af (av (.int 0)) aD)))
  (sSeq bQ
  bE)))))))
def cG:List D->Res R:=fBody 2 8 jz
def aR:List D->Res R:=mT1 gC [114,117,110]
def aF:List D->Res R:=mT1 aM [109,111,118,101,115]
def kP:FS:=(sIf (eBl (aT eqO (aa (c7 bA (osCons (aa (ao bc (aa (jI (aa (ao ixD (oVar 7) (aa (av (.int 1))))) c9 (cI (ay 5)))) (aa (jI (aa (ao ixD (oVar 7) (aa (av (.int 1))))) (cI (ao bc (oVar 5) (aa (av (.int 1))))) c9)))) (osCons (oVar 1) osNil)))) (oVar 4)))
  (dM (av (.bl false)))
  bM)
def ox:FS:=(me (bU (aa (aA dS (osCons (aa (ao ixD (oVar 7) (aa (av (.int 1))))) osNil)))) (aq 5)
  kP)
def pY:FS:=(sSeq (aW 10 (c7 cG (osCons (oVar 6) (osCons (aa (c7 au (osCons (oVar 0) (osCons (aa (av (.int 15))) osNil)))) osNil))))
  (sSeq (sIf (tJ (eBl (aT isnO (oVar 10) (aa (av .non)))) (eBl (aT neO (aa (c7 aR (osCons (oVar 10) (osCons (aa (ao ixD (oVar 8) (aa (av (.int 1))))) osNil)))) (aa (av (.str [114,117,110]))))))
  (dM (av (.bl false)))
  bM)
  (dM (aT eqO (aa (c7 aF (osCons (aa (cU (af (ao bc (aa (ao ixD (oVar 6) (aa (av (.int 0))))) (aa (cU (af (av (.str [122,122,122,122,122,122,122,122])) aD)))) (af (aA gW (osCons (aa (ao ixD (oVar 6) (aa (av (.int 1))))) osNil)) aD)))) (osCons (aa (ao ixD (oVar 8) (aa (av (.int 1))))) osNil)))) (aa (av (.str [109,111,118,101,115])))))))
def kQ:FS:=(aW 3 (c7 dv (osCons (oVar 3) (osCons (aa (c7 au (osCons (oVar 0) (osCons (oVar 5) osNil)))) (osCons (aa (c7 au (osCons (oVar 0) (osCons (aa (ao bc (oVar 5) (aa (av (.int 1))))) osNil)))) osNil)))))
def jA:FS:=(me (gZ (osCons (aa (av (.int 7))) (osCons (aa (aA EF (osCons (aa (aA dS (osCons (oVar 0) osNil))) (osCons (aa (av (.int 14))) osNil)))) (osCons (aa (av (.int 2))) osNil)))) (aq 5)
  kQ)
def eQ:FS:=(sSeq (aW 6 (c7 cN (osCons (oVar 2) (osCons (oVar 4) osNil))))
  (sSeq (aW 7 (cU (af (aA bK (osCons (oVar 2) osNil)) (af (c7 cF (osCons (oVar 3) (osCons (oVar 1) (osCons (oVar 4) osNil)))) aD))))
  (sSeq (aW 8 (iG (af (cU (af (ao ixD (oVar 6) (aa (av (.int 0)))) (af (aA gW (osCons (aa (ao ixD (oVar 6) (aa (av (.int 1))))) osNil)) aD))) (af (cU (af (ao ixD (oVar 6) (aa (av (.int 0)))) (af (aA gW (osCons (oVar 3) osNil)) aD))) aD))))
  (sSeq (aW 9 (c7 dX (osCons (aa (ao ixD (oVar 8) (aa (av (.int 0))))) (osCons (aa (ao ixD (oVar 8) (aa (av (.int 1))))) osNil))))
  (sSeq (sIf (xC (bOr (wV (eBl (eIs "tuple" (oVar 9)))) (bOr (wV (eBl (eIs "list" (aa (ao ixD (oVar 9) (aa (av (.int 1)))))))) (eBl (aT neO (oVar 9) (oVar 7))))))
  (dM (av (.bl false)))
  bM)
  (sSeq (jb (uz 9 (cU (af (av (.int 0)) (af (cU aD) (af (cU aD) aD))))))
  (sSeq (sIf (bOr (eBl (aT neO (aa (c7 dX (osCons (aa (ao ixD (oVar 8) (aa (av (.int 0))))) (osCons (aa (cU (af (ao ixD (oVar 7) (aa (av (.int 0)))) (af (aA gW (osCons (aa (ao ixD (oVar 7) (aa (av (.int 1))))) osNil)) aD)))) osNil)))) (oVar 7))) (eBl (aT neO (oVar 8) (aa (iG (af (ay 6) (af (cU (af (ao ixD (oVar 6) (aa (av (.int 0)))) (af (ay 3) aD))) aD)))))))
  (dM (av (.bl false)))
  bM)
  (sSeq ox
  pY))))))))
def E1:FS:=(sSeq (aW 1 (ao bc (aa (av (.int 1))) (aa (ao dR (aa (c7 au (osCons (oVar 0) (osCons (aa (av (.int 0))) osNil)))) (aa (av (.int 3)))))))
  (sSeq (aW 2 (c7 cK (osCons (aa (ao dQ (aa (c7 au (osCons (oVar 0) (osCons (aa (av (.int 0))) osNil)))) (aa (av (.int 3))))) (osCons (aa (c7 au (osCons (oVar 0) (osCons (aa (av (.int 1))) osNil)))) (osCons (oVar 1) osNil)))))
  (sSeq (aW 3 (c7 cn (osCons (oVar 0) (osCons (oVar 1) osNil))))
  (sSeq (aW 4 (c7 bA (osCons (oVar 3) (osCons (oVar 1) osNil))))
  (sSeq (sIf (eBl (aT isO (oVar 4) (aa (av .non))))
  (sSeq (aW 3 (iG (af (cU (af (av (.int 1)) (af (aA bK (osCons (aa (ao g7 (aa (iG (af (av (.int 1)) aD))) (oVar 1))) osNil)) (af (aA bK (osCons (aa (ao g7 (aa (iG (af (av (.int 1)) aD))) (oVar 1))) osNil)) aD)))) aD)))
  (aW 4 (c7 bA (osCons (oVar 3) (osCons (oVar 1) osNil)))))
  bM)
  (sSeq jA
  eQ))))))
def BL:List D->Res R:=fBody 1 10 E1
end LW
namespace LW
open PV
variable{α:Type}
theorem HD{Q:List α->Prop}(h:∀a,Q [a]):∀us,us.length=1->Q us
 |[a],_=>h a
theorem xF{Q:List α->Prop}(h:∀a b,Q [a,b]):∀us,us.length=2->Q us
 |[a,b],_=>h a b
theorem HE{Q:List α->Prop}(h:∀a b c,Q [a,b,c]):∀us,us.length=3->Q us
 |[a,b,c],_=>h a b c
theorem HF{Q:List α->Prop}(h:∀a b c d,Q [a,b,c,d]):∀us,us.length=4->Q us
 |[a,b,c,d],_=>h a b c d
theorem II{X:Cx}{tg e:Expr}{f:FX}(h:QE X e f):QI X tg e (or2 (CP f) (fM f)):=ub (tR h) (yH h)
def top(i:Nat):Stmt:=PySem.Challenge.pw_netfinder_k92_whole_thinned_nets.main.body.getD i (.Pass ⟨0,0,0,0⟩)
noncomputable def zL:List Str:=["ValueError","all","int","isinstance","len","list","max","min","range","set","sorted","tuple","zip"]
noncomputable def dL:List (Str×Nat):=[("states_of",6),("goes_to",7),("first_marking",9),("can_go",10),("moved",11),("give",13),("look_at",14),("held",15),("has_run",17),("thinned",18),("_law_cell_at",20),("_law_names",21),("_law_places",22),("_law_after",23),("_law_run",24),("_law_more",25),("_law_thin",26),("_law_chart",27),("_law_bent",28),("_law_refused",29)]
structure Zs(K:W.Frag)(mg:Str->Option Value):Prop where
 z:Al (fun x=>mg x=none) zL
 d:Ad (fun x i=>Def K mg x (top i)) dL
theorem E2:Str.ofString "run" = S [114,117,110]:=by decide +kernel
theorem JC:Str.ofString "the chart and the net have not the same moves" = S [116,104,101,32,99,104,97,114,116,32,97,110,100,32,116,104,101,32,110,101,116,32,104,97,118,101,32,110,111,116,32,116,104,101,32,115,97,109,101,32,109,111,118,101,115]:=by decide +kernel
theorem JD:Str.ofString "the net's run is not the chart" = S [116,104,101,32,110,101,116,39,115,32,114,117,110,32,105,115,32,110,111,116,32,116,104,101,32,99,104,97,114,116]:=by decide +kernel
theorem IJ:Str.ofString "moves" = S [109,111,118,101,115]:=by decide +kernel
variable{P:Program}{w:World}{K:W.Frag}{mg:Str->Option Value}{base:Heap}{x:Str}
section
variable(Z:Zs K mg)
include Z
theorem zz(h:zL.contains x=true:=by decide +kernel):mg x=none:=Al.mem Z.z h
theorem zd(i:Nat)(h:dL.contains (x,i)=true:=by decide +kernel):Def K mg x (top i):=Ad.mem Z.d h
seal PV.aq PV.gT PV.bc PV.CQ PV.ax PV.b6 PV.tJ PV.wV PV.bOr PV.fO PV.dgD PV.af PV.aD PV.vP PV.uz PV.ao PV.aT PV.eBl PV.aA PV.cb PV.av PV.pN PV.c7 PV.qU PV.xB PV.eFunW PV.eIs PV.iG PV.xg PV.Gn PV.Gk PV.EI PV.Bj PV.xt PV.jI PV.cU PV.ay PV.jH PV.eqO PV.dQ PV.geO PV.gtD PV.bU PV.gZ PV.CP PV.fM PV.gY PV.kJ PV.inP PV.Ei PV.isO PV.isnO PV.ixD PV.qQ PV.mF PV.my PV.leD PV.dS PV.lenSI PV.xC PV.gW PV.qT PV.ltO PV.mT1 PV.maxD PV.EF PV.dR PV.g7 PV.neO PV.rJ PV.aa PV.oVar PV.or2 PV.osCons PV.osNil PV.c9 PV.cI PV.qO PV.Et PV.jb PV.me PV.xx PV.sIf PV.pC PV.bM PV.sPutP PV.dM PV.iJ PV.sSeq PV.aW PV.bZ PV.cR PV.xa PV.bK PV.xFun PV.xIf PV.xOf PV.mG bootBuiltins compareOp binaryOp Kz bL PV.QE PV.QO PV.QOs PV.QT PV.QW PV.QS PV.QSs PV.QG PV.QGs PV.QI PV.QIL PV.QTs
set_option hygiene false
local macro_rules
 | `(tactic| subst_eqs)=>`(tactic| first | exact mQ Z | exact qX Z | exact iK Z | exact uF Z | exact xG Z | exact BM Z | exact qY Z | exact BN Z | exact jY Z | exact qZ Z | exact jB Z | exact kR Z | exact jJ Z | exact kS Z | exact oy Z | exact mR Z | exact mS Z | exact kU Z | exact mT Z | assumption)
local macro_rules
 | `(tactic| and_intros)=>`(tactic| repeat' first
  | refine i9 ?_
  | exact f7 (pv _)
  | exact tF
  | refine bX ?_ ?_
  | exact fJ
  | refine wW ?_ ?_
  | refine kC ?_ ?_
  | refine AW ?_ ?_
  | refine DW hn rfl (lo rfl) ?_
  | refine AM ?_
  | exact AG (pv _)
  | exact AO hn rfl (lo rfl)
  | exact nX
  | refine qL Bm ?_ ?_
  | refine wZ ?_ ?_
  | refine yF (by subst_eqs) hr.m rfl ?_
  | refine D6 ?_
  | refine DX ?_
  | refine Hi ?_ ?_ ?_
  | exact AL
  | refine qL D4 ?_ ?_
  | refine xl rfl ?_ (fun _ _ _ _ _ hn=>?_) (fun _ _ _ _ _=>?_) (fun _ _ _ _ _=>?_)
  | refine gc Bh rfl (zz Z) bt_len ?_
  | refine yH ?_
  | refine D7 ?_
  | exact AR
  | refine AY ?_
  | refine qL Bp ?_ ?_
  | refine gf xc rfl (zz Z) oY ?_
  | refine EE ?_ ?_ ?_
  | exact DQ
  | exact tG (by decide +kernel) (by decide)
  | refine DZ Y8 rfl ?_ ?_ ?_
  | exact AQ
  | refine DY rfl ?_
  | exact AX
  | refine qL AV ?_ ?_
  | refine fK (Ed hr.units) ?_ ?_ (fe _)
  | refine tR ?_
  | refine ub ?_ ?_
  | refine fK (Ee hr.units) ?_ ?_ (fe _)
  | refine tS rfl (zz Z) ?_
  | exact Bi (pv _)
  | refine EB ?_ ?_
  | refine Hw (hu_of hr) ?_ ?_
  | refine Br ?_
  | refine AN ?_
  | refine AK ?_
  | refine DV ?_ ?_
  | exact AH (pv _)
  | refine gf tV rfl (zz Z) nO ?_
  | refine tU (pv _) ?_
  | refine gc (Eh rfl) rfl (zz Z) Ew ?_
  | refine Bn rfl (zz Z) ?_
  | refine fK Eg ?_ ?_ (fe _)
  | refine AS ?_
  | refine yE ?_
  | refine qL D2 ?_ ?_
  | refine tI (En hr.units0) ?_ ?_ (fe _)
  | refine EC ?_
  | refine qL D5 ?_ ?_
  | exact Hf
  | refine fK (Bq hr.u65) ?_ ?_ (by with_unfolding_all rfl)
  | refine AI (Ed hr.units) ?_ ?_ (fe _)
  | refine uo rfl (zz Z) ?_
  | refine gc (uc rfl) rfl (zz Z) uh ?_
  | refine Hg ?_ ?_
  | refine EJ Yt PySem.F.type_tuple_index oi ?_ ?_
  | refine fK Hu ?_ ?_ (fe _)
  | refine tI Ho ?_ ?_ (fe _)
  | exact wX
  | refine wY 100000 Y8 ?_ ?_
  | refine xm hn rfl (lo rfl) rfl ?_ (fun _ _ _ _ _ hn=>?_) (fun _ _ _ _ _=>?_) (fun _ _ _ _ _=>?_)
  | refine DS ?_
  | refine Bc rfl rfl (zz Z) ?_ ?_
  | refine DR (Eo hr.units0) ?_ ?_ (fe _)
  | refine gc (Ea rfl) rfl (zz Z) Ey ?_
  | refine BA Y8 rfl (pv _) ?_ ?_
  | refine Bz (hu_of hr) (pv _) ?_ ?_
  | refine Bv (by subst_eqs) hr.m rfl ?_
  | refine xq ?_ ?_
  | refine gf (xu rfl) rfl (zz Z) nO ?_
  | refine Bw (by subst_eqs) hr.m rfl ?_
  | refine BD (by subst_eqs) hr.m rfl ?_ ?_ (pv _)
  | refine Bs ?_ ?_
  | refine Er YU PySem.F.type_str_index xj ?_ ?_
  | refine gf Ej rfl (zz Z) Dv ?_
  | refine tI Hn ?_ ?_ (fe _)
  | refine ER YC PySem.F.type_list_index (oq hr.u65) ?_ ?_
  | refine Eu ?_ ?_
  | refine fK (EL hr.u65) ?_ ?_ (by with_unfolding_all rfl)
  | refine BH rfl rfl (zz Z) rfl (zz Z) ?_
  | refine gc (EG rfl) rfl (zz Z) Ex ?_
  | refine El (T:="tuple") (by decide) ?_ rfl (zz Z) rfl (zz Z) oY
  | refine El (T:="list") (by decide) ?_ rfl (zz Z) rfl (zz Z) nO
  | refine BF ?_
  | refine BG (pv _) ?_
  | refine EA ?_
  | refine yD ?_
  | refine QW.qt ?_)
local macro_rules
 | `(tactic| exists $i)=>`(tactic| ((first | refine JB (st:=.FunctionDef _ _ _ _ _ _ ⟨_,_,_,_,_⟩ _ _ _) (zd Z $i) (show OJ (top $i) from ⟨rfl,rfl,rfl,by decide +kernel,by decide +kernel,by decide +kernel,by decide +kernel⟩) (by first | exact fun _ _ _ _ _ _=>HD fun _=>rfl | exact fun _ _ _ _ _ _=>xF fun _ _=>rfl | exact fun _ _ _ _ _ _=>HE fun _ _ _=>rfl | exact fun _ _ _ _ _ _=>HF fun _ _ _ _=>rfl) (fun _ _ _ _ _ _ _ hr hn=>?_) | refine HB (st:=.FunctionDef _ _ _ _ _ _ ⟨_,_,_,_,_⟩ _ _ _) (zd Z $i) (show OJ (top $i) from ⟨rfl,rfl,rfl,by decide +kernel,by decide +kernel,by decide +kernel,by decide +kernel⟩) (by first | exact fun _ _ _ _ _ _=>HD fun _=>rfl | exact fun _ _ _ _ _ _=>xF fun _ _=>rfl | exact fun _ _ _ _ _ _=>HE fun _ _ _=>rfl | exact fun _ _ _ _ _ _=>HF fun _ _ _ _=>rfl) (fun _ _ _ _ _ _ _ hr hn=>?_) | refine HC (st:=.FunctionDef _ _ _ _ _ _ ⟨_,_,_,_,_⟩ _ _ _) (zd Z $i) (show OJ (top $i) from ⟨rfl,rfl,rfl,by decide +kernel,by decide +kernel,by decide +kernel,by decide +kernel⟩) (by first | exact fun _ _ _ _ _ _=>HD fun _=>rfl | exact fun _ _ _ _ _ _=>xF fun _ _=>rfl | exact fun _ _ _ _ _ _=>HE fun _ _ _=>rfl | exact fun _ _ _ _ _ _=>HF fun _ _ _ _=>rfl) (fun _ _ _ _ _ _ _ hr hn=>?_));and_intros))
theorem mQ:Ct P w K mg base "states_of" 1 (spF K bV):=by exists 6
theorem qX:Ct P w K mg base "goes_to" 1 (spF K gy):=by exists 7
theorem iK:Ct P w K mg base "first_marking" 1 (spF K bP):=by exists 9
theorem uF:Ct P w K mg base "can_go" 1 (spF K iQ):=by exists 10
theorem xG:Ct P w K mg base "moved" 2 (spF K kN):=by exists 11
theorem BM:Ct P w K mg base "give" 1 (spM K (.d) mK):=by exists 13
theorem qY:Ct P w K mg base "look_at" 3 (spJ 2 K (.d) df):=by exists 14
theorem BN:Ct P w K mg base "held" 4 (spF K pX):=by exists 15
theorem jY:Ct P w K mg base "has_run" 5 (spF K b9):=by exists 17
theorem qZ:Ct P w K mg base "thinned" 6 (spF K dX):=by exists 18
theorem jB:Ct P w K mg base "_law_cell_at" 1 (spF K au):=by exists 20
theorem kR:Ct P w K mg base "_law_names" 1 (spF K cK):=by exists 21
theorem jJ:Ct P w K mg base "_law_places" 2 (spF K cn):=by exists 22
theorem kS:Ct P w K mg base "_law_after" 1 (spF K cM):=by exists 23
theorem oy:Ct P w K mg base "_law_run" 2 (spF K bA):=by exists 24
theorem mR:Ct P w K mg base "_law_more" 1 (spF K dv):=by exists 25
theorem mS:Ct P w K mg base "_law_thin" 3 (spF K cF):=by exists 26
theorem kU:Ct P w K mg base "_law_chart" 1 (spF K cN):=by exists 27
theorem mT:Ct P w K mg base "_law_bent" 1 (spF K cG):=by exists 28
theorem E3{f:Addr}{fd:FuncData}(F:Fun K "law" "law" (top 30) f fd)(Mr:Ct P w K mg base "_law_refused" 7 (spF K aR))(Ms:Ct P w K mg base "_law_refused" 7 (spF K aF)):FnOk P w K mg base L4 8 f fd ["_law_script"] (spF K BL):=by
 refine EZ (st:=.FunctionDef _ _ _ _ _ _ ⟨_,_,_,_,_⟩ _ _ _) F (show OJ (top 30) from⟨rfl,rfl,rfl,by decide +kernel,by decide +kernel,by decide +kernel,by decide +kernel⟩) fun _ _ _ _ _ _ hr hn=>?_
 and_intros
end
variable{J7 JO JV Kf:Addr}
section
variable(Z:Zs K mg)
include Z
omit Z in
theorem BO:FnScope ["chart","net","got","looked_at","against"] ["chart","net"] (defScope (top 15)):=fs
theorem xH(Ko:XCl mg base "OtherMoves" JO):CtX P w K mg base "held" 4 JO (spX K JO gB):=
 pT (zd Z 15) BO (fun _ _ _ _ _ _=>xF fun _ _=>rfl) fun f Kc A outer s H E hr=>
  (ES (fK (Ee hr.units) (i9 (AW (f7 (pv 0)) (i9 tF))) (i9 (AW (f7 (pv 1)) (i9 tF))) (fe _)) (pS Ko yz rfl (by rfl) (bX (i9 (tG JC (by decide))) fJ)))
omit Z in
theorem q0:FnScope ["chart","net"] ["chart","net"] (defScope (top 17)):=fs
theorem dw(NO:CtX P w K mg base "held" 4 JO (spX K JO gB)):CtX P w K mg base "has_run" 5 JO (spX K JO aK):=
 pT (zd Z 17) q0 (fun _ _ _ _ _ _=>xF fun _ _=>rfl) fun f Kc A outer s H E hr=>
  (EV acc_on (BI (ET (ur NO hr.m (by rfl) (bX (f7 (pv 0)) (bX (f7 (pv 1)) fJ))))))
omit Z in
theorem jZ:FnScope ["chart","net","places","at","fewer"] ["chart","net"] (defScope (top 18)):=fs
theorem oz(K8:XCl mg base "NoRun" JV):CtX P w K mg base "thinned" 6 JV (spX K JV gC):=
 pT (zd Z 18) jZ (fun _ _ _ _ _ _=>xF fun _ _=>rfl) fun f Kc A outer s H E hr=>
  (ES (yE (yD (yF (jY Z) hr.m (by rfl) (bX (f7 (pv 0)) (bX (f7 (pv 1)) fJ))))) (pS K8 yz rfl (by rfl) (bX (i9 (tG JD (by decide))) fJ)))
theorem dy(KS:CtX P w K mg base "has_run" 5 JO (spX K JO aK)):CtX P w K mg base "thinned" 6 JO (spX K JO aM):=
 pT (zd Z 18) jZ (fun _ _ _ _ _ _=>xF fun _ _=>rfl) fun f Kc A outer s H E hr=>
  (EW acc_on (ur KS hr.m (by rfl) (bX (f7 (pv 0)) (bX (f7 (pv 1)) fJ))))
omit Z in
theorem bR:FnScope ["_law_chart_here","_law_net","_law_error","e"] ["_law_chart_here","_law_net"] (defScope (top 29)):=fs
theorem gH(Mc:CtX P w K mg base "thinned" 6 JV (spX K JV gC))(LK:mg "NoRun" = some (.ref JV))(KU:mg "OtherMoves" = some (.ref JO))(Le:mg "TooGreat" = some (.ref Kf))(Ki:PySem.W.mroIn K JV (.ref J7)=some true)(J9:PySem.W.kitOne K (.ref JV) (.type "ValueError")=some true)(Ks:PySem.W.kitOne K (.ref JV) (.ref JV)=some true)(Ka:PySem.W.kitOne K (.ref JV) (.ref JO)=some false)(Kj:PySem.W.kitOne K (.ref JV) (.ref Kf)=some false)(KJ:Asks K JV)(Km:XCl mg base "NetError" J7):Ct P w K mg base "_law_refused" 7 (spF K aR):=
 uD (C:=JV) (zd Z 29) bR (fun _ _ _ _ _ _=>xF fun _ _=>rfl) rfl rfl (fun _=>yV) (by decide)
  (fun f Kc A outer s H E hr=>by
   refine yU Mc hr.m (by rfl) Km Ki (by rfl) ?_ bR.nd (pv 0) (pv 1) rfl rfl rfl rfl rfl;exact(fun a o vs h1 h2=>(EY (IH (EX (xD (qW UR h1 h2 KJ (pv 2) (by rfl) (zz Z) (by rfl) Le Kj)) (yR (yQ (b:=true) (xD (yO UR h1 h2 KJ (pv 2) (by rfl) (zz Z) (by rfl) (zz Z) (by decide +kernel) J9))))))
  (yT (yS (kM (b:=true) E2 (qW UR h1 h2 KJ (pv 2) (by rfl) (zz Z) (by rfl) LK Ks) (by rfl) (zz Z)) (kM (b:=false) IJ (qW UR h1 h2 KJ (pv 2) (by rfl) (zz Z) (by rfl) KU Ka) (by rfl) (zz Z)) (by decide))))))
theorem gI(KW:CtX P w K mg base "thinned" 6 JO (spX K JO aM))(LK:mg "NoRun" = some (.ref JV))(KU:mg "OtherMoves" = some (.ref JO))(Le:mg "TooGreat" = some (.ref Kf))(J5:PySem.W.mroIn K JO (.ref J7)=some true)(JX:PySem.W.kitOne K (.ref JO) (.type "ValueError")=some true)(Kb:PySem.W.kitOne K (.ref JO) (.ref JV)=some false)(JZ:PySem.W.kitOne K (.ref JO) (.ref JO)=some true)(J6:PySem.W.kitOne K (.ref JO) (.ref Kf)=some false)(Kg:Asks K JO)(Km:XCl mg base "NetError" J7):Ct P w K mg base "_law_refused" 7 (spF K aF):=
 uD (C:=JO) (zd Z 29) bR (fun _ _ _ _ _ _=>xF fun _ _=>rfl) rfl rfl (fun _=>yV) (by decide)
  (fun f Kc A outer s H E hr=>by
   refine yU KW hr.m (by rfl) Km J5 (by rfl) ?_ bR.nd (pv 0) (pv 1) rfl rfl rfl rfl rfl;exact(fun a o vs h1 h2=>(EY (IH (EX (xD (qW UR h1 h2 Kg (pv 2) (by rfl) (zz Z) (by rfl) Le J6)) (yR (yQ (b:=true) (xD (yO UR h1 h2 Kg (pv 2) (by rfl) (zz Z) (by rfl) (zz Z) (by decide +kernel) JX))))))
  (yT (yS (kM (b:=false) E2 (qW UR h1 h2 Kg (pv 2) (by rfl) (zz Z) (by rfl) LK Kb) (by rfl) (zz Z)) (kM (b:=true) IJ (qW UR h1 h2 Kg (pv 2) (by rfl) (zz Z) (by rfl) KU JZ) (by rfl) (zz Z)) (by decide))))))
end
end LW
namespace PV
class Cont (α β:Type) where
 run:α->Res β
def Res.bnd{α β:Type}[f:Cont α β](x:Res α):Res β:=x.bind f.run
variable{α:Type}
theorem Kp{β:Type}(a:α)(f:α->Res β):Res.bnd (Res.ok a) (f:=⟨f⟩)=f a:=id rfl
section
variable(env:PV.Env)(i n:Nat)(d:D)(f g:FX)(c c':FT)(fo Sd fo'':FO)(fs:FOs)(fd:FDs)(s t:FS)(op op':D->D->Res R)(F:List D->Res R)(a:FG)(as:NC)(fi fj:FI)(fp JU:FP)(T:String)
theorem Ph:av d env=.ok ((.f,d),env):=id rfl
theorem Mt:ay i env=match env[i]? with|some (some r)=>.ok ((.f,r.2),env.set i (some (fz r.1,r.2)))|_=>.bad:=id rfl
theorem Rw:fz .f=.f:=id rfl
theorem Rx(c:O):fz (.l c)=.f:=id rfl
theorem NQ(p:Addr):wU (.pin p .f)=true:=id rfl
theorem M3(p:Addr):wU (.pin p .d)=true:=id rfl
theorem NR:jH i env=match env[i]? with|some (some r)=>.ok (r,env.set i none)|_=>.bad:=id rfl
theorem Pj:aa f env=Res.bnd (f env) (f:=⟨fun p=>.ok (.val p.1.2,p.2)⟩):=id rfl
theorem Pk:oVar i env=match env[i]? with|some (some _)=>.ok (.var i,env)|_=>.bad:=id rfl
theorem NS:osNil env=.ok ([],env):=id rfl
theorem M4:osCons fo fs env=Res.bnd (fo env) (f:=⟨fun p=>Res.bnd (fs p.2) (f:=⟨fun q=>.ok (p.1::q.1,q.2)⟩)⟩):=id rfl
theorem NT:aD env=.ok ([],env):=id rfl
theorem M5:af f fd env=Res.bnd (f env) (f:=⟨fun p=>Res.bnd (fd p.2) (f:=⟨fun q=>.ok (p.1.2::q.1,q.2)⟩)⟩):=id rfl
theorem Pm:K5 env (.val d)=.ok d:=id rfl
theorem Pn:K5 env (.var i)=match env[i]? with|some (some r)=>if wU r.1 then .ok r.2 else .bad|_=>.bad:=id rfl
theorem NU:nG env (.val d)=.ok d:=id rfl
theorem NV:nG env (.var i)=match env[i]? with|some (some r)=>.ok r.2|_=>.bad:=id rfl
theorem NW:l8 env []=.ok []:=id rfl
theorem NY(o:Opd)(os:List Opd):l8 env (o::os)=Res.bnd (K5 env o) (f:=⟨fun d=>Res.bnd (l8 env os) (f:=⟨fun ds=>.ok (d::ds)⟩)⟩):=id rfl
theorem M6:eZ env []=.ok []:=id rfl
theorem M7(o:Opd)(os:List Opd):eZ env (o::os)=Res.bnd (nG env o) (f:=⟨fun d=>Res.bnd (eZ env os) (f:=⟨fun ds=>.ok (d::ds)⟩)⟩):=id rfl
theorem NZ:wU .f=true:=id rfl
theorem N1:wU (.l .f)=true:=id rfl
theorem N3:wU .d=true:=id rfl
theorem Po:ao op fo Sd env=Res.bnd (fo env) (f:=⟨fun p=>Res.bnd (Sd p.2) (f:=⟨fun q=>Res.bnd (K5 q.2 p.1) (f:=⟨fun a=>Res.bnd (K5 q.2 q.1) (f:=⟨fun b=>Res.bnd (op a b) (f:=⟨fun r=>.ok (r,q.2)⟩)⟩)⟩)⟩)⟩):=id rfl
theorem N4:aT op fo Sd env=Res.bnd (fo env) (f:=⟨fun p=>Res.bnd (Sd p.2) (f:=⟨fun q=>Res.bnd (nG q.2 p.1) (f:=⟨fun a=>Res.bnd (nG q.2 q.1) (f:=⟨fun b=>Res.bnd (op a b) (f:=⟨fun r=>.ok (r,q.2)⟩)⟩)⟩)⟩)⟩):=id rfl
theorem Ry:eBl f env=Res.bnd (f env) (f:=⟨fun p=>match p.1.2 with | .bl k=>.ok (k,p.2)|_=>.bad⟩):=id rfl
theorem Pp:tJ c c' env=Res.bnd (c env) (f:=⟨fun p=>if p.1 then c' p.2 else .ok (false,p.2)⟩):=id rfl
theorem Rz:bOr c c' env=Res.bnd (c env) (f:=⟨fun p=>if p.1 then .ok (true,p.2) else c' p.2⟩):=id rfl
theorem Pq:wV c env=Res.bnd (c env) (f:=⟨fun p=>.ok (!p.1,p.2)⟩):=id rfl
theorem N5:aA F fs env=Res.bnd (fs env) (f:=⟨fun p=>Res.bnd (l8 p.2 p.1) (f:=⟨fun ds=>Res.bnd (F ds) (f:=⟨fun r=>.ok (r,p.2)⟩)⟩)⟩):=id rfl
theorem Pr:c7 F fs env=Res.bnd (fs env) (f:=⟨fun p=>Res.bnd (eZ p.2 p.1) (f:=⟨fun ds=>Res.bnd (F ds) (f:=⟨fun r=>.ok (r,if aw r.1 r.2 then p.2 else p.2.map frz)⟩)⟩)⟩):=id rfl
theorem Pt:cU fd env=Res.bnd (fd env) (f:=⟨fun p=>if p.1.length<=1000 then .ok ((.f,.tup p.1),p.2) else .bad⟩):=id rfl
theorem Pu:iG fd env=Res.bnd (fd env) (f:=⟨fun p=>if p.1.length<=1000 then .ok ((.l .f,.lst p.1),p.2) else .bad⟩):=id rfl
theorem N6:c9 env=.ok (none,env):=id rfl
theorem N7:cI f env=Res.bnd (f env) (f:=⟨fun p=>match p.1.2 with | .int i=>.ok (some i,p.2)|_=>.bad⟩):=id rfl
theorem Pw:vP i f env=if qP env i then(Res.bnd (f env) (f:=⟨fun(p:R×PV.Env)=>match p.2[i]? with
 |some (some (.l .f,.lst ds))=>if ds.length<sizeLine then .ok ((.f,.non),p.2.set i (some (.l .f,.lst (ds++[p.1.2])))) else .bad
 |_=>.bad⟩)) else .bad:=id rfl
theorem N8:qP env i=match env[i]? with|some (some (_,.lst _))=>true|_=>false:=id rfl
theorem RA:eIs T fo env=Res.bnd (fo env) (f:=⟨fun p=>Res.bnd (nG p.2 p.1) (f:=⟨fun d=>.ok ((.f,.bl (xh T d)),p.2)⟩)⟩):=id rfl
theorem N9:xg f g env=Res.bnd (f env) (f:=⟨fun p=>Res.bnd (g p.2) (f:=⟨fun q=>match(mq p.1.2).bind b8,q.1.2 with|some ns,.int d=>.ok ((.f,.int (NX.maxD ns d)),q.2)|_,_=>.bad⟩)⟩):=id rfl
theorem Px(gg:List Nat->List D->Res R):Gk gg fo fs env=Res.bnd (fo env) (f:=⟨fun p=>match K5 p.2 p.1 with
 | .ok (.str l)=>Res.bnd (fs p.2) (f:=⟨fun q=>Res.bnd (l8 q.2 q.1) (f:=⟨fun ds=>Res.bnd (gg l ds) (f:=⟨fun r=>.ok (r,q.2)⟩)⟩)⟩)
 |_=>.bad⟩):=id rfl
theorem Oa(ix:List (Option Nat)):cb fi ix a c f env=Res.bnd (fi env) (f:=⟨fun p=>Res.bnd (b7 a c f p.1 (cz ix p.2)) (f:=⟨fun ds=>if ds.length<=sizeLine then .ok ((.l .f,.lst ds),if flatDs ds then p.2 else p.2.map frz) else .bad⟩)⟩):=id rfl
theorem Md:cz [] env=[]:=id rfl
theorem Me(ix:List (Option Nat)):cz (none::ix) env=none::cz ix env:=id rfl
theorem Mf(ix:List (Option Nat)):cz (some i::ix) env=(match env[i]? with|some (some r)=>some (O.f,r.2)|_=>none)::cz ix env:=id rfl
theorem E4:fO env=.ok (true,env):=id rfl
theorem pZ(ds:List D):b7 a c f (d::ds) env=Res.bnd (a d env) (f:=⟨fun e=>Res.bnd (c e) (f:=⟨fun p=>if p.1 then(Res.bnd (f p.2) (f:=⟨fun q=>Res.bnd (b7 a c f ds q.2) (f:=⟨fun rs=>.ok (q.1.2::rs)⟩)⟩)) else b7 a c f ds p.2⟩)⟩):=id rfl
theorem E5:CP f env=Res.bnd (f env) (f:=⟨fun p=>match p.1.2 with | .lst ds=>.ok (ds,p.2)|_=>.bad⟩):=id rfl
theorem uG:fM f env=Res.bnd (f env) (f:=⟨fun p=>match p.1.2 with | .tup ds=>.ok (ds,p.2)|_=>.bad⟩):=id rfl
theorem uH:or2 fi fj env=match fi env with | .ok a=>.ok a|_=>fj env:=by
 unfold or2;cases fi env <;> rfl
theorem Py:or2 (CP f) (fM f) env=Res.bnd (f env) (f:=⟨fun p=>match p.1.2 with
 | .lst ds=>.ok (ds,p.2)
 | .tup ds=>.ok (ds,p.2)
 |_=>.bad⟩):=by
 rw[uH,E5,uG];cases f env with
 |ok p=>
  obtain⟨⟨o,d⟩,e⟩:=p;cases d <;> rfl
 |exc c=>rfl
 |bad=>rfl
theorem Ob:or2 (gY i) (fM (ay i)) env=match env[i]? with
 |some (some (_,.lst ds))=>.ok (ds,env)
 |some (some (o,.tup ds))=>.ok (ds,env.set i (some (fz o,.tup ds)))
 |_=>.bad:=by
 rw[uH,uG,Mt];unfold gY;cases env[i]? with
 |none=>rfl
 |some r=>
  cases r with
  |none=>rfl
  |some r=>
   obtain⟨o,d⟩:=r;cases d <;> rfl
theorem LD:bU fo env=Res.bnd (fo env) (f:=⟨fun p=>Res.bnd (K5 p.2 p.1) (f:=⟨fun d=>match d with
 | .int j=>if -4611686018427387904<=j/\j<4611686018427387904 then .ok ((List.range j.toNat).map fun(k:Nat)=>D.int (k:Int),p.2) else .bad
 |_=>.bad⟩)⟩):=id rfl
theorem kW(k1 k2:Bool):qN k1 k2 fs env=Res.bnd (fs env) (f:=⟨fun p=>match p.1 with
 |[.val d1,.val d2]=>Res.bnd (gU k1 d1) (f:=⟨fun a=>Res.bnd (gU k2 d2) (f:=⟨fun b=>.ok ((a.zip b).map fun z=>D.tup [z.1,z.2],p.2)⟩)⟩)
 |_=>.bad⟩):=id rfl
theorem K9:aq i d env=if i<env.length then .ok (env.set i (some (.f,d))) else .bad:=id rfl
theorem Oc:b6 [] env=.ok env:=id rfl
theorem KQ(ds:List D):ax a as (d::ds) env=Res.bnd (a d env) (f:=⟨fun e=>as ds e⟩):=id rfl
theorem Mg(ds:List D):gT n as (.tup ds) env=if ds.length=n then as ds env else .bad:=id rfl
theorem KY:sSeq s t env=Res.bnd (s env) (f:=⟨fun o=>match o with | .nx e=>t e|o=>.ok o⟩):=id rfl
theorem Od:bM env=.ok (.nx env):=id rfl
theorem M8:aW i f env=Res.bnd (f env) (f:=⟨fun p=>if i<p.2.length then .ok (.nx (p.2.set i (some p.1))) else .bad⟩):=id rfl
theorem Oe:jb f env=Res.bnd (f env) (f:=⟨fun p=>.ok (.nx p.2)⟩):=id rfl
theorem Pz:dM f env=Res.bnd (f env) (f:=⟨fun p=>.ok (.rt p.1)⟩):=id rfl
theorem RB:sIf c s t env=Res.bnd (c env) (f:=⟨fun p=>if p.1 then s p.2 else t p.2⟩):=id rfl
theorem PB:me fi a s env=Res.bnd (fi env) (f:=⟨fun p=>cQ a s p.1 p.2⟩):=id rfl
theorem Of:cQ a s [] env=.ok (.nx env):=id rfl
theorem bI(ds:List D):cQ a s (d::ds) env=Res.bnd (a d env) (f:=⟨fun e=>Res.bnd (s e) (f:=⟨fun o=>match o with
 | .nx e=>cQ a s ds e
 | .ct e=>cQ a s ds e
 | .bk e=>.ok (.nx e)
 | .rt r=>.ok (.rt r)⟩)⟩):=id rfl
theorem eR:bZ c s (n+1) env=Res.bnd (c env) (f:=⟨fun p=>if p.1 then(Res.bnd (s p.2) (f:=⟨fun o=>match o with
  | .nx e=>bZ c s n e
  | .ct e=>bZ c s n e
  | .bk e=>.ok (.nx e)
  | .rt r=>.ok (.rt r)⟩)) else .ok (.nx p.2)⟩):=id rfl
theorem PD:Et f a env=Res.bnd (f env) (f:=⟨fun p=>Res.bnd (a p.1.2 p.2) (f:=⟨fun e=>.ok (.nx e)⟩)⟩):=id rfl
theorem ba(ds:List D)(nn:Nat)(h:ds.length=n):fBody n nn s ds=Res.bnd (s (ds.map (fun d=>some (O.f,d))++List.replicate nn none)) (f:=⟨fun o=>match o with
 | .rt r=>.ok r
 | .nx _=>.ok (.f,.non)
 |_=>.bad⟩):=by
 unfold fBody;rw[U2 h];all_goals cases s (ds.map (fun d=>some (O.f,d))++List.replicate nn none) with
 |ok o=>cases o <;> rfl
 |exc c=>rfl
 |bad=>rfl
end
theorem line_le{n:Nat}(h:n<=16777216):n<=sizeLine:=by rw[line_eq];exact h
section
variable(a b:Int)(x y:List Nat)(p q:Bool)(ds es:List D)
theorem HG:eqO (.int a) (.int b)=.ok (.f,.bl (a==b)):=by simp only[eqO,plainD,eqD,VW,Xd]
theorem HI:eqO (.str x) (.str y)=.ok (.f,.bl (x==y)):=by simp only[eqO,plainD,eqD,VW,Xd]
theorem HJ:neO (.int a) (.int b)=.ok (.f,.bl (!(a==b))):=by simp only[neO,plainD,eqD,VW,Xd]
theorem HK:neO (.str x) (.str y)=.ok (.f,.bl (!(x==y))):=by simp only[neO,plainD,eqD,VW,Xd]
theorem E6:xa (.int a) (.int b)=.ok (.f,.int (a-b)):=id rfl
theorem BP:dQ (.int a) (.int b)=if 0<b/\b<1073741824 then .ok (.f,.int (a / b)) else .bad:=id rfl
theorem E7:dR (.int a) (.int b)=if 0<b then .ok (.f,.int (a%b)) else .bad:=id rfl
theorem E8:qO (.int a) (.int b)=if 0<=b/\b<=1000000/\a.natAbs<2 ^ 64 then .ok (.f,.int (a ^ b.toNat)) else .bad:=id rfl
theorem HL:ltO (.int a) (.int b)=.ok (.f,.bl (decide (a<b))):=id rfl
theorem HM:leD (.int a) (.int b)=.ok (.f,.bl (decide (a<=b))):=id rfl
theorem HN:gtD (.int a) (.int b)=.ok (.f,.bl (decide (b<a))):=id rfl
theorem HP:geO (.int a) (.int b)=.ok (.f,.bl (decide (b<=a))):=id rfl
theorem E9:dS [.lst ds]=.ok (.f,.int ds.length):=id rfl
theorem Fb:dS [.tup ds]=.ok (.f,.int ds.length):=id rfl
theorem Fc:dS [.str x]=.ok (.f,.int x.length):=id rfl
theorem BQ:gW [.lst ds]=.ok (.l .f,.lst ds):=id rfl
theorem xI:bK [.lst ds]=.ok (.f,.tup ds):=id rfl
theorem Fe:Ei [.bl p]=.ok (.f,.int (if p then 1 else 0)):=id rfl
theorem HQ:ixD (.lst ds) (.int a)=match atI ds a with|some d=>.ok (.f,d)|none=>.bad:=id rfl
theorem HR:ixD (.tup ds) (.int a)=match atI ds a with|some d=>.ok (.f,d)|none=>.bad:=id rfl
theorem HS:ixD (.str x) (.int a)=match atI x a with|some c=>.ok (.f,.str [c])|none=>.bad:=id rfl
theorem Ff:maxD [.int a,.int b]=.ok (.f,.int (if a<b then b else a)):=id rfl
theorem yY(bs:List Bool):CQ [.lst (bs.map D.bl)]=.ok (.f,.bl (bs.all id)):=by
 unfold CQ;show(match ml (bs.map D.bl) with|some bs=>_|none=>_)=_;rw[tW]
theorem Qj(d:α)(l:List α):atI (d::l) 0=some d:=by
 have:=di (xs:=d::l) (j:=0) (v:=d) rfl;simpa using this
theorem PF(c d:α)(l:List α):atI (c::d::l) 1=some d:=by
 have:=di (xs:=c::d::l) (j:=1) (v:=d) rfl;simpa using this
end
theorem flat_ints(l:List Int):flatDs (l.map D.int)=true:=by
 rw[bz,V4,Vg];intro b _;rfl
theorem qe(l:List Bool):flatDs (l.map D.bl)=true:=by
 rw[bz,V4,Vg];intro b _;rfl
theorem flat_strs(l:List (List Nat)):flatDs (l.map D.str)=true:=by
 rw[bz,V4,Vg];intro b _;rfl
theorem oA(d:D):aw .f d=flatD d:=by rw[aw]
theorem xJ(ds:List D):aw (.l .f) (.lst ds)=flatDs ds:=by rw[aw,kA]
theorem kX(i:Int):flatD (.int i)=true:=by rw[flatD];all_goals simp
theorem oB(i:Bool):flatD (.bl i)=true:=by rw[flatD];all_goals simp
theorem bS(ds:List D):flatD (.tup ds)=flatDs ds:=by rw[flatD]
theorem eS(n:Nat)(l:List Int):plainDs n (l.map D.int)=true:=by
 induction l with
 |nil=>rfl
 |cons a l ih=>rw[Vj,plainDs,ih,plainD];all_goals simp
theorem cw(n:Nat)(l:List (List Nat)):plainDs n (l.map D.str)=true:=by
 induction l with
 |nil=>rfl
 |cons a l ih=>rw[Vj,plainDs,ih,plainD];all_goals simp
theorem eqDs_ints:∀a b:List Int,gj (a.map D.int) (b.map D.int)=(a==b)
 |[],[]=>by simp[gj]
 |[],_::_=>by simp[gj]
 |_::_,[]=>by simp[gj]
 |a::r,b::t=>by
  rw[Vj,Vj,gj,eqD,eqDs_ints r t,Vr];simp
theorem xK(a:Int)(l:List Int):rH (.int a) (l.map D.int)=decide (a∈l):=by
 unfold rH;rw[Xy,Vr,V0,Vc];constructor
 ·rintro⟨x,hx,e⟩;have e:eqD (.int x) (.int a)=true:=e;rw[eqD,Vz]at e;rw[<-e];exact hx
 ·intro h;refine⟨a,h,?_⟩;show eqD (.int a) (.int a)=true;rw[eqD,VI]
theorem Gp(a:List Nat)(l:List (List Nat)):rH (.str a) (l.map D.str)=decide (a∈l):=by
 unfold rH;rw[Xy,Vr,V0,Vc];constructor
 ·rintro⟨x,hx,e⟩;have e:eqD (.str x) (.str a)=true:=e;rw[eqD,Vz]at e;rw[<-e];exact hx
 ·intro h;refine⟨a,h,?_⟩;show eqD (.str a) (.str a)=true;rw[eqD,VI]
theorem IK(a:Int)(l:List Int):Nj (.int a) (.lst (l.map D.int))=.ok (.f,.bl (decide (a∈l))):=by
 unfold Nj;dsimp only;rw[eS,xK,plainD];all_goals simp
variable{a:FG}{f:FX}
theorem iR{c:FT}{e:α->D}{p:α->Bool}{r:α->D}(I:PV.Env->Prop)(l:List α)
  (h:∀x∈l,∀env,I env->∃JP,a (e x) env=.ok JP/\∃J4,c JP=.ok (p x,J4)/\if p x then ∃o KI,f J4=.ok ((o,r x),KI)/\I KI else I J4):∀env,I env->b7 a c f (l.map e) env=.ok ((l.filter p).map r):=by
 induction l with
 |nil=>intro env _;rfl
 |cons x l ih=>
  intro env hI;obtain⟨JP,h1,J4,h2,h3⟩:=h x UR env hI;have ih:=ih fun y hy=>h y (US _ hy)
  rw[Vj,pZ,h1,Kp,h2,Kp];cases hp:p x with
  |true=>
   rw[hp]at h3;obtain⟨o,KI,h4,h5⟩:=h3;rw[U2 rfl,h4,Kp,ih KI h5,Kp,List.filter_cons_of_pos hp];rfl
  |false=>
   rw[hp]at h3;rw[U6 UY,ih J4 h3,List.filter_cons_of_neg (by rw[hp];exact UY)]
theorem bH{e:α->D}{r:α->D}(I:PV.Env->Prop)(l:List α)
  (h:∀x∈l,∀env,I env->∃JP,a (e x) env=.ok JP/\∃o KI,f JP=.ok ((o,r x),KI)/\I KI):∀env,I env->b7 a fO f (l.map e) env=.ok (l.map r):=by
 induction l with
 |nil=>intro env _;rfl
 |cons x l ih=>
  intro env hI;obtain⟨JP,h1,o,KI,h4,h5⟩:=h x UR env hI;have ih:=ih fun y hy=>h y (US _ hy)
  rw[Vj,pZ,h1,Kp,E4,Kp,U2 rfl,h4,Kp,ih KI h5];rfl
theorem BR{g:FS}(P:Nat->PV.Env->Prop)(ds:List D)(h:∀i d env,ds[i]?=some d->P i env->∃JP,a d env=.ok JP/\∃J4,(g JP=.ok (.nx J4)\/g JP=.ok (.ct J4))/\P (i+1) J4):
  ∀env,P 0 env->∃env',cQ a g ds env=.ok (.nx env')/\P ds.length env':=by
 have key:∀(l:List D) (k:Nat) (env:PV.Env),(∀i d,l[i]?=some d->ds[k+i]?=some d)->P k env->∃env',cQ a g l env=.ok (.nx env')/\P (k+l.length) env':=by
  intro l;induction l with
  |nil=>exact fun k env _ hp=>⟨env,rfl,hp⟩
  |cons d l ih=>
   intro k env hd hp;obtain⟨JP,h1,J4,h2,h3⟩:=h k d env (hd 0 d rfl) hp;obtain⟨env',h4,h5⟩:=ih (k+1) J4 (fun i d e=>by have:=hd (i+1) d (by simpa using e);rw[show k+1+i=k+(i+1) by lia];exact this) h3;refine⟨env',?_,by rw[Va,show k+(l.length+1)=k+1+l.length by lia];exact h5⟩;rw[bI,h1,Kp];rcases h2 with h2|h2
   ·rw[h2,Kp];exact h4
   ·rw[h2,Kp];exact h4
 intro env hp;obtain⟨env',h1,h2⟩:=key ds 0 env (fun i d e=>by rw[XM];exact e) hp;exact⟨env',h1,by rw[XM]at h2;exact h2⟩
section
variable(env:PV.Env)(fo:FO)(fp JU:FP)(a b:Int)(ds:List D)(x:List Nat)
theorem PH:jI fo fp JU env=Res.bnd (fo env) (f:=⟨fun p=>Res.bnd (fp p.2) (f:=⟨fun q=>Res.bnd (JU q.2) (f:=⟨fun t=>Res.bnd (K5 t.2 p.1) (f:=⟨fun d=>Res.bnd (Qf d q.1 t.1) (f:=⟨fun r=>.ok (r,t.2)⟩)⟩)⟩)⟩)⟩):=id rfl
theorem PJ:Bj fo env=Res.bnd (fo env) (f:=⟨fun p=>Res.bnd (K5 p.2 p.1) (f:=⟨fun d=>match d with
 | .int i=>.ok ((.f,.int (-i)),p.2)
 |_=>.bad⟩)⟩):=id rfl
theorem Fg(lo hi:Option Int):Qf (.lst ds) lo hi=.ok (.l .f,.lst (iH ds lo hi)):=id rfl
theorem Fh(lo hi:Option Int):Qf (.str x) lo hi=.ok (.f,.str (iH x lo hi)):=id rfl
theorem Fi(lo hi:Option Int)(h:HT.sIx ds.length 0 lo=0/\HT.sIx ds.length ds.length hi=ds.length):iH ds lo hi=ds:=by
 unfold iH;rw[h.1,h.2,Zj,Nat.sub_zero,WG (U3 _)]
theorem uI:Gm (.int a) (.int b)=if cA a||cA b then .ok (.f,.int (a*b)) else .bad:=id rfl
end
section
variable(env:PV.Env)(fo:FO)(fs:FOs)(f g:FX)(a b c:Int)(ds es:List D)(x y:List Nat)
theorem PL(gg:List D->List D->Res R):EI gg fo fs env=Res.bnd (fo env) (f:=⟨fun p=>Res.bnd (K5 p.2 p.1) (f:=⟨fun d=>match d with
 | .tup _=>Res.bnd (fs p.2) (f:=⟨fun q=>Res.bnd (K5 q.2 p.1) (f:=⟨fun d2=>match d2 with
  | .tup l=>Res.bnd (l8 q.2 q.1) (f:=⟨fun ds=>Res.bnd (gg l ds) (f:=⟨fun r=>.ok (r,q.2)⟩)⟩)
  |_=>.bad⟩)⟩)
 |_=>.bad⟩)⟩):=id rfl
theorem ML:gZ fs env=Res.bnd (fs env) (f:=⟨fun p=>Res.bnd (l8 p.2 p.1) (f:=⟨fun d=>match d with
 |[.int i,.int j,.int c]=>if dU i j c then .ok ((List.range (Builtin.Range.rangeSize i j c).toNat).map fun(k:Nat)=>D.int (i+(k:Int)*c),p.2) else .bad
 |_=>.bad⟩)⟩):=id rfl
theorem IL(d:D):(∃l,gU true d=.ok l/\gU false d=.bad/\mq d=some l)\/(∃l,gU true d=.bad/\gU false d=.ok l/\mq d=some l)\/(gU true d=.bad/\gU false d=.bad/\mq d=none):=by
 cases d with
 |lst l=>exact .inl ⟨l,rfl,rfl,rfl⟩
 |tup l=>exact .inr (.inl ⟨l,rfl,rfl,rfl⟩)
 |_=>exact .inr (.inr ⟨rfl,rfl,rfl⟩)
def xM(k1 k2:Bool)(e:PV.Env)(d1 d2:D):Res (List D×PV.Env):=(gU k1 d1).bind fun a=>(gU k2 d2).bind fun b=>.ok ((a.zip b).map fun z=>D.tup [z.1,z.2],e)
def HU(e:PV.Env)(d1 d2:D):Res (List D×PV.Env):=match mq d1,mq d2 with|some a,some b=>.ok ((a.zip b).map fun z=>D.tup [z.1,z.2],e)|_,_=>.bad
noncomputable def OK(a b:Res (List D×PV.Env)):Res (List D×PV.Env):=match a with | .ok a=>.ok a|_=>b
noncomputable def vQ(g:D->D->Res (List D×PV.Env))(os:List Opd):Res (List D×PV.Env):=match os with|[.val d1,.val d2]=>g d1 d2|_=>.bad
theorem oD(g h:D->D->Res (List D×PV.Env))(os:List Opd):OK (vQ g os) (vQ h os)=vQ (fun a b=>OK (g a b) (h a b)) os:=by
 unfold vQ;split <;> rfl
theorem BS(e:PV.Env)(a b:D):OK (xM true true e a b) (OK (xM true false e a b) (OK (xM false true e a b) (xM false false e a b)))=HU e a b:=by
 unfold xM HU;rcases IL a with⟨l,h1,h2,h3⟩|⟨l,h1,h2,h3⟩|⟨h1,h2,h3⟩ <;> rcases IL b with⟨m,i1,i2,i3⟩|⟨m,i1,i2,i3⟩|⟨i1,i2,i3⟩ <;> rw[h1,h2,h3,i1,i2,i3] <;> rfl
theorem Og:kJ fs env=Res.bnd (fs env) (f:=⟨fun p=>match p.1 with
 |[.val d1,.val d2]=>(match mq d1,mq d2 with|some a,some b=>.ok ((a.zip b).map fun z=>D.tup [z.1,z.2],p.2)|_,_=>.bad)
 |_=>.bad⟩):=by
 unfold kJ;rw[uH,uH,uH,kW,kW,kW,kW];cases fs env with
 |ok p=>
  show OK (vQ (xM true true p.2) p.1) (OK (vQ (xM true false p.2) p.1) (OK (vQ (xM false true p.2) p.1) (vQ (xM false false p.2) p.1)))=vQ (HU p.2) p.1;rw[oD,oD,oD];exact Wy (fun g=>vQ g p.1) (funext fun a=>funext fun b=>BS p.2 a b)
 |_=>rfl
theorem Oh:mq (.lst ds)=some ds:=id rfl
theorem Oi:mq (.tup ds)=some ds:=id rfl
theorem uJ:g7 (.int a) (.int b)=Gm (.int a) (.int b):=id rfl
theorem BU:g7 (.lst ds) (.int b)=if 0<=b/\b<1000000/\ds.length*b.toNat<=sizeLine then .ok (.l .f,.lst (List.replicate b.toNat ds).flatten) else .bad:=id rfl
theorem M9:pN f g env=Res.bnd (f env) (f:=⟨fun p=>Res.bnd (g p.2) (f:=⟨fun q=>if cS false p.1.2 then .ok ((.d,.dct false [p.1.2] [q.1.2]),q.2) else .bad⟩)⟩):=id rfl
theorem BV(d:D):rJ d (.lst ds)=Bb d (.lst ds):=id rfl
theorem Fj:cS false (.int a)=true:=id rfl
theorem Fl:cS false (.str x)=true:=id rfl
theorem Fm:EF [.int a,.int b]=.ok (.f,.int (if b<a then b else a)):=id rfl
theorem BX:bc (.int a) (.int b)=.ok (.f,.int (a+b)):=id rfl
theorem BY:bc (.str x) (.str y)=if x.length+y.length<=sizeLine then .ok (.f,.str (x++y)) else .bad:=id rfl
theorem uK:bc (.lst ds) (.lst es)=if ds.length+es.length<=sizeLine then .ok (.l .f,.lst (ds++es)) else .bad:=id rfl
theorem uL:bc (.tup ds) (.tup es)=if ds.length+es.length<=sizeLine\/ds=[] then .ok (.f,.tup (ds++es)) else .bad:=by
 unfold bc;cases ds with
 |nil=>rw[U2 (.inr rfl)];rfl
 |cons d ds=>
  dsimp only;unfold addD;dsimp only;by_cases h:(d::ds).length+es.length<=sizeLine
  ·rw[U2 ⟨nofun,h⟩,U2 (.inl h)]
  ·rw[U6 (fun z=>h z.2),U6 (fun z=>z.elim h nofun)]
end
section
variable(env:PV.Env)(f g:FX)(ds ks:List D)(i:Nat)
theorem BZ:xt f g env=Res.bnd (f env) (f:=⟨fun p=>Res.bnd (g p.2) (f:=⟨fun q=>.ok ((.t [.f,q.1.1],.tup [p.1.2,q.1.2]),q.2)⟩)⟩):=id rfl
end
section
variable(env:PV.Env)(f:FX)(fs:FOs)(ds:List D)(i:Nat)
theorem IM:Jw i env=match env[i]? with
 |some (some (ow,.lst ds))=>if isLf ow then(match ds.getLast? with
  |some d=>.ok ((.f,d),env.set i (some (ow,.lst ds.dropLast)))
  |none=>.bad) else .bad
 |_=>.bad:=id rfl
theorem d7:iJ i f env=Res.bnd (f env) (f:=⟨fun(p:R×PV.Env)=>match p.2[i]? with
 |some (some (.pin q c,d))=>.ok (.rt (.t [p.1.1,.pin q c],.tup [p.1.2,d]))
 |_=>.bad⟩):=by
 first
  |exact id rfl
  |(unfold iJ;rfl)
theorem xN(np nn:Nat)(c:O)(g:FS)(p:Addr)(d0:D)(h:ds.length+1=np):ju np nn c g p (d0::ds)=Res.bnd (g (some (.pin p c,d0)::(ds.map (fun d=>some (O.f,d))++List.replicate nn none))) (f:=⟨fun o=>match o with
  | .rt r=>.ok r
  |_=>.bad⟩):=by
 unfold ju;dsimp only;rw[U2 h];rfl
end
noncomputable def pv:=(Zy @Kp (Zy @Ph (Zy @Mt (Zy @NR (Zy @Pj (Zy @Pk (Zy @NS (Zy @M4 (Zy @NT (Zy @M5 (Zy @Pm (Zy @Pn (Zy @NU (Zy @NV (Zy @NW (Zy @NY (Zy @M6 (Zy @M7 (Zy @NZ (Zy @N1 (Zy @N3 (Zy @Po (Zy @N4 (Zy @Ry (Zy @Pp (Zy @Rz (Zy @Pq (Zy @N5 (Zy @Pr (Zy @Pt (Zy @Pu (Zy @PH (Zy @PJ (Zy @N6 (Zy @N7 (Zy @Pw (Zy @N8 (Zy @RA (Zy @N9 (Zy @Px (Zy @Oa (Zy @Md (Zy @Me (Zy @Mf (Zy @Py (Zy @Ob (Zy @LD (Zy @K9 (Zy @Oc (Zy @KQ (Zy @Mg (Zy @KY (Zy @Od (Zy @M8 (Zy @Oe (Zy @Pz (Zy @RB (Zy @PB (Zy @Of (Zy @PD (Zy @List.getElem?_cons_zero.{0} (Zy @List.getElem?_cons_succ.{0} (Zy @List.set_cons_zero.{0} (Zy @List.set_cons_succ.{0} (Zy @List.length_cons.{0} (Zy @List.length_nil.{0} (Zy @List.map_cons.{0,0} (Zy @List.map_nil.{0,0} (Zy @List.replicate_succ.{0} (Zy @List.replicate_zero.{0} (Zy @List.cons_append.{0} (Zy @List.nil_append.{0} (Zy @Nat.zero_add (Zy @PL (Zy @ML (Zy @Og (Zy @Oh (Zy @Oi (Zy @M9 (Zy @Rw (Zy @Rx (Zy @NQ @M3))))))))))))))))))))))))))))))))))))))))))))))))))))))))))))))))))))))))))))))))))
noncomputable def op:=(Zy @HG (Zy @HI (Zy @HJ (Zy @HK (Zy @E6 (Zy @HL (Zy @HM (Zy @HN (Zy @HP (Zy @E9 (Zy @Fb (Zy @Fc (Zy @BQ (Zy @xI (Zy @Fe (Zy @HQ (Zy @HR (Zy @HS (Zy @Fg (Zy @Fh (Zy @Ff (Zy @Qj (Zy @PF (Zy @yY (Zy @oA (Zy @xJ (Zy @kX (Zy @oB (Zy @flat_ints (Zy @qe (Zy @bS (Zy @Fm (Zy @BX (Zy @BV (Zy @Fj @Fl)))))))))))))))))))))))))))))))))))
theorem dV(n:Nat)(w:PV.Env):(∃d,K5 w (.var n)=.ok d)\/K5 w (.var n)=.bad:=by
 unfold K5;dsimp only;split
 ·split
  ·exact .inl ⟨_,rfl⟩
  ·exact .inr rfl
 ·exact .inr rfl
section
variable(w:PV.Env)(op:D->D->Res R)(F:List D->Res R)(f g h:FX)(n n' n'':Nat)(x y:D)
end
section
variable(a b c d e g h i j k l m:Option R)(z:PV.Env)(r:R)(o:O)(x:D){ρ:Type}
end
end PV
namespace LW
abbrev fq(d:PV.D):Option PV.R:=some (.f,d)
abbrev fI(i:Int):Option PV.R:=some (.f,.int i)
abbrev fL(l:List PV.D):Option PV.R:=some (.l .f,.lst l)
open PV
variable{α:Type}{a:FG}{g:FS}
theorem for_list{e:α->D}(l:List α)(P:Nat->PV.Env->Prop)
  (h:∀k x env,l[k]?=some x->P k env->∃JP,a (e x) env=.ok JP/\∃J4,g JP=.ok (.nx J4)/\P (k+1) J4):∀env,P 0 env->∃env',cQ a g (l.map e) env=.ok (.nx env')/\P l.length env':=by
 intro env h0;have:=BR (a:=a) (g:=g) P (l.map e) (fun i d env hi hp=>by
  rw[Vd,VF]at hi;obtain⟨x,hx,rfl⟩:=hi;obtain⟨JP,h1,J4,h2,h3⟩:=h i x env hx hp;exact⟨JP,h1,J4,.inl h2,h3⟩) env h0
 rwa [U1]at this
theorem fS{e:Nat->D}(n:Nat)(P:Nat->PV.Env->Prop)
  (h:∀k env,k<n->P k env->∃JP,a (e k) env=.ok JP/\∃J4,g JP=.ok (.nx J4)/\P (k+1) J4):∀env,P 0 env->∃env',cQ a g ((List.range n).map e) env=.ok (.nx env')/\P n env':=by
 intro env h0;have:=for_list (a:=a) (g:=g) (e:=e) (List.range n) P (fun k x env hk hp=>by
  obtain⟨h1,h2⟩:=U0.mp hk;rw[Vl]at h1;rw[W9]at h2;subst h2;exact h k env h1 hp) env h0
 rwa [Vl]at this
abbrev LNN:=List (List Nat)
variable{β:Type}
theorem aO{l:List α}(f:α->β):(l.map f).length=l.length:=U1 f
theorem cV:(false=true)=False:=W8
variable{i:Nat}
theorem kY{l:List α}{a:α}(h:l[i]?=some a):∃h:i<l.length,l[i]=a:=U0.mp h
theorem eT{l:List α}(h:i<l.length):l[i]?=some l[i]:=UT h
theorem cW{f:α->β}{a:α}{l:List α}:(a::l).map f=f a::l.map f:=Vj
theorem iw{a b:α}(h:a∈[b]):a=b:=Vi.mp h
theorem rg{f:α->β}{l:List α}{b:β}(h:b∈l.map f):∃a,a∈l/\f a=b:=WA.mp h
theorem oE{a:α}{s t:List α}(h:a∈s++t):a∈s\/a∈t:=Vs.mp h
theorem iy{s t:List α}:(s++t).length=s.length+t.length:=VD
theorem ag{s t:FS}{env env':PV.Env}(h:s env=.ok (.nx env')):sSeq s t env=t env':=by rw[KY,h,Kp]
theorem mU{ds:List D}(h:ds.length<=16777216):ds.length<=sizeLine:=line_le h
theorem j3{l:List Int}{k:Nat}(h:k<l.length):atI (l.map D.int) (k:Int)=some (.int (l.getD k 0)):=di (by rw[Vd,UU,eT h];rfl)
theorem yZ{l:LNN}{k:Nat}(h:k<l.length):atI (l.map D.str) (k:Int)=some (.str l[k]):=di (by rw[Vd,eT h];rfl)
theorem at2(a b c:α):atI [a,b,c] (2:Int)=some c:=rfl
theorem eU:∀l:LNN,gm (l.map D.str)=some l
 |[]=>rfl
 |a::l=>by
  rw[cW,gm,eU l];rfl
theorem fT(x y:D)(t1 t2:Option R)(rest:PV.Env):gT 2 (ax (aq 0) (ax (aq 1) b6)) (.tup [x,y]) (t1::t2::rest)=.ok (fq x::fq y::rest):=by
 rw[Mg,U2 (by simp),KQ,K9,U2 (by simp),Kp,KQ,K9,U2 (by simp),Kp];rfl
theorem d8(lt:α->α->Bool)(l:List α):(a8 lt l).length=l.length:=(de lt l).length_eq
theorem B0(l:LNN)(h:l.length<64):cR [.lst (l.map D.str)]=.ok (.l .f,.lst ((a8 OE l).map D.str)):=by
 unfold cR;dsimp only;rw[U2 (by rw[aO];exact h)];unfold jq;cases l with
 |nil=>rfl
 |cons a l=>
  have e:b8 ((a::l).map D.str)=none:=rfl;rw[e,eU]
noncomputable def rh(c:Nat):Bool:=decide (97<=c)&&decide (c<=122)
noncomputable def mV:List Nat:=[109,111,118,101,115]
noncomputable def Mu:List Nat:=[97,98,99,100,101,102,103,104,105,106,107,108,109,110,111,112,113,114,115,116,117,118,119,120,121,122]
theorem Fo(j:Nat)(h:j<26):Mu[j]?=some (97+j):=by
 have:∀j:_root_.Fin 26,Mu[j.1]?=some (97+j.1):=by decide
 exact this ⟨j,h⟩
theorem y0(j:Int)(h0:0<=j)(h:j<26):atI Mu j=some (97+j.toNat):=by
 obtain⟨n,rfl⟩:=Vk h0;exact di (Fo n (by lia))
theorem Fp(j:Int)(h0:0<=j)(h:j<26):rh (97+j.toNat)=true:=by
 unfold rh;have h1:97<=97+j.toNat:=by lia
 have h2:97+j.toNat<=122:=by lia
 simp only[h1,h2,Xh,VW]
theorem fU(x b:Int)(h:0<b):0<=x%b/\x%b<b:=⟨Int.emod_nonneg _ (by lia),ZJ _ h⟩
theorem Gq(n:Nat)(h:n<=200):qO (.int 10) (.int (n:Int))=.ok (.f,.int (10 ^ n)):=by
 rw[E8,U2 (by lia),V9]
theorem jK(x b:Int)(h:0<b):dR (.int x) (.int b)=.ok (.f,.int (x%b)):=by rw[E7,U2 h]
theorem kZ(x b:Int)(h:0<b)(h2:b<1073741824):dQ (.int x) (.int b)=.ok (.f,.int (x / b)):=by rw[BP,U2 ⟨h,h2⟩]
theorem Fq(x y:Int)(h:cA y=true):g7 (.int x) (.int y)=.ok (.f,.int (x*y)):=by rw[uJ,uI,h,Bool.or_true,U2 rfl]
theorem mW(k:Nat)(h:k<=1000000):cA (k:Int)=true:=by
 unfold cA;rw[Vc];lia
theorem HV(x y:List Nat)(h:x.length+y.length<=1000):bc (.str x) (.str y)=.ok (.f,.str (x++y)):=by rw[BY,U2 (line_le (by lia))]
def fix(t:List Nat):List Nat:=if t==mV then[109,111,118,101,115,97] else t
theorem iS(l:List α)(k:Nat):iH l none (some (k:Int))=l.take k:=by
 unfold iH;rw[HT.oX,HT.kc,Zj,Nat.sub_zero];by_cases h:k<=l.length
 ·rw[X9 h]
 ·rw[Nat.min_eq_right (by lia),WG (U3 _),WG (by lia)]
theorem k4(l:List α)(k:Nat):iH l (some (k:Int)) none=l.drop k:=by
 unfold iH;rw[HT.oX,HT.kc];by_cases h:k<=l.length
 ·rw[X9 h,WG (by rw[Wi];exact U3 _)]
 ·rw[Nat.min_eq_right (by lia),YV (U3 _),YV (by lia),List.take_nil]
theorem Fs(c:Nat)(h:rh c=true):qQ Mu [.str [c]]=.ok (.f,.int ((c-97:Nat):Int)):=by
 unfold rh at h;rw[U4,Vc,Vc]at h;obtain⟨j,rfl⟩:∃j,c=97+j:=⟨c-97,by lia⟩
 have key:∀j:_root_.Fin 26,Builtin.Str.occurrences (S Mu) (S [97+j.1]) 0 (S Mu).length 1=[j.1]:=by
  intro j;rw[PySem.StrLaws.occ_eq];revert j;decide
 unfold qQ;dsimp only;rw[key ⟨j,by lia⟩,Nat.add_sub_cancel_left]
theorem B1{s t:List Nat}(h:s.length=t.length)(e:fix s=fix t):s=t:=by
 unfold fix at e;cases h1:s==mV with
 |true=>
  cases h2:t==mV with
  |true=>rw[Vz.mp h1,Vz.mp h2]
  |false=>
   rw[h1,h2,U2 rfl,U6 UY]at e;rw[<-e,Vz.mp h1]at h;cases h
 |false=>
  cases h2:t==mV with
  |true=>
   rw[h1,h2,U2 rfl,U6 UY]at e;rw[e,Vz.mp h2]at h;cases h
  |false=>
   rw[h1,h2,U6 UY,U6 UY]at e;exact e
theorem cH(f:Nat->α)(n:Nat)(h:∀i j,i<n->j<n->f i=f j->i=j):((List.range n).map f).Nodup:=by
 rw[List.nodup_iff_pairwise_ne,List.pairwise_map];refine List.pairwise_lt_range.imp_of_mem fun{a b} ha hb hl e=>?_
 have:=h a b (Vv.mp ha) (Vv.mp hb) e;lia
theorem JE(j:Int)(h0:0<=j)(h:j<=1000)(fo:FO)(env env':PV.Env)(o:Opd)(e1:fo env=.ok (o,env'))(e2:K5 env' o=.ok (.int j)):bU fo env=.ok ((List.range j.toNat).map fun(k:Nat)=>D.int (k:Int),env'):=by
 rw[LD,e1,Kp];dsimp only;rw[e2,Kp];dsimp only;rw[U2 (by lia)]
theorem B2(l:List α)(a b:Nat)(h:a<=b)(hb:b<=l.length):iH l (some (a:Int)) (some (b:Int))=(l.drop a).take (b-a):=by
 unfold iH;rw[HT.kc,HT.kc,X9 hb,X9 (Vo h hb)]
theorem uM(d:D)(h:plainD 40 d=true):neO d d=.ok (.f,.bl false):=by
 unfold neO;rw[h,gk d 40 h];rfl
theorem xO(l:List Int):plainD 40 (.tup (l.map D.int))=true:=by
 rw[plainD,eS]
theorem isT(ds:List D):xh "tuple" (.tup ds)=true:=rfl
theorem uN(f:α->β)(l:List α)(lo hi:Option Int):iH (l.map f) lo hi=(iH l lo hi).map f:=by
 unfold iH;rw[aO,<-ZL,<-YD]
theorem oF{l:List α}(h:l.length<=100000):l.length<sizeLine:=Vb (WM _) (line_le (by lia))
end LW
namespace LW
open PV
section
variable(env:PV.Env)(f:FX)(fs:FOs)(fo:FO)
theorem B3(i:Nat)(c:O)(F:Addr->List D->Res R):eFunW c F i fs env=Res.bnd (fs env) (f:=⟨fun p=>match p.1 with
 | .var j::os=>if j=i then(match p.2[i]? with
  |some (some (ow,d0))=>if mD c ow then Res.bnd (eZ (p.2.set i none) os) (f:=⟨fun ds=>Res.bnd (g8 F c d0 ds) (f:=⟨fun x=>if aw x.1.1 x.1.2&&aw c x.2 then .ok (x.1,(p.2.set i none).set i (some (ow,x.2))) else .ok (x.1,((p.2.set i none).map frz).set i (some (ow,x.2)))⟩)⟩) else .bad
  |_=>.bad) else .bad
 |_=>.bad⟩):=id rfl
theorem Ft(r:R):frz (some r)=fq r.2:=id rfl
theorem Gs:frz none=none:=id rfl
theorem y4(gg:List D->List D->Res R):Gn gg fo fs env=Res.bnd (fo env) (f:=⟨fun p=>Res.bnd (K5 p.2 p.1) (f:=⟨fun d=>match d with
 | .lst _=>Res.bnd (fs p.2) (f:=⟨fun q=>Res.bnd (K5 q.2 p.1) (f:=⟨fun d2=>match d2 with
  | .lst l=>Res.bnd (l8 q.2 q.1) (f:=⟨fun ds=>Res.bnd (gg l ds) (f:=⟨fun r=>.ok (r,q.2)⟩)⟩)
  |_=>.bad⟩)⟩)
 |_=>.bad⟩)⟩):=id rfl
end
theorem o_isnN:isnO .non .non=.ok (.f,.bl false):=id rfl
abbrev J0:=Int×List Nat×Int
noncomputable def eA(a:J0):D:=.tup [.int a.1,.str a.2.1,.int a.2.2]
theorem iT:∀(n:Nat) {l:List Int},l.Nodup->(∀x∈l,0<=x/\x<(n:Int))->l.length<=n
 | 0,l,_,hb=>by
  cases l with
  |nil=>exact U3 _
  |cons a l=>have:=hb a UR;lia
 |n+1,l,nd,hb=>by
  have h1:=iT n (l:=l.erase (n:Int)) (nd.erase _) fun x hx=>by
   have h2:=(nd.mem_erase_iff.mp hx)
   have h3:=hb x h2.2;have h4:=h2.1;lia
  have:=List.length_erase_le (a:=(n:Int)) (l:=l);have h5:l.length<=(l.erase (n:Int)).length+1:=by
   by_cases hm:(n:Int)∈l
   ·rw[Xx hm];have:=W6 hm;lia
   ·rw[List.erase_of_not_mem hm];lia
  lia
def JY(nY:LNN)(am:List J0):D:=.tup [.tup (nY.map D.str),.lst (am.map eA)]
theorem dA(a:J0)(t1 t2 t3:Option R)(rest:PV.Env):gT 3 (ax (aq 0) (ax (aq 1) (ax (aq 2) b6))) (eA a) (t1::t2::t3::rest)=.ok (fI a.1::fq (.str a.2.1)::fI a.2.2::rest):=by
 unfold eA;rw[Mg,U2 (by simp),KQ,K9,U2 (by simp),Kp,KQ,K9,U2 (by simp),Kp,KQ,K9,U2 (by simp),Kp];rfl
variable{α:Type}
theorem xP{f:α->D}{p:α->Bool}{l:List α}(h:l.length<=16777216):((l.filter p).map f).length<=sizeLine:=by
 rw[aO];exact line_le (Vo (Wa _ _) h)
theorem y6(l:List Int):(mq (.lst (l.map D.int))).bind b8=some l:=jS l
noncomputable def iL(a:J0):Int:=if a.1<a.2.2 then a.2.2 else a.1
def aE(am:List J0):Int:=1+NX.maxD (am.map iL) 0
theorem qf{f:α->D}{l:List α}(h:∀a,flatD (f a)=true):flatDs (l.map f)=true:=by
 rw[bz,V4,Vg];intro a _;exact h a
theorem oG(nY:LNN)(am:List J0)(hl:am.length<=16777216):bV [JY nY am]=.ok (.f,.int (aE am)):=by
 unfold bV jv;rw[ba (h:=by rfl)];simp only[pv,seval,op,JY];rw[bH (r:=fun a:J0=>D.int (iL a)) (fun env=>∃t1 t2 t3,env=[t1,t2,t3]) am ?_ _ ⟨_,_,_,rfl⟩]
 ·rw[Kp,U2 (mU (by rw[aO];exact hl)),Kp,qf fun a=>kX _];simp only[pv,seval,op];have e:(some (am.map fun a=>D.int (iL a))).bind b8=some (am.map iL):=by
   have:=y6 (am.map iL);rw[Vy]at this;exact this
  rw[e];rfl
 ·rintro a _ env ⟨t1,t2,t3,rfl⟩;refine⟨_,dA a t1 t2 t3 _,?_⟩;simp only[pv,seval,op];exact⟨_,_,rfl,_,_,_,rfl⟩
theorem B4(a:J0):flatD (eA a)=true:=rfl
theorem B5(as:List J0):flatDs (as.map eA)=true:=by
 rw[bz,V4,Vg];exact fun p _=>B4 p
theorem JF(w:LNN)(m:List Nat)(h:w.length<=1000):bc (.tup (w.map D.str)) (.tup [.str m])=.ok (.f,.tup ((w++[m]).map D.str)):=by
 rw[uL,U2 (.inl (line_le (by rw[aO,Va,We];lia))),Vh];rfl
noncomputable def ak(a:J0):List Key:=[.inl a.1,.inr (S a.2.1),.inl a.2.2]
def bB(a b:J0):Bool:=gN (ak a) (ak b)
theorem S_inj{a b:List Nat}(h:S a=S b):a=b:=by
 have:=Wy (fun s:Str=>s.cps.toList) h;simpa only[cj] using this
theorem HW(a:J0):kT (ak a)=eA a:=by
 unfold kT ak eA;simp only[cW,VT,kD,cj]
theorem uO{α β:Type}(f:α->β)(lt:β->β->Bool)(x:α):∀l:List α,ins lt (f x) (l.map f)=(ins (fun a b=>lt (f a) (f b)) x l).map f
 |[]=>rfl
 |y::ys=>by
  rw[cW,ins,ins];cases lt (f y) (f x) with
  |true=>rw[U2 rfl,U2 rfl,uO f lt x ys,cW]
  |false=>rw[U6 UY,U6 UY,cW,cW]
theorem mX{α β:Type}(f:α->β)(lt:β->β->Bool):∀l:List α,a8 lt (l.map f)=(a8 (fun a b=>lt (f a) (f b)) l).map f
 |[]=>rfl
 |x::l=>by
  show ins lt (f x) (a8 lt (l.map f))=_;rw[mX f lt l,uO];rfl
theorem uP(as:List J0):as.map eA=(as.map ak).map kT:=by
 rw[Vy];exact VO fun a _=>(HW a).symm
theorem HX(a b:J0):eqD (eA a) (eA b)=decide (a=b):=by
 obtain⟨x,y,z⟩:=a;obtain⟨x',y',z'⟩:=b;unfold eA;simp only[eqD,gj];rw[Vr];simp
theorem d9:∀(l:List Int) (b:Int),b<=l.foldl max b/\(∀x∈l,x<=l.foldl max b)/\(l.foldl max b=b\/l.foldl max b∈l)
 |[],b=>⟨Zu _,fun _ h=>(nomatch h),.inl rfl⟩
 |a::l,b=>by
  obtain⟨h1,h2,h3⟩:=d9 l (max b a);rw[Xe];refine⟨by lia,fun x hx=>?_,?_⟩
  ·rcases U5.mp hx with rfl|hx
   ·lia
   ·exact h2 x hx
  ·rcases h3 with h3|h3
   ·rw[h3];by_cases h:b<=a
    ·exact .inr (by rw[Int.max_eq_right h];exact UR)
    ·exact .inl (Int.max_eq_left (by lia))
   ·exact .inr (US _ h3)
variable{ns:List Int}{x:Int}
theorem k7(h:x∈ns):x<=lV ns:=(d9 ns _).2.1 x h
theorem qg(h:ns≠[]):lV ns∈ns:=by
 cases ns with
 |nil=>exact absurd rfl h
 |cons a l=>
  rcases(d9 (a::l) a).2.2 with e|e
  ·show List.foldl max a (a::l)∈a::l;rw[e];exact UR
  ·exact e
theorem B6{d:Int}(h:x∈ns):x<=NX.maxD ns d:=by
 unfold NX.maxD;rw[U6 (List.ne_nil_of_mem h)];exact k7 h
theorem uQ(ns:List Int)(d:Int):(ns=[]/\NX.maxD ns d=d)\/NX.maxD ns d∈ns:=by
 unfold NX.maxD;by_cases h:ns=[]
 ·exact .inl ⟨h,U2 h⟩
 ·rw[U6 h];exact .inr (qg h)
theorem oH(a:J0):a.1<=iL a/\a.2.2<=iL a/\(iL a=a.1\/iL a=a.2.2):=by
 unfold iL;split
 ·exact⟨by lia,by lia,.inr rfl⟩
 ·exact⟨by lia,by lia,.inl rfl⟩
variable{am:List J0}{a:J0}
theorem mY(h:a∈am):a.1<aE am/\a.2.2<aE am:=by
 have h1:=B6 (d:=0) (WA.mpr ⟨a,h,rfl⟩:iL a∈am.map iL);obtain⟨h2,h3,_⟩:=oH a;unfold aE;lia
theorem ri(h:∀a∈am,0<=a.1/\0<=a.2.2):1<=aE am:=by
 unfold aE;rcases uQ (am.map iL) 0 with⟨_,e⟩|e
 ·lia
 ·obtain⟨a,ha,e2⟩:=rg e;have:=h a ha;obtain⟨h1,h2,_⟩:=oH a;lia
theorem br(lt:α->α->Bool){l:List α}{a:α}:a∈a8 lt l<->a∈l:=(de lt l).mem_iff
structure Ra(nY:LNN)(as:List J0)(mZ:Nat):Prop where
 mm:1<=mZ/\mZ<=12
 len:as.length<=60
 bd:∀a∈as,(0<=a.1/\a.1<(mZ:Int))/\0<=a.2.2/\a.2.2<(mZ:Int)
 nm:∀a∈as,a.2.1∈nY
 rc:∃f:Nat->Nat,∀j:Nat,1<=j->j<mZ->∃a∈as,a.2.2=(j:Int)/\∃b:Nat,f b<f j/\a.1=(b:Int)
variable{mZ:Nat}
theorem m6(hm:1<=mZ)(h:∀a∈am,(0<=a.1/\a.1<(mZ:Int))/\0<=a.2.2/\a.2.2<(mZ:Int)):1<=aE am/\aE am<=(mZ:Int):=by
 refine⟨ri fun a ha=>?_,?_⟩
 ·have:=h a ha;lia
 ·unfold aE;rcases uQ (am.map iL) 0 with⟨_,e⟩|e
  ·lia
  ·obtain⟨a,ha,e2⟩:=rg e;have:=h a ha;obtain⟨h1,h2,h3⟩:=oH a;lia
variable{nY:LNN}
theorem Ra.sort{as:List J0}(r:Ra nY as mZ):Ra nY (a8 bB as) mZ:=by
 refine⟨r.mm,by rw[d8];exact r.len,fun a ha=>r.bd a ((br bB).mp ha),fun a ha=>r.nm a ((br bB).mp ha),?_⟩;obtain⟨f,h⟩:=r.rc;refine⟨f,fun j h1 h2=>?_⟩;obtain⟨a,ha,q⟩:=h j h1 h2;exact⟨a,(br bB).mpr ha,q⟩
theorem uR(as:List J0)(h:as.length<64):cR [.lst (as.map eA)]=.ok (.l .f,.lst ((a8 bB as).map eA)):=by
 have key:jq (as.map eA)=some ((a8 bB as).map eA):=by
  cases as with
  |nil=>rfl
  |cons a as=>
   have e1:jm ((a::as).map eA)=some ((a::as).map ak):=by rw[uP,jU]
   have e2:sameKinds (ak a) (as.map ak)=true:=by
    unfold sameKinds;rw[V4,U4,Vg];exact⟨rfl,fun b _=>rfl⟩
   unfold jq;rw[e1,cW,cW];dsimp only[eA,b8,gm];rw[U2 e2,<-cW,mX ak gN,uP];rfl
 unfold cR;dsimp only;rw[U2 (by rw[aO];exact h),key]
variable{j:Nat}
theorem rj{l:List α}{x:α}{y:α}(h:(l++[x])[j]?=some y):l[j]?=some y\/(j=l.length/\y=x):=by
 by_cases hj:j<l.length
 ·rw[V5 hj]at h;exact .inl h
 ·rw[WH (by lia)]at h;by_cases e:j-l.length=0
  ·rw[e]at h;exact .inr ⟨by lia,by simpa using h.symm⟩
  ·rw[Wt (by simp;lia)]at h;cases h
abbrev Pl:=Int×List Int×List Int
noncomputable def eP(p:Pl):D:=.tup [.int p.1,.tup (p.2.1.map D.int),.tup (p.2.2.map D.int)]
def Lb(p:Pl)(cnt:Nat):Prop:=p.2.1.length=cnt/\p.2.2.length=cnt
def aQ(k:Nat):List (Int×Pl)->Option (List Int)
 |[]=>some []
 |z::zs=>if z.1<z.2.2.1.getD k 0 then none else(aQ k zs).map fun r=>(z.1-z.2.2.1.getD k 0+z.2.2.2.getD k 0)::r
theorem m7(k:Nat):∀{zs:List (Int×Pl)}{r:List Int},aQ k zs=some r->r.length=zs.length
 |[],r,h=>by cases h;rfl
 |z::zs,r,h=>by
  rw[aQ]at h;split at h
  ·cases h
  ·rw[VF]at h;obtain⟨r',h1,rfl⟩:=h;rw[Va,Va,m7 k h1]
theorem k8(k:Nat):∀{zs:List (Int×Pl)}{r:List Int}{j:Nat}{z:Int×Pl},aQ k zs=some r->zs[j]?=some z->¬ z.1<z.2.2.1.getD k 0/\r[j]?=some (z.1-z.2.2.1.getD k 0+z.2.2.2.getD k 0)
 |[],r,j,z,h,e=>by cases e
 |y::zs,r,j,z,h,e=>by
  rw[aQ]at h;split at h
  ·cases h
  ·rename_i hn;rw[VF]at h;obtain⟨r',h1,rfl⟩:=h;cases j with
   |zero=>
    rw[List.getElem?_cons_zero]at e;cases e;exact⟨hn,rfl⟩
   |succ j=>
    rw[YB]at e ⊢;exact k8 k h1 e
theorem B7(A0 A1:Option R)(k cnt:Nat)(hk:k<cnt)(acc:List Int)(hl:acc.length<=1000)(z:Int×Pl)(hz:Lb z.2 cnt):bq [A0,A1,fI (k:Int),fL (acc.map D.int),fI z.1,fq (eP z.2)]=if z.1<z.2.2.1.getD k 0 then .ok (.rt (.f,.non)) else .ok (.nx [A0,A1,fI (k:Int),fL ((acc++[z.1-z.2.2.1.getD k 0+z.2.2.2.getD k 0]).map D.int),fI z.1,fq (eP z.2)]):=by
 have h1:atI (z.2.2.1.map D.int) (k:Int)=some (.int (z.2.2.1.getD k 0)):=j3 (by rw[hz.1];exact hk);have h2:atI (z.2.2.2.map D.int) (k:Int)=some (.int (z.2.2.2.getD k 0)):=j3 (by rw[hz.2];exact hk);have Tq:(acc.map D.int).length<sizeLine:=oF (by rw[aO];lia);unfold bq eP;by_cases h:z.1<z.2.2.1.getD k 0
 ·rw[U2 h];simp only[pv,seval,op,h1,h,Xh]
 ·rw[U6 h,Vh,cW,VT];simp only[pv,seval,op,h1,h2,at2,h,Xi,cV,Tq]
theorem j4(A0 A1:Option R)(k cnt:Nat)(hk:k<cnt):∀(zs:List (Int×Pl)) (acc:List Int) (t5 t6:Option R),acc.length+zs.length<=1000->(∀z∈zs,Lb z.2 cnt)->
  (aQ k zs=none/\cQ (gT 2 (ax (aq 4) (ax (aq 5) b6))) bq (zs.map fun z:Int×Pl=>D.tup [D.int z.1,eP z.2]) [A0,A1,fI (k:Int),fL (acc.map D.int),t5,t6]=.ok (.rt (.f,.non)))\/
  ∃r u5 u6,aQ k zs=some r/\cQ (gT 2 (ax (aq 4) (ax (aq 5) b6))) bq (zs.map fun z:Int×Pl=>D.tup [D.int z.1,eP z.2]) [A0,A1,fI (k:Int),fL (acc.map D.int),t5,t6]=.ok (.nx [A0,A1,fI (k:Int),fL ((acc++r).map D.int),u5,u6])
 |[],acc,t5,t6,_,_=>.inr ⟨[],t5,t6,rfl,by rw[Vm];rfl⟩
 |z::zs,acc,t5,t6,hl,hp=>by
  have h1:=B7 A0 A1 k cnt hk acc (by rw[Va]at hl;lia) z (hp z UR);have ha:gT 2 (ax (aq 4) (ax (aq 5) b6)) (D.tup [D.int z.1,eP z.2]) [A0,A1,fI (k:Int),fL (acc.map D.int),t5,t6]=.ok [A0,A1,fI (k:Int),fL (acc.map D.int),fI z.1,fq (eP z.2)]:=by simp only[pv,seval]
  rw[cW,bI,ha,Kp,h1,aQ];by_cases h:z.1<z.2.2.1.getD k 0
  ·left
   rw[U2 h,U2 h];exact⟨rfl,by rw[Kp]⟩
  ·rw[U6 h,U6 h,Kp];rcases j4 A0 A1 k cnt hk zs (acc++[z.1-z.2.2.1.getD k 0+z.2.2.2.getD k 0]) (fI z.1) (fq (eP z.2)) (by rw[Va]at hl;rw[iy,Vf];lia) (fun y hy=>hp y (US _ hy)) with⟨e1,e2⟩|⟨r,u5,u6,e1,e2⟩
   ·left
    exact⟨by rw[e1];rfl,e2⟩
   ·right;refine⟨_,u5,u6,by rw[e1];rfl,?_⟩;rw[VH]at e2;exact e2
def eN(nY:LNN)(ps:List Pl):D:=.tup [.tup (nY.map D.str),.lst (ps.map eP)]
noncomputable def eM(m:List Int):D:=.tup (m.map D.int)
theorem uS {nY : LNN} {m : List Nat} (h : m ∈ nY) : my (nY.map D.str) [.str m] = .ok (.f, .int ((nY.idxOf m : Nat) : Int)) := by
  first
    | (unfold my
       dsimp only
       rw [eU]
       dsimp only
       rw [U2 h])
    | (unfold my
       simp only [eU, h, Xd])
variable{β:Type}
theorem gJ(f:α->D)(g:β->D)(xs:List α)(ys:List β):((xs.map f).zip (ys.map g)).map (fun z=>D.tup [z.1,z.2])=(xs.zip ys).map fun z=>D.tup [f z.1,g z.2]:=by
 rw[List.zip_map,Vy];rfl
def oM:Option (List Int)->D
 |none=>.non
 |some m=>eM m
theorem B8(ps:List Pl)(cnt:Nat)(hl:ps.length<=100)(hp:∀p∈ps,Lb p cnt)(m:List Int)(k:Nat)(hk:k<cnt):cM [.lst (ps.map eP),eM m,.int (k:Int)]=.ok (.f,oM (aQ k (m.zip ps))):=by
 unfold cM ik eM;rw[ba (h:=by rfl)];rw[ag (env':=[fq (.lst (ps.map eP)),fq (.tup (m.map D.int)),fI (k:Int),fL [],none,none]) (by simp only[pv,seval,op])];rcases j4 (fq (.lst (ps.map eP))) (fq (.tup (m.map D.int))) k cnt hk (m.zip ps) [] none none (by rw[We,Ws];lia) (fun z hz=>hp _ (WZ (show(z.1,z.2)∈m.zip ps from hz)).2) with⟨e1,e2⟩|⟨r,u5,u6,e1,e2⟩
 ·rw[e1];rw[VT]at e2;unfold cT oM;simp only[pv,seval,op,gJ,e2]
 ·rw[e1];rw[VT,XE]at e2;unfold cT d5 oM eM;simp only[pv,seval,op,gJ,e2]
theorem eqDs_ints:∀a b:List Int,gj (a.map D.int) (b.map D.int)=decide (a=b)
 |[],[]=>rfl
 |[],_::_=>rfl
 |_::_,[]=>rfl
 |x::a,y::b=>by
  rw[cW,cW,gj,eqDs_ints a b,eqD,Vr];simp
theorem uT(a b:List Int):eqD (eM a) (eM b)=decide (a=b):=by
 unfold eM;rw[eqD,eqDs_ints]
theorem eg(a:List Int):plainD 40 (eM a)=true:=xO a
theorem k9(l:List (List Int)):plainDs 40 (l.map eM)=true:=by
 induction l with
 |nil=>rfl
 |cons a l ih=>
  rw[cW,plainDs,ih,Xm];exact eg a
theorem dB{α:Type}[DecidableEq α](a:α):∀l:List α,a∉l->((l++[a]).findIdx fun x=>decide (x=a))=l.length
 |[],_=>by simp
 |x::l,h=>by
  rw[U5,not_or]at h;rw[Wj,Yw,dB a l h.2,Vx (fun e=>h.1 e.symm)];rfl
theorem HY[DecidableEq α]{e:α->D}(he:∀a b,eqD (e a) (e b)=decide (a=b))(hp:∀l:List α,plainDs 40 (l.map e)=true)(hq:∀a,plainD 40 (e a)=true)(l:List α)(a:α)(h:a∉l):mF (l.map e++[e a]) [e a]=.ok (.f,.int (l.length:Int)):=by
 have e0:l.map e++[e a]=(l++[a]).map e:=by rw[Vh];rfl
 have e1:((l++[a]).map e).any (fun d=>eqD d (e a))=true:=by
  rw[Xy,V0];exact⟨a,UW _ (Vi.mpr rfl),by show eqD (e a) (e a)=true;rw[he,VA rfl]⟩
 have e2:((l++[a]).map e).findIdx (fun d=>eqD d (e a))=l.length:=by
  rw[List.findIdx_map];rw[<-dB a l h];congr 1
  funext x
  exact he x a
 unfold mF;dsimp only;rw[e0,hq,hp,e1,e2];rfl
theorem IP[DecidableEq α]{e:α->D}(he:∀a b,eqD (e a) (e b)=decide (a=b))(hp:∀l:List α,plainDs 40 (l.map e)=true)(hq:∀a,plainD 40 (e a)=true)(l:List α)(a:α):Bb (e a) (.lst (l.map e))=.ok (.f,.bl (!decide (a∈l))):=by
 have e1:rH (e a) (l.map e)=decide (a∈l):=by
  unfold rH;rw[Xy,Vr,V0,Vc];constructor
  ·rintro⟨x,hx,e1⟩;have e1:eqD (e x) (e a)=true:=e1;rw[he,Vc]at e1;rw[<-e1];exact hx
  ·intro h;refine⟨a,h,?_⟩;show eqD (e a) (e a)=true;rw[he,Vc]
 unfold Bb Nj;dsimp only;rw[hq,hp,VW,U2 rfl,e1];rfl
structure Rm(nY:LNN)(ps:List Pl)(S:List (List Int))(A:List J0)(m:Nat):Prop where
 nd:S.Nodup
 z:S[0]?=some (ps.map (·.1))
 ln:∀s∈S,s.length=ps.length
 le:S.length<=8
 ab:∀a∈A,a.2.1∈nY/\∃i j:Nat,i<m/\a.1=(i:Int)/\a.2.2=(j:Int)/\∃s t,S[i]?=some s/\S[j]?=some t/\aQ (nY.idxOf a.2.1) (s.zip ps)=some t
 rc:∀j:Nat,1<=j->j<S.length->∃a∈A,a.2.2=(j:Int)/\∃b:Nat,b<j/\a.1=(b:Int)
variable{ps:List Pl}{A:List J0}
theorem Rm.more{S:List (List Int)}{m m':Nat}(r:Rm nY ps S A m)(h:m<=m'):Rm nY ps S A m':=⟨r.nd,r.z,r.ln,r.le,fun a ha=>by
 obtain⟨h1,i,j,h2,h3⟩:=r.ab a ha;exact⟨h1,i,j,by lia,h3⟩,r.rc⟩
variable{d i:Nat}{mv:List Nat}
theorem Rm.old{S:List (List Int)}(r:Rm nY ps S A (d+1))(hn:mv∈nY){s t:List Int}(hs:S[d]?=some s)(ht:S[i]?=some t)(hf:aQ (nY.idxOf mv) (s.zip ps)=some t):Rm nY ps S (A++[((d:Int),mv,(i:Int))]) (d+1):=by
 refine⟨r.nd,r.z,r.ln,r.le,fun a ha=>?_,fun j j1 j2=>?_⟩
 ·rcases oE ha with ha|ha
  ·exact r.ab a ha
  ·rw[iw ha];exact⟨hn,d,i,by lia,rfl,rfl,s,t,hs,ht,hf⟩
 ·obtain⟨a,ha,q⟩:=r.rc j j1 j2;exact⟨a,UX _ ha,q⟩
theorem Rm.new{S:List (List Int)}(r:Rm nY ps S A (d+1))(hn:mv∈nY){s t:List Int}(hs:S[d]?=some s)(ht:t∉S)(hf:aQ (nY.idxOf mv) (s.zip ps)=some t)(h8:S.length<8):Rm nY ps (S++[t]) (A++[((d:Int),mv,(S.length:Int))]) (d+1):=by
 have hd:=(kY hs).1;have hl:(S++[t]).length=S.length+1:=by rw[iy];rfl
 have up:∀{i:Nat}{x:List Int},S[i]?=some x->(S++[t])[i]?=some x:=fun{i x} h=>by
  rw[V5 (kY h).1];exact h
 refine⟨Vp.mpr ⟨r.nd,Vt.mpr ⟨VR,V1⟩,fun x hx y hy=>?_⟩,up r.z,fun x hx=>?_,by lia,fun a ha=>?_,fun j j1 j2=>?_⟩
 ·rw[iw hy];rintro rfl;exact ht hx
 ·rcases oE hx with hx|hx
  ·exact r.ln x hx
  ·rw[iw hx,m7 _ hf,Ws,r.ln s (Vu hs),Y7]
 ·rcases oE ha with ha|ha
  ·obtain⟨h1,i,j,h2,h3,h4,x,y,h5,h6,h7⟩:=r.ab a ha;exact⟨h1,i,j,h2,h3,h4,x,y,up h5,up h6,h7⟩
  ·rw[iw ha];exact⟨hn,d,S.length,by lia,rfl,rfl,s,t,up hs,by rw[WH (U3 _),Nat.sub_self];rfl,hf⟩
 ·by_cases e:j=S.length
  ·subst e;exact⟨_,UW _ (Vi.mpr rfl),rfl,d,hd,rfl⟩
  ·obtain⟨a,ha,q⟩:=r.rc j j1 (by lia);exact⟨a,UX _ ha,q⟩
theorem j5(t:List Int):flatD (eM t)=true:=by
 unfold eM;rw[bS,flat_ints]
def Fu(nY:LNN)(ps:List Pl)(S:List (List Int))(A:List J0)(d j:Nat):Prop:=∀i k:Nat,(i<d\/(i=d/\k<j))->∀mv,nY[k]?=some mv->∀s t,S[i]?=some s->aQ (nY.idxOf mv) (s.zip ps)=some t->∃m:Nat,S[m]?=some t/\((i:Int),mv,(m:Int))∈A
variable{S':List (List Int)}
theorem Fu.next{S:List (List Int)}{A':List J0}(fu:Fu nY ps S A d j){s0:List Int}(hd:S[d]?=some s0)(up:∀(i:Nat) (x:List Int),S[i]?=some x->S'[i]?=some x)(ua:∀a∈A,a∈A')(hj:nY[j]?=some mv)(new:∀t,aQ (nY.idxOf mv) (s0.zip ps)=some t->∃m:Nat,S'[m]?=some t/\((d:Int),mv,(m:Int))∈A'):Fu nY ps S' A' d (j+1):=by
 intro i k h mv' hk s t hs hf;have hdl:=(kY hd).1;have MO:i<S.length:=by lia
 have Tr:S[i]?=some s:=by
  have:=up i _ (eT MO);rw[hs]at this;rw[eT MO,this]
 by_cases h2:i<d\/(i=d/\k<j)
 ·obtain⟨m,h3,h4⟩:=fu i k h2 mv' hk s t Tr hf;exact⟨m,up _ _ h3,ua _ h4⟩
 ·have e1:i=d:=by lia
  have e2:k=j:=by lia
  subst e1 e2;rw[hj]at hk;cases hk;rw[hd]at Tr;cases Tr;exact new t hf
theorem Fu.row{S:List (List Int)}(fu:Fu nY ps S A d nY.length):Fu nY ps S A (d+1) 0:=fun i k h mv hk s t hs hf=>fu i k (by
 have:=(kY hk).1;lia) mv hk s t hs hf
def K3(k:Nat)(p:Pl):Int:=p.2.1.getD k 0
def LU(k:Nat)(p:Pl):Int:=p.2.2.getD k 0
def vR(k:Nat)(zs:List (Int×Pl)):Bool:=zs.all fun z=>decide (K3 k z.2<=z.1)
theorem eV(k:Nat):∀zs:List (Int×Pl),aQ k zs=if vR k zs then some (zs.map fun z=>z.1-K3 k z.2+LU k z.2) else none
 |[]=>rfl
 |z::zs=>by
  rw[aQ,eV k zs];unfold vR;rw[WT];by_cases h:z.1<z.2.2.1.getD k 0
  ·have h2:decide (K3 k z.2<=z.1)=false:=Vx (by unfold K3;lia);rw[U2 h,h2,Xq,U6 UY]
  ·have h2:decide (K3 k z.2<=z.1)=true:=VA (by unfold K3;lia);rw[U6 h,h2,YE];cases(zs.all fun z=>decide (K3 k z.2<=z.1)) with
   |true=>rw[U2 rfl,U2 rfl];rfl
   |false=>rw[U6 UY,U6 UY];rfl
theorem B9(nY:LNN)(ps:List Pl)(hl:ps.length<=100):bP [eN nY ps]=.ok (.f,eM (ps.map (·.1))):=by
 have hc:b7 (aq 0) fO (ao ixD (oVar 0) (aa (av (.int 0)))) (ps.map eP) [none]=.ok ((ps.map (·.1)).map D.int):=by
  rw[Vy];refine bH (fun env=>∃t,env=[t]) _ ?_ _ ⟨_,rfl⟩;rintro p _ env ⟨t,rfl⟩;refine⟨[fq (eP p)],by simp only[pv,seval],?_⟩;unfold eP;simp only[pv,seval,op,Qj];exact⟨_,_,rfl,_,rfl⟩
 have L3:((ps.map (·.1)).map D.int).length<=sizeLine:=line_le (by rw[aO,aO];lia);unfold bP dW eN;rw[ba (h:=by rfl)];simp only[pv,seval,op,PF,hc,L3,flat_ints];rfl
variable{p:Pl}
theorem Fv{k cnt:Nat}(h:Lb p cnt)(hk:k<cnt):atI (p.2.1.map D.int) (k:Int)=some (.int (K3 k p)):=j3 (by rw[h.1];exact hk)
theorem HZ{k cnt:Nat}(h:Lb p cnt)(hk:k<cnt):atI (p.2.2.map D.int) (k:Int)=some (.int (LU k p)):=j3 (by rw[h.2];exact hk)
theorem xQ(nY:LNN)(ps:List Pl)(hl:ps.length<=100)(hp:∀p∈ps,Lb p nY.length)(m:List Int)(mv:List Nat)(hm:mv∈nY):iQ [eN nY ps,eM m,.str mv]=.ok (.f,.bl (vR (nY.idxOf mv) (m.zip ps))):=by
 have Lq:=uS hm;have hk:=VY hm;generalize nY.idxOf mv=k at Lq hk;have hc:b7 (gT 2 (ax (aq 0) (ax (aq 1) b6))) fO (ao geO (oVar 0) (aa (ao ixD (aa (ao ixD (oVar 1) (aa (av (.int 1))))) (oVar 2)))) ((m.zip ps).map fun z=>D.tup [.int z.1,eP z.2]) [none,none,fI (k:Int)]=.ok (((m.zip ps).map fun z=>decide (K3 k z.2<=z.1)).map D.bl):=by
  rw[Vy];refine bH (fun env=>∃t u,env=[t,u,fI (k:Int)]) _ ?_ _ ⟨_,_,rfl⟩;rintro⟨x,p⟩ hz env ⟨t,u,rfl⟩;have e1:=Fv (hp p (WZ hz).2) hk;refine⟨_,fT _ _ _ _ _,?_⟩;unfold eP;simp only[pv,seval,op,PF,e1];exact⟨_,_,rfl,_,_,rfl⟩
 have L3:(((m.zip ps).map fun z=>decide (K3 k z.2<=z.1)).map D.bl).length<=sizeLine:=line_le (by rw[aO,aO,Ws];lia);unfold iQ pW eN eM;rw[ba (h:=by rfl)];rw[ag (env':=[fq (.tup [.tup (nY.map D.str),.lst (ps.map eP)]),fq (.tup (m.map D.int)),fq (.str mv),fI (k:Int)]) (by simp only[pv,seval,op,Qj,Lq])];simp only[pv,seval,op,PF,gJ,hc,L3,qe,yY];unfold vR;rw[V4];rfl
def eO:Option (List Int)->D
 |none=>.non
 |some r=>eM r
theorem Ca(o:Option (List Int)):flatD (eO o)=true:=by
 cases o with
 |none=>rfl
 |some r=>exact j5 r
theorem Cb(nY:LNN)(ps:List Pl)(hl:ps.length<=100)(hp:∀p∈ps,Lb p nY.length)(m:List Int)(mv:List Nat)(hm:mv∈nY):kN [eN nY ps,eM m,.str mv]=.ok (.f,eO (aQ (nY.idxOf mv) (m.zip ps))):=by
 have hg:=xQ nY ps hl hp m mv hm;have Lq:=uS hm;have hk:=VY hm;rw[eV];generalize nY.idxOf mv=k at Lq hk hg;have hc:b7 (gT 2 (ax (aq 0) (ax (aq 1) b6))) fO (ao bc (aa (ao xa (oVar 0) (aa (ao ixD (aa (ao ixD (oVar 1) (aa (av (.int 1))))) (oVar 2))))) (aa (ao ixD (aa (ao ixD (oVar 1) (aa (av (.int 2))))) (oVar 2)))) ((m.zip ps).map fun z=>D.tup [.int z.1,eP z.2]) [none,none,fI (k:Int)]=.ok (((m.zip ps).map fun z=>z.1-K3 k z.2+LU k z.2).map D.int):=by
  rw[Vy];refine bH (fun env=>∃t u,env=[t,u,fI (k:Int)]) _ ?_ _ ⟨_,_,rfl⟩;rintro⟨x,p⟩ hz env ⟨t,u,rfl⟩;have e1:=Fv (hp p (WZ hz).2) hk;have e2:=HZ (hp p (WZ hz).2) hk;refine⟨_,fT _ _ _ _ _,?_⟩;unfold eP;simp only[pv,seval,op,PF,at2,e1,e2];exact⟨_,_,rfl,_,_,rfl⟩
 have L3:(((m.zip ps).map fun z=>z.1-K3 k z.2+LU k z.2).map D.int).length<=sizeLine:=line_le (by rw[aO,aO,Ws];lia);unfold kN uE;rw[ba (h:=by rfl)];cases hz:vR k (m.zip ps) with
 |false=>
  rw[hz]at hg;simp only[pv,seval,hg,oA,oB,Xs,cV];rfl
 |true=>
  rw[hz]at hg;unfold eN eM at hg ⊢;rw[ag (env':=[fq (.tup [.tup (nY.map D.str),.lst (ps.map eP)]),fq (.tup (m.map D.int)),fq (.str mv),none]) (by simp only[pv,seval,hg,oA,oB,W4,cV])];rw[ag (env':=[fq (.tup [.tup (nY.map D.str),.lst (ps.map eP)]),fq (.tup (m.map D.int)),fq (.str mv),fI (k:Int)]) (by simp only[pv,seval,op,Qj,Lq])];simp only[pv,seval,op,PF,gJ,hc,L3,flat_ints];rfl
abbrev Rn:=List (List Int)×List J0
noncomputable def pos(S:List (List Int))(t:List Int):Nat:=S.findIdx fun x=>decide (x=t)
def fV(nY:LNN)(ps:List Pl)(d:Nat)(mv:List Nat)(r:Rn):Option Rn:=match aQ (nY.idxOf mv) ((r.1.getD d []).zip ps) with
 |none=>some r
 |some t=>if t∈r.1 then some (r.1,r.2++[((d:Int),mv,(pos r.1 t:Int))]) else if r.1.length=8 then none else some (r.1++[t],r.2++[((d:Int),mv,(r.1.length:Int))])
def oI(nY:LNN)(ps:List Pl)(d:Nat):LNN->Rn->Option Rn
 |[],r=>some r
 |mv::l,r=>(fV nY ps d mv r).bind (oI nY ps d l)
def rK(nY:LNN)(ps:List Pl):Nat->Nat->Rn->Option Rn
 | 0,_,r=>some r
 |f+1,d,r=>if d<r.1.length then(oI nY ps d nY r).bind (rK nY ps f (d+1)) else some r
theorem JG[DecidableEq α]{e:α->D}(he:∀a b,eqD (e a) (e b)=decide (a=b))(hp:∀l:List α,plainDs 40 (l.map e)=true)(hq:∀a,plainD 40 (e a)=true)(l:List α)(a:α)(h:a∈l):mF (l.map e) [e a]=.ok (.f,.int ((l.findIdx fun x=>decide (x=a):Nat):Int)):=by
 have e1:(l.map e).any (fun d=>eqD d (e a))=true:=by
  rw[Xy,V0];exact⟨a,h,by show eqD (e a) (e a)=true;rw[he,VA rfl]⟩
 have e2:(l.map e).findIdx (fun d=>eqD d (e a))=l.findIdx fun x=>decide (x=a):=by
  rw[List.findIdx_map];congr 1
  funext x
  exact he x a
 unfold mF;dsimp only;rw[hq,hp,e1,e2];rfl
abbrev ArK:=Int×Nat×Int
abbrev Rk:=List (List Int)×List ArK
noncomputable def eK(a:ArK):D:=.tup [.int a.1,.int (a.2.1:Int),.int a.2.2]
def cv(ps:List Pl)(d k:Nat)(r:Rk):Rk:=match aQ k ((r.1.getD d []).zip ps) with
 |none=>r
 |some t=>((if t∈r.1 then r.1 else r.1++[t]),r.2++[((d:Int),k,(pos (if t∈r.1 then r.1 else r.1++[t]) t:Int))])
def lb(ps:List Pl)(d:Nat):List Nat->Rk->Rk
 |[],r=>r
 |k::l,r=>lb ps d l (cv ps d k r)
def m8(ps:List Pl)(cnt:Nat):Nat->Nat->Rk->Rk
 | 0,_,r=>r
 |f+1,d,r=>if d<r.1.length/\r.1.length<=8 then m8 ps cnt f (d+1) (lb ps d (List.range cnt) r) else r
abbrev bC(ps:List Pl)(cnt:Nat):Rk:=m8 ps cnt 9 0 ([ps.map (·.1)],[])
theorem uU(ps:List Pl)(d k:Nat)(r:Rk):r.1.length<=(cv ps d k r).1.length/\(cv ps d k r).1.length<=r.1.length+1/\(cv ps d k r).2.length<=r.2.length+1:=by
 unfold cv;split
 ·exact⟨U3 _,Wu _,Wu _⟩
 ·dsimp only;rw[iy,Vf];split
  ·exact⟨U3 _,Wu _,U3 _⟩
  ·rw[iy,Vf];exact⟨Wu _,U3 _,U3 _⟩
theorem uV(ps:List Pl)(d:Nat):∀(l:List Nat) (r:Rk),r.1.length<=(lb ps d l r).1.length/\(lb ps d l r).1.length<=r.1.length+l.length/\(lb ps d l r).2.length<=r.2.length+l.length
 |[],r=>⟨U3 _,U3 _,U3 _⟩
 |k::l,r=>by
  have h1:=uU ps d k r;have h2:=uV ps d l (cv ps d k r);rw[Va];show r.1.length<=(lb ps d l (cv ps d k r)).1.length/\(lb ps d l (cv ps d k r)).1.length<=_/\(lb ps d l (cv ps d k r)).2.length<=_;lia
theorem Fw(ps:List Pl)(cnt:Nat)(hl:ps.length<=100)(hp:∀p∈ps,Lb p cnt)(r:Rk)(hA:r.2.length<=1000)(hS:r.1.length<=1000)(d:Nat)(hd:d<r.1.length)(k:Nat)(hk:k<cnt)(t6:Option R):
  ∃u6,cq [fq (.lst (ps.map eP)),fI (cnt:Int),fL (r.1.map eM),fL (r.2.map eK),fI ((d:Nat):Int),fI (k:Int),t6]=.ok (.nx [fq (.lst (ps.map eP)),fI (cnt:Int),fL ((cv ps d k r).1.map eM),fL ((cv ps d k r).2.map eK),fI ((d:Nat):Int),fI (k:Int),u6]):=by
 obtain⟨S,A⟩:=r;dsimp only at hA hS hd ⊢;have Oj:S[d]?=some S[d]:=eT hd;have RC:S.getD d []=S[d]:=by rw[UU,Oj];rfl
 have OG:atI (S.map eM) (d:Int)=some (eM S[d]):=di (by rw[Vd,Oj];rfl);have Ur:(A.map eK).length<sizeLine:=oF (by rw[aO];lia);have hzS:(S.map eM).length<sizeLine:=oF (by rw[aO];lia);have hcn:flatD .non=true:=rfl;unfold cv;dsimp only;rw[RC];unfold cq;have e:=B8 ps cnt hl hp S[d] k hk;cases hf:aQ k (S[d].zip ps) with
 |none=>
  rw[hf]at e;dsimp only[oM]at e ⊢;refine⟨fq .non,?_⟩;rw[ag (env':=[fq (.lst (ps.map eP)),fI (cnt:Int),fL (S.map eM),fL (A.map eK),fI ((d:Nat):Int),fI (k:Int),fq .non]) (by simp only[pv,seval,op,OG,e,hcn])];simp only[pv,seval,op,o_isnN,cV]
 |some t=>
  rw[hf]at e;dsimp only[oM]at e ⊢;have hft:=j5 t;have RD:=IP uT k9 eg S t;have RE:isnO (eM t) .non=.ok (.f,.bl true):=id rfl;refine⟨fq (eM t),?_⟩;rw[ag (env':=[fq (.lst (ps.map eP)),fI (cnt:Int),fL (S.map eM),fL (A.map eK),fI ((d:Nat):Int),fI (k:Int),fq (eM t)]) (by simp only[pv,seval,op,OG,e,hft])];by_cases hm:t∈S
  ·rw[U2 hm];have Lq:=JG uT k9 eg S t hm;unfold pos;rw[Vh];simp only[pv,seval,op,RE,RD,hm,Xh,W4,cV,y4,Lq,Ur];rfl
  ·rw[U6 hm];have Lq:=HY uT k9 eg S t hm;have hpo:pos (S++[t]) t=S.length:=dB t S hm;rw[hpo,Vh,Vh];simp only[pv,seval,op,RE,RD,hm,Xi,Xs,y4,Lq,Ur,hzS];rfl
theorem y7(ps:List Pl)(cnt:Nat)(hl:ps.length<=100)(hp:∀p∈ps,Lb p cnt)(d:Nat):∀(l:List Nat),(∀k∈l,k<cnt)->∀(r:Rk),r.2.length+l.length<=1000->r.1.length+l.length<=1000->d<r.1.length->∀t5 t6:Option R,
  ∃u5 u6,cQ (aq 5) cq (l.map fun(k:Nat)=>D.int (k:Int)) [fq (.lst (ps.map eP)),fI (cnt:Int),fL (r.1.map eM),fL (r.2.map eK),fI ((d:Nat):Int),t5,t6]=.ok (.nx [fq (.lst (ps.map eP)),fI (cnt:Int),fL ((lb ps d l r).1.map eM),fL ((lb ps d l r).2.map eK),fI ((d:Nat):Int),u5,u6])
 |[],_,r,_,_,_,t5,t6=>⟨t5,t6,rfl⟩
 |k::l,hk,r,hA,hS,hd,t5,t6=>by
  rw[Va]at hA hS;obtain⟨u6,h1⟩:=Fw ps cnt hl hp r (by lia) (by lia) d hd k (hk k UR) t6;have hb:=uU ps d k r;obtain⟨v5,v6,h2⟩:=y7 ps cnt hl hp d l (fun j hj=>hk j (US _ hj)) (cv ps d k r) (by lia) (by lia) (by lia) (fI (k:Int)) u6;have ha:aq 5 (D.int (k:Int)) [fq (.lst (ps.map eP)),fI (cnt:Int),fL (r.1.map eM),fL (r.2.map eK),fI ((d:Nat):Int),t5,t6]=.ok [fq (.lst (ps.map eP)),fI (cnt:Int),fL (r.1.map eM),fL (r.2.map eK),fI ((d:Nat):Int),fI (k:Int),t6]:=by simp only[pv,seval]
  refine⟨v5,v6,?_⟩;rw[cW,bI,ha,Kp,h1,Kp];exact h2
theorem H0(A0 A1 A3 t5 t6:Option R)(S:List (List Int))(d:Nat):(tJ (eBl (ao ltO (oVar 4) (aa (aA dS (osCons (oVar 2) osNil))))) (eBl (ao leD (aa (aA dS (osCons (oVar 2) osNil))) (aa (av (.int 8)))))) [A0,A1,fL (S.map eM),A3,fI ((d:Nat):Int),t5,t6]=.ok (decide (d<S.length/\S.length<=8),[A0,A1,fL (S.map eM),A3,fI ((d:Nat):Int),t5,t6]):=by
 by_cases h1:d<S.length
 ·have i1:(d:Int)<(S.length:Int):=by lia
  by_cases h2:S.length<=8
  ·have i2:(S.length:Int)<=8:=by lia
   simp only[pv,seval,op,aO,i1,i2,h1,h2,Xh,and_self]
  ·have i2:¬ (S.length:Int)<=8:=by lia
   simp only[pv,seval,op,aO,i1,i2,h1,h2,Xh,Xi,and_false]
 ·have i1:¬ (d:Int)<(S.length:Int):=by lia
  simp only[pv,seval,op,aO,i1,h1,Xi,false_and,cV]
theorem Fx(ps:List Pl)(cnt:Nat)(hc:cnt<=3)(hl:ps.length<=100)(hp:∀p∈ps,Lb p cnt):∀(f F d:Nat) (r:Rk),r.1.length<=11->d<=9->r.2.length<=3*d->9<=f+d->f<F->∀t5 t6:Option R,
  (m8 ps cnt f d r).2.length<=30/\∃u4 u5 u6,bZ (tJ (eBl (ao ltO (oVar 4) (aa (aA dS (osCons (oVar 2) osNil))))) (eBl (ao leD (aa (aA dS (osCons (oVar 2) osNil))) (aa (av (.int 8)))))) cu F [fq (.lst (ps.map eP)),fI (cnt:Int),fL (r.1.map eM),fL (r.2.map eK),fI ((d:Nat):Int),t5,t6]=.ok (.nx [fq (.lst (ps.map eP)),fI (cnt:Int),fL ((m8 ps cnt f d r).1.map eM),fL ((m8 ps cnt f d r).2.map eK),u4,u5,u6])
 |f,0,d,r,h8,h9,hA,hf,hF,t5,t6=>by lia
 |f,F+1,d,r,h8,h9,hA,hf,hF,t5,t6=>by
  have Qb:=H0 (fq (.lst (ps.map eP))) (fI (cnt:Int)) (fL (r.2.map eK)) t5 t6 r.1 d;by_cases Kw:d<r.1.length/\r.1.length<=8
  ·cases f with
   |zero=>lia
   |succ f=>
    rw[VA Kw]at Qb;unfold m8;rw[U2 Kw];have hb:=uV ps d (List.range cnt) r;rw[Vl]at hb;obtain⟨u5,u6,h1⟩:=y7 ps cnt hl hp d (List.range cnt) (fun k hk=>Vv.mp hk) r (by rw[Vl];lia) (by rw[Vl];lia) Kw.1 t5 t6;have e2:cu [fq (.lst (ps.map eP)),fI (cnt:Int),fL (r.1.map eM),fL (r.2.map eK),fI ((d:Nat):Int),t5,t6]=.ok (.nx [fq (.lst (ps.map eP)),fI (cnt:Int),fL (((lb ps d (List.range cnt) r).1.map eM)),fL (((lb ps d (List.range cnt) r).2.map eK)),fI ((d+1:Nat):Int),u5,u6]):=by
     unfold cu;rw[ag (env':=_) (by
      unfold il;simp only[pv,seval,op];rw[U2 (by lia)];simp only[pv,seval,op,V9];exact h1)]
     unfold gE;simp only[pv,seval,op,Int.natCast_add,Ye]
    obtain⟨q,u4,v5,v6,h3⟩:=Fx ps cnt hc hl hp f F (d+1) (lb ps d (List.range cnt) r) (by lia) (by lia) (by lia) (by lia) (by lia) u5 u6;refine⟨q,u4,v5,v6,?_⟩;rw[eR,Qb,Kp];dsimp only;rw[U2 rfl,e2,Kp];exact h3
  ·have e0:m8 ps cnt f d r=r:=by
    cases f with
    |zero=>rfl
    |succ f=>unfold m8;rw[U6 Kw]
   rw[Vx Kw]at Qb;rw[e0];exact⟨by lia,_,_,_,by rw[eR,Qb,Kp];rfl⟩
theorem uW(ps:List Pl)(cnt:Nat)(hc:cnt<=3)(hl:ps.length<=100)(hp:∀p∈ps,Lb p cnt):
  (bC ps cnt).2.length<=30/\bA [.lst (ps.map eP),.int (cnt:Int)]=if(bC ps cnt).1.length<=8 then .ok (.l .f,.lst ((bC ps cnt).2.map eK)) else .ok (.f,.non):=by
 unfold bA jX;rw[ba (h:=by rfl)];have hcm:b7 (aq 0) fO (ao ixD (oVar 0) (aa (av (.int 0)))) (ps.map eP) [none]=.ok ((ps.map (·.1)).map D.int):=by
  rw[Vy];refine bH (fun env=>∃t,env=[t]) _ ?_ _ ⟨_,rfl⟩;rintro p _ env ⟨t,rfl⟩;refine⟨[fq (eP p)],by simp only[pv,seval],?_⟩;unfold eP;simp only[pv,seval,op,Qj];exact⟨_,_,rfl,_,rfl⟩
 have L3:((ps.map (·.1)).map D.int).length<=sizeLine:=line_le (by rw[aO,aO];lia);rw[ag (env':=[fq (.lst (ps.map eP)),fI (cnt:Int),fL [eM (ps.map (·.1))],none,none,none,none]) (by
  unfold eM;simp only[pv,seval,op,hcm,L3,flat_ints])]
 rw[ag (env':=[fq (.lst (ps.map eP)),fI (cnt:Int),fL [eM (ps.map (·.1))],fL [],none,none,none]) (by simp only[pv,seval,op])];rw[ag (env':=[fq (.lst (ps.map eP)),fI (cnt:Int),fL [eM (ps.map (·.1))],fL [],fI 0,none,none]) (by simp only[pv,seval,op])];obtain⟨hb,u4,u5,u6,w⟩:=Fx ps cnt hc hl hp 9 100000 0 ([ps.map (·.1)],[]) (by show 1<=11;decide) (VJ _) (U3 _) (by decide) (by decide) none none;refine⟨hb,?_⟩;rw[ag (env':=_) (by
  unfold ir;exact w)]
 unfold gF;unfold bC;generalize m8 ps cnt 9 0 ([ps.map (·.1)],[])=r;by_cases h:r.1.length<=8
 ·have i1:¬ (8:Int)<(r.1.length:Int):=by lia
  rw[U2 h];simp only[pv,seval,op,aO,i1,Xi,cV]
 ·have i1:(8:Int)<(r.1.length:Int):=by lia
  rw[U6 h];simp only[pv,seval,op,aO,i1,Xh]
variable{r r':Rn}
theorem uX(h:fV nY ps d mv r=some r')(h8:r.1.length<=8):r.1.length<=r'.1.length/\r'.1.length<=8/\r'.2.length<=r.2.length+1:=by
 unfold fV at h;split at h
 ·cases h;lia
 ·split at h
  ·cases h;refine⟨U3 _,h8,?_⟩;rw[iy];exact U3 _
  ·split at h
   ·cases h
   ·cases h;dsimp only;rw[iy,iy,Vf,Vf];lia
theorem Cc{nY:LNN}{ps:List Pl}{d:Nat}:∀(l:LNN) {r r':Rn},oI nY ps d l r=some r'->r.1.length<=8->r.1.length<=r'.1.length/\r'.1.length<=8/\r'.2.length<=r.2.length+l.length
 |[],r,r',h,h8=>by
  cases h;exact⟨U3 _,h8,U3 _⟩
 |mv::l,r,r',h,h8=>by
  unfold oI at h;obtain⟨r1,h1,h2⟩:=VC.mp h;have b1:=uX h1 h8;have b2:=Cc l h2 b1.2.1;rw[Va];lia
def Na(nY:LNN)(a:ArK):J0:=(a.1,nY.getD a.2.1 [],a.2.2)
def Ly(nY:LNN)(r:Rk):Rn:=(r.1,r.2.map (Na nY))
theorem Cd(nd:nY.Nodup)(ps:List Pl)(d k:Nat)(hk:k<nY.length)(r:Rk)(h8:r.1.length<=8):
  fV nY ps d (nY.getD k []) (Ly nY r)=if(cv ps d k r).1.length<=8 then some (Ly nY (cv ps d k r)) else none:=by
 have hn:nY.getD k []=nY[k]:=by rw[UU,eT hk];rfl
 have hi:nY.idxOf (nY.getD k [])=k:=by rw[hn];exact nd.idxOf_getElem k hk
 obtain⟨S,A⟩:=r;have key:∀q:Rk,cv ps d k (S,A)=q->fV nY ps d (nY.getD k []) (Ly nY (S,A))=(if q.1.length<=8 then some (Ly nY q) else none):=fun q e=>by
  unfold cv at e;unfold fV Ly;rw[hi];dsimp only at e h8 ⊢;cases hf:aQ k ((S.getD d []).zip ps) with
  |none=>
   rw[hf]at e;subst e;dsimp only;rw[U2 h8]
  |some t=>
   rw[hf]at e;dsimp only at e ⊢;by_cases hm:t∈S
   ·rw[U2 hm]at e;subst e;rw[U2 hm,U2 h8,Vh];rfl
   ·rw[U6 hm,show pos (S++[t]) t=S.length from dB t S hm]at e;subst e;dsimp only;rw[U6 hm,iy,Vf,Vh];by_cases h9:S.length=8
    ·rw[U2 h9,U6 (by lia)]
    ·rw[U6 h9,U2 (by lia)];rfl
 exact key _ rfl
theorem y8{nY:LNN}(nd:nY.Nodup)(ps:List Pl)(d:Nat):∀(l:List Nat),(∀k∈l,k<nY.length)->∀(r:Rk),r.1.length<=8->
  oI nY ps d (l.map fun k=>nY.getD k []) (Ly nY r)=if(lb ps d l r).1.length<=8 then some (Ly nY (lb ps d l r)) else none
 |[],_,r,h8=>by
  show some _=if r.1.length<=8 then some _ else none
  rw[U2 h8];rfl
 |k::l,hk,r,h8=>by
  have h1:=Cd nd ps d k (hk k UR) r h8;have hb:=uV ps d l (cv ps d k r);show(fV nY ps d (nY.getD k []) (Ly nY r)).bind (oI nY ps d (l.map fun k=>nY.getD k []))=if(lb ps d l (cv ps d k r)).1.length<=8 then some (Ly nY (lb ps d l (cv ps d k r))) else none
  rw[h1];by_cases h:(cv ps d k r).1.length<=8
  ·rw[U2 h];exact y8 nd ps d l (fun j hj=>hk j (US _ hj)) _ h
  ·rw[U6 h,U6 (by lia)];rfl
theorem Ce(nY:LNN):(List.range nY.length).map (fun k=>nY.getD k [])=nY:=by
 refine YK (by rw[aO,Vl]) fun i h1 h2=>?_
 rw[YJ,W9,UU,eT h2];rfl
theorem y9{nY:LNN}(nd:nY.Nodup)(ps:List Pl):∀(f d:Nat) (r:Rk),r.1.length<=8->
  rK nY ps f d (Ly nY r)=if(m8 ps nY.length f d r).1.length<=8 then some (Ly nY (m8 ps nY.length f d r)) else none
 | 0,d,r,h8=>by
  show some _=if r.1.length<=8 then some _ else none
  rw[U2 h8];rfl
 |f+1,d,r,h8=>by
  have key:∀q:Rk,m8 ps nY.length (f+1) d r=q->rK nY ps (f+1) d (Ly nY r)=(if q.1.length<=8 then some (Ly nY q) else none):=fun q e=>by
   unfold m8 at e;unfold rK;show(if d<r.1.length then(oI nY ps d nY (Ly nY r)).bind _ else _)=_;by_cases hd:d<r.1.length
   ·rw[U2 ⟨hd,h8⟩]at e;rw[U2 hd];have h1:=y8 nd ps d (List.range nY.length) (fun k hk=>Vv.mp hk) r h8;rw[Ce]at h1;rw[h1];generalize lb ps d (List.range nY.length) r=r1 at e;by_cases h:r1.1.length<=8
    ·rw[U2 h,<-e];exact y9 nd ps f (d+1) r1 h
    ·have e0:m8 ps nY.length f (d+1) r1=r1:=by
      cases f with
      |zero=>rfl
      |succ f=>unfold m8;rw[U6 fun z=>h z.2]
     rw[e0]at e;rw[U6 h,<-e,U6 h];rfl
   ·rw[U6 fun z=>hd z.1]at e;rw[U6 hd,<-e,U2 h8]
  exact key _ rfl
abbrev bF(nY:LNN)(ps:List Pl):Option Rn:=rK nY ps 9 0 ([ps.map (·.1)],[])
theorem lg(nd:nY.Nodup)(ps:List Pl):bF nY ps=if(bC ps nY.length).1.length<=8 then some (Ly nY (bC ps nY.length)) else none:=by
 have:=y9 nd ps 9 0 ([ps.map fun p=>p.1],[]) (by show 1<=8;decide);exact this
noncomputable def Ln{α:Type}(k:Nat)(x:α)(l:List α):List α:=l.take k++x::l.drop k
theorem oJ(k:Nat)(x:α)(l:List α):(Ln k x l).length=l.length+1:=by
 unfold Ln;rw[iy,Va,VB,Wi];lia
theorem oK(f:α->β)(k:Nat)(x:α)(l:List α):(Ln k x l).map f=Ln k (f x) (l.map f):=by
 unfold Ln;rw[Vh,cW,YD,ZL]
theorem Cf(k:Nat)(x:α)(y:β)(l:List α)(m:List β)(h:l.length=m.length):(Ln k x l).zip (Ln k y m)=Ln k (x,y) (l.zip m):=by
 unfold Ln;rw[List.zip_append (by rw[VB,VB,h]),Xb];simp only[List.zip_eq_zipWith,List.take_zipWith,List.drop_zipWith]
theorem Cg(k:Nat){x y:α}{l m:List α}(hl:l.length=m.length)(h:Ln k x l=Ln k y m):l=m:=by
 unfold Ln at h;obtain⟨h1,h2⟩:=List.append_inj h (by rw[VB,VB,hl]);have h3:=(XZ h2).2;rw[<-XO k l,<-XO k m,h1,h3]
theorem Ci(j k:Nat)(z:Int×Pl)(zs:List (Int×Pl)):vR j (Ln k z zs)=(vR j zs&&decide (K3 j z.2<=z.1)):=by
 unfold vR Ln;rw[Y9,WT];conv=>rhs;rw[<-XO k zs,Y9]
 cases(List.take k zs).all fun z=>decide (K3 j z.2<=z.1) <;> cases(List.drop k zs).all fun z=>decide (K3 j z.2<=z.1) <;> cases decide (K3 j z.2<=z.1) <;> rfl
structure Im(nY:LNN)(ps:List Pl)(q:Pl)(Lw:List Int->Int):Prop where
 z:Lw (ps.map (·.1))=q.1
 mv:∀(j:Nat) (m m':List Int),j<nY.length->m.length=ps.length->aQ j (m.zip ps)=some m'->K3 j q<=Lw m/\Lw m'=Lw m-K3 j q+LU j q
variable{q:Pl}{Lw:List Int->Int}
theorem xR(im:Im nY ps q Lw)(k j:Nat)(hj:j<nY.length)(m:List Int)(hm:m.length=ps.length):
  aQ j ((Ln k (Lw m) m).zip (Ln k q ps))=(aQ j (m.zip ps)).map fun m'=>Ln k (Lw m') m':=by
 rw[Cf k _ _ m ps hm,eV,Ci];cases hc:vR j (m.zip ps) with
 |false=>
  have hf:aQ j (m.zip ps)=none:=by rw[eV,hc];rfl
  rw[hf];rfl
 |true=>
  have hf:aQ j (m.zip ps)=some ((m.zip ps).map fun z=>z.1-K3 j z.2+LU j z.2):=by rw[eV,hc];rfl
  obtain⟨h1,h2⟩:=im.mv j m _ hj hm hf;rw[hf,Option.map_some,h2,VA h1,oK];rfl
theorem za{S:List (List Int)}{t:List Int}(h:t∈S):S[pos S t]?=some t:=by
 have h3:(S.findIdx fun x=>decide (x=t))<S.length:=List.findIdx_lt_length_of_exists ⟨t,h,VA rfl⟩;have h4:=Zh (p:=fun x=>decide (x=t)) (xs:=S) (w:=h3);unfold pos;rw[eT h3];congr 1
 simpa using h4
def Zr(nY:LNN)(ps:List Pl):Prop:=∃S A m,Rm nY ps S A m/\S.length=8
section
theorem Cj(rm:Rm nY ps r.1 r.2 (d+1))(hd:d<r.1.length)(hj:nY[j]?=some mv)(fu:Fu nY ps r.1 r.2 d j):
  match fV nY ps d mv r with
  |some r'=>Rm nY ps r'.1 r'.2 (d+1)/\Fu nY ps r'.1 r'.2 d (j+1)
  |none=>Zr nY ps:=by
 have hn:=Vu hj;have Oj:r.1[d]?=some r.1[d]:=eT hd;have RC:r.1.getD d []=r.1[d]:=by rw[UU,Oj];rfl
 unfold fV;rw[RC];cases hf:aQ (nY.idxOf mv) (r.1[d].zip ps) with
 |none=>exact⟨rm,fu.next Oj (fun _ _ h=>h) (fun _ h=>h) hj fun t h=>by rw[hf]at h;cases h⟩
 |some t=>
  dsimp only;by_cases hm:t∈r.1
  ·rw[U2 hm];exact⟨rm.old hn Oj (za hm) hf,fu.next Oj (fun _ _ h=>h) (fun _ h=>UX _ h) hj fun t' h=>by rw[hf]at h;cases h;exact⟨_,za hm,UW _ (Vi.mpr rfl)⟩⟩
  ·rw[U6 hm];by_cases h9:r.1.length=8
   ·rw[U2 h9];exact⟨_,_,_,rm,h9⟩
   ·rw[U6 h9];have:=rm.le;exact⟨rm.new hn Oj hm hf (by lia),fu.next Oj (fun i x h=>by rw[V5 (kY h).1];exact h) (fun _ h=>UX _ h) hj fun t' h=>by rw[hf]at h;cases h;exact⟨r.1.length,by rw[WH (U3 _),Nat.sub_self];rfl,UW _ (Vi.mpr rfl)⟩⟩
theorem zb{d:Nat}:∀(l:LNN) (j:Nat) (r:Rn),nY.drop j=l->Rm nY ps r.1 r.2 (d+1)->d<r.1.length->Fu nY ps r.1 r.2 d j->
  match oI nY ps d l r with
  |some r'=>Rm nY ps r'.1 r'.2 (d+1)/\Fu nY ps r'.1 r'.2 d (j+l.length)
  |none=>Zr nY ps
 |[],j,r,_,rm,_,fu=>⟨rm,fu⟩
 |mv::l,j,r,hl,rm,hd,fu=>by
  have hj:nY[j]?=some mv:=by
   have:(nY.drop j)[0]?=some mv:=by rw[hl];rfl
   rw[ZE]at this;exact this
  have QF:nY.drop (j+1)=l:=by
   rw[<-List.tail_drop,hl];rfl
  have h1:=Cj rm hd hj fu;unfold oI;cases hs:fV nY ps d mv r with
  |none=>
   rw[hs]at h1;exact h1
  |some r1=>
   rw[hs]at h1;have b:=uX hs rm.le;have ih:=zb l (j+1) r1 QF h1.1 (by lia) h1.2;rw[Va,show j+(l.length+1)=j+1+l.length by lia];exact ih
theorem zc(hn:nY.length<=3):∀(f d:Nat) (r:Rn),Rm nY ps r.1 r.2 d->d<=r.1.length->r.2.length<=3*d->Fu nY ps r.1 r.2 d 0->9<=f+d->
  match rK nY ps f d r with
  |some r'=>(∃m,Rm nY ps r'.1 r'.2 m)/\Fu nY ps r'.1 r'.2 r'.1.length 0/\r'.2.length<=24
  |none=>Zr nY ps
 | 0,d,r,rm,hd,_,_,hf=>by
  have:=rm.le;lia
 |f+1,d,r,rm,hd,hA,fu,hf=>by
  have h8:=rm.le;unfold rK;by_cases Kw:d<r.1.length
  ·rw[U2 Kw];have h1:=zb nY 0 r rfl (rm.more (Wu d)) Kw fu;cases hs:oI nY ps d nY r with
   |none=>
    rw[hs]at h1;exact h1
   |some r1=>
    rw[hs,XM]at h1;have b:=Cc nY hs h8;exact zc hn f (d+1) r1 h1.1 (by lia) (by lia) h1.2.row (by lia)
  ·rw[U6 Kw];have:d=r.1.length:=by lia
   exact⟨⟨d,rm⟩,this▸fu,by lia⟩
theorem rm0:Rm nY ps [ps.map (·.1)] [] 0:=⟨Vt.mpr ⟨VR,V1⟩,rfl,fun x hx=>by rw[iw hx,aO],by simp,(fun _ h=>nomatch h),fun j j1 j2=>by rw[Vf]at j2;lia⟩
theorem jC(hn:nY.length<=3):
  match bF nY ps with
  |some r'=>(∃m,Rm nY ps r'.1 r'.2 m)/\Fu nY ps r'.1 r'.2 r'.1.length 0/\r'.2.length<=24
  |none=>Zr nY ps:=zc hn 9 0 ([ps.map (·.1)],[]) rm0 (VJ _) (U3 _) (fun i k h=>by lia) (by decide)
theorem qh(h:fV nY ps d mv r=some r'):∀m∈r.1,m∈r'.1:=by
 unfold fV at h;split at h
 ·cases h;exact fun _ h=>h
 ·split at h
  ·cases h;exact fun _ h=>h
  ·split at h
   ·cases h
   ·cases h;exact fun _ h=>UX _ h
theorem oN{d:Nat}:∀(l:LNN) {r r':Rn},oI nY ps d l r=some r'->∀m∈r.1,m∈r'.1
 |[],r,r',h=>by cases h;exact fun _ h=>h
 |mv::l,r,r',h=>by
  unfold oI at h;obtain⟨r1,h1,h2⟩:=VC.mp h;exact fun m hm=>oN l h2 m (qh h1 m hm)
theorem uY:∀(f d:Nat) {r r':Rn},rK nY ps f d r=some r'->∀m∈r.1,m∈r'.1
 | 0,d,r,r',h=>by cases h;exact fun _ h=>h
 |f+1,d,r,r',h=>by
  unfold rK at h;split at h
  ·obtain⟨r1,h1,h2⟩:=VC.mp h;exact fun m hm=>uY f (d+1) h2 m (oN nY h1 m hm)
  ·cases h;exact fun _ h=>h
end
section
variable{Nb:List Pl}{h:List Int->List Int}{Sf:List (List Int)}
theorem Fy(inj:∀m∈Sf,∀m'∈Sf,h m=h m'->m=m'){t:List Int}(ht:t∈Sf):∀{S:List (List Int)},(∀m∈S,m∈Sf)->pos (S.map h) (h t)=pos S t
 |[],_=>rfl
 |m::S,hS=>by
  have ih:=Fy inj ht (S:=S) fun x hx=>hS x (US _ hx)
  unfold pos at ih ⊢;rw[cW,Yw,Yw,ih];have:decide (h m=h t)=decide (m=t):=by
   rw[decide_eq_decide];exact⟨fun e=>inj m (hS m UR) t ht e,fun e=>by rw[e]⟩
  rw[this]
structure Sim(nY:LNN)(ps Nb:List Pl)(h:List Int->List Int)(Sf:List (List Int)):Prop where
 z:h (ps.map (·.1))=Nb.map (·.1)
 fi:∀m∈Sf,∀mv∈nY,aQ (nY.idxOf mv) ((h m).zip Nb)=(aQ (nY.idxOf mv) (m.zip ps)).map h
 inj:∀m∈Sf,∀m'∈Sf,h m=h m'->m=m'
noncomputable def hR(h:List Int->List Int)(r:Rn):Rn:=(r.1.map h,r.2)
theorem xS(s:Sim nY ps Nb h Sf)(Mv:mv∈nY)(hd:d<r.1.length)(hs:fV nY ps d mv r=some r')(sub:∀m∈r'.1,m∈Sf):fV nY Nb d mv (hR h r)=some (hR h r'):=by
 have RC:r.1.getD d []=r.1[d]:=by rw[UU,eT hd];rfl
 have hgu:(hR h r).1.getD d []=h r.1[d]:=by
  unfold hR;rw[UU,Vd,eT hd];rfl
 have Ol:∀m∈r.1,m∈Sf:=fun m hm=>sub m (qh hs m hm)
 unfold fV at hs ⊢;rw[RC]at hs;rw[hgu,s.fi _ (Ol _ (VZ hd)) mv Mv];cases hf:aQ (nY.idxOf mv) (r.1[d].zip ps) with
 |none=>
  rw[hf]at hs;cases hs;rfl
 |some t=>
  rw[hf]at hs;have e3:(hR h r).1.length=r.1.length:=aO _;dsimp only[Option.map]at hs ⊢;rw[e3];by_cases hm:t∈r.1
  ·rw[U2 hm]at hs;cases hs;rw[U2 (show h t∈(hR h r).1 from WA.mpr ⟨t,hm,rfl⟩),show pos (hR h r).1 (h t)=pos r.1 t from Fy s.inj (Ol t hm) Ol];rfl
  ·rw[U6 hm]at hs;by_cases h8:r.1.length=8
   ·rw[U2 h8]at hs;cases hs
   ·rw[U6 h8]at hs;cases hs;have ht:t∈Sf:=sub t (UW _ (Vi.mpr rfl));rw[U6 (fun q=>by
     obtain⟨m,MN,e⟩:=rg q;exact hm (s.inj m (Ol m MN) t ht e▸MN)),U6 h8]
    unfold hR;dsimp only;rw[Vh];rfl
theorem uZ(s:Sim nY ps Nb h Sf){d:Nat}:∀(l:LNN),(∀mv∈l,mv∈nY)->∀{r r':Rn},r.1.length<=8->d<r.1.length->oI nY ps d l r=some r'->(∀m∈r'.1,m∈Sf)->oI nY Nb d l (hR h r)=some (hR h r')
 |[],_,r,r',_,_,e,_=>by cases e;rfl
 |mv::l,hl,r,r',h8,hd,e,sub=>by
  unfold oI at e ⊢;obtain⟨r1,h1,h2⟩:=VC.mp e;have b:=uX h1 h8;rw[xS s (hl mv UR) hd h1 fun m hm=>sub m (oN l h2 m hm)];exact uZ s l (fun x hx=>hl x (US _ hx)) b.2.1 (by lia) h2 sub
theorem ve(s:Sim nY ps Nb h Sf):∀(f d:Nat) {r r':Rn},r.1.length<=8->rK nY ps f d r=some r'->(∀m∈r'.1,m∈Sf)->rK nY Nb f d (hR h r)=some (hR h r')
 | 0,d,r,r',_,e,_=>by cases e;rfl
 |f+1,d,r,r',h8,e,sub=>by
  have e3:(hR h r).1.length=r.1.length:=aO _;unfold rK at e ⊢;rw[e3];by_cases hd:d<r.1.length
  ·rw[U2 hd]at e ⊢;obtain⟨r1,h1,h2⟩:=VC.mp e;rw[uZ s nY (fun _ h=>h) h8 hd h1 fun m hm=>sub m (uY f (d+1) h2 m hm)];exact ve s f (d+1) (Cc nY h1 h8).2.1 h2 sub
  ·rw[U6 hd]at e ⊢;cases e;rfl
theorem j6(e:bF nY ps=some r)(s:Sim nY ps Nb h r.1):bF nY Nb=some (hR h r):=by
 have:=ve s 9 0 (r:=([ps.map (·.1)],[])) (by show 1<=8;decide) e fun _ h=>h
 unfold bF;rw[<-this];unfold hR;rw[cW,VT,s.z]
end
theorem flat_P(p:Pl):flatD (eP p)=true:=by
 unfold eP;rw[bS];simp only[flatDs,bS,flat_ints,kX];rfl
theorem oO(ps:List Pl):flatDs (ps.map eP)=true:=by
 rw[bz,V4,Vg];exact fun p _=>flat_P p
theorem vf{α:Type}[DecidableEq α]:∀(l m:List α),l.Nodup->(∀x∈l,x∈m)->l.length<=m.length
 |[],m,_,_=>VJ _
 |a::l,m,nd,h=>by
  rw[Vt]at nd;have ha:=h a UR;have:=vf l (m.erase a) nd.2 fun x hx=>(Zf (fun e=>nd.1 (by rw[<-e];exact hx))).mpr (h x (US _ hx))
  rw[Xx ha]at this;have:=W6 ha;rw[Va];lia
theorem vg(hn:nY.length<=3)(e:bF nY ps=some r):Ra nY r.2 r.1.length:=by
 have h:=jC (ps:=ps) hn;rw[e]at h;obtain⟨⟨m,rm⟩,_,Nu⟩:=h;have h8:=rm.le;have h0:=(kY rm.z).1;refine⟨by lia,by lia,fun a ha=>?_,fun a ha=>(rm.ab a ha).1,id,rm.rc⟩;obtain⟨_,i,j,_,e1,e2,s,t,hs,ht,_⟩:=rm.ab a ha;have h1:=(kY hs).1;have h2:=(kY ht).1;lia
abbrev Gt:=Int×List Int×LNN
noncomputable def wD(w:LNN):D:=.tup (w.map D.str)
def vG(n:Gt):D:=.tup [eM n.2.1,wD n.2.2]
def dG(N:List Gt):D:=.dct false (N.map fun n=>D.int n.1) (N.map vG)
theorem Cm:∀(N:List Gt) (s:Int),getD (N.map fun n=>D.int n.1) (N.map vG) (.int s)=(N.find? fun n=>n.1==s).map vG
 |[],s=>rfl
 |z::L,s=>by
  have ih:=Cm L s;unfold getD at ih ⊢;rw[cW,cW,Xb];by_cases e:z.1=s
  ·rw[Wl (by show eqD (.int s) (.int z.1)=true;rw[eqD,Vz];exact e.symm),Wl (by simpa using e)];rfl
  ·rw[Wm (by show ¬ eqD (.int s) (.int z.1)=true;rw[eqD,Vz];exact fun q=>e q.symm),Wm (by simpa using e)];exact ih
theorem qi:∀{N:List Gt},(N.map (·.1)).Nodup->∀{n:Gt},n∈N->(N.find? fun z=>z.1==n.1)=some n
 |z::N,nd,n,h=>by
  rw[cW,Vt]at nd;rcases U5.mp h with e|h
  ·subst e;rw[Wl (by simp)]
  ·rw[Wm (by
    simp only[Vz];intro e;exact nd.1 (e▸WA.mpr ⟨n,h,rfl⟩))]
   exact qi nd.2 h
variable{N:List Gt}{s:Int}{n:Gt}
theorem Gu(h:(N.find? fun z=>z.1==s)=some n):dgD (dG N) (.int s)=.ok (.f,vG n):=by
 unfold dgD dG;dsimp only;rw[U2 (show cS false (.int s)=true from rfl),Cm,h];rfl
theorem Ia(N:List Gt)(s:Int):rJ (.int s) (dG N)=.ok (.f,.bl (N.find? fun z=>z.1==s).isNone):=by
 unfold rJ dG;dsimp only;rw[U2 (show cS false (.int s)=true from rfl),Cm];cases(N.find? fun z=>z.1==s) <;> rfl
theorem Ib(h:(N.find? fun z=>z.1==s)=none)(m:List Int)(w:LNN):og (N.map fun n=>D.int n.1) (N.map vG) (.int s) (.tup [eM m,wD w])=((N++[(s,m,w)]).map (fun n=>D.int n.1),(N++[(s,m,w)]).map vG):=by
 rw[WS]at h;have e:(N.map fun n=>D.int n.1).any (eqD (.int s))=false:=by
  rw[Xy,List.any_eq_false];intro x hx;show ¬ eqD (.int s) (.int x.1)=true;rw[eqD,Vz];intro q;exact h x hx (by simp[q])
 unfold og;rw[e,U6 UY,Vh,Vh];rfl
theorem eh(w:LNN):flatD (wD w)=true:=by
 unfold wD;rw[bS,PV.flat_strs]
theorem Cn(n:Gt):flatD (vG n)=true:=by
 unfold vG;rw[bS];simp only[flatDs,j5,eh,VW]
theorem xT(N:List Gt):flatDs (N.map vG)=true:=qf fun n=>Cn n
theorem Co(i:Nat)(f g:FX)(env:PV.Env):sPutP i f g env=Res.bnd (g env) (f:=⟨fun(p:R×PV.Env)=>Res.bnd (f p.2) (f:=⟨fun(q:R×PV.Env)=>match p.2[i]?,q.2[i]? with
 |some (some _),some (some (.pin pp .d,.dct tk ks vs))=>if cS tk q.1.2&&decide (ks.length<sizeLine) then .ok (.nx (q.2.set i (some (.pin pp .d,.dct tk (og ks vs q.1.2 p.1.2).1 (og ks vs q.1.2 p.1.2).2)))) else .bad
 |_,_=>.bad⟩)⟩):=id rfl
def ze(w w':LNN):D:=.tup [.str [111,110,101],wD w,wD w']
def IQ(w w':LNN):D:=.tup [.str [116,119,111],wD w,wD w']
noncomputable def rq(s:Int)(m:List Int)(n:Gt):Bool:=!(n.1==s)&&decide (n.2.1=m)
def g9(N:List Gt)(s:Int)(m:List Int)(w:LNN):D ⊕ List Gt:=match N.find? (rq s m) with
 |some n=>.inl (ze n.2.2 w)
 |none=>match N.find? (fun n=>n.1==s) with
  |none=>.inr (N++[(s,m,w)])
  |some n=>if n.2.1=m then .inr N else .inl (IQ n.2.2 w)
theorem Ic(a b:List Int):eqO (eM a) (eM b)=.ok (.f,.bl (decide (a=b))):=by
 unfold eqO;rw[eg,eg,uT];rfl
theorem Ie(a b:List Int):neO (eM a) (eM b)=.ok (.f,.bl (!decide (a=b))):=by
 unfold neO;rw[eg,eg,uT];rfl
theorem Qk(a b:D):ixD (.tup [a,b]) (.int 0)=.ok (.f,a):=rfl
theorem Ts(a b:D):ixD (.tup [a,b]) (.int 1)=.ok (.f,b):=rfl
theorem Cp(N:List Gt)(nd:(N.map (·.1)).Nodup)(s:Int)(m:List Int)(w:LNN)(p:Addr)(n:Gt)(hn:n∈N):
  cB [some (.pin p .f,dG N),fI s,fq (eM m),fq (wD w),fI n.1]=if rq s m n then .ok (.rt (.t [.f,.pin p .f],.tup [ze n.2.2 w,dG N])) else .ok (.nx [some (.pin p .f,dG N),fI s,fq (eM m),fq (wD w),fI n.1]):=by
 have hd:=Gu (qi nd hn);have he:=Ic n.2.1 m;have f1:=eh n.2.2;unfold vG at hd;unfold cB rq;generalize hG:dG N=GG at hd ⊢;cases h1:(n.1==s) with
 |true=>simp only[pv,seval,op,h1,W4,Xq,cV]
 |false=>
  cases h2:decide (n.2.1=m) with
  |false=>simp only[pv,seval,op,h1,h2,hd,Qk,he,Xs,YE,cV]
  |true=>
   simp only[pv,seval,op,d7,h1,h2,hd,Qk,Ts,he,Xs,YE];rfl
theorem m9(N:List Gt)(nd:(N.map (·.1)).Nodup)(s:Int)(m:List Int)(w:LNN)(p:Addr):∀(L:List Gt),(∀n∈L,n∈N)->∀t4:Option R,
  match L.find? (rq s m) with
  |some n=>cQ (aq 4) cB (L.map fun n=>D.int n.1) [some (.pin p .f,dG N),fI s,fq (eM m),fq (wD w),t4]=.ok (.rt (.t [.f,.pin p .f],.tup [ze n.2.2 w,dG N]))
  |none=>∃t,(t=t4\/∃k:Int,t=fI k)/\cQ (aq 4) cB (L.map fun n=>D.int n.1) [some (.pin p .f,dG N),fI s,fq (eM m),fq (wD w),t4]=.ok (.nx [some (.pin p .f,dG N),fI s,fq (eM m),fq (wD w),t])
 |[],_,t4=>⟨t4,.inl rfl,rfl⟩
 |n::L,h,t4=>by
  have hi:=Cp N nd s m w p n (h n UR);have ha:aq 4 (.int n.1) [some (.pin p .f,dG N),fI s,fq (eM m),fq (wD w),t4]=.ok [some (.pin p .f,dG N),fI s,fq (eM m),fq (wD w),fI n.1]:=rfl;cases hc:rq s m n with
  |true=>
   rw[Wl hc];rw[hc,U2 rfl]at hi;show cQ _ _ (D.int n.1::L.map _) _=_;rw[bI,ha,Kp,hi,Kp]
  |false=>
   rw[Wm (by rw[hc];exact UY)];rw[hc,U6 UY]at hi;have ih:=m9 N nd s m w p L (fun n hn=>h n (US _ hn)) (fI n.1);cases hf:L.find? (rq s m) with
   |some n'=>
    rw[hf]at ih;dsimp only at ih ⊢;show cQ _ _ (D.int n.1::L.map _) _=_;rw[bI,ha,Kp,hi,Kp];exact ih
   |none=>
    rw[hf]at ih;dsimp only at ih ⊢;obtain⟨t,ht,e⟩:=ih;refine⟨t,.inr (ht.elim (fun z=>⟨n.1,z⟩) id),?_⟩;show cQ _ _ (D.int n.1::L.map _) _=_;rw[bI,ha,Kp,hi,Kp];exact e
def Cq(N:List Gt):D ⊕ List Gt->D×D
 | .inl d=>(d,dG N)
 | .inr N'=>(.non,dG N')
theorem Fz(N:List Gt)(nd:(N.map (·.1)).Nodup)(hN:N.length<=100)(s:Int)(m:List Int)(w:LNN)(p:Addr):mK p [dG N,.int s,eM m,wD w]=.ok (.t [.f,.pin p .d],.tup [(Cq N (g9 N s m w)).1,(Cq N (g9 N s m w)).2]):=by
 have fm:=j5 m;have fw:=eh w;have OL:=m9 N nd s m w p N (fun _ h=>h) none;unfold mK yW;rw[xN (h:=by rfl)];have e0:(dG N)=.dct false (N.map fun n=>D.int n.1) (N.map vG):=rfl;unfold g9;cases hf:N.find? (rq s m) with
 |some n=>
  rw[hf]at OL;dsimp only at OL ⊢;have e:gA [some (.pin p .d,dG N),fI s,fq (eM m),fq (wD w),none]=.ok (.rt (.t [.f,.pin p .d],.tup [ze n.2.2 w,dG N])):=by
   unfold gA;show(cQ (aq 4) cB (N.map fun n=>D.int n.1) [some (.pin p .f,dG N),fI s,fq (eM m),fq (wD w),none]).bind (qV 0 p (dG N))=_;rw[OL];show(if decide (p=p)&&aw .f (ze n.2.2 w) then Res.ok (Out.rt (.t [.f,.pin p .d],.tup [ze n.2.2 w,dG N])) else .bad)=_;have fr:aw .f (ze n.2.2 w)=true:=by
    unfold ze;rw[aw,bS];simp only[flatDs,eh,flatD,VW]
   rw[fr,VA rfl];rfl
  simp only[List.map,List.replicate,Wj,XE];rw[KY,e,Kp];rfl
 |none=>
  rw[hf]at OL;dsimp only at OL ⊢;obtain⟨t,ht,OL⟩:=OL;have e:gA [some (.pin p .d,dG N),fI s,fq (eM m),fq (wD w),none]=.ok (.nx [some (.pin p .d,dG N),fI s,fq (eM m),fq (wD w),t]):=by
   unfold gA;show(cQ (aq 4) cB (N.map fun n=>D.int n.1) [some (.pin p .f,dG N),fI s,fq (eM m),fq (wD w),none]).bind (qV 0 p (dG N))=_;rw[OL];show(if xw 0 p [some (.pin p .f,dG N),fI s,fq (eM m),fq (wD w),t]&&cleanE 0 [some (.pin p .f,dG N),fI s,fq (eM m),fq (wD w),t] then Res.ok (Out.nx [some (.pin p .d,dG N),fI s,fq (eM m),fq (wD w),t]) else .bad)=_;have f1:xw 0 p [some (.pin p .f,dG N),fI s,fq (eM m),fq (wD w),t]=true:=by
    show decide (p=p)=true;exact VA rfl
   have f2:cleanE 0 [some (.pin p .f,dG N),fI s,fq (eM m),fq (wD w),t]=true:=by
    rcases ht with e|⟨k,e⟩ <;> subst e <;> simp only[cleanE,List.set_cons_zero,WT,List.all_nil,aw,fm,fw,flatD,VW]
   rw[f1,f2];rfl
  simp only[List.map,List.replicate,Wj,XE];rw[ag e];have hn:=Ia N s;unfold mJ;cases hs:N.find? fun n=>n.1==s with
  |none=>
   rw[hs]at hn;have hp:=Ib hs m w;have hz:(N.map fun n=>D.int n.1).length<sizeLine:=oF (by rw[aO];lia);have e2:sPutP 0 (ay 1) (cU (af (ay 2) (af (ay 3) aD))) [some (.pin p .d,dG N),fI s,fq (eM m),fq (wD w),t]=.ok (.nx [some (.pin p .d,dG (N++[(s,m,w)])),fI s,fq (eM m),fq (wD w),t]):=by
    rw[Co];unfold dG;simp only[pv,seval,op,hp,hz,Xh];rfl
   rw[ag (env':=[some (.pin p .d,dG (N++[(s,m,w)])),fI s,fq (eM m),fq (wD w),t]) (by
    generalize dG (N++[(s,m,w)])=G2 at e2 ⊢;generalize dG N=G1 at e2 hn ⊢;generalize (sPutP 0 (ay 1) (cU (af (ay 2) (af (ay 3) aD))))=TT at e2 ⊢;simp only[pv,seval,op,hn,ZM,e2])]
   show _=Res.ok (O.t [.f,.pin p .d],D.tup [.non,dG (N++[(s,m,w)])]);generalize dG (N++[(s,m,w)])=G2;simp only[pv,seval,op,d7]
  |some n=>
   rw[hs]at hn;have hd:=Gu hs;unfold vG at hd;have LA:=Ie n.2.1 m;by_cases hm:n.2.1=m
   ·rw[VA hm]at LA;dsimp only;rw[U2 hm];show _=Res.ok (O.t [.f,.pin p .d],D.tup [.non,dG N]);generalize dG N=G1 at hd hn ⊢;rw[ag (env':=[some (.pin p .d,G1),fI s,fq (eM m),fq (wD w),t]) (by simp only[pv,seval,op,hn,XF,hd,Qk,LA,W4,cV])];simp only[pv,seval,op,d7]
   ·rw[Vx hm]at LA;dsimp only;rw[U6 hm];show _=Res.ok (O.t [.f,.pin p .d],D.tup [IQ n.2.2 w,dG N]);generalize dG N=G1 at hd hn ⊢;rw[KY];simp only[pv,seval,op,d7,hn,XF,hd,Qk,Ts,LA,Xs,cV];rfl
noncomputable def gK(am:List J0)(s:Int)(m:List Nat):List Int:=(am.filter fun a=>a.1==s&&a.2.1==m).map fun a=>a.2.2
theorem vh(nY:LNN)(am:List J0)(s:Int)(m:List Nat)(hl:am.length<=16777216):gy [JY nY am,.int s,.str m]=.ok (.l .f,.lst ((gK am s m).map D.int)):=by
 unfold gy mI;rw[ba (h:=by rfl)];simp only[pv,seval,op,JY];rw[iR (p:=fun a:J0=>a.1==s&&a.2.1==m) (r:=fun a:J0=>D.int a.2.2) (fun env=>∃t1 t2 t3,env=[t1,t2,t3,fI s,fq (.str m)]) am ?_ _ ⟨_,_,_,rfl⟩]
 ·rw[Kp,U2 (xP hl),Kp];unfold gK;rw[Vy];rfl
 ·rintro a _ env ⟨t1,t2,t3,rfl⟩;refine⟨_,dA a t1 t2 t3 _,?_⟩;simp only[pv,seval,op];cases h1:a.1==s with
  |true=>
   cases h2:a.2.1==m with
   |true=>exact⟨_,rfl,_,_,rfl,_,_,_,rfl⟩
   |false=>exact⟨_,rfl,_,_,_,rfl⟩
  |false=>exact⟨_,rfl,_,_,_,rfl⟩
def FA(w:LNN)(mv:List Nat):D:=.tup [.str [115,116,117,99,107],wD w,.str mv]
def FC(w:LNN)(mv:List Nat):D:=.tup [.str [102,114,101,101],wD w,.str mv]
abbrev So:=Option D×List Gt
def a7(N:List Gt)(s:Int)(m:List Int)(w:LNN):So:=match g9 N s m w with
 | .inl d=>(some d,N)
 | .inr N'=>(none,N')
def aS(m:List Int)(w:LNN):List Int->List Gt->So
 |[],N=>(none,N)
 |s::ss,N=>match a7 N s m w with
  |(some d,N')=>(some d,N')
  |(none,N')=>aS m w ss N'
def bN(nY:LNN)(ps:List Pl)(am:List J0)(n:Gt)(mv:List Nat)(N:List Gt):So:=match aQ (nY.idxOf mv) (n.2.1.zip ps),gK am n.1 mv with
 |none,[]=>(none,N)
 |none,_::_=>(some (FA n.2.2 mv),N)
 |some _,[]=>(some (FC n.2.2 mv),N)
 |some t,s::ss=>aS t (n.2.2++[mv]) (s::ss) N
def aB(nY:LNN)(ps:List Pl)(am:List J0)(n:Gt):LNN->List Gt->So
 |[],N=>(none,N)
 |mv::r,N=>match bN nY ps am n mv N with
  |(some d,N')=>(some d,N')
  |(none,N')=>aB nY ps am n r N'
structure Iv(N:List Gt):Prop where
 nd:(N.map (·.1)).Nodup
 bd:∀n∈N,0<=n.1/\n.1<12
 wl:∀(k:Nat) (n:Gt),N[k]?=some n->n.2.2.length<=k
theorem Iv.le(i:Iv N):N.length<=12:=by
 have:=iT 12 i.nd (fun x hx=>by
  obtain⟨n,hn,e⟩:=rg hx;rw[<-e];exact i.bd n hn)
 rwa [aO]at this
structure Gr(N N':List Gt)(o:Option D):Prop where
 iv:Iv N'
 ex:∃more,N'=N++more
 fl:flatD (o.getD .non)=true
theorem Gr.refl(i:Iv N):Gr N N none:=⟨i,⟨[],(Vm N).symm⟩,rfl⟩
variable{N':List Gt}{o:Option D}
theorem Gr.trans{N2:List Gt}{o':Option D}(a:Gr N N' o)(b:Gr N' N2 o'):Gr N N2 o':=by
 obtain⟨m1,e1⟩:=a.ex;obtain⟨m2,e2⟩:=b.ex;exact⟨b.iv,⟨m1++m2,by rw[e2,e1,VH]⟩,b.fl⟩
theorem Gr.le(a:Gr N N' o):N.length<=N'.length:=by
 obtain⟨m,e⟩:=a.ex;rw[e,iy];lia
theorem xU(l:List Nat)(a b:D)(ha:flatD a=true)(hb:flatD b=true):flatD (.tup [.str l,a,b])=true:=by
 rw[bS];simp only[flatDs,ha,hb,flatD,VW]
variable{w:LNN}
theorem lh(i:Iv N)(hs:0<=s/\s<12)(m:List Int)(hw:w.length<=N.length):Gr N (a7 N s m w).2 (a7 N s m w).1:=by
 unfold a7 g9;split
 ·rename_i d hd;refine⟨i,⟨[],(Vm N).symm⟩,?_⟩;split at hd
  ·cases hd;exact xU _ _ _ (eh _) (eh _)
  ·split at hd
   ·cases hd
   ·split at hd
    ·cases hd
    ·cases hd;exact xU _ _ _ (eh _) (eh _)
 ·rename_i N' hd;split at hd
  ·cases hd
  ·split at hd
   ·rename_i hf;cases hd;rw[WS]at hf;refine⟨⟨?_,fun n hn=>?_,fun k n hk=>?_⟩,⟨_,rfl⟩,rfl⟩
    ·rw[Vh];refine Vp.mpr ⟨i.nd,Vt.mpr ⟨VR,V1⟩,fun x hx y hy e=>?_⟩;obtain⟨n,hn,en⟩:=rg hx;have hy:y=s:=iw hy;exact hf n hn (by rw[Vz,en,e,hy])
    ·rcases oE hn with hn|hn
     ·exact i.bd n hn
     ·rw[iw hn];exact hs
    ·rcases rj hk with h|⟨e1,e2⟩
     ·exact i.wl k n h
     ·rw[e2,e1];exact hw
   ·split at hd
    ·cases hd;exact Gr.refl i
    ·cases hd
theorem lj(m:List Int)(w:LNN):∀(ss:List Int) {N:List Gt},Iv N->(∀s∈ss,0<=s/\s<12)->w.length<=N.length->Gr N (aS m w ss N).2 (aS m w ss N).1
 |[],N,i,_,_=>Gr.refl i
 |s::ss,N,i,hs,hw=>by
  have g:=lh i (hs s UR) m hw;unfold aS;split
  ·rename_i d N' e;rw[e]at g;exact g
  ·rename_i N' e;rw[e]at g;exact g.trans (lj m w ss g.iv (fun x hx=>hs x (US _ hx)) (Vo hw g.le))
theorem oP(hb:∀a∈am,0<=a.2.2/\a.2.2<12)(mv:List Nat)(i:Iv N)(hw:n.2.2.length+1<=N.length):Gr N (bN nY ps am n mv N).2 (bN nY ps am n mv N).1:=by
 unfold bN;have hg:∀s∈gK am n.1 mv,0<=s/\s<12:=fun s hs=>by
  unfold gK at hs;obtain⟨a,ha,e⟩:=rg hs;rw[<-e];exact hb a (VP.mp ha).1
 split
 ·exact Gr.refl i
 ·exact⟨i,⟨[],(Vm N).symm⟩,xU _ _ _ (eh _) rfl⟩
 ·exact⟨i,⟨[],(Vm N).symm⟩,xU _ _ _ (eh _) rfl⟩
 ·rename_i t s ss _ e;rw[e]at hg;exact lj t _ (s::ss) i hg (by rw[iy];exact hw)
theorem eW{nY:LNN}{ps:List Pl}{am:List J0}(hb:∀a∈am,0<=a.2.2/\a.2.2<12){n:Gt}:∀(l:LNN) {N:List Gt},Iv N->n.2.2.length+1<=N.length->Gr N (aB nY ps am n l N).2 (aB nY ps am n l N).1
 |[],N,i,_=>Gr.refl i
 |mv::l,N,i,hw=>by
  have g:=oP (nY:=nY) (ps:=ps) hb mv i hw;unfold aB;split
  ·rename_i d N' e;rw[e]at g;exact g
  ·rename_i N' e;rw[e]at g;exact g.trans (eW hb l g.iv (Vo hw g.le))
theorem Cr(N:List Gt)(s:Int)(m:List Int)(w:LNN):Cq N (g9 N s m w)=((a7 N s m w).1.getD .non,dG (a7 N s m w).2):=by
 unfold a7;cases g9 N s m w <;> rfl
theorem FE(N:List Gt)(i:Iv N)(s:Int)(m:List Int)(w:LNN):g8 mK .d (dG N) [.int s,eM m,wD w]=.ok ((.f,(a7 N s m w).1.getD .non),dG (a7 N s m w).2):=pO (r:=(.f,(a7 N s m w).1.getD .non)) fun p=>by
 have:=i.le;have h:=Fz N i.nd (by lia) s m w p;rw[Cr]at h;exact h
theorem qj(N:List Gt):aw .d (dG N)=true:=by
 unfold dG;rw[aw];exact xT N
theorem zf(ds:List D):isnO (.tup ds) (.non)=.ok (.f,.bl true):=id rfl
theorem j7(N:List Gt)(s:Int)(m:List Int)(w:LNN):(a7 N s m w).1=none\/∃ds,(a7 N s m w).1=some (.tup ds):=by
 unfold a7 g9;split
 ·rename_i d hd;right;split at hd
  ·cases hd;exact⟨_,rfl⟩
  ·split at hd
   ·cases hd
   ·split at hd
    ·cases hd
    ·cases hd;exact⟨_,rfl⟩
 ·exact .inl rfl
theorem FF(CH NE:D)(p:Addr)(N:List Gt)(i:Iv N)(st:Int)(m0:List Int)(w:LNN)(hw:w.length+1<=N.length)(mv:List Nat)(t:List Int)(s:Int)(hs:0<=s/\s<12)(t8 KL:Option R):
  match(a7 N s t (w++[mv])).1 with
  |some d=>bj [fq CH,fq NE,some (.pin p .d,dG N),fI st,fq (eM m0),fq (wD w),fq (.str mv),fq (eM t),t8,fI s,KL]=.ok (.rt (.t [.f,.pin p .d],.tup [d,dG (a7 N s t (w++[mv])).2]))
  |none=>bj [fq CH,fq NE,some (.pin p .d,dG N),fI st,fq (eM m0),fq (wD w),fq (.str mv),fq (eM t),t8,fI s,KL]=.ok (.nx [fq CH,fq NE,some (.pin p .d,dG (a7 N s t (w++[mv])).2),fI st,fq (eM m0),fq (wD w),fq (.str mv),fq (eM t),t8,fI s,fq .non]):=by
 have hle:=i.le;have ha:=JF w mv (by lia);have hc:=FE N i s t (w++[mv]);have gr:=lh i hs t (w:=w++[mv]) (by rw[iy];exact hw);have cl:=qj (a7 N s t (w++[mv])).2;have fl:=gr.fl;have sh:=j7 N s t (w++[mv]);revert hc cl fl sh;generalize (a7 N s t (w++[mv])).1=o;generalize dG (a7 N s t (w++[mv])).2=G2;generalize dG N=G1;intro hc cl fl sh;unfold wD at hc ⊢;have cf:aw .f (o.getD .non)=true:=by rw[aw];exact fl
 unfold bj;rw[ag (env':=[fq CH,fq NE,some (.pin p .d,G2),fI st,fq (eM m0),fq (.tup (w.map D.str)),fq (.str mv),fq (eM t),t8,fI s,fq (o.getD .non)]) (by
  simp only[pv,seval,op,B3,ha,hc,cl,cf,VW];rfl)]
 rcases sh with e|⟨ds,e⟩
 ·subst e;simp only[pv,seval,op,o_isnN,WK,cV]
 ·subst e;simp only[pv,seval,op,d7,zf,WL]
theorem vk(CH NE:D)(p:Addr)(st:Int)(m0:List Int)(w:LNN)(mv:List Nat)(t:List Int)(t8:Option R):∀(ss:List Int) (N:List Gt),Iv N->w.length+1<=N.length->(∀s∈ss,0<=s/\s<12)->∀t9 KL:Option R,
  match(aS t (w++[mv]) ss N).1 with
  |some d=>cQ (aq 9) bj (ss.map D.int) [fq CH,fq NE,some (.pin p .d,dG N),fI st,fq (eM m0),fq (wD w),fq (.str mv),fq (eM t),t8,t9,KL]=.ok (.rt (.t [.f,.pin p .d],.tup [d,dG (aS t (w++[mv]) ss N).2]))
  |none=>∃u9 Mw,cQ (aq 9) bj (ss.map D.int) [fq CH,fq NE,some (.pin p .d,dG N),fI st,fq (eM m0),fq (wD w),fq (.str mv),fq (eM t),t8,t9,KL]=.ok (.nx [fq CH,fq NE,some (.pin p .d,dG (aS t (w++[mv]) ss N).2),fI st,fq (eM m0),fq (wD w),fq (.str mv),fq (eM t),t8,u9,Mw])
 |[],N,_,_,_,t9,KL=>⟨t9,KL,rfl⟩
 |s::ss,N,i,hw,hs,t9,KL=>by
  have h1:=FF CH NE p N i st m0 w hw mv t s (hs s UR) t8 KL;have gr:=lh i (hs s UR) t (w:=w++[mv]) (by rw[iy];exact hw);have ha:aq 9 (.int s) [fq CH,fq NE,some (.pin p .d,dG N),fI st,fq (eM m0),fq (wD w),fq (.str mv),fq (eM t),t8,t9,KL]=.ok [fq CH,fq NE,some (.pin p .d,dG N),fI st,fq (eM m0),fq (wD w),fq (.str mv),fq (eM t),t8,fI s,KL]:=rfl;unfold aS;cases hg:a7 N s t (w++[mv]) with
  |mk o N'=>
   rw[hg]at h1 gr;cases o with
   |some d=>
    dsimp only at h1 ⊢;rw[cW,bI,ha,Kp,h1,Kp]
   |none=>
    dsimp only at h1 ⊢;have ih:=vk CH NE p st m0 w mv t t8 ss N' gr.iv (Vo hw gr.le) (fun x hx=>hs x (US _ hx)) (fI s) (fq .non);cases hgs:(aS t (w++[mv]) ss N').1 with
    |some d=>
     rw[hgs]at ih;dsimp only at ih ⊢;rw[cW,bI,ha,Kp,h1,Kp];exact ih
    |none=>
     rw[hgs]at ih;dsimp only at ih ⊢;obtain⟨u9,Mw,ih⟩:=ih;refine⟨u9,Mw,?_⟩;rw[cW,bI,ha,Kp,h1,Kp];exact ih
theorem FH(t:List Int):isO (eM t) .non=.ok (.f,.bl false):=id rfl
theorem zg(t:List Int):isnO (eM t) .non=.ok (.f,.bl true):=id rfl
theorem zh:isO .non .non=.ok (.f,.bl true):=id rfl
theorem FJ(nY:LNN)(ps:List Pl)(hl:ps.length<=100)(hp:∀q∈ps,Lb q nY.length)(am:List J0)(Nu:am.length<=60)(hb:∀a∈am,0<=a.2.2/\a.2.2<12)(p:Addr)(N:List Gt)(i:Iv N)(n:Gt)(hw:n.2.2.length+1<=N.length)(mv:List Nat)(hm:mv∈nY)(t7 t8 t9 KL:Option R):
  match(bN nY ps am n mv N).1 with
  |some d=>bo [fq (JY nY am),fq (eN nY ps),some (.pin p .d,dG N),fI n.1,fq (eM n.2.1),fq (wD n.2.2),fq (.str mv),t7,t8,t9,KL]=.ok (.rt (.t [.f,.pin p .d],.tup [d,dG (bN nY ps am n mv N).2]))
  |none=>∃u7 u8 u9 Mw,bo [fq (JY nY am),fq (eN nY ps),some (.pin p .d,dG N),fI n.1,fq (eM n.2.1),fq (wD n.2.2),fq (.str mv),t7,t8,t9,KL]=.ok (.nx [fq (JY nY am),fq (eN nY ps),some (.pin p .d,dG (bN nY ps am n mv N).2),fI n.1,fq (eM n.2.1),fq (wD n.2.2),fq (.str mv),u7,u8,u9,Mw]):=by
 have Mv:=Cb nY ps hl hp n.2.1 mv hm;have Mx:=vh nY am n.1 mv (by lia);have Us:=Ca (aQ (nY.idxOf mv) (n.2.1.zip ps));have hfg:=flat_ints (gK am n.1 mv);have hg:∀s∈gK am n.1 mv,0<=s/\s<12:=fun s hs=>by
  unfold gK at hs;obtain⟨a,ha,e⟩:=rg hs;rw[<-e];exact hb a (VP.mp ha).1
 unfold bN;unfold bo;rw[ag (env':=[fq (JY nY am),fq (eN nY ps),some (.pin p .d,dG N),fI n.1,fq (eM n.2.1),fq (wD n.2.2),fq (.str mv),fq (eO (aQ (nY.idxOf mv) (n.2.1.zip ps))),t8,t9,KL]) (by
  generalize eN nY ps=NE at Mv ⊢;generalize JY nY am=CE at Mx ⊢;simp only[pv,seval,op,Mv,Us])]
 rw[ag (env':=[fq (JY nY am),fq (eN nY ps),some (.pin p .d,dG N),fI n.1,fq (eM n.2.1),fq (wD n.2.2),fq (.str mv),fq (eO (aQ (nY.idxOf mv) (n.2.1.zip ps))),fL ((gK am n.1 mv).map D.int),t9,KL]) (by
  generalize eN nY ps=NE at Mv ⊢;generalize JY nY am=CE at Mx ⊢;simp only[pv,seval,op,Mx,hfg])]
 clear Mv Mx Us;have lp:=fun t=>vk (JY nY am) (eN nY ps) p n.1 n.2.1 n.2.2 mv t (fq (.lst ((gK am n.1 mv).map D.int))) (gK am n.1 mv) N i hw hg t9 KL
 generalize eN nY ps=NE at lp ⊢;generalize JY nY am=CE at lp ⊢;cases aQ (nY.idxOf mv) (n.2.1.zip ps) with
 |none=>
  cases hgs:gK am n.1 mv with
  |nil=>
   dsimp only;refine⟨fq .non,fq (.lst []),t9,KL,?_⟩;have c0:((0:Int)<((0:Nat):Int))=False:=by simp
   unfold eO;generalize dG N=G1;rw[ag (env':=[fq CE,fq NE,some (.pin p .d,G1),fI n.1,fq (eM n.2.1),fq (wD n.2.2),fq (.str mv),fq .non,fL [],t9,KL]) (by simp only[pv,seval,op,zh,VT,We,Ye,Xi,cV] <;> rfl)];rw[ag (env':=[fq CE,fq NE,some (.pin p .d,G1),fI n.1,fq (eM n.2.1),fq (wD n.2.2),fq (.str mv),fq .non,fL [],t9,KL]) (by simp only[pv,seval,op,o_isnN,VT,cV])];unfold du;simp only[pv,seval,op]
  |cons s ss=>
   dsimp only;unfold eO;generalize dG N=G1;have c0:decide ((0:Int)<((ss.length+1:Nat):Int))=true:=VA (by lia);rw[KY];simp only[pv,seval,op,zh,d7,aO,c0];rfl
 |some t=>
  have PM:=lp t;clear lp;cases hgs:gK am n.1 mv with
  |nil=>
   dsimp only;show _=Res.ok (Out.rt (O.t [.f,.pin p .d],D.tup [FC n.2.2 mv,dG N]));show(sSeq _ _) [fq CE,fq NE,some (.pin p .d,dG N),fI n.1,fq (eM n.2.1),fq (wD n.2.2),fq (.str mv),fq (eM t),fL [],t9,KL]=_;generalize dG N=G1;rw[ag (env':=[fq CE,fq NE,some (.pin p .d,G1),fI n.1,fq (eM n.2.1),fq (wD n.2.2),fq (.str mv),fq (eM t),fL [],t9,KL]) (by simp only[pv,seval,op,FH,cV])];rw[KY];simp only[pv,seval,op,zg,d7,We];rfl
  |cons s ss=>
   rw[hgs]at PM;dsimp only;show match(aS t (n.2.2++[mv]) (s::ss) N).1 with
    |some d=>(sSeq _ _) [fq CE,fq NE,some (.pin p .d,dG N),fI n.1,fq (eM n.2.1),fq (wD n.2.2),fq (.str mv),fq (eM t),fL ((s::ss).map D.int),t9,KL]=.ok (.rt (.t [.f,.pin p .d],.tup [d,dG (aS t (n.2.2++[mv]) (s::ss) N).2]))
    |none=>∃u7 u8 u9 Mw,(sSeq _ _) [fq CE,fq NE,some (.pin p .d,dG N),fI n.1,fq (eM n.2.1),fq (wD n.2.2),fq (.str mv),fq (eM t),fL ((s::ss).map D.int),t9,KL]=.ok (.nx [fq CE,fq NE,some (.pin p .d,dG (aS t (n.2.2++[mv]) (s::ss) N).2),fI n.1,fq (eM n.2.1),fq (wD n.2.2),fq (.str mv),u7,u8,u9,Mw])
   have c0:(((ss.length+1:Nat):Int)==0)=false:=by
    rw[V7];lia
   rw[ag (env':=[fq CE,fq NE,some (.pin p .d,dG N),fI n.1,fq (eM n.2.1),fq (wD n.2.2),fq (.str mv),fq (eM t),fL ((s::ss).map D.int),t9,KL]) (by
    generalize dG N=G1;simp only[pv,seval,op,FH,cV])]
   rw[ag (env':=[fq CE,fq NE,some (.pin p .d,dG N),fI n.1,fq (eM n.2.1),fq (wD n.2.2),fq (.str mv),fq (eM t),fL ((s::ss).map D.int),t9,KL]) (by
    generalize dG N=G1;simp only[pv,seval,op,zg,aO,c0,cV])]
   have go:∀env':Res Out,cQ (aq 9) bj ((s::ss).map D.int) [fq CE,fq NE,some (.pin p .d,dG N),fI n.1,fq (eM n.2.1),fq (wD n.2.2),fq (.str mv),fq (eM t),fq (.lst ((s::ss).map D.int)),t9,KL]=env'->du [fq CE,fq NE,some (.pin p .d,dG N),fI n.1,fq (eM n.2.1),fq (wD n.2.2),fq (.str mv),fq (eM t),fL ((s::ss).map D.int),t9,KL]=env':=fun env' h=>by
    unfold du;generalize dG N=G1 at h ⊢;generalize ((s::ss).map D.int)=LL at h ⊢;simp only[pv,seval,op];exact h
   cases Mx:(aS t (n.2.2++[mv]) (s::ss) N).1 with
   |some d=>
    rw[Mx]at PM;exact go _ PM
   |none=>
    rw[Mx]at PM;obtain⟨u9,Mw,PM⟩:=PM;exact⟨_,_,u9,Mw,go _ PM⟩
structure Nc(nY:LNN)(ps:List Pl)(am:List J0):Prop where
 pl:ps.length<=100
 po:∀q∈ps,Lb q nY.length
 al:am.length<=60
 ab:∀a∈am,0<=a.2.2/\a.2.2<12
theorem vm{nY:LNN}{ps:List Pl}{am:List J0}(c:Nc nY ps am)(p:Addr)(n:Gt):∀(l:LNN),(∀mv∈l,mv∈nY)->∀(N:List Gt),Iv N->n.2.2.length+1<=N.length->∀t6 t7 t8 t9 KL:Option R,
  match(aB nY ps am n l N).1 with
  |some d=>cQ (aq 6) bo (l.map D.str) [fq (JY nY am),fq (eN nY ps),some (.pin p .d,dG N),fI n.1,fq (eM n.2.1),fq (wD n.2.2),t6,t7,t8,t9,KL]=.ok (.rt (.t [.f,.pin p .d],.tup [d,dG (aB nY ps am n l N).2]))
  |none=>∃u6 u7 u8 u9 Mw,cQ (aq 6) bo (l.map D.str) [fq (JY nY am),fq (eN nY ps),some (.pin p .d,dG N),fI n.1,fq (eM n.2.1),fq (wD n.2.2),t6,t7,t8,t9,KL]=.ok (.nx [fq (JY nY am),fq (eN nY ps),some (.pin p .d,dG (aB nY ps am n l N).2),fI n.1,fq (eM n.2.1),fq (wD n.2.2),u6,u7,u8,u9,Mw])
 |[],_,N,_,_,t6,t7,t8,t9,KL=>⟨t6,t7,t8,t9,KL,rfl⟩
 |mv::l,hm,N,i,hw,t6,t7,t8,t9,KL=>by
  have h1:=FJ nY ps c.pl c.po am c.al c.ab p N i n hw mv (hm mv UR) t7 t8 t9 KL;have gr:=oP (nY:=nY) (ps:=ps) c.ab mv i hw;have ha:aq 6 (.str mv) [fq (JY nY am),fq (eN nY ps),some (.pin p .d,dG N),fI n.1,fq (eM n.2.1),fq (wD n.2.2),t6,t7,t8,t9,KL]=.ok [fq (JY nY am),fq (eN nY ps),some (.pin p .d,dG N),fI n.1,fq (eM n.2.1),fq (wD n.2.2),fq (.str mv),t7,t8,t9,KL]:=rfl;unfold aB;cases hg:bN nY ps am n mv N with
  |mk o N'=>
   rw[hg]at h1 gr;cases o with
   |some d=>
    dsimp only at h1 ⊢;rw[cW,bI,ha,Kp,h1,Kp]
   |none=>
    dsimp only at h1 ⊢;obtain⟨u7,u8,u9,Mw,h1⟩:=h1;have ih:=vm c p n l (fun x hx=>hm x (US _ hx)) N' gr.iv (Vo hw gr.le) (fq (.str mv)) u7 u8 u9 Mw;cases hgs:(aB nY ps am n l N').1 with
    |some d=>
     rw[hgs]at ih;dsimp only at ih ⊢;rw[cW,bI,ha,Kp,h1,Kp];exact ih
    |none=>
     rw[hgs]at ih;dsimp only at ih ⊢;obtain⟨v6,v7,v8,v9,v10,ih⟩:=ih;refine⟨v6,v7,v8,v9,v10,?_⟩;rw[cW,bI,ha,Kp,h1,Kp];exact ih
theorem rA(nn:Nat)(c:O)(g:FS)(p:Addr)(d0 d1 d2 d3:D):fBodyJ 2 4 nn c g p [d0,d1,d2,d3]=Res.bnd (g ([fq d1,fq d2,some (.pin p c,d0),fq d3]++List.replicate nn none)) (f:=⟨fun o=>match o with | .rt r=>.ok r|_=>.bad⟩):=by
 unfold fBodyJ;dsimp only;rw[U2 ⟨rfl,(by decide:2<=3)⟩];rfl
theorem vn(c:Nc nY ps am)(p:Addr)(N:List Gt)(i:Iv N)(n:Gt)(hn:n∈N)(hw:n.2.2.length+1<=N.length):
  df p [dG N,JY nY am,eN nY ps,.int n.1]=.ok (.t [.f,.pin p .d],.tup [(aB nY ps am n nY N).1.getD .non,dG (aB nY ps am n nY N).2]):=by
 have hd:=Gu (qi i.nd hn);unfold vG at hd;have fm:=j5 n.2.1;have fw:=eh n.2.2;have lp:=vm c p n nY (fun _ h=>h) N i hw none none none none none;unfold df mL;rw[rA];simp only[List.replicate,Wj,XE];rw[ag (env':=[fq (JY nY am),fq (eN nY ps),some (.pin p .d,dG N),fI n.1,fq (eM n.2.1),none,none,none,none,none,none]) (by
  generalize dG N=G1 at hd ⊢;simp only[pv,seval,op,hd,Qk,fm])]
 rw[ag (env':=[fq (JY nY am),fq (eN nY ps),some (.pin p .d,dG N),fI n.1,fq (eM n.2.1),fq (wD n.2.2),none,none,none,none,none]) (by
  generalize dG N=G1 at hd ⊢;simp only[pv,seval,op,hd,Ts,fw])]
 have go:∀r:Res Out,cQ (aq 6) bo (nY.map D.str) [fq (JY nY am),fq (eN nY ps),some (.pin p .d,dG N),fI n.1,fq (eM n.2.1),fq (wD n.2.2),none,none,none,none,none]=r->fR [fq (JY nY am),fq (eN nY ps),some (.pin p .d,dG N),fI n.1,fq (eM n.2.1),fq (wD n.2.2),none,none,none,none,none]=r:=fun r h=>by
  unfold fR;generalize dG N=G1 at h ⊢;unfold JY at h ⊢;generalize eN nY ps=NE at h ⊢;simp only[pv,seval,op];exact h
 cases Mx:(aB nY ps am n nY N).1 with
 |some d=>
  rw[Mx]at lp;rw[KY,go _ lp,Kp];rfl
 |none=>
  rw[Mx]at lp;obtain⟨u6,u7,u8,u9,Mw,lp⟩:=lp;rw[ag (go _ lp)];unfold ie;generalize dG (aB nY ps am n nY N).2=G2;generalize eN nY ps=NE;generalize JY nY am=CE;simp only[pv,seval,op,d7,WK]
theorem FK(c:Nc nY ps am)(N:List Gt)(i:Iv N)(n:Gt)(hn:n∈N)(hw:n.2.2.length+1<=N.length):g8 df .d (dG N) [JY nY am,eN nY ps,.int n.1]=.ok ((.f,(aB nY ps am n nY N).1.getD .non),dG (aB nY ps am n nY N).2):=
 pO (r:=(.f,(aB nY ps am n nY N).1.getD .non)) fun p=>vn c p N i n hn hw
def bu(nY:LNN)(ps:List Pl)(am:List J0):Nat->Nat->List Gt->So
 | 0,_,N=>(none,N)
 |f+1,k,N=>match N[k]? with
  |none=>(none,N)
  |some n=>match aB nY ps am n nY N with
   |(some d,N')=>(some d,N')
   |(none,N')=>bu nY ps am f (k+1) N'
theorem FL{c:O}{F:Addr->List D->Res R}{fs:FOs}{env e:PV.Env}{o0 o1 o2:Opd}{ow:O}{d0:D}{ds:List D}{x:R×D}(h:fs env=.ok ([o0,o1,.var i,o2],e))(hi:e[i]?=some (some (ow,d0)))(ho:mD c ow=true)(hd:eZ (e.set i none) [o0,o1,o2]=.ok ds)(hc:g8 F c d0 ds=.ok x)(LC:(aw x.1.1 x.1.2&&aw c x.2)=true):
  qU 2 c F i fs env=.ok (x.1,(e.set i none).set i (some (ow,x.2))):=by
 unfold qU;rw[h];show(match([o0,o1,Opd.var i,o2]:List Opd)[2]? with
  |some (.var j')=>if j'=i then(match e[i]? with
   |some (some (ow,d0))=>if mD c ow then(eZ (e.set i none) (([o0,o1,Opd.var i,o2]:List Opd).eraseIdx 2)).bind fun ds=>(g8 F c d0 ds).bind fun x=>if aw x.1.1 x.1.2&&aw c x.2 then .ok (x.1,(e.set i none).set i (some (ow,x.2))) else .ok (x.1,((e.set i none).map frz).set i (some (ow,x.2))) else .bad
   |_=>.bad) else .bad
  |_=>.bad)=_
 show(if i=i then(match e[i]? with
   |some (some (ow,d0))=>if mD c ow then(eZ (e.set i none) [o0,o1,o2]).bind fun ds=>(g8 F c d0 ds).bind fun x=>if aw x.1.1 x.1.2&&aw c x.2 then .ok (x.1,(e.set i none).set i (some (ow,x.2))) else .ok (x.1,((e.set i none).map frz).set i (some (ow,x.2))) else .bad
   |_=>.bad) else .bad)=_
 rw[U2 rfl,hi];dsimp only;rw[U2 ho,hd];show((g8 F c d0 ds).bind fun x=>if aw x.1.1 x.1.2&&aw c x.2 then .ok (x.1,(e.set i none).set i (some (ow,x.2))) else .ok (x.1,((e.set i none).map frz).set i (some (ow,x.2))))=_;rw[hc];show(if aw x.1.1 x.1.2&&aw c x.2 then Res.ok (x.1,(e.set i none).set i (some (ow,x.2))) else .ok (x.1,((e.set i none).map frz).set i (some (ow,x.2))))=_;rw[U2 LC]
theorem rB(nY:LNN)(ps:List Pl)(am:List J0)(n:Gt)(mv:List Nat)(N:List Gt):∀d,(bN nY ps am n mv N).1=some d->∃ds,d=.tup ds:=by
 have gs:∀(m:List Int) (w:LNN) (ss:List Int) (N:List Gt) d,(aS m w ss N).1=some d->∃ds,d=.tup ds:=by
  intro m w ss;induction ss with
  |nil=>intro N d h;cases h
  |cons s ss ih=>
   intro N d h;unfold aS at h;rcases j7 N s m w with e|⟨ds,e⟩
   ·split at h
    ·rename_i d' N' e';rw[e']at e;cases e
    ·exact ih _ d h
   ·split at h
    ·rename_i d' N' e';rw[e']at e;cases e;cases h;exact⟨ds,rfl⟩
    ·rename_i N' e';rw[e']at e;cases e
 intro d h;unfold bN at h;split at h
 ·cases h
 ·cases h;exact⟨_,rfl⟩
 ·cases h;exact⟨_,rfl⟩
 ·exact gs _ _ _ _ d h
theorem jD(nY:LNN)(ps:List Pl)(am:List J0)(n:Gt):∀(l:LNN) (N:List Gt) d,(aB nY ps am n l N).1=some d->∃ds,d=.tup ds
 |[],N,d,h=>by cases h
 |mv::l,N,d,h=>by
  unfold aB at h;split at h
  ·rename_i d' N' e;cases h;exact rB nY ps am n mv N d (by rw[e])
  ·exact jD nY ps am n l _ d h
theorem Cs(N:List Gt):qT [dG N]=.ok (.l .f,.lst (N.map fun n=>D.int n.1)):=rfl
theorem FN(c:Nc nY ps am)(N:List Gt)(i:Iv N)(k:Nat)(n:Gt)(hk:N[k]?=some n)(t4:Option R):
  match(aB nY ps am n nY N).1 with
  |some d=>dh [fq (JY nY am),fq (eN nY ps),some (.d,dG N),fI (k:Int),t4]=.ok (.rt (.f,d))
  |none=>dh [fq (JY nY am),fq (eN nY ps),some (.d,dG N),fI (k:Int),t4]=.ok (.nx [fq (JY nY am),fq (eN nY ps),some (.d,dG (aB nY ps am n nY N).2),fI ((k+1:Nat):Int),fq .non]):=by
 have hn:n∈N:=Vu hk;have hkl:=(kY hk).1;have OS:=i.wl k n hk;have hw:n.2.2.length+1<=N.length:=by lia
 have gr:=eW (nY:=nY) (ps:=ps) c.ab nY i hw (n:=n);have hc:=FK c N i n hn hw;have cl:=qj (aB nY ps am n nY N).2;have sh:=jD nY ps am n nY N;have cf:aw .f ((aB nY ps am n nY N).1.getD .non)=true:=by rw[aw];exact gr.fl
 have OG:atI (N.map fun n=>D.int n.1) (k:Int)=some (.int n.1):=di (by rw[Vd,hk];rfl);have Ut:=Cs N;revert hc cl sh cf;generalize (aB nY ps am n nY N).1=o;generalize dG (aB nY ps am n nY N).2=G2;intro hc cl sh cf;unfold dh;have e1:qU 2 (.d) df 2 (osCons (oVar 0) (osCons (oVar 1) (osCons (oVar 2) (osCons (aa (ao ixD (aa (aA qT (osCons (oVar 2) osNil))) (oVar 3))) osNil)))) [fq (JY nY am),fq (eN nY ps),some (.d,dG N),fI (k:Int),t4]=.ok ((.f,o.getD .non),[fq (JY nY am),fq (eN nY ps),some (.d,G2),fI (k:Int),t4]):=by
  generalize dG N=G1 at Ut hc ⊢;generalize eN nY ps=NE at hc ⊢;generalize JY nY am=CE at hc ⊢;rw[FL (o0:=.var 0) (o1:=.var 1) (o2:=.val (.int n.1)) (e:=[fq CE,fq NE,some (.d,G1),fI (k:Int),t4]) (ow:=.d) (d0:=G1) (ds:=[CE,NE,.int n.1]) (by simp only[pv,seval,op,Ut,OG]) rfl rfl rfl hc (by
   show(aw .f (o.getD .non)&&aw .d G2)=true;rw[cf,cl];rfl)]
  rfl
 rw[ag (env':=[fq (JY nY am),fq (eN nY ps),some (.d,G2),fI (k:Int),fq (o.getD .non)]) (by
  generalize dG N=G1 at e1 ⊢;generalize eN nY ps=NE at e1 ⊢;generalize JY nY am=CE at e1 ⊢;rw[M8,e1,Kp];rfl)]
 generalize eN nY ps=NE;generalize JY nY am=CE;cases o with
 |some d=>
  obtain⟨ds,rfl⟩:=sh d rfl;dsimp only;rw[KY];simp only[pv,seval,op,zf,WL]
 |none=>
  dsimp only;rw[ag (env':=[fq CE,fq NE,some (.d,G2),fI (k:Int),fq .non]) (by simp only[pv,seval,op,o_isnN,WK,cV])];simp only[pv,seval,op,Int.natCast_add,Ye]
theorem FQ(N:List Gt):dS [dG N]=.ok (.f,.int (N.length:Int)):=by
 show Res.ok (O.f,D.int (((N.map fun n=>D.int n.1).length:Nat):Int))=_;rw[aO]
section
variable{f k:Nat}{d:D}
theorem eX(h:N[k]?=none):bu nY ps am (f+1) k N=(none,N):=by rw[bu,h]
theorem gL(h:N[k]?=some n)(hm:aB nY ps am n nY N=(some d,N')):bu nY ps am (f+1) k N=(some d,N'):=by
 rw[bu,h];dsimp only;rw[hm]
theorem hJ(h:N[k]?=some n)(hm:aB nY ps am n nY N=(none,N')):bu nY ps am (f+1) k N=bu nY ps am f (k+1) N':=by
 rw[bu,h];dsimp only;rw[hm]
end
theorem held_w{nY:LNN}{ps:List Pl}{am:List J0}(c:Nc nY ps am):∀(f F k:Nat) (N:List Gt),Iv N->k<=N.length->13<=f+k->f<=F->∀t4:Option R,
  match(bu nY ps am f k N).1 with
  |some d=>bZ (eBl (ao ltO (oVar 3) (aa (aA dS (osCons (oVar 2) osNil))))) dh F [fq (JY nY am),fq (eN nY ps),some (.d,dG N),fI (k:Int),t4]=.ok (.rt (.f,d))
  |none=>∃u4,bZ (eBl (ao ltO (oVar 3) (aa (aA dS (osCons (oVar 2) osNil))))) dh F [fq (JY nY am),fq (eN nY ps),some (.d,dG N),fI (k:Int),t4]=.ok (.nx [fq (JY nY am),fq (eN nY ps),some (.d,dG (bu nY ps am f k N).2),fI ((bu nY ps am f k N).2.length:Int),u4])
 | 0,F,k,N,i,hk,hf,_,t4=>by
  have:=i.le;lia
 |f+1,0,k,N,i,hk,hf,hF,t4=>by lia
 |f+1,F+1,k,N,i,hk,hf,hF,t4=>by
  have hlen:=FQ N;by_cases Kw:k<N.length
  ·have LF:N[k]?=some N[k]:=eT Kw;have h1:=FN c N i k N[k] LF t4;have OS:=i.wl k _ LF;have gr:=eW (nY:=nY) (ps:=ps) c.ab nY i (n:=N[k]) (by lia);have hc:(eBl (ao ltO (oVar 3) (aa (aA dS (osCons (oVar 2) osNil))))) [fq (JY nY am),fq (eN nY ps),some (.d,dG N),fI (k:Int),t4]=.ok (true,[fq (JY nY am),fq (eN nY ps),some (.d,dG N),fI (k:Int),t4]):=by
    have:(k:Int)<(N.length:Int):=by lia
    generalize dG N=G1 at hlen ⊢;generalize eN nY ps=NE;generalize JY nY am=CE;simp only[pv,seval,op,hlen,this,Xh]
   cases hg:aB nY ps am N[k] nY N with
   |mk o N'=>
    rw[hg]at h1 gr;cases o with
    |some d=>
     rw[gL LF hg];dsimp only at h1 ⊢;rw[eR,hc,Kp];dsimp only;rw[U2 rfl,h1,Kp]
    |none=>
     rw[hJ LF hg];dsimp only at h1 gr ⊢;have hl:=gr.le;have ih:=held_w c f F (k+1) N' gr.iv (by lia) (by lia) (by lia) (fq .non);cases hgs:(bu nY ps am f (k+1) N').1 with
     |some d=>
      rw[hgs]at ih;dsimp only at ih ⊢;rw[eR,hc,Kp];dsimp only;rw[U2 rfl,h1,Kp];exact ih
     |none=>
      rw[hgs]at ih;dsimp only at ih ⊢;obtain⟨w4,ih⟩:=ih;refine⟨w4,?_⟩;rw[eR,hc,Kp];dsimp only;rw[U2 rfl,h1,Kp];exact ih
  ·have LF:N[k]?=none:=Wt (by lia);have ek:k=N.length:=by lia
   rw[eX LF];dsimp only;refine⟨t4,?_⟩;have hc:(eBl (ao ltO (oVar 3) (aa (aA dS (osCons (oVar 2) osNil))))) [fq (JY nY am),fq (eN nY ps),some (.d,dG N),fI (k:Int),t4]=.ok (false,[fq (JY nY am),fq (eN nY ps),some (.d,dG N),fI (k:Int),t4]):=by
    have:¬ (k:Int)<(N.length:Int):=by lia
    generalize dG N=G1 at hlen ⊢;generalize eN nY ps=NE;generalize JY nY am=CE;simp only[pv,seval,op,hlen,this,Xi]
   rw[eR,hc,Kp];dsimp only;rw[U6 UY,ek]
noncomputable def N0(ps:List Pl):List Gt:=[(0,ps.map (·.1),[])]
theorem Tt(ps:List Pl):Iv (N0 ps):=by
 refine⟨?_,fun n hn=>?_,fun k n hk=>?_⟩
 ·show[(0:Int)].Nodup;exact Vt.mpr ⟨VR,V1⟩
 ·rw[iw hn];exact⟨Zu 0,(by decide:(0:Int)<12)⟩
 ·cases k with
  |zero=>
   cases hk;exact U3 _
  |succ k=>simp[N0]at hk
abbrev walk(nY:LNN)(ps:List Pl)(am:List J0):So:=bu nY ps am 13 0 (N0 ps)
def mk(N:List Gt)(s:Int):List Int:=((N.find? fun z=>z.1==s).map (·.2.1)).getD []
theorem FR(h:(N.find? fun z=>z.1==s)=some n):mk N s=n.2.1:=by
 unfold mk;rw[h];rfl
theorem xV(h:s∈N.map (·.1)):∃n,(N.find? fun z=>z.1==s)=some n:=by
 cases hf:N.find? fun z=>z.1==s with
 |none=>
  rw[WS]at hf;obtain⟨z,hz,e⟩:=rg h;exact absurd (Vz.mpr e) (hf z hz)
 |some n=>exact⟨n,rfl⟩
def FU(l:List (List Int)):D:=.tup [.str [115,97,109,101],.lst (l.map eM)]
theorem FV(N:List Gt)(k:Nat)(all:∀s:Nat,s<k->(s:Int)∈N.map (·.1)):b7 (aq 0) fO (ao ixD (aa (ao dgD (oVar 1) (oVar 0))) (aa (av (.int 0)))) ((List.range k).map fun(s:Nat)=>D.int (s:Int)) [none,fq (dG N)]=.ok (((List.range k).map fun(s:Nat)=>mk N (s:Int)).map eM):=by
 rw[bH (r:=fun s:Nat=>eM (mk N (s:Int))) (fun env=>∃t,env=[t,fq (dG N)]) (List.range k) ?_ _ ⟨none,rfl⟩]
 ·rw[Vy];rfl
 ·rintro s hs env ⟨t,rfl⟩;obtain⟨n,hn⟩:=xV (all s (Vv.mp hs));have hd:=Gu hn;unfold vG at hd;rw[FR hn];generalize dG N=G1 at hd ⊢;exact⟨[fI (s:Int),fq G1],rfl,.f,[fI (s:Int),fq G1],by simp only[pv,seval,op,hd,Qk],_,rfl⟩
theorem FW(c:Nc nY ps am)(Lz:0<=aE am/\aE am<=12)(all:(walk nY ps am).1=none->∀s:Nat,s<(aE am).toNat->(s:Int)∈(walk nY ps am).2.map (·.1)):
  pX [JY nY am,eN nY ps]=.ok (.f,((walk nY ps am).1).getD (FU ((List.range (aE am).toNat).map fun(s:Nat)=>mk (walk nY ps am).2 (s:Int)))):=by
 have KA:=c.pl;have Nu:=c.al;have Uu:=B9 nY ps (by lia);have fm:=j5 (ps.map (·.1));have Uv:=oG nY am (by lia);have hw:=held_w c 13 100000 0 (N0 ps) (Tt ps) (VJ _) (by lia) (by lia) none;have LA:neO (.tup (nY.map D.str)) (.tup (nY.map D.str))=.ok (.f,.bl false):=uM _ (by rw[plainD];exact cw _ _);have RF:ixD (JY nY am) (.int 0)=.ok (.f,.tup (nY.map D.str)):=rfl;have LM:ixD (eN nY ps) (.int 0)=.ok (.f,.tup (nY.map D.str)):=rfl;unfold pX yX;rw[ba (h:=by rfl)];rw[ag (env':=[fq (JY nY am),fq (eN nY ps),none,none,none]) (by
  generalize eN nY ps=NE at LM ⊢;generalize JY nY am=CE at RF ⊢;simp only[pv,seval,op,RF,LM,LA,cV])]
 rw[ag (env':=[fq (JY nY am),fq (eN nY ps),some (.d,dG (N0 ps)),none,none]) (by
  generalize eN nY ps=NE at Uu ⊢;generalize JY nY am=CE;simp only[pv,seval,op,Uu,fm];rfl)]
 rw[ag (env':=[fq (JY nY am),fq (eN nY ps),some (.d,dG (N0 ps)),fI ((0:Nat):Int),none]) (by
  generalize dG (N0 ps)=G0;simp only[pv,seval,op] <;> rfl)]
 unfold walk at all ⊢;cases Mx:(bu nY ps am 13 0 (N0 ps)).1 with
 |some d=>
  rw[Mx]at hw;dsimp only at hw;rw[KY];unfold kO;rw[hw,Kp];rfl
 |none=>
  rw[Mx]at hw;obtain⟨u4,hw⟩:=hw;have Se:=FV (bu nY ps am 13 0 (N0 ps)).2 (aE am).toNat (all Mx)
  rw[ag (env':=_) (by
   unfold kO;exact hw)]
  unfold mM;have Uw:(((List.range (aE am).toNat).map fun(s:Nat)=>mk (bu nY ps am 13 0 (N0 ps)).2 (s:Int)).map eM).length<=sizeLine:=mU (by
   rw[aO,aO,Vl];lia)
  generalize ((List.range (aE am).toNat).map fun(s:Nat)=>mk (bu nY ps am 13 0 (N0 ps)).2 (s:Int))=RR at Se Uw ⊢;generalize dG (bu nY ps am 13 0 (N0 ps)).2=G2 at Se ⊢;generalize eN nY ps=NE;generalize JY nY am=CE at Uv ⊢;have hr:=JE (aE am) Lz.1 (by lia) (aa (c7 bV (osCons (oVar 0) osNil))) [fq CE,fq NE,some (.d,G2),fI (((bu nY ps am 13 0 (N0 ps)).2.length:Int)),u4] [fq CE,fq NE,some (.d,G2),fI (((bu nY ps am 13 0 (N0 ps)).2.length:Int)),u4] (.val (.int (aE am))) (by simp only[pv,seval,op,Uv]) rfl;generalize bU (aa (c7 bV (osCons (oVar 0) osNil)))=IT at hr ⊢;generalize (ao ixD (aa (ao dgD (oVar 1) (oVar 0))) (aa (av (.int 0))))=GG at Se ⊢;simp only[pv,seval,op,hr,Se,Uw];rfl
theorem dC:s∈gK am x mv<->((x,mv,s):J0)∈am:=by
 unfold gK;rw[WA];constructor
 ·rintro⟨a,ha,e⟩;obtain⟨h1,h2⟩:=VP.mp ha;rw[U4,Vz,Vz]at h2;obtain⟨a1,a2,a3⟩:=a;obtain⟨e1,e2⟩:=h2;cases e1;cases e2;cases e;exact h1
 ·intro h;exact⟨(x,mv,s),VP.mpr ⟨h,by simp⟩,rfl⟩
theorem xW{m:List Int}(h:(a7 N s m w).1=none):s∈(a7 N s m w).2.map (·.1):=by
 unfold a7 g9 at h ⊢;cases hf:N.find? (rq s m) with
 |some n=>
  rw[hf]at h;cases h
 |none=>
  rw[hf]at h;dsimp only at h ⊢;cases hs:N.find? fun n=>n.1==s with
  |none=>
   dsimp only;rw[Vh];exact UW _ (Vi.mpr rfl)
  |some n=>
   rw[hs]at h;dsimp only at h ⊢;by_cases hm:n.2.1=m
   ·rw[U2 hm];have h1:=X8 hs;have h1:n.1=s:=by simpa using h1
    exact WA.mpr ⟨n,WW hs,h1⟩
   ·rw[U6 hm]at h;cases h
theorem Gr.up(g:Gr N N' o)(h:s∈N.map (·.1)):s∈N'.map (·.1):=by
 obtain⟨m,e⟩:=g.ex;rw[e,Vh];exact UX _ h
theorem ng(m:List Int)(w:LNN):∀(ss:List Int) (N:List Gt),Iv N->(∀s∈ss,0<=s/\s<12)->w.length<=N.length->(aS m w ss N).1=none->∀s∈ss,s∈(aS m w ss N).2.map (·.1)
 |[],N,_,_,_,_=>fun _ h=>nomatch h
 |s::ss,N,i,hs,hw,h=>by
  have gr:=lh i (hs s UR) m hw;have gh:=xW (N:=N) (s:=s) (m:=m) (w:=w);unfold aS at h ⊢;cases hg:a7 N s m w with
  |mk o N'=>
   rw[hg]at gr gh h;cases o with
   |some d=>cases h
   |none=>
    dsimp only at gr gh h ⊢;have g2:=lj m w ss gr.iv (fun x hx=>hs x (US _ hx)) (Vo hw gr.le);have ih:=ng m w ss N' gr.iv (fun x hx=>hs x (US _ hx)) (Vo hw gr.le) h;intro x hx;rcases U5.mp hx with e|hx
    ·rw[e];exact g2.up (gh rfl)
    ·exact ih x hx
theorem Cu(hb:∀a∈am,0<=a.2.2/\a.2.2<12):∀s∈gK am x mv,0<=s/\s<12:=fun s hs=>hb _ (dC.mp hs)
theorem ni{nY:LNN}{ps:List Pl}{am:List J0}(hb:∀a∈am,0<=a.2.2/\a.2.2<12){n:Gt}:∀(l:LNN) (N:List Gt),Iv N->n.2.2.length+1<=N.length->(aB nY ps am n l N).1=none->∀mv∈l,∀s∈gK am n.1 mv,s∈(aB nY ps am n l N).2.map (·.1)
 |[],N,_,_,_=>fun _ h=>nomatch h
 |mv::l,N,i,hw,h=>by
  have gr:=oP (nY:=nY) (ps:=ps) hb mv i hw;have mh:(bN nY ps am n mv N).1=none->∀s∈gK am n.1 mv,s∈(bN nY ps am n mv N).2.map (·.1):=fun h=>by
   unfold bN at h ⊢;have hg:=Cu hb (x:=n.1) (mv:=mv);cases hf:aQ (nY.idxOf mv) (n.2.1.zip ps) with
   |none=>
    rw[hf]at h;cases hgs:gK am n.1 mv with
    |nil=>exact fun _ h=>nomatch h
    |cons s ss=>rw[hgs]at h;cases h
   |some t=>
    rw[hf]at h;cases hgs:gK am n.1 mv with
    |nil=>rw[hgs]at h;cases h
    |cons s ss=>
     rw[hgs]at h hg;exact ng t (n.2.2++[mv]) (s::ss) N i hg (by rw[iy];exact hw) h
  unfold aB at h ⊢;cases hg:bN nY ps am n mv N with
  |mk o N'=>
   rw[hg]at gr mh h;cases o with
   |some d=>cases h
   |none=>
    dsimp only at gr mh h ⊢;have g2:=eW (nY:=nY) (ps:=ps) hb l gr.iv (n:=n) (Vo hw gr.le);have ih:=ni hb l N' gr.iv (Vo hw gr.le) h;intro x hx s hs;rcases U5.mp hx with e|hx
    ·rw[e]at hs;exact g2.up (mh rfl s hs)
    ·exact ih x hx s hs
def Cl(nY:LNN)(am:List J0)(N:List Gt)(k:Nat):Prop:=∀(j:Nat) (n:Gt),j<k->N[j]?=some n->∀mv∈nY,∀s∈gK am n.1 mv,s∈N.map (·.1)
theorem ql{nY:LNN}{ps:List Pl}{am:List J0}(hb:∀a∈am,0<=a.2.2/\a.2.2<12):∀(f k:Nat) (N:List Gt),Iv N->k<=N.length->13<=f+k->Cl nY am N k->(bu nY ps am f k N).1=none->Gr N (bu nY ps am f k N).2 none/\Cl nY am (bu nY ps am f k N).2 (bu nY ps am f k N).2.length
 | 0,k,N,i,hk,hf,_,_=>by
  have:=i.le;lia
 |f+1,k,N,i,hk,hf,cl,h=>by
  by_cases Kw:k<N.length
  ·have LF:N[k]?=some N[k]:=eT Kw;have OS:=i.wl k _ LF;have gr:=eW (nY:=nY) (ps:=ps) hb nY i (n:=N[k]) (by lia);have mh:=ni (nY:=nY) (ps:=ps) hb (n:=N[k]) nY N i (by lia);cases hg:aB nY ps am N[k] nY N with
   |mk o N'=>
    rw[hg]at gr mh;cases o with
    |some d=>rw[gL LF hg]at h;cases h
    |none=>
     rw[hJ LF hg]at h ⊢;dsimp only at gr mh;have hl:=gr.le;obtain⟨more,em⟩:=gr.ex;have cl':Cl nY am N' (k+1):=fun j n hj hn mv Mv s hs=>by
      have PN:N[j]?=some n:=by rw[em,V5 (by lia)]at hn;exact hn
      by_cases ej:j=k
      ·subst ej;rw[LF]at PN;cases PN;exact mh rfl mv Mv s hs
      ·exact gr.up (cl j n (by lia) PN mv Mv s hs)
     obtain⟨g2,c2⟩:=ql hb f (k+1) N' gr.iv (by lia) (by lia) cl' h;exact⟨gr.trans g2,c2⟩
  ·have LF:N[k]?=none:=Wt (by lia);have ek:k=N.length:=by lia
   rw[eX LF];exact⟨Gr.refl i,ek▸cl⟩
section
variable{P:Int->Prop}
theorem FY{m:List Int}(h:∀n∈N,P n.1)(hs:P s):∀n∈(a7 N s m w).2,P n.1:=by
 unfold a7 g9;cases N.find? (rq s m) with
 |some n=>exact h
 |none=>
  dsimp only;cases N.find? fun n=>n.1==s with
  |none=>
   intro n hn;rcases oE hn with hn|hn
   ·exact h n hn
   ·rw[iw hn];exact hs
  |some n=>
   dsimp only;by_cases hm:n.2.1=m
   ·rw[U2 hm];exact h
   ·rw[U6 hm];exact h
theorem vo(m:List Int)(w:LNN):∀(ss:List Int) (N:List Gt),(∀n∈N,P n.1)->(∀s∈ss,P s)->∀n∈(aS m w ss N).2,P n.1
 |[],N,h,_=>h
 |s::ss,N,h,hs=>by
  have g:=FY (m:=m) (w:=w) h (hs s UR);unfold aS;cases hg:a7 N s m w with
  |mk o N'=>
   rw[hg]at g;cases o with
   |some d=>exact g
   |none=>exact vo m w ss N' g fun x hx=>hs x (US _ hx)
theorem vp{nY:LNN}{ps:List Pl}{am:List J0}(ha:∀a∈am,P a.2.2){n:Gt}:∀(l:LNN) (N:List Gt),(∀n∈N,P n.1)->∀n'∈(aB nY ps am n l N).2,P n'.1
 |[],N,h=>h
 |mv::l,N,h=>by
  have g:∀n'∈(bN nY ps am n mv N).2,P n'.1:=by
   unfold bN;split
   ·exact h
   ·exact h
   ·exact h
   ·rename_i t s ss _ e;exact vo t _ (s::ss) N h fun x hx=>ha _ (dC.mp (by rw[e];exact hx))
  unfold aB;cases hg:bN nY ps am n mv N with
  |mk o N'=>
   rw[hg]at g;cases o with
   |some d=>exact g
   |none=>exact vp ha l N' g
theorem zi{nY:LNN}{ps:List Pl}{am:List J0}(ha:∀a∈am,P a.2.2):∀(f k:Nat) (N:List Gt),(∀n∈N,P n.1)->∀n∈(bu nY ps am f k N).2,P n.1
 | 0,k,N,h=>h
 |f+1,k,N,h=>by
  cases hk:N[k]? with
  |none=>rw[eX hk];exact h
  |some n=>
   have g:=vp (nY:=nY) (ps:=ps) ha (n:=n) nY N h;cases hg:aB nY ps am n nY N with
   |mk o N'=>
    rw[hg]at g;cases o with
    |some d=>rw[gL hk hg];exact g
    |none=>rw[hJ hk hg];exact zi ha f (k+1) N' g
end
theorem walk_all(r:Ra nY am mZ)(h:(walk nY ps am).1=none):
  (walk nY ps am).2.length<=12/\((walk nY ps am).2.length:Int)=aE am/\∀s:Nat,s<(walk nY ps am).2.length->(s:Int)∈(walk nY ps am).2.map (·.1):=by
 have hm:=r.mm;have hb:∀a∈am,0<=a.2.2/\a.2.2<12:=fun a ha=>by
  have:=r.bd a ha;lia
 have Lz:=m6 hm.1 r.bd;obtain⟨g,cl⟩:=ql (nY:=nY) (ps:=ps) hb 13 0 (N0 ps) (Tt ps) (VJ _) (by lia) (fun j n hj=>by lia) h;have kp:=zi (P:=fun s=>0<=s/\s<aE am) (nY:=nY) (ps:=ps) (am:=am) (fun a ha=>⟨(hb a ha).1,(mY ha).2⟩) 13 0 (N0 ps) (fun n hn=>by
  rw[iw hn];exact⟨Zu 0,by show(0:Int)<_;lia⟩)
 unfold walk at h ⊢;generalize bu nY ps am 13 0 (N0 ps)=W at h g cl kp ⊢;have z0:(0:Int)∈W.2.map (·.1):=g.up (Vi.mpr rfl);obtain⟨f,rc⟩:=r.rc;have kk:∀q j:Nat,f j=q->j<mZ->(j:Int)∈W.2.map (·.1):=by
  intro q;induction q using Nat.strongRecOn with
  |_ q ih=>
   intro j hq hj;cases j with
   |zero=>exact z0
   |succ j=>
    obtain⟨a,ha,e1,b,hbj,e2⟩:=rc (j+1) (by lia) hj;have hbd:=(r.bd a ha).1;obtain⟨n,hn,en⟩:=rg (ih (f b) (by lia) b rfl (by lia));obtain⟨x,hx,ex⟩:=W3 hn;have:=cl x n hx (by rw[eT hx,ex]) a.2.1 (r.nm a ha) a.2.2 (dC.mpr (by rw[en,<-e2];exact ha));rw[e1]at this;exact this
 have key:∀j:Nat,j<mZ->(j:Int)∈W.2.map (·.1):=fun j hj=>kk (f j) j rfl hj
 have len:(W.2.length:Int)=aE am:=by
  have l1:W.2.length<=(aE am).toNat:=by
   have:=iT (aE am).toNat g.iv.nd (fun x hx=>by
    obtain⟨n,hn,e⟩:=rg hx;rw[<-e];have:=kp n hn;lia)
   rwa [aO]at this
  have l2:(aE am).toNat<=W.2.length:=by
   have:=vf ((List.range (aE am).toNat).map fun(s:Nat)=>(s:Int)) (W.2.map (·.1)) (cH _ _ fun i j _ _ e=>by lia) (fun x hx=>by
    obtain⟨s,hs,e⟩:=rg hx;rw[<-e];exact key s (by have:=Vv.mp hs;lia))
   rwa [aO,Vl,aO]at this
  lia
 exact⟨g.iv.le,len,fun s hs=>key s (by lia)⟩
def Ow(S:List (List Int))(N:List Gt):Prop:=∀n∈N,∃j:Nat,n.1=(j:Int)/\S[j]?=some n.2.1
theorem xX{S:List (List Int)}(nd:S.Nodup)(o:Ow S N){t:List Int}(hj:S[j]?=some t)(w:LNN):(a7 N (j:Int) t w).1=none/\Ow S (a7 N (j:Int) t w).2:=by
 have hf:N.find? (rq (j:Int) t)=none:=by
  rw[WS];intro n hn h;unfold rq at h;rw[U4,Vc]at h;obtain⟨i,e1,e2⟩:=o n hn;rw[h.2]at e2;obtain⟨h1,h2⟩:=kY e2;obtain⟨h3,h4⟩:=kY hj;have:i=j:=by
   have pw:=WV.mp nd;rcases Yx i j with hl|hl|hl
   ·exact absurd (h2.trans h4.symm) (pw i j h1 h3 hl)
   ·exact hl
   ·exact absurd (h4.trans h2.symm) (pw j i h3 h1 hl)
  rw[e1,this]at h;simp at h
 unfold a7 g9;rw[hf];dsimp only;cases hs:N.find? fun n=>n.1==(j:Int) with
 |none=>
  refine⟨rfl,fun n hn=>?_⟩;rcases oE hn with hn|hn
  ·exact o n hn
  ·rw[iw hn];exact⟨j,rfl,hj⟩
 |some n=>
  dsimp only;have h1:=X8 hs;have h1:n.1=(j:Int):=by simpa using h1
  obtain⟨i,e1,e2⟩:=o n (WW hs);have:i=j:=by lia
  rw[this,hj]at e2;have e3:n.2.1=t:=(Vq e2).symm;rw[U2 e3];exact⟨rfl,o⟩
theorem nj{S:List (List Int)}(nd:S.Nodup){t:List Int}(w:LNN):∀(ss:List Int) (N:List Gt),Ow S N->(∀s∈ss,∃j:Nat,s=(j:Int)/\S[j]?=some t)->(aS t w ss N).1=none/\Ow S (aS t w ss N).2
 |[],N,o,_=>⟨rfl,o⟩
 |s::ss,N,o,h=>by
  obtain⟨j,e,hj⟩:=h s UR;subst e;obtain⟨g1,g2⟩:=xX nd o hj w;unfold aS;cases hg:a7 N (j:Int) t w with
  |mk q N'=>
   rw[hg]at g1 g2;dsimp only at g1;subst g1;exact nj nd w ss N' g2 fun x hx=>h x (US _ hx)
structure Or(nY:LNN)(ps:List Pl)(S:List (List Int))(am:List J0):Prop where
 nd:S.Nodup
 z:S[0]?=some (ps.map (·.1))
 ab:∀(x s:Int) (mv:List Nat),((x,mv,s):J0)∈am->∃i j:Nat,x=(i:Int)/\s=(j:Int)/\∃a b,S[i]?=some a/\S[j]?=some b/\aQ (nY.idxOf mv) (a.zip ps)=some b
 fu:∀(i:Nat) (mv:List Nat) (a t:List Int),mv∈nY->S[i]?=some a->aQ (nY.idxOf mv) (a.zip ps)=some t->∃m:Nat,(((i:Int),mv,(m:Int)):J0)∈am
theorem xY{S:List (List Int)}(r:Or nY ps S am)(hn:∃j:Nat,n.1=(j:Int)/\S[j]?=some n.2.1)(mv:List Nat)(hm:mv∈nY)(o:Ow S N):(bN nY ps am n mv N).1=none/\Ow S (bN nY ps am n mv N).2:=by
 obtain⟨i,e1,e2⟩:=hn;have ar:∀s∈gK am n.1 mv,∃(j:Nat) (t:List Int),s=(j:Int)/\S[j]?=some t/\aQ (nY.idxOf mv) (n.2.1.zip ps)=some t:=fun s hs=>by
  obtain⟨i',j,h1,h2,a,b,h3,h4,h5⟩:=r.ab _ _ _ (dC.mp hs);have:i'=i:=by lia
  rw[this,e2]at h3;rw[<-Vq h3]at h5;exact⟨j,b,h2,h4,h5⟩
 unfold bN;cases hf:aQ (nY.idxOf mv) (n.2.1.zip ps) with
 |none=>
  cases hg:gK am n.1 mv with
  |nil=>exact⟨rfl,o⟩
  |cons s ss=>
   exfalso;rw[hg,hf]at ar;obtain⟨j,t,_,_,h⟩:=ar s UR;cases h
 |some t=>
  cases hg:gK am n.1 mv with
  |nil=>
   exfalso;obtain⟨m,hm⟩:=r.fu i mv n.2.1 t hm e2 hf;have:=dC.mpr hm;rw[<-e1,hg]at this;cases this
  |cons s ss=>
   rw[hg,hf]at ar;refine nj r.nd _ (s::ss) N o fun x hx=>?_
   obtain⟨j,t',h1,h2,h3⟩:=ar x hx;rw[<-Vq h3]at h2;exact⟨j,h1,h2⟩
theorem nr{nY:LNN}{ps:List Pl}{S:List (List Int)}{am:List J0}(r:Or nY ps S am){n:Gt}(hn:∃j:Nat,n.1=(j:Int)/\S[j]?=some n.2.1):∀(l:LNN),(∀mv∈l,mv∈nY)->∀N,Ow S N->(aB nY ps am n l N).1=none/\Ow S (aB nY ps am n l N).2
 |[],_,N,o=>⟨rfl,o⟩
 |mv::l,hl,N,o=>by
  obtain⟨g1,g2⟩:=xY r hn mv (hl mv UR) o;unfold aB;cases hg:bN nY ps am n mv N with
  |mk q N'=>
   rw[hg]at g1 g2;dsimp only at g1;subst g1;exact nr r hn l (fun x hx=>hl x (US _ hx)) N' g2
theorem qm{nY:LNN}{ps:List Pl}{S:List (List Int)}{am:List J0}(r:Or nY ps S am):∀(f k:Nat) (N:List Gt),Ow S N->(bu nY ps am f k N).1=none
 | 0,k,N,o=>rfl
 |f+1,k,N,o=>by
  cases hk:N[k]? with
  |none=>rw[eX hk]
  |some n=>
   obtain⟨g1,g2⟩:=nr r (o n (Vu hk)) nY (fun _ h=>h) N o;cases hg:aB nY ps am n nY N with
   |mk q N'=>
    rw[hg]at g1 g2;dsimp only at g1;subst g1;rw[hJ hk hg];exact qm r f (k+1) N' g2
theorem qo{S:List (List Int)}(r:Or nY ps S am):(walk nY ps am).1=none:=
 qm r 13 0 (N0 ps) fun n hn=>by
  rw[iw hn];exact⟨0,rfl,r.z⟩
theorem qp(hn:nY.length<=3)(e:bF nY ps=some r):Or nY ps r.1 (a8 bB r.2):=by
 have h:=jC (ps:=ps) hn;rw[e]at h;obtain⟨⟨m,rm⟩,fu,_⟩:=h;refine⟨rm.nd,rm.z,fun x s mv h=>?_,fun i mv a t hm hs hf=>?_⟩
 ·obtain⟨_,i,j,_,h1,h2,a,b,h3,h4,h5⟩:=rm.ab _ ((br bB).mp h);exact⟨i,j,h1,h2,a,b,h3,h4,h5⟩
 ·obtain⟨k,hk,e⟩:=W3 hm;obtain⟨m,h1,h2⟩:=fu i k (.inl (kY hs).1) mv (by rw[eT hk,e]) a t hs hf;exact⟨m,(br bB).mpr h2⟩
def lvl(all:List Pl)(m:List Int)(q:Pl):Int:=m.getD (all.idxOf q) 0
def sel(all P:List Pl)(m:List Int):List Int:=P.map (lvl all m)
variable{P:List Pl}{m':List Int}
section
variable{all P':List Pl}{S:List (List Int)}
theorem qq{m:List Int}(hm:m.length=all.length)(h:aQ j (m.zip all)=some m')(hq:q∈all):K3 j q<=lvl all m q/\lvl all m' q=lvl all m q-K3 j q+LU j q:=by
 have hi:all.idxOf q<all.length:=VY hq;have Ux:all.idxOf q<m.length:=by lia
 have e:(m.zip all)[all.idxOf q]?=some (m[all.idxOf q],q):=by
  rw[WU];exact⟨eT Ux,by rw[eT hi,Yd]⟩
 obtain⟨h1,h2⟩:=k8 j h e;have e1:lvl all m q=m[all.idxOf q]:=by unfold lvl;rw[UU,eT Ux];rfl
 have e2:lvl all m' q=m[all.idxOf q]-K3 j q+LU j q:=by unfold lvl;rw[UU,h2];rfl
 unfold K3 at e2 ⊢;dsimp only at h1;rw[e1,e2];exact⟨by lia,rfl⟩
theorem lq(j:Nat)(m:List Int):aQ j ((sel all P m).zip P)=if P.all (fun q=>decide (K3 j q<=lvl all m q)) then some (P.map fun q=>lvl all m q-K3 j q+LU j q) else none:=by
 have e:(sel all P m).zip P=P.map fun q=>(lvl all m q,q):=by
  unfold sel;induction P with
  |nil=>rfl
  |cons q P ih=>rw[cW,Xb,ih,cW]
 rw[e,eV];unfold vR;rw[V4,Vy];rfl
theorem zj(hP:∀q∈P,q∈all){m:List Int}(hm:m.length=all.length)(h:aQ j (m.zip all)=some m'):aQ j ((sel all P m).zip P)=some (sel all P m'):=by
 rw[lq,U2 (by
  rw[Vg];exact fun q hq=>VA (qq hm h (hP q hq)).1)]
 congr 1
 unfold sel;exact VO fun q hq=>(qq hm h (hP q hq)).2.symm
theorem FZ(hP:∀q∈P,q∈all):sel all P (all.map (·.1))=P.map (·.1):=by
 unfold sel;refine VO fun q hq=>?_
 have hi:all.idxOf q<all.length:=VY (hP q hq);unfold lvl;rw[UU,Vd,eT hi,Yd];rfl
structure Gd(nY:LNN)(all:List Pl)(S:List (List Int))(P:List Pl):Prop where
 st:∀m∈S,∀mv∈nY,aQ (nY.idxOf mv) (m.zip all)=none->∃q∈P,lvl all m q<K3 (nY.idxOf mv) q
 ap:∀m∈S,∀m'∈S,m≠m'->∃q∈P,lvl all m q≠lvl all m' q
theorem Gd.mono(g:Gd nY all S P)(h:∀q∈P,q∈P'):Gd nY all S P':=⟨fun m hm mv hv hf=>by
 obtain⟨q,hq,e⟩:=g.st m hm mv hv hf;exact⟨q,h q hq,e⟩,fun m hm m' MN LA=>by
 obtain⟨q,hq,e⟩:=g.ap m hm m' MN LA;exact⟨q,h q hq,e⟩⟩
theorem F0{m:List Int}(e:sel all P m=sel all P m')(hq:q∈P):lvl all m q=lvl all m' q:=by
 unfold sel at e;exact List.map_inj_left.mp e q hq
theorem Gd.sim(g:Gd nY all S P)(hP:∀q∈P,q∈all)(ln:∀m∈S,m.length=all.length):Sim nY all P (sel all P) S:=by
 refine⟨FZ hP,fun m hm mv hv=>?_,fun m hm m' MN e=>?_⟩
 ·cases hf:aQ (nY.idxOf mv) (m.zip all) with
  |some m'=>exact zj hP (ln m hm) hf
  |none=>
   obtain⟨q,hq,Kw⟩:=g.st m hm mv hv hf;rw[lq,U6 (fun h=>by
    rw[Vg]at h;have:=VL (h q hq);lia)]
   rfl
 ·by_cases h:m=m'
  ·exact h
  ·obtain⟨q,hq,LA⟩:=g.ap m hm m' MN h;exact absurd (F0 e hq) LA
theorem Or.gd{m0:Nat}(r:Rm nY all S A m0)(ha:∀a,a∈am<->a∈A)(hP:∀q∈P,q∈all)(o:Or nY P S' am):Gd nY all S P:=by
 have key:∀(i:Nat) (s:List Int),S[i]?=some s->S'[i]?=some (sel all P s):=by
  intro i;induction i using Nat.strongRecOn with
  |_ i ih=>
   intro s hs;have MO:=(kY hs).1;by_cases h0:i=0
   ·subst h0;rw[r.z,Option.some.injEq]at hs;rw[<-hs,FZ hP];exact o.z
   ·obtain⟨a,Uy,e1,b,hb,e2⟩:=r.rc i (by lia) MO;obtain⟨hn,i',j',_,e3,e4,x,y,hx,hy,hf⟩:=r.ab a Uy;have:i'=b:=by lia
    subst this;have:j'=i:=by lia
    subst this;rw[hs]at hy;cases hy;obtain⟨i2,j2,q1,q2,u,v,hu,hv,Nd⟩:=o.ab a.1 a.2.2 a.2.1 ((ha _).mpr Uy);have:i2=i':=by lia
    subst this;have:j2=j':=by lia
    subst this;rw[ih i2 hb x hx]at hu;cases hu;rw[zj hP (r.ln x (Vu hx)) hf]at Nd;cases Nd;exact hv
 refine⟨fun m hm mv hv hf=>?_,fun m hm m' MN LA=>?_⟩
 ·obtain⟨i,hi⟩:=VM.mp hm;cases hc:P.all (fun q=>decide (K3 (nY.idxOf mv) q<=lvl all m q)) with
  |true=>
   exfalso;obtain⟨k,hk⟩:=o.fu i mv _ _ hv (key i m hi) (by rw[lq,hc,U2 rfl]);obtain⟨_,i',j',_,e3,_,x,y,hx,_,Nd⟩:=r.ab _ ((ha _).mp hk);have:i'=i:=by
    have:(i:Int)=(i':Int):=e3;lia
   subst this;rw[hi]at hx;cases hx;rw[hf]at Nd;cases Nd
  |false=>
   rw[List.all_eq_false]at hc;obtain⟨q,hq,h⟩:=hc;rw[Vc]at h;exact⟨q,hq,by lia⟩
 ·obtain⟨i,hi⟩:=VM.mp hm;obtain⟨j,hj⟩:=VM.mp MN;cases hc:P.all (fun q=>decide (lvl all m q=lvl all m' q)) with
  |true=>
   exfalso;rw[Vg]at hc;have e:sel all P m=sel all P m':=VO fun q hq=>VL (hc q hq)
   have k1:=key i m hi;have k2:=key j m' hj;rw[e]at k1;obtain⟨h1,h2⟩:=kY k1;obtain⟨h3,h4⟩:=kY k2;have:i=j:=by
    have pw:=WV.mp o.nd;rcases Yx i j with hl|hl|hl
    ·exact absurd (h2.trans h4.symm) (pw i j h1 h3 hl)
    ·exact hl
    ·exact absurd (h4.trans h2.symm) (pw j i h3 h1 hl)
   subst this;rw[hi]at hj;exact LA (Vq hj)
  |false=>
   rw[List.all_eq_false]at hc;obtain⟨q,hq,h⟩:=hc;rw[Vc]at h;exact⟨q,hq,h⟩
end
section
variable{ok:List Pl->Bool}
noncomputable def bW(ok:List Pl->Bool):Nat->List Pl->List Pl
 | 0,P=>P
 |k+1,P=>if ok (P.eraseIdx k) then bW ok k (P.eraseIdx k) else bW ok k P
theorem iU:∀(k:Nat) (P:List Pl),(bW ok k P).Sublist P
 | 0,P=>List.Sublist.refl _
 |k+1,P=>by
  unfold bW;split
  ·exact(iU k _).trans (List.eraseIdx_sublist _ _)
  ·exact iU k P
theorem oQ:∀(k:Nat) {P:List Pl},ok P=true->ok (bW ok k P)=true
 | 0,P,h=>h
 |k+1,P,h=>by
  unfold bW;split
  ·rename_i h';exact oQ k h'
  ·exact oQ k h
theorem lr{all:List Pl}(mono:∀P P',ok P=true->(∀q∈P,q∈P')->(∀q∈P',q∈all)->ok P'=true):∀(k:Nat) (P:List Pl),k<=P.length->(∀q∈P,q∈all)->(∀j,k<=j->j<P.length->ok (P.eraseIdx j)=false)->∀j,j<(bW ok k P).length->ok ((bW ok k P).eraseIdx j)=false
 | 0,P,_,_,h=>fun j hj=>h j (VJ _) hj
 |k+1,P,hk,hP,h=>by
  unfold bW;split
  ·rename_i hok;have hl:(P.eraseIdx k).length=P.length-1:=List.length_eraseIdx_of_lt (by lia);refine lr mono k (P.eraseIdx k) (by lia) (fun q hq=>hP q (VG hq)) fun j h1 h2=>?_
   cases hc:ok ((P.eraseIdx k).eraseIdx j) with
   |false=>rfl
   |true=>
    rw[<-h (j+1) (by lia) (by lia)];refine(mono _ _ hc (fun q hq=>?_) fun q hq=>hP q (VG hq)).symm;rw[List.mem_eraseIdx_iff_getElem?]at hq ⊢;obtain⟨i,hi,e⟩:=hq;rw[List.getElem?_eraseIdx]at e;split at e
    ·exact⟨i,by lia,e⟩
    ·exact⟨i+1,by lia,e⟩
  ·rename_i P7;refine lr mono k P (by lia) hP fun j h1 h2=>?_
   by_cases e:j=k
   ·subst e;simpa using P7
   ·exact h j (by lia) h2
theorem j8{F:List Pl}(h:∀j,j<F.length->ok (F.eraseIdx j)=false):∀k,k<=F.length->bW ok k F=F
 | 0,_=>rfl
 |k+1,hk=>by
  unfold bW;rw[h k (by lia),U6 UY];exact j8 h k (by lia)
end
def Dj(N:List Gt):Prop:=∀n∈N,∀n'∈N,n.2.1=n'.2.1->n.1=n'.1
def Has(N:List Gt)(s:Int)(m:List Int):Prop:=∃n∈N,n.1=s/\n.2.1=m
theorem Cv{m:List Int}(h:(a7 N s m w).1=none)(dj:Dj N):Dj (a7 N s m w).2/\Has (a7 N s m w).2 s m/\∀n∈N,n∈(a7 N s m w).2:=by
 unfold a7 g9 at h ⊢;cases hf:N.find? (rq s m) with
 |some n=>
  rw[hf]at h;cases h
 |none=>
  rw[hf]at h;rw[WS]at hf;have no:∀n∈N,n.2.1=m->n.1=s:=fun n hn e=>by
   have:=hf n hn;unfold rq at this;rw[e,VA rfl,Xm]at this;simpa using this
  dsimp only at h ⊢;cases hs:N.find? fun n=>n.1==s with
  |none=>
   dsimp only;refine⟨fun n hn n' MA e=>?_,⟨(s,m,w),UW _ (Vi.mpr rfl),rfl,rfl⟩,fun n hn=>UX _ hn⟩;rcases oE hn with h1|h1 <;> rcases oE MA with h2|h2
   ·exact dj n h1 n' h2 e
   ·rw[iw h2]at e ⊢;exact no n h1 e
   ·rw[iw h1]at e ⊢;exact(no n' h2 e.symm).symm
   ·rw[iw h1,iw h2]
  |some n=>
   rw[hs]at h;dsimp only at h ⊢;have h1:=X8 hs;have h1:n.1=s:=by simpa using h1
   by_cases hm:n.2.1=m
   ·rw[U2 hm];exact⟨dj,⟨n,WW hs,h1,hm⟩,fun _ h=>h⟩
   ·rw[U6 hm]at h;cases h
theorem Has.up{m:List Int}(h:Has N s m)(u:∀n∈N,n∈N'):Has N' s m:=by
 obtain⟨n,hn,e⟩:=h;exact⟨n,u n hn,e⟩
theorem qr(m:List Int)(w:LNN):∀(ss:List Int) (N:List Gt),(aS m w ss N).1=none->Dj N->Dj (aS m w ss N).2/\(∀s∈ss,Has (aS m w ss N).2 s m)/\∀n∈N,n∈(aS m w ss N).2
 |[],N,_,dj=>⟨dj,(fun _ h=>nomatch h),fun _ h=>h⟩
 |s::ss,N,h,dj=>by
  have g:=Cv (N:=N) (s:=s) (m:=m) (w:=w);unfold aS at h ⊢;cases hg:a7 N s m w with
  |mk o N'=>
   rw[hg]at g h;cases o with
   |some d=>cases h
   |none=>
    dsimp only at g h ⊢;obtain⟨g1,g2,g3⟩:=g rfl dj;obtain⟨i1,i2,i3⟩:=qr m w ss N' h g1;refine⟨i1,fun x hx=>?_,fun n hn=>i3 n (g3 n hn)⟩;rcases U5.mp hx with rfl|hx
    ·exact g2.up i3
    ·exact i2 x hx
section
structure Mk(nY:LNN)(ps:List Pl)(am:List J0)(N:List Gt)(n:Gt)(mv:List Nat):Prop where
 a:∀s∈gK am n.1 mv,∃t,aQ (nY.idxOf mv) (n.2.1.zip ps)=some t/\Has N s t
 b:∀t,aQ (nY.idxOf mv) (n.2.1.zip ps)=some t->∃s,s∈gK am n.1 mv
theorem Mk.up{N N':List Gt}{n:Gt}{mv:List Nat}(k:Mk nY ps am N n mv)(u:∀n∈N,n∈N'):Mk nY ps am N' n mv:=⟨fun s hs=>by
 obtain⟨t,h1,h2⟩:=k.a s hs;exact⟨t,h1,h2.up u⟩,k.b⟩
theorem Cw(h:(bN nY ps am n mv N).1=none)(dj:Dj N):Dj (bN nY ps am n mv N).2/\Mk nY ps am (bN nY ps am n mv N).2 n mv/\∀x∈N,x∈(bN nY ps am n mv N).2:=by
 unfold bN at h ⊢;cases hf:aQ (nY.idxOf mv) (n.2.1.zip ps) with
 |none=>
  rw[hf]at h;cases hgs:gK am n.1 mv with
  |nil=>exact⟨dj,⟨(fun s hs=>by rw[hgs]at hs;cases hs),(fun t ht=>by rw[hf]at ht;cases ht)⟩,fun _ h=>h⟩
  |cons s ss=>rw[hgs]at h;cases h
 |some t=>
  rw[hf]at h;cases hgs:gK am n.1 mv with
  |nil=>rw[hgs]at h;cases h
  |cons s ss=>
   rw[hgs]at h;obtain⟨g1,g2,g3⟩:=qr t (n.2.2++[mv]) (s::ss) N h dj;exact⟨g1,⟨fun x hx=>⟨t,hf,g2 x (by rw[hgs]at hx;exact hx)⟩,fun _ _=>⟨s,by rw[hgs];exact UR⟩⟩,g3⟩
theorem qu{n:Gt}:∀(l:LNN) (N:List Gt),(aB nY ps am n l N).1=none->Dj N->Dj (aB nY ps am n l N).2/\(∀mv∈l,Mk nY ps am (aB nY ps am n l N).2 n mv)/\∀x∈N,x∈(aB nY ps am n l N).2
 |[],N,_,dj=>⟨dj,(fun _ h=>nomatch h),fun _ h=>h⟩
 |mv::l,N,h,dj=>by
  have g:=Cw (nY:=nY) (ps:=ps) (am:=am) (n:=n) (mv:=mv) (N:=N);unfold aB at h ⊢;cases hg:bN nY ps am n mv N with
  |mk o N'=>
   rw[hg]at g h;cases o with
   |some d=>cases h
   |none=>
    dsimp only at g h ⊢;obtain⟨g1,g2,g3⟩:=g rfl dj;obtain⟨i1,i2,i3⟩:=qu l N' h g1;refine⟨i1,fun x hx=>?_,fun n hn=>i3 n (g3 n hn)⟩;rcases U5.mp hx with rfl|hx
    ·exact g2.up i3
    ·exact i2 x hx
def Ck(nY:LNN)(ps:List Pl)(am:List J0)(N:List Gt)(k:Nat):Prop:=∀(j:Nat) (n:Gt),j<k->N[j]?=some n->∀mv∈nY,Mk nY ps am N n mv
theorem vq(hb:∀a∈am,0<=a.2.2/\a.2.2<12):∀(f k:Nat) (N:List Gt),Iv N->k<=N.length->13<=f+k->Dj N->Ck nY ps am N k->(bu nY ps am f k N).1=none->Iv (bu nY ps am f k N).2/\Dj (bu nY ps am f k N).2/\Ck nY ps am (bu nY ps am f k N).2 (bu nY ps am f k N).2.length/\∀x∈N,x∈(bu nY ps am f k N).2
 | 0,k,N,i,hk,hf,_,_,_=>by
  have:=i.le;lia
 |f+1,k,N,i,hk,hf,dj,ck,h=>by
  by_cases Kw:k<N.length
  ·have LF:N[k]?=some N[k]:=eT Kw;have OS:=i.wl k _ LF;have gr:=eW (nY:=nY) (ps:=ps) hb nY i (n:=N[k]) (by lia);have md:=qu (nY:=nY) (ps:=ps) (am:=am) (n:=N[k]) nY N;cases hg:aB nY ps am N[k] nY N with
   |mk o N'=>
    rw[hg]at gr md;cases o with
    |some d=>rw[gL LF hg]at h;cases h
    |none=>
     rw[hJ LF hg]at h ⊢;dsimp only at gr md;obtain⟨g1,g2,g3⟩:=md rfl dj;have hl:=gr.le;obtain⟨more,em⟩:=gr.ex;obtain⟨i0,i1,i2,i3⟩:=vq hb f (k+1) N' gr.iv (by lia) (by lia) g1 (fun j n hj hn mv Mv=>by
      have PN:N[j]?=some n:=by rw[em,V5 (by lia)]at hn;exact hn
      by_cases ej:j=k
      ·subst ej;rw[LF]at PN;cases PN;exact g2 mv Mv
      ·exact(ck j n (by lia) PN mv Mv).up g3) h
     exact⟨i0,i1,i2,fun x hx=>i3 x (g3 x hx)⟩
  ·have LF:N[k]?=none:=Wt (by lia);have ek:k=N.length:=by lia
   rw[eX LF];exact⟨i,dj,ek▸ck,fun _ h=>h⟩
theorem vv(r:Ra nY am mZ)(h:(walk nY ps am).1=none):∃S,Or nY ps S am:=by
 have hm:=r.mm;have hb:∀a∈am,0<=a.2.2/\a.2.2<12:=fun a ha=>by
  have:=r.bd a ha;lia
 obtain⟨_,w2,w3⟩:=walk_all r h;obtain⟨iv,dj,ck,up⟩:=vq (nY:=nY) (ps:=ps) hb 13 0 (N0 ps) (Tt ps) (VJ _) (by lia) (fun n hn n' MA _=>by rw[iw hn,iw MA]) (fun j n hj=>by lia) h;unfold walk at h w2 w3;generalize bu nY ps am 13 0 (N0 ps)=W at h w2 w3 iv dj ck up;have ent:∀{s:Int}{m:List Int},Has W.2 s m->mk W.2 s=m:=fun{s m} h=>by
  obtain⟨n,hn,e1,e2⟩:=h;rw[<-e1,FR (qi iv.nd hn),e2]
 have get:∀s:Nat,s<W.2.length->∃n∈W.2,n.1=(s:Int)/\mk W.2 (s:Int)=n.2.1:=fun s hs=>by
  obtain⟨n,hn,e⟩:=rg (w3 s hs);exact⟨n,hn,e,ent ⟨n,hn,e,rfl⟩⟩
 have at_:∀s:Nat,s<W.2.length->((List.range W.2.length).map fun(s:Nat)=>mk W.2 (s:Int))[s]?=some (mk W.2 (s:Int)):=fun s hs=>by
  rw[Vd,List.getElem?_range hs];rfl
 have z:((0:Int),ps.map (·.1),([]:LNN))∈W.2:=up _ (Vi.mpr rfl);refine⟨(List.range W.2.length).map fun(s:Nat)=>mk W.2 (s:Int),cH _ _ fun i j hi hj e=>?_,?_,fun x s mv ha=>?_,fun i mv a t Mv hi hf=>?_⟩
 ·obtain⟨n,hn,e1,e2⟩:=get i hi;obtain⟨n',MA,RU,QB⟩:=get j hj;have:=dj n hn n' MA (by rw[<-e2,<-QB];exact e);lia
 ·rw[at_ 0 (W6 z)];congr 1
  exact ent ⟨_,z,rfl,rfl⟩
 ·have bd:=r.bd _ ha;have lt:=mY ha;dsimp only at bd lt;obtain⟨i,rfl⟩:=Vk bd.1.1;obtain⟨j,rfl⟩:=Vk bd.2.1;obtain⟨n,hn,e1,e2⟩:=get i (by lia);obtain⟨k,hk,ek⟩:=W3 hn;obtain⟨t,ht,hs⟩:=(ck k n hk (by rw[eT hk,ek]) mv (r.nm _ ha)).a j (dC.mpr (by rw[e1];exact ha));exact⟨i,j,rfl,rfl,_,_,at_ i (by lia),at_ j (by lia),by rw[e2,ent hs];exact ht⟩
 ·have MO:=(kY hi).1;rw[aO,Vl]at MO;rw[at_ i MO]at hi;obtain⟨n,hn,e1,e2⟩:=get i MO;obtain⟨k,hk,ek⟩:=W3 hn;rw[<-Vq hi,e2]at hf;obtain⟨s,hs⟩:=(ck k n hk (by rw[eT hk,ek]) mv Mv).b t hf;have hs:=dC.mp hs;have bd:=r.bd _ hs;dsimp only at bd;obtain⟨j,rfl⟩:=Vk bd.2.1;exact⟨j,by rw[<-e1];exact hs⟩
end
section
variable{q' q2:Pl}{PQ:List Int->Int}
theorem Im.run(im:Im nY ps q Lw)(k:Nat)(e:bF nY ps=some r)(ln:∀m∈r.1,m.length=ps.length):bF nY (Ln k q ps)=some (hR (fun m=>Ln k (Lw m) m) r):=
 j6 e ⟨by rw[oK,im.z],fun m hm mv hv=>xR im k _ (VY hv) m (ln m hm),fun m hm m' MN e=>Cg k ((ln m hm).trans (ln m' MN).symm) e⟩
theorem Im.at{i:Nat}(hi:ps[i]?=some q):Im nY ps q fun m=>m.getD i 0:=by
 have hl:=(kY hi).1;refine⟨by rw[UU,Vd,hi];rfl,fun j m m' _ hm hf=>?_⟩;have L3:i<m.length:=by lia
 have e:(m.zip ps)[i]?=some (m[i],q):=by
  rw[WU];exact⟨eT L3,hi⟩
 obtain⟨h1,h2⟩:=k8 j hf e;have e1:m.getD i 0=m[i]:=by rw[UU,eT L3];rfl
 have e2:m'.getD i 0=m[i]-K3 j q+LU j q:=by rw[UU,h2];rfl
 unfold K3 at e2 ⊢;dsimp only at h1 ⊢;rw[e1,e2];exact⟨by lia,rfl⟩
theorem Im.sum(a:Im nY ps q Lw)(b:Im nY ps q' PQ)(h0:q2.1=q.1+q'.1)(ht:∀j,j<nY.length->K3 j q2=K3 j q+K3 j q')(hg:∀j,j<nY.length->LU j q2=LU j q+LU j q'):Im nY ps q2 fun m=>Lw m+PQ m:=by
 refine⟨by rw[a.z,b.z,h0],fun j m m' hj hm hf=>?_⟩;have h1:=a.mv j m m' hj hm hf;have h2:=b.mv j m m' hj hm hf;have h3:=ht j hj;have h4:=hg j hj;lia
theorem Im.more(a:Im nY ps q Lw)(c:Int)(hc:0<=c):Im nY ps (q.1+c,q.2) fun m=>Lw m+c:=by
 refine⟨by rw[a.z],fun j m m' hj hm hf=>?_⟩;have h1:=a.mv j m m' hj hm hf;have e1:K3 j (q.1+c,q.2)=K3 j q:=rfl;have e2:LU j (q.1+c,q.2)=LU j q:=rfl;lia
end
section
theorem lu(hn:nY.length<=3)(e:bF nY ps=some r):∃m,Rm nY ps r.1 r.2 m:=by
 have h:=jC (ps:=ps) hn;rw[e]at h;exact h.1
theorem F1(hn:nY.length<=3)(e:bF nY ps=some r)(hP:∀q∈P,q∈ps)(e':bF nY P=some r')(ea:a8 bB r'.2=a8 bB r.2):Gd nY ps r.1 P:=by
 obtain⟨m,rm⟩:=lu hn e;have o:=qp hn e';rw[ea]at o;exact o.gd rm (fun a=>br bB) hP
theorem zk(hn:nY.length<=3)(e:bF nY ps=some r)(hP:∀q∈P,q∈ps)(g:Gd nY ps r.1 P):bF nY P=some (hR (sel ps P) r):=by
 obtain⟨m,rm⟩:=lu hn e;exact j6 e (g.sim hP rm.ln)
theorem Ig(hn:nY.length<=3)(e:bF nY ps=some r)(hP:∀q∈P,q∈ps):(walk nY P (a8 bB r.2)).1=none<->Gd nY ps r.1 P:=by
 obtain⟨m,rm⟩:=lu hn e;constructor
 ·intro h;obtain⟨S,o⟩:=vv (vg hn e).sort h;exact o.gd rm (fun a=>br bB) hP
 ·intro g;exact qo (qp (r:=hR (sel ps P) r) hn (zk hn e hP g))
end
noncomputable def okb(nY:LNN)(am:List J0)(P:List Pl):Bool:=(walk nY P am).1.isNone
theorem vy(hn:nY.length<=3)(e:bF nY ps=some r)(hP:∀q∈P,q∈ps):okb nY (a8 bB r.2) P=true<->Gd nY ps r.1 P:=by
 rw[<-Ig hn e hP];unfold okb;rw[Yj]
theorem xZ(hn:nY.length<=3)(e:bF nY ps=some r)(P P':List Pl)(h:okb nY (a8 bB r.2) P=true)(h1:∀q∈P,q∈P')(h2:∀q∈P',q∈ps):okb nY (a8 bB r.2) P'=true:=
 (vy hn e h2).mpr (((vy hn e fun q hq=>h2 q (h1 q hq)).mp h).mono h1)
theorem x3(hn:nY.length<=3)(e:bF nY ps=some r):okb nY (a8 bB r.2) ps=true:=by
 unfold okb;rw[qo (qp hn e)];rfl
noncomputable def oR:List Nat:=[115,97,109,101]
def Df(d:D):Prop:=∃l a b,d=.tup [.str l,a,b]/\l≠oR
theorem Cy{m:List Int}:∀d,(a7 N s m w).1=some d->Df d:=by
 unfold a7 g9;intro d h;split at h
 ·rename_i d' hd;cases h;split at hd
  ·cases hd;exact⟨_,_,_,rfl,by decide⟩
  ·split at hd
   ·cases hd
   ·split at hd
    ·cases hd
    ·cases hd;exact⟨_,_,_,rfl,by decide⟩
 ·cases h
theorem qw(m:List Int)(w:LNN):∀(ss:List Int) (N:List Gt) d,(aS m w ss N).1=some d->Df d
 |[],N,d,h=>by cases h
 |s::ss,N,d,h=>by
  unfold aS at h;split at h
  ·rename_i d' N' e;cases h;exact Cy (N:=N) (s:=s) (m:=m) (w:=w) d (by rw[e])
  ·exact qw m w ss _ d h
theorem qx(nY:LNN)(ps:List Pl)(am:List J0)(n:Gt):∀(l:LNN) (N:List Gt) d,(aB nY ps am n l N).1=some d->Df d
 |[],N,d,h=>by cases h
 |mv::l,N,d,h=>by
  unfold aB at h;split at h
  ·rename_i d' N' e;cases h;have h:(bN nY ps am n mv N).1=some d:=by rw[e]
   unfold bN at h;split at h
   ·cases h
   ·cases h;exact⟨_,_,_,rfl,by decide⟩
   ·cases h;exact⟨_,_,_,rfl,by decide⟩
   ·exact qw _ _ _ _ d h
  ·exact qx nY ps am n l _ d h
theorem vz(nY:LNN)(ps:List Pl)(am:List J0):∀(f k:Nat) (N:List Gt) d,(bu nY ps am f k N).1=some d->Df d
 | 0,k,N,d,h=>by cases h
 |f+1,k,N,d,h=>by
  cases hk:N[k]? with
  |none=>rw[eX hk]at h;cases h
  |some n=>
   cases hg:aB nY ps am n nY N with
   |mk o N'=>
    cases o with
    |some d'=>
     rw[gL hk hg]at h;cases h;exact qx nY ps am n nY N d (by rw[hg])
    |none=>
     rw[hJ hk hg]at h;exact vz nY ps am f (k+1) N' d h
theorem Ra.nc(r:Ra nY am mZ)(hl:ps.length<=100)(hp:∀q∈ps,Lb q nY.length):Nc nY ps am:=⟨hl,hp,r.len,fun a ha=>by
 have:=r.bd a ha;have:=r.mm;lia⟩
theorem jE(ra:Ra nY am mZ)(hl:P.length<=100)(hp:∀q∈P,Lb q nY.length):b9 [JY nY am,eN nY P]=.ok (.f,.bl (okb nY am P)):=by
 have c:=ra.nc hl hp;have hm:=ra.mm;have Lz:=m6 hm.1 ra.bd;have hh:=FW c ⟨by lia,by lia⟩ fun h s hs=>(walk_all ra h).2.2 s (by have:=(walk_all ra h).2.1;lia)
 have e:∀l:List Nat,eqO (.str l) (.str [115,97,109,101])=.ok (.f,.bl (decide (l=oR))):=fun l=>by
  have z:(l==oR)=decide (l=oR):=by
   rw[Vr];simp
  show Res.ok (O.f,D.bl (l==oR))=_;rw[z]
 unfold b9 mO okb;rw[ba (h:=by rfl)];generalize eN nY P=NE at hh ⊢;generalize JY nY am=CE at hh ⊢;cases hw:(walk nY P am).1 with
 |some d=>
  rw[hw]at hh;obtain⟨l,a,b,rfl,LA⟩:=vz nY P am 13 0 (N0 P) d hw;have a0:atI [D.str l,a,b] (0:Int)=some (.str l):=rfl;have el:=e l;rw[Vx LA]at el;rw[WL]at hh;cases hfd:flatD (.tup [.str l,a,b]) with
  |true=>simp only[pv,seval,op,hh,hfd,a0,el,XF]
  |false=>simp only[pv,seval,op,hh,hfd,a0,el,XF,Ft,cV]
 |none=>
  rw[hw,WK]at hh;unfold FU at hh;have a0:∀x y:D,atI (x::y::[]) (0:Int)=some x:=fun _ _=>rfl
  have el:=e oR;rw[VA rfl]at el;unfold oR at el;simp only[pv,seval,op,hh,a0,el,ZM]
theorem vA(P:List Pl)(k:Nat)(hl:P.length<=100):bc (.lst (iH (P.map eP) none (some (k:Int)))) (.lst (iH (P.map eP) (some ((k:Int)+1)) none))=.ok (.l .f,.lst ((P.eraseIdx k).map eP)):=by
 have e:(k:Int)+1=((k+1:Nat):Int):=by lia
 rw[uN,uN,iS,e,k4,uK,U2 (line_le (by rw[aO,aO,VB,Wi];lia)),List.eraseIdx_eq_take_drop_succ,Vh]
theorem vB(F:List D->Res R)(fo:FO)(fb:FX)(j:Nat)(env:PV.Env):xB F fo fb j env=Res.bnd (fo env) (f:=⟨fun p=>Res.bnd (fb p.2) (f:=⟨fun q=>match q.2[j]? with
 |some (some (_,dj))=>Res.bnd (nG q.2 p.1) (f:=⟨fun d1=>Res.bnd (F [d1,.tup [q.1.2,dj]]) (f:=⟨fun r=>.ok (r,if aw r.1 r.2 then q.2 else q.2.map frz)⟩)⟩)
 |_=>.bad⟩)⟩):=id rfl
theorem F2(ra:Ra nY am mZ)(ps P:List Pl)(hl:P.length<=100)(hp:∀q∈P,Lb q nY.length)(k:Nat)(t4:Option R):
  ∃u4,cJ [fq (JY nY am),fq (eN nY ps),fL (P.map eP),fI (k:Int),t4]=.ok (.nx [fq (JY nY am),fq (eN nY ps),fL (((if okb nY am (P.eraseIdx k) then P.eraseIdx k else P).map eP)),fI (k:Int),u4]):=by
 have hr:=jE (P:=P.eraseIdx k) ra (by have:=Wz P k;lia) fun q hq=>hp q (VG hq)
 have LM:ixD (eN nY ps) (.int 0)=.ok (.f,.tup (nY.map D.str)):=rfl;have ha:=vA P k hl;unfold cJ;rw[show eN nY (P.eraseIdx k)=.tup [.tup (nY.map D.str),.lst ((P.eraseIdx k).map eP)] from rfl]at hr;generalize eN nY ps=NE at LM ⊢;generalize JY nY am=CE at hr ⊢;rw[ag (env':=[fq CE,fq NE,fL (P.map eP),fI (k:Int),fL ((P.eraseIdx k).map eP)]) (by
  simp only[pv,seval,op,ha])]
 cases hb:okb nY am (P.eraseIdx k) with
 |true=>
  rw[hb]at hr;rw[U2 rfl];refine⟨none,?_⟩;simp only[pv,seval,op,vB,LM,hr]
 |false=>
  rw[hb]at hr;rw[U6 UY];refine⟨fL ((P.eraseIdx k).map eP),?_⟩;simp only[pv,seval,op,vB,LM,hr,cV]
noncomputable def Cz:Nat->List D
 | 0=>[]
 |k+1=>.int (k:Int)::Cz k
theorem oS:∀n:Nat,(List.range n).map (fun(k:Nat)=>D.int (((n:Int)-1)+(k:Int) * -1))=Cz n
 | 0=>rfl
 |n+1=>by
  rw[Cz,YT,cW,Vy,<-oS n];congr 1
  ·congr 1
   lia
  ·refine VO fun k _=>?_
   show D.int _=D.int _;congr 1
   lia
theorem jF{nY:LNN}{am:List J0}{mZ:Nat}(ra:Ra nY am mZ)(ps:List Pl):∀(k:Nat) (P:List Pl),P.length<=100->(∀q∈P,Lb q nY.length)->∀t3 t4:Option R,
  ∃u3 u4,cQ (aq 3) cJ (Cz k) [fq (JY nY am),fq (eN nY ps),fL (P.map eP),t3,t4]=.ok (.nx [fq (JY nY am),fq (eN nY ps),fL (((bW (okb nY am) k P).map eP)),u3,u4])
 | 0,P,_,_,t3,t4=>⟨t3,t4,rfl⟩
 |k+1,P,hl,hp,t3,t4=>by
  obtain⟨v4,e⟩:=F2 ra ps P hl hp k t4;have ha:aq 3 (.int (k:Int)) [fq (JY nY am),fq (eN nY ps),fL (P.map eP),t3,t4]=.ok [fq (JY nY am),fq (eN nY ps),fL (P.map eP),fI (k:Int),t4]:=rfl;unfold bW Cz;cases hb:okb nY am (P.eraseIdx k) with
  |true=>
   rw[hb,U2 rfl]at e;obtain⟨u3,u4,e4⟩:=jF ra ps k (P.eraseIdx k) (by have:=Wz P k;lia) (fun q hq=>hp q (VG hq)) (fI (k:Int)) v4;refine⟨u3,u4,?_⟩;rw[U2 rfl,bI,ha,Kp,e,Kp];exact e4
  |false=>
   rw[hb,U6 UY]at e;obtain⟨u3,u4,e4⟩:=jF ra ps k P hl hp (fI (k:Int)) v4;refine⟨u3,u4,?_⟩;rw[U6 UY,bI,ha,Kp,e,Kp];exact e4
theorem ny(ra:Ra nY am mZ)(ps:List Pl)(hl:ps.length<=100)(hp:∀q∈ps,Lb q nY.length)(hok:okb nY am ps=true):
  dX [JY nY am,eN nY ps]=.ok (.t [.f,.l .f],eN nY (bW (okb nY am) ps.length ps)):=by
 have hr:=jE ra hl hp;rw[hok]at hr;obtain⟨u3,u4,e⟩:=jF ra ps ps.length ps hl hp none none;have LM:ixD (eN nY ps) (.int 0)=.ok (.f,.tup (nY.map D.str)):=rfl;have PR:ixD (eN nY ps) (.int 1)=.ok (.f,.lst (ps.map eP)):=rfl;unfold dX mP;rw[ba (h:=by rfl)];rw[show eN nY (bW (okb nY am) ps.length ps)=.tup [.tup (nY.map D.str),.lst ((bW (okb nY am) ps.length ps).map eP)] from rfl];generalize eN nY ps=NE at hr e LM PR ⊢;generalize JY nY am=CE at hr e ⊢;rw[ag (env':=[fq CE,fq NE,none,none,none]) (by
  simp only[pv,seval,op,hr,W4,cV])]
 rw[ag (env':=[fq CE,fq NE,fL (ps.map eP),none,none]) (by
  simp only[pv,seval,op,PR])]
 have Lz:dU ((ps.length:Int)-1) (-1) (-1):=by
  unfold dU;lia
 have hsz:(Builtin.Range.rangeSize ((ps.length:Int)-1) (-1) (-1)).toNat=ps.length:=by
  unfold Builtin.Range.rangeSize;split
  ·lia
  ·split
   ·lia
   ·lia
 rw[ag (env':=[fq CE,fq NE,fL (((bW (okb nY am) ps.length ps).map eP)),u3,u4]) (by
  unfold jw;simp only[pv,seval,op,PR,aO,Lz,hsz,Xd];rw[oS];exact e)]
 unfold ig;simp only[pv,seval,op,BZ,LM]
theorem CA(ps:List Pl)(d k:Nat)(r:Rk):∀a∈(cv ps d k r).2,a∈r.2\/a.2.1=k:=by
 unfold cv;split
 ·exact fun a h=>.inl h
 ·intro a h;rcases oE h with h|h
  ·exact .inl h
  ·rw[iw h];exact .inr rfl
theorem zm(ps:List Pl)(d cnt:Nat):∀(l:List Nat),(∀k∈l,k<cnt)->∀r:Rk,(∀a∈r.2,a.2.1<cnt)->∀a∈(lb ps d l r).2,a.2.1<cnt
 |[],_,r,h=>h
 |k::l,hl,r,h=>zm ps d cnt l (fun j hj=>hl j (US _ hj)) (cv ps d k r) fun a ha=>by
  rcases CA ps d k r a ha with z|z
  ·exact h a z
  ·rw[z];exact hl k UR
theorem zo(ps:List Pl)(cnt:Nat):∀(f d:Nat) (r:Rk),(∀a∈r.2,a.2.1<cnt)->∀a∈(m8 ps cnt f d r).2,a.2.1<cnt
 | 0,d,r,h=>h
 |f+1,d,r,h=>by
  unfold m8;split
  ·exact zo ps cnt f (d+1) _ (zm ps d cnt _ (fun k hk=>Vv.mp hk) r h)
  ·exact h
theorem nE(ps:List Pl)(cnt:Nat):∀a∈(bC ps cnt).2,a.2.1<cnt:=zo ps cnt 9 0 _ fun _ h=>nomatch h
theorem vC{nY:LNN}(nd:nY.Nodup):∀{l m:List ArK},(∀a∈l,a.2.1<nY.length)->(∀a∈m,a.2.1<nY.length)->l.map (Na nY)=m.map (Na nY)->l=m
 |[],[],_,_,_=>rfl
 |[],_::_,_,_,h=>nomatch h
 |_::_,[],_,_,h=>nomatch h
 |(a,k,b)::l,(a',k',b')::m,h1,h2,h=>by
  rw[cW,cW]at h;obtain⟨e1,e2⟩:=XZ h;have hk:=h1 _ UR;have Tu:=h2 _ UR;unfold Na at e1;dsimp only at e1 hk Tu;rw[YF,YF]at e1;obtain⟨e3,e4,e5⟩:=e1;rw[UU,UU,eT hk,eT Tu,WL,WL]at e4;have e6:k=k':=by
   have z:=nd.idxOf_getElem k hk;rw[e4,nd.idxOf_getElem k' Tu]at z;exact z.symm
  rw[e3,e5,e6,vC nd (fun a ha=>h1 a (US _ ha)) (fun a ha=>h2 a (US _ ha)) e2]
section
def aG(nY:LNN)(ps:List Pl):List J0:=a8 bB ((bC ps nY.length).2.map (Na nY))
theorem vD(nd:nY.Nodup)(h8:(bC ps nY.length).1.length<=8):bF nY ps=some (Ly nY (bC ps nY.length)):=by rw[lg nd,U2 h8]
noncomputable def gM(cnt:Nat)(ps P:List Pl):Bool:=decide ((bC P cnt).1.length<=8/\(bC P cnt).2=(bC ps cnt).2)
theorem Ih(nd:nY.Nodup)(hn:nY.length<=3)(h8:(bC ps nY.length).1.length<=8)(hP:∀q∈P,q∈ps):okb nY (aG nY ps) P=gM nY.length ps P:=by
 have e:=vD nd h8;unfold gM;rw[Vr,Vc];refine(vy (r:=Ly nY (bC ps nY.length)) hn e hP).trans ⟨fun g=>?_,fun⟨h1,h2⟩=>?_⟩
 ·have h:=zk hn e hP g;rw[lg nd]at h;split at h
  ·rename_i h1;have:=Wy Prod.snd (Vq h);exact⟨h1,vC nd (nE _ _) (nE _ _) this⟩
  ·cases h
 ·exact F1 hn e hP (vD nd h1) (by unfold Ly;dsimp only;rw[h2])
end
theorem eqD_K(a b:ArK):eqD (eK a) (eK b)=decide (a=b):=by
 obtain⟨a1,a2,a3⟩:=a;obtain⟨b1,b2,b3⟩:=b;unfold eK;simp only[eqD,gj,Xm];rw[Vr];simp[YF];intro _ _;lia
theorem zp:∀a b:List ArK,gj (a.map eK) (b.map eK)=decide (a=b)
 |[],[]=>rfl
 |[],_::_=>rfl
 |_::_,[]=>rfl
 |x::a,y::b=>by
  rw[cW,cW,gj,zp a b,eqD_K,Vr];simp
theorem lx(n:Nat)(l:List ArK):plainDs (n+2) (l.map eK)=true:=by
 induction l with
 |nil=>rfl
 |cons a l ih=>
  rw[cW,plainDs,ih];rfl
theorem F3(a b:List ArK):eqO (.lst (a.map eK)) (.lst (b.map eK))=.ok (.f,.bl (decide (a=b))):=by
 unfold eqO;rw[plainD,plainD,lx 37,lx 37,eqD,zp];rfl
theorem zq(b:List ArK):eqO .non (.lst (b.map eK))=.ok (.f,.bl false):=by
 unfold eqO;rw[show plainD 40 D.non=true from rfl,plainD,lx 37];rfl
theorem F4(a:ArK):flatD (eK a)=true:=rfl
theorem ly(l:List ArK):flatDs (l.map eK)=true:=by
 rw[bz,V4,Vg];exact fun a _=>F4 a
theorem zr(ps P:List Pl)(cnt:Nat)(hc:cnt<=3)(hl:P.length<=100)(hp:∀p∈P,Lb p cnt):
  (∃A:List ArK,bA [.lst (P.map eP),.int (cnt:Int)]=.ok (.l .f,.lst (A.map eK))/\eqO (.lst (A.map eK)) (.lst ((bC ps cnt).2.map eK))=.ok (.f,.bl (gM cnt ps P)))\/
  (bA [.lst (P.map eP),.int (cnt:Int)]=.ok (.f,.non)/\gM cnt ps P=false):=by
 have h:=(uW P cnt hc hl hp).2;unfold gM;by_cases h8:(bC P cnt).1.length<=8
 ·rw[U2 h8]at h;refine .inl ⟨_,h,?_⟩;rw[F3];simp only[h8,true_and]
 ·rw[U6 h8]at h;exact .inr ⟨h,Vx fun z=>h8 z.1⟩
theorem CB(ps qs P:List Pl)(cnt:Nat)(hc:cnt<=3)(hl:P.length<=100)(hp:∀q∈P,Lb q cnt)(k:Nat)(o:O)(ho:o=.f\/o=.l .f)(t5:Option R):
  ∃o' u5,(o'=.f\/o'=.l .f)/\bY [fq (.lst (qs.map eP)),fI (cnt:Int),fq (.lst ((bC ps cnt).2.map eK)),some (o,.lst (P.map eP)),fI (k:Int),t5]=.ok (.nx [fq (.lst (qs.map eP)),fI (cnt:Int),fq (.lst ((bC ps cnt).2.map eK)),some (o',.lst ((if gM cnt ps (P.eraseIdx k) then P.eraseIdx k else P).map eP)),fI (k:Int),u5]):=by
 have e1:=vA P k hl;have L3:(P.eraseIdx k).length<=100:=Vo (Wz _ _) hl;have QD:∀q∈P.eraseIdx k,Lb q cnt:=fun q hq=>hp q (VG hq)
 have er:=zr ps (P.eraseIdx k) cnt hc L3 QD;unfold bY;have st:aW 5 (ao bc (aa (jI (oVar 3) c9 (cI (ay 4)))) (aa (jI (oVar 3) (cI (ao bc (oVar 4) (aa (av (.int 1))))) c9))) [fq (.lst (qs.map eP)),fI (cnt:Int),fq (.lst ((bC ps cnt).2.map eK)),some (o,.lst (P.map eP)),fI (k:Int),t5]=.ok (.nx [fq (.lst (qs.map eP)),fI (cnt:Int),fq (.lst ((bC ps cnt).2.map eK)),some (o,.lst (P.map eP)),fI (k:Int),fL ((P.eraseIdx k).map eP)]):=by
  rcases ho with rfl|rfl <;> simp only[pv,seval,op,e1]
 rw[ag st];generalize (bC ps cnt).2=AA at er ⊢;rcases er with⟨A,h1,h2⟩|⟨h1,h2⟩
 ·have LC:=ly A;cases hb:gM cnt ps (P.eraseIdx k) with
  |true=>
   rw[hb]at h2;rw[U2 rfl];exact⟨.f,fq (.lst ((P.eraseIdx k).map eP)),.inl rfl,by simp only[pv,seval,op,h1,h2,LC]⟩
  |false=>
   rw[hb]at h2;rw[U6 UY];exact⟨o,fL ((P.eraseIdx k).map eP),ho,by simp only[pv,seval,op,h1,h2,LC,cV]⟩
 ·rw[h2,U6 UY];have h3:=zq AA;have hf:flatD .non=true:=rfl;exact⟨o,fL ((P.eraseIdx k).map eP),ho,by simp only[pv,seval,op,h1,h3,hf,cV]⟩
theorem hU(ps qs:List Pl)(cnt:Nat)(hc:cnt<=3):∀(k:Nat) (P:List Pl),P.length<=100->(∀q∈P,Lb q cnt)->∀(o:O) (ho:o=.f\/o=.l .f) (t4 t5:Option R),
  ∃o' u4 u5,(o'=.f\/o'=.l .f)/\cQ (aq 4) bY (Cz k) [fq (.lst (qs.map eP)),fI (cnt:Int),fq (.lst ((bC ps cnt).2.map eK)),some (o,.lst (P.map eP)),t4,t5]=.ok (.nx [fq (.lst (qs.map eP)),fI (cnt:Int),fq (.lst ((bC ps cnt).2.map eK)),some (o',.lst ((bW (gM cnt ps) k P).map eP)),u4,u5])
 | 0,P,_,_,o,ho,t4,t5=>⟨o,t4,t5,ho,rfl⟩
 |k+1,P,hl,hp,o,ho,t4,t5=>by
  obtain⟨o1,u5,h1,e1⟩:=CB ps qs P cnt hc hl hp k o ho t5;have ha:aq 4 (D.int (k:Int)) [fq (.lst (qs.map eP)),fI (cnt:Int),fq (.lst ((bC ps cnt).2.map eK)),some (o,.lst (P.map eP)),t4,t5]=.ok [fq (.lst (qs.map eP)),fI (cnt:Int),fq (.lst ((bC ps cnt).2.map eK)),some (o,.lst (P.map eP)),fI (k:Int),t5]:=by simp only[pv,seval]
  unfold bW;unfold Cz;rw[bI,ha,Kp,e1,Kp];by_cases hb:gM cnt ps (P.eraseIdx k)=true
  ·rw[U2 hb,U2 hb];exact hU ps qs cnt hc k (P.eraseIdx k) (Vo (Wz _ _) hl) (fun q hq=>hp q (VG hq)) o1 h1 _ u5
  ·rw[U6 hb,U6 hb];exact hU ps qs cnt hc k P hl hp o1 h1 _ u5
theorem F5(ps:List Pl)(qs:List Pl)(cnt:Nat)(hc:cnt<=3)(hl:qs.length<=100)(hp:∀q∈qs,Lb q cnt):∃o,(o=.f\/o=.l .f)/\cF [.lst (qs.map eP),.int (cnt:Int),.lst ((bC ps cnt).2.map eK)]=.ok (o,.lst ((bW (gM cnt ps) qs.length qs).map eP)):=by
 obtain⟨o,u4,u5,ho,e⟩:=hU ps qs cnt hc qs.length qs hl hp (.l .f) (.inr rfl) none none;refine⟨o,ho,?_⟩;unfold cF jy;rw[ba (h:=by rfl)];rw[ag (env':=[fq (.lst (qs.map eP)),fI (cnt:Int),fq (.lst ((bC ps cnt).2.map eK)),fL (qs.map eP),none,none]) (by simp only[pv,seval,op])];have Lz:dU ((qs.length:Int)-1) (-1) (-1):=by
  unfold dU;lia
 have hsz:(Builtin.Range.rangeSize ((qs.length:Int)-1) (-1) (-1)).toNat=qs.length:=by
  unfold Builtin.Range.rangeSize;split
  ·lia
  ·split
   ·lia
   ·lia
 rw[ag (env':=_) (by
  unfold gG;simp only[pv,seval,op,aO,Lz,hsz,Xd];rw[oS];exact e)]
 unfold fD;rcases ho with rfl|rfl <;> simp only[pv,seval,op]
def Iq(nY:LNN)(ps:List Pl)(q:Pl):Prop:=Lb q nY.length/\∃Lw,Im nY ps q Lw
variable{l:List Int}
section
theorem Iq.more(a:Iq nY ps q)(c:Int)(hc:0<=c):Iq nY ps (q.1+c,q.2):=by
 obtain⟨h,Lw,im⟩:=a;exact⟨h,_,im.more c hc⟩
theorem vE(l:List Int)(t:Int)(k:Nat):(l.map (·* t)).getD k 0=l.getD k 0*t:=by
 rw[UU,UU,Vd];cases l[k]? with
 |none=>exact(Int.zero_mul t).symm
 |some x=>rfl
theorem Iq.times(a:Iq nY ps q)(t:Int)(ht:0<=t):Iq nY ps (q.1*t,q.2.1.map (·* t),q.2.2.map (·* t)):=by
 obtain⟨h,Lw,im⟩:=a;refine⟨⟨by rw[aO];exact h.1,by rw[aO];exact h.2⟩,fun m=>Lw m*t,by rw[im.z],fun j m m' hj hm hf=>?_⟩;have h1:=im.mv j m m' hj hm hf;have e1:K3 j (q.1*t,q.2.1.map (·* t),q.2.2.map (·* t))=K3 j q*t:=vE _ _ _;have e2:LU j (q.1*t,q.2.1.map (·* t),q.2.2.map (·* t))=LU j q*t:=vE _ _ _;rw[e1,e2,h1.2,Int.add_mul,Int.sub_mul];exact⟨Int.mul_le_mul_of_nonneg_right h1.1 ht,rfl⟩
noncomputable def vS(a b:List Int):List Int:=(a.zip b).map fun z=>z.1+z.2
theorem vF{a b:List Int}{k:Nat}(h1:k<a.length)(h2:k<b.length):(vS a b).getD k 0=a.getD k 0+b.getD k 0:=by
 unfold vS;rw[UU,UU,UU,Vd,eT (by rw[Ws];lia),eT h1,eT h2,List.getElem_zip];rfl
theorem Iq.sum(a:Iq nY ps p)(b:Iq nY ps q):Iq nY ps (p.1+q.1,vS p.2.1 q.2.1,vS p.2.2 q.2.2):=by
 obtain⟨⟨h1,h2⟩,Lw,im⟩:=a;obtain⟨⟨h3,h4⟩,PQ,im'⟩:=b;refine⟨⟨by unfold vS;rw[aO,Ws,h1,h3,Y7],by unfold vS;rw[aO,Ws,h2,h4,Y7]⟩,_,im.sum im' rfl (fun j hj=>?_) fun j hj=>?_⟩
 ·exact vF (by lia) (by lia)
 ·exact vF (by lia) (by lia)
theorem vH(l:List Int)(k:Nat):(l.map fun _=>(0:Int)).getD k 0=0:=by
 rw[UU,Vd];cases l[k]? <;> rfl
theorem Iq.none(hl:l.length=nY.length)(t:Int)(ht:0<=t):Iq nY ps (t,l.map fun _=>(0:Int),l.map fun _=>(0:Int)):=by
 refine⟨⟨by rw[aO];exact hl,by rw[aO];exact hl⟩,fun _=>t,rfl,fun j m m' hj hm hf=>?_⟩;have e1:K3 j (t,l.map fun _=>(0:Int),l.map fun _=>(0:Int))=0:=vH _ _;have e2:LU j (t,l.map fun _=>(0:Int),l.map fun _=>(0:Int))=0:=vH _ _;rw[e1,e2];lia
end
theorem at_pl(h0:ps≠[])(y:Int):∃(i:Nat) (p:Pl),y%(ps.length:Int)=(i:Int)/\ps[i]?=some p/\atI (ps.map eP) (i:Int)=some (eP p):=by
 have hl:=X3.mpr h0;have b:=fU y (ps.length:Int) (by lia);obtain⟨i,ei⟩:=Vk b.1;have hi:i<ps.length:=by lia
 exact⟨i,ps[i],ei,eT hi,di (by rw[Vd,eT hi];rfl)⟩
theorem x4(l:List Int)(t:Int)(ht:cA t=true):b7 (aq 0) fO (ao g7 (oVar 0) (oVar 1)) (l.map D.int) [none,fI t]=.ok ((l.map (·* t)).map D.int):=by
 rw[Vy];refine bH (fun env=>∃u,env=[u,fI t]) _ ?_ _ ⟨_,rfl⟩;rintro x _ env ⟨u,rfl⟩;refine⟨[fI x,fI t],by simp only[pv,seval],?_⟩;simp only[pv,seval,op,Fq x t ht];exact⟨_,_,rfl,_,rfl⟩
theorem vI(l:List Int):b7 (aq 0) fO (av (.int 0)) (l.map D.int) [none]=.ok ((l.map fun _=>(0:Int)).map D.int):=by
 rw[Vy];refine bH (fun env=>∃u,env=[u]) _ ?_ _ ⟨_,rfl⟩;rintro x _ env ⟨u,rfl⟩;refine⟨[fI x],by simp only[pv,seval],?_⟩;simp only[pv,seval,op];exact⟨_,_,rfl,_,rfl⟩
theorem x5(a b:List Int):b7 (gT 2 (ax (aq 0) (ax (aq 1) b6))) fO (ao bc (oVar 0) (oVar 1)) ((a.zip b).map fun z=>D.tup [.int z.1,.int z.2]) [none,none]=.ok ((vS a b).map D.int):=by
 unfold vS;rw[Vy];refine bH (fun env=>∃u w,env=[u,w]) _ ?_ _ ⟨_,_,rfl⟩;rintro⟨x,y⟩ _ env ⟨u,w,rfl⟩;refine⟨_,fT _ _ _ _ _,?_⟩;simp only[pv,seval,op];exact⟨_,_,rfl,_,_,rfl⟩
theorem rD(P Q:List D)(h:P.length+Q.length<=1000):bc (.lst P) (.lst Q)=.ok (.l .f,.lst (P++Q)):=by
 rw[uK,U2 (line_le (by lia))]
theorem x6(a:Int)(b c:List Int):D.tup [.int a,.tup (b.map D.int),.tup (c.map D.int)]=eP (a,b,c):=rfl
theorem F6(hn:nY.length<=3)(h0:ps≠[])(hl:ps.length<=50)(hp:∀p∈ps,Lb p nY.length)(c s:Int):
  ∃(k:Nat) (q:Pl),Iq nY ps q/\dv [.lst (ps.map eP),.int c,.int s]=.ok (.l .f,.lst ((Ln k q ps).map eP)):=by
 have hl0:=X3.mpr h0;unfold dv jx;rw[ba (h:=by rfl)];have Tv:=Gq 12 (by lia);rw[ag (env':=[fq (.lst (ps.map eP)),fI c,fI s,fI (c%10 ^ 12),none,none,none,none,none,none,none,none]) (by simp only[pv,↓reduceIte,Nat.reduceAdd,Nat.reduceLT,Nat.reduceLeDiff,Nat.reduceEqDiff,op,show qO (.int 10) (.int 12)=_ from Tv,jK c (10 ^ 12) (by decide)])];generalize c%10 ^ 12=x;obtain⟨i,p,ei,hi,ai⟩:=at_pl h0 x;obtain⟨j,p2,ej,hj,aj⟩:=at_pl h0 (x / 8);have hm:∀y:Int,dR (.int y) (.int (ps.length:Int))=.ok (.f,.int (y%(ps.length:Int))):=fun y=>jK y _ (by lia)
 have pp:=hp p (Vu hi);have pp2:=hp p2 (Vu hj);rw[ag (env':=[fq (.lst (ps.map eP)),fI c,fI s,fI x,fI p.1,fq (.tup (p.2.1.map D.int)),fq (.tup (p.2.2.map D.int)),none,none,none,none,none]) (by
  simp only[pv,↓reduceIte,Nat.reduceAdd,Nat.reduceLT,Nat.reduceLeDiff,Nat.reduceEqDiff,op,aO,hm,ei,ai];unfold eP;simp only[pv,↓reduceIte,Nat.reduceAdd,Nat.reduceLT,Nat.reduceLeDiff,Nat.reduceEqDiff,op])]
 rw[ag (env':=[fq (.lst (ps.map eP)),fI c,fI s,fI x,fI p.1,fq (.tup (p.2.1.map D.int)),fq (.tup (p.2.2.map D.int)),fq (eP p2),none,none,none,none]) (by
  simp only[pv,↓reduceIte,Nat.reduceAdd,Nat.reduceLT,Nat.reduceLeDiff,Nat.reduceEqDiff,op,aO,kZ x 8 (by decide) (by decide),hm,ej,aj])]
 have b3:=fU (x / 320) 1000 (by decide);obtain⟨t,et⟩:∃t:Int,t=2+x / 320%1000:=⟨_,rfl⟩
 have Tw:0<=t:=by lia
 have Uz:cA t=true:=by
  unfold cA;rw[Vc];lia
 rw[ag (env':=[fq (.lst (ps.map eP)),fI c,fI s,fI x,fI p.1,fq (.tup (p.2.1.map D.int)),fq (.tup (p.2.2.map D.int)),fq (eP p2),fI t,none,none,none]) (by
  simp only[pv,↓reduceIte,Nat.reduceAdd,Nat.reduceLT,Nat.reduceLeDiff,Nat.reduceEqDiff,op,kZ x 320 (by decide) (by decide),jK _ 1000 (by decide),et])]
 have l1:p.2.1.length<=3:=by rw[pp.1];exact hn
 have l2:p.2.2.length<=3:=by rw[pp.2];exact hn
 have Tx:∀l:List Int,l.length<=3->(l.map D.int).length<=sizeLine:=fun l h=>line_le (by rw[aO];lia)
 have fzz:=Tx (p.2.1.map fun _=>(0:Int)) (by rw[aO];exact l1);rw[ag (env':=[fq (.lst (ps.map eP)),fI c,fI s,fI x,fI p.1,fq (.tup (p.2.1.map D.int)),fq (.tup (p.2.2.map D.int)),fq (eP p2),fI t,fq (.tup ((p.2.1.map fun _=>(0:Int)).map D.int)),none,none]) (by
  simp only[pv,↓reduceIte,Nat.reduceAdd,Nat.reduceLT,Nat.reduceLeDiff,Nat.reduceEqDiff,op,vI,fzz])]
 rw[ag (env':=[fq (.lst (ps.map eP)),fI c,fI s,fI x,fI p.1,fq (.tup (p.2.1.map D.int)),fq (.tup (p.2.2.map D.int)),fq (eP p2),fI t,fq (.tup ((p.2.1.map fun _=>(0:Int)).map D.int)),fq (eP p),none]) (by
  unfold eP;simp only[pv,↓reduceIte,Nat.reduceAdd,Nat.reduceLT,Nat.reduceLeDiff,Nat.reduceEqDiff,op])]
 have iq:Iq nY ps p:=⟨pp,_,Im.at hi⟩
 have iq2:Iq nY ps p2:=⟨pp2,_,Im.at hj⟩
 have hmod:∀y:Int,dR (.int y) (.int ((ps.length:Int)+1))=.ok (.f,.int (y%((ps.length:Int)+1))):=fun y=>jK y _ (by lia)
 obtain⟨k,ek⟩:=Vk (fU s ((ps.length:Int)+1) (by lia)).1;have fin:∀(A4 A5 A6 A7 A8 A9:Option R) (q:Pl),(sSeq (aW 11 (ao dR (oVar 2) (aa (ao bc (aa (aA dS (osCons (oVar 0) osNil))) (aa (av (.int 1)))))))
  (dM (ao bc (aa (ao bc (aa (jI (oVar 0) c9 (cI (ay 11)))) (aa (iG (af (ay 10) aD))))) (aa (jI (oVar 0) (cI (ay 11)) c9))))) [fq (.lst (ps.map eP)),fI c,fI s,fI x,A4,A5,A6,A7,A8,A9,fq (eP q),none]=.ok (.rt (.l .f,.lst ((Ln k q ps).map eP))):=by
  intro A4 A5 A6 A7 A8 A9 q;rw[ag (env':=[fq (.lst (ps.map eP)),fI c,fI s,fI x,A4,A5,A6,A7,A8,A9,fq (eP q),fI (k:Int)]) (by simp only[pv,↓reduceIte,Nat.reduceAdd,Nat.reduceLT,Nat.reduceLeDiff,Nat.reduceEqDiff,op,aO,hmod,ek])];have z1:=rD ((ps.map eP).take k) [eP q] (by rw[VB,aO,Vf];lia);have z2:=rD ((ps.map eP).take k++[eP q]) ((ps.map eP).drop k) (by rw[iy,VB,Wi,aO,Vf];lia);have z3:(ps.map eP).take k++[eP q]++(ps.map eP).drop k=(Ln k q ps).map eP:=by
   rw[oK];unfold Ln;rw[VH];rfl
  simp only[pv,↓reduceIte,Nat.reduceAdd,Nat.reduceLT,Nat.reduceLeDiff,Nat.reduceEqDiff,op,iS,k4,z1,z2,z3]
 generalize hT:(sSeq (aW 11 (ao dR (oVar 2) (aa (ao bc (aa (aA dS (osCons (oVar 0) osNil))) (aa (av (.int 1)))))))
  (dM (ao bc (aa (ao bc (aa (jI (oVar 0) c9 (cI (ay 11)))) (aa (iG (af (ay 10) aD))))) (aa (jI (oVar 0) (cI (ay 11)) c9)))))=TT at fin ⊢
 have b5:=fU (x / 64) 5 (by decide);have RG:=kZ x 64 (by decide) (by decide);have m5:=jK (x / 64) 5 (by decide);obtain⟨y,ey⟩:=Vk b5.1;have hy:y<5:=by lia
 have q1:∀v:Nat,y≠v->((y:Int)==(v:Int))=false:=fun v h=>by rw[V7];lia
 have q2:∀v:Nat,y=v->((y:Int)==(v:Int))=true:=fun v h=>by rw[h];exact VI _
 have n1:∀l:List Int,l.length<=3->((l.map (·* t)).map D.int).length<=sizeLine:=fun l h=>Tx _ (by rw[aO];exact h)
 have n2:∀a b:List Int,a.length<=3->((vS a b).map D.int).length<=sizeLine:=fun a b h=>Tx _ (by unfold vS;rw[aO,Ws];lia)
 have n3:=n1 _ l1;have n4:=n1 _ l2;have n5:=n2 p.2.1 p2.2.1 l1;have n6:=n2 p.2.2 p2.2.2 l2;have i0:ixD (eP p2) (.int 0)=.ok (.f,.int p2.1):=rfl;have i1:ixD (eP p2) (.int 1)=.ok (.f,.tup (p2.2.1.map D.int)):=rfl;have i2:ixD (eP p2) (.int 2)=.ok (.f,.tup (p2.2.2.map D.int)):=rfl;generalize eP p2=P2 at i0 i1 i2 ⊢;rcases(show y=0\/y=1\/y=2\/y=3\/y=4 by lia) with h|h|h|h|h
 ·have c1:((y:Int)==1)=false:=q1 1 (by lia);have c2:((y:Int)==2)=false:=q1 2 (by lia);have c3:((y:Int)==3)=false:=q1 3 (by lia);have c4:((y:Int)==4)=false:=q1 4 (by lia);refine⟨k,p,iq,?_⟩;simp only[pv,↓reduceIte,Nat.reduceAdd,Nat.reduceLT,Nat.reduceLeDiff,Nat.reduceEqDiff,op,RG,m5,ey,c1,c2,c3,c4,cV];rw[fin];simp only[pv,↓reduceIte,Nat.reduceAdd,Nat.reduceLT,Nat.reduceLeDiff,Nat.reduceEqDiff]
 ·have c1:((y:Int)==1)=true:=q2 1 h;have c2:((y:Int)==2)=false:=q1 2 (by lia);have c3:((y:Int)==3)=false:=q1 3 (by lia);have c4:((y:Int)==4)=false:=q1 4 (by lia);refine⟨k,(p.1+t,p.2),iq.more t Tw,?_⟩;simp only[pv,↓reduceIte,Nat.reduceAdd,Nat.reduceLT,Nat.reduceLeDiff,Nat.reduceEqDiff,op,RG,m5,ey,c1,c2,c3,c4,cV];rw[x6,fin];simp only[pv,↓reduceIte,Nat.reduceAdd,Nat.reduceLT,Nat.reduceLeDiff,Nat.reduceEqDiff]
 ·have c1:((y:Int)==1)=false:=q1 1 (by lia);have c2:((y:Int)==2)=true:=q2 2 h;have c3:((y:Int)==3)=false:=q1 3 (by lia);have c4:((y:Int)==4)=false:=q1 4 (by lia);refine⟨k,_,iq.times t Tw,?_⟩;simp only[pv,↓reduceIte,Nat.reduceAdd,Nat.reduceLT,Nat.reduceLeDiff,Nat.reduceEqDiff,op,RG,m5,ey,c1,c2,c3,c4,cV,x4 _ t Uz,n3,n4,Fq _ t Uz];rw[x6,fin];simp only[pv,↓reduceIte,Nat.reduceAdd,Nat.reduceLT,Nat.reduceLeDiff,Nat.reduceEqDiff]
 ·have c1:((y:Int)==1)=false:=q1 1 (by lia);have c2:((y:Int)==2)=false:=q1 2 (by lia);have c3:((y:Int)==3)=true:=q2 3 h;have c4:((y:Int)==4)=false:=q1 4 (by lia);refine⟨k,_,iq.sum iq2,?_⟩;simp only[pv,↓reduceIte,Nat.reduceAdd,Nat.reduceLT,Nat.reduceLeDiff,Nat.reduceEqDiff,op,RG,m5,ey,c1,c2,c3,c4,cV,i0,i1,i2,gJ,x5,n5,n6];rw[x6,fin];simp only[pv,↓reduceIte,Nat.reduceAdd,Nat.reduceLT,Nat.reduceLeDiff,Nat.reduceEqDiff]
 ·have c1:((y:Int)==1)=false:=q1 1 (by lia);have c2:((y:Int)==2)=false:=q1 2 (by lia);have c3:((y:Int)==3)=false:=q1 3 (by lia);have c4:((y:Int)==4)=true:=q2 4 h;refine⟨k,_,Iq.none pp.1 t Tw,?_⟩;simp only[pv,↓reduceIte,Nat.reduceAdd,Nat.reduceLT,Nat.reduceLeDiff,Nat.reduceEqDiff,op,RG,m5,ey,c1,c2,c3,c4,cV];rw[x6,fin];simp only[pv,↓reduceIte,Nat.reduceAdd,Nat.reduceLT,Nat.reduceLeDiff,Nat.reduceEqDiff]
def cell(ns:List Int)(k:Nat):Int:=ns.getD k 0
theorem iz(ns:List Int)(k:Nat):au [.lst (ns.map D.int),.int (k:Int)]=.ok (.f,.int (cell ns k)):=by
 unfold au fA cell;rw[ba (h:=by rfl)];simp only[pv,seval,op,aO];by_cases h:k<ns.length
 ·have h1:(k:Int)<(ns.length:Int):=by lia
  simp only[h1,Xh,pv,seval,j3 h]
 ·have h1:¬ (k:Int)<(ns.length:Int):=by lia
  simp only[h1,Xi,pv,seval,cV,UU,Wt (Nat.le_of_not_lt h),WK]
theorem F7(t:List Nat):atI [D.str t,D.str [109,111,118,101,115,97]] (if t==[109,111,118,101,115] then 1 else 0)=some (.str (fix t)):=by
 unfold fix mV;cases t==[109,111,118,101,115] with
 |true=>exact PF _ _ _
 |false=>exact Qj _ _
noncomputable def swap(b:List Nat)(t j:Nat)(k:Nat):List Nat:=b.take t++[97+(((j:Int)+(k:Int))%26).toNat]++b.drop (t+1)
theorem lz(b:List Nat)(t j k:Nat)(ht:t<b.length):(swap b t j k).length=b.length:=by
 unfold swap;rw[iy,iy,VB,Wi,Va,We];lia
theorem CC(b:List Nat)(t j:Nat)(ht:t<b.length)(n:Nat)(hn:n<=5):((List.range n).map fun k=>fix (swap b t j k)).Nodup:=by
 refine cH _ n fun i k hi hk e=>?_
 have e2:=B1 (by rw[lz _ _ _ _ ht,lz _ _ _ _ ht]) e;unfold swap at e2;rw[VH,VH]at e2;have e3:=List.append_cancel_left e2;rw[Wj,Wj]at e3;injection e3 with e4 _;lia
theorem CD(MR Ls cnt:Int)(h1:1<=cnt)(h5:cnt<=5):∃l:LNN,l.Nodup/\l.length=cnt.toNat/\cK [.int MR,.int Ls,.int cnt]=.ok (.l .f,.lst (l.map D.str)):=by
 unfold cK ij;rw[ba (h:=by rfl)];have p20:=Gq 20 (by lia);rw[ag (env':=[fI MR,fI Ls,fI cnt,fq (.str Mu),none,none,none,none,none,none,none]) (by simp only[pv,↓reduceIte,Nat.reduceAdd,Nat.reduceLT,Nat.reduceLeDiff,Nat.reduceEqDiff,op];rfl)];rw[ag (env':=[fI MR,fI Ls,fI cnt,fq (.str Mu),fI (MR%10 ^ 20),none,none,none,none,none,none]) (by simp only[pv,↓reduceIte,Nat.reduceAdd,Nat.reduceLT,Nat.reduceLeDiff,Nat.reduceEqDiff,op,show qO (.int 10) (.int 20)=_ from p20,jK MR (10 ^ 20) (by decide)])];generalize MR%10 ^ 20=num;rw[ag (env':=[fI MR,fI Ls,fI cnt,fq (.str Mu),fI num,fq (.str []),none,none,none,none,none]) (by simp only[pv,↓reduceIte,Nat.reduceAdd,Nat.reduceLT,Nat.reduceLeDiff,Nat.reduceEqDiff,op])];have hm8:=fU num 7 (by decide);obtain⟨env',ef,b,t6,hbl,Tz,rfl⟩:=fS (a:=aq 6) (g:=cD) (e:=fun k=>D.int (k:Int)) (1+num%7).toNat (fun i env=>∃b t6,b.length=i/\b.all rh=true/\env=[fI MR,fI Ls,fI cnt,fq (.str Mu),fI num,fq (.str b),t6,none,none,none,none]) (by
  rintro k env hk ⟨b,t6,hb,Tz,rfl⟩;obtain⟨m1,m2⟩:=fU (num / ((k:Int)+1)+3*(k:Int)*(k:Int)) 26 (by decide);refine⟨_,rfl,_,?_,b++[_],fI (k:Int),by rw[iy,hb];rfl,by rw[Y9,Tz,WT,Fp _ m1 m2];rfl,rfl⟩;unfold cD;have hs:=mW k (by lia);simp only[pv,↓reduceIte,Nat.reduceAdd,Nat.reduceLT,Nat.reduceLeDiff,Nat.reduceEqDiff,op,HV b [97+((num / ((k:Int)+1)+3*(k:Int)*(k:Int))%26).toNat] (show b.length+1<=1000 by lia),Fq _ _ hs,kZ num ((k:Int)+1) (by lia) (by lia),jK _ 26 (by decide),y0 _ m1 m2]) _ ⟨[],none,rfl,rfl,rfl⟩
 rw[ag (env':=_) (by
  unfold fC;simp only[pv,↓reduceIte,Nat.reduceAdd,Nat.reduceLT,Nat.reduceLeDiff,Nat.reduceEqDiff,op,jK num 7 (by decide)];rw[U2 (by lia)];simp only[pv,↓reduceIte,Nat.reduceAdd,Nat.reduceLT,Nat.reduceLeDiff,Nat.reduceEqDiff,op];exact ef)]
 unfold dZ;clear ef;have hb1:1<=b.length:=by lia
 have h8:b.length<=8:=by lia
 have hm:=fU Ls (b.length:Int) (by lia);obtain⟨t,et⟩:=Vk hm.1;have ht:t<b.length:=by lia
 have ea:atI b (t:Int)=some b[t]:=di (eT ht);have hc:rh b[t]=true:=Vg.mp Tz _ (VZ ht);rw[ag (env':=[fI MR,fI Ls,fI cnt,fq (.str Mu),fI num,fq (.str b),t6,fI (t:Int),none,none,none]) (by simp only[pv,↓reduceIte,Nat.reduceAdd,Nat.reduceLT,Nat.reduceLeDiff,Nat.reduceEqDiff,op,jK Ls (b.length:Int) (by lia),et])];rw[ag (env':=[fI MR,fI Ls,fI cnt,fq (.str Mu),fI num,fq (.str b),t6,fI (t:Int),fI ((b[t]-97:Nat):Int),none,none]) (by simp only[pv,↓reduceIte,Nat.reduceAdd,Nat.reduceLT,Nat.reduceLeDiff,Nat.reduceEqDiff,op,ea,Fs _ hc])];generalize b[t]-97=j;rw[ag (env':=[fI MR,fI Ls,fI cnt,fq (.str Mu),fI num,fq (.str b),t6,fI (t:Int),fI (j:Int),fL [],none]) (by simp only[pv,↓reduceIte,Nat.reduceAdd,Nat.reduceLT,Nat.reduceLeDiff,Nat.reduceEqDiff,op])];obtain⟨env',ef,t6',KL,rfl⟩:=fS (a:=aq 6) (g:=cC) (e:=fun k=>D.int (k:Int)) cnt.toNat (fun i env=>∃t6 KL,env=[fI MR,fI Ls,fI cnt,fq (.str Mu),fI num,fq (.str b),t6,fI (t:Int),fI (j:Int),fL ((((List.range i).map fun k=>fix (swap b t j k)).map D.str)),KL]) (by
  rintro k env hk ⟨t6,KL,rfl⟩;refine⟨_,rfl,_,?_,fI (k:Int),fq (.str (swap b t j k)),rfl⟩;obtain⟨m1,m2⟩:=fU ((j:Int)+(k:Int)) 26 (by decide);have hsl:=lz b t j k ht;have z1:=HV (b.take t) [97+(((j:Int)+(k:Int))%26).toNat] (by rw[VB,Va,We];lia);have z2:=HV (b.take t++[97+(((j:Int)+(k:Int))%26).toNat]) (b.drop (t+1)) (by rw[<-iy];show(swap b t j k).length<=_;lia);have z3:(((List.range k).map fun k=>fix (swap b t j k)).map D.str).length<sizeLine:=Vb (WM _) (line_le (by rw[aO,aO,Vl];lia));have c1:iH b (some ((t:Int)+1)) none=b.drop (t+1):=k4 b (t+1);have hs:b.take t++[97+(((j:Int)+(k:Int))%26).toNat]++b.drop (t+1)=swap b t j k:=rfl;rw[List.range_succ,Vh (l₁:=List.range k),cW,VT];unfold cC;simp only[pv,↓reduceIte,Nat.reduceAdd,Nat.reduceLT,Nat.reduceLeDiff,Nat.reduceEqDiff,op,z1,jK _ 26 (by decide),iS,c1,y0 _ m1 m2,z2,hs,F7,z3,Vh,cW,VT]) _ ⟨t6,none,rfl⟩
 rw[List.range_zero,VT,VT]at ef;rw[ag (env':=_) (by
  unfold fB;simp only[pv,↓reduceIte,Nat.reduceAdd,Nat.reduceLT,Nat.reduceLeDiff,Nat.reduceEqDiff,op];rw[U2 (by lia)];simp only[pv,↓reduceIte,Nat.reduceAdd,Nat.reduceLT,Nat.reduceLeDiff,Nat.reduceEqDiff,op];exact ef)]
 unfold dY;have nd:=CC b t j ht cnt.toNat (by lia)
 have hl:((List.range cnt.toNat).map fun k=>fix (swap b t j k)).length=cnt.toNat:=by rw[aO,Vl]
 refine⟨a8 OE ((List.range cnt.toNat).map fun k=>fix (swap b t j k)),(de _ _).nodup_iff.mpr nd,by rw[d8,hl],?_⟩;simp only[pv,↓reduceIte,Nat.reduceAdd,Nat.reduceLT,Nat.reduceLeDiff,Nat.reduceEqDiff,op,B0 _ (show((List.range cnt.toNat).map fun k=>fix (swap b t j k)).length<64 by lia)]
theorem Gv(x y:Int)(h:cA x=true):g7 (.int x) (.int y)=.ok (.f,.int (x*y)):=by rw[uJ,uI,h,Bool.true_or,U2 rfl]
theorem nF(l:List Int)(t:Int)(h:∀x∈l,cA x=true):b7 (aq 0) fO (ao g7 (oVar 0) (oVar 1)) (l.map D.int) [none,fI t]=.ok ((l.map (·* t)).map D.int):=by
 rw[Vy];refine bH (fun env=>∃u,env=[u,fI t]) _ ?_ _ ⟨_,rfl⟩;rintro x hx env ⟨u,rfl⟩;refine⟨[fI x,fI t],by simp only[pv,seval],?_⟩;simp only[pv,seval,op,Gv x t (h x hx)];exact⟨_,_,rfl,_,rfl⟩
def UA(xs:List Int):Prop:=∀x∈xs,cA x=true
theorem Ii(ns:List Int)(cnt:Nat)(hc:cnt<=3)(A3 A5 t7 t8 t9:Option R)(kk:Nat)(hk:kk<=1000)(num:Int):
  ∃(Lf:Int) (xs:List Int) (u7:Option R),UA xs/\xs.length=2*cnt+1/\cE [fq (.lst (ns.map D.int)),fI (cnt:Int),fI num,A3,fI (kk:Int),A5,fL [],t7,t8,t9]=.ok (.nx [fq (.lst (ns.map D.int)),fI (cnt:Int),fI Lf,A3,fI (kk:Int),A5,fL (xs.map D.int),u7,t8,t9]):=by
 obtain⟨env',ef,Lf,xs,u7,h1,h2,rfl⟩:=fS (a:=aq 7) (g:=cc) (e:=fun k=>D.int (k:Int)) (2*cnt+1) (fun i env=>∃(Lf:Int) (xs:List Int) (u7:Option R),UA xs/\xs.length=i/\env=[fq (.lst (ns.map D.int)),fI (cnt:Int),fI Lf,A3,fI (kk:Int),A5,fL (xs.map D.int),u7,t8,t9]) (by
  rintro k env hk ⟨num,xs,u7,h1,h2,rfl⟩;refine⟨_,rfl,_,?_,(num*48271+(k:Int)*(k:Int)+(kk:Int))%2147483647,xs++[(num*48271+(k:Int)*(k:Int)+(kk:Int))%2147483647 / 7%4],fI (k:Int),?_,by rw[iy,h2];rfl,rfl⟩
  ·have hz:(xs.map D.int).length<sizeLine:=oF (by rw[aO];lia);unfold cc;rw[Vh,cW,VT];rw[ag (env':=[fq (.lst (ns.map D.int)),fI (cnt:Int),fI (((num*48271+(k:Int)*(k:Int)+(kk:Int))%2147483647)),A3,fI (kk:Int),A5,fL (xs.map D.int),fI (k:Int),t8,t9]) (by simp only[pv,seval,op,Fq num 48271 (by decide),Fq (k:Int) (k:Int) (mW k (by lia)),jK _ 2147483647 (by decide)])];generalize (num*48271+(k:Int)*(k:Int)+(kk:Int))%2147483647=w;simp only[pv,seval,op,kZ w 7 (by decide) (by decide),jK _ 4 (by decide),hz]
  ·intro x hx;rcases oE hx with hx|hx
   ·exact h1 x hx
   ·rw[iw hx];have:=fU ((num*48271+(k:Int)*(k:Int)+(kk:Int))%2147483647 / 7) 4 (by decide);unfold cA;rw[Vc];lia) _ ⟨num,[],t7,(fun _ h=>nomatch h),rfl,rfl⟩
 refine⟨Lf,xs,u7,h1,h2,?_⟩;unfold cE;have Sg:g7 (.int 2) (.int (cnt:Int))=.ok (.f,.int (2*(cnt:Int))):=Gv 2 _ (by decide);simp only[pv,seval,op,Sg];rw[U2 (by lia),show(2*(cnt:Int)+1).toNat=2*cnt+1 by lia];simp only[pv,seval,op];exact ef
theorem JH(ns:List Int)(cnt:Nat)(hc:cnt<=3)(qs:List Pl)(hq:qs.length<=10)(hp:∀q∈qs,Lb q cnt)(kk:Nat)(hk:kk<=10)(num:Int)(t5 t6 t7 t8 t9:Option R):
  ∃(Lf:Int) (q:Pl) (u5 u6 u7 u8 u9:Option R),Lb q cnt/\bG [fq (.lst (ns.map D.int)),fI (cnt:Int),fI num,fL (qs.map eP),fI (kk:Int),t5,t6,t7,t8,t9]=.ok (.nx [fq (.lst (ns.map D.int)),fI (cnt:Int),fI Lf,fL ((qs++[q]).map eP),fI (kk:Int),u5,u6,u7,u8,u9]):=by
 have p40:=Gq 40 (by lia);have Ku:=iz ns (4+kk);have ec:(((4+kk:Nat):Int))=4+(kk:Int):=by lia
 rw[ec]at Ku;unfold bG;obtain⟨t,et⟩:∃t:Int,t=1+cell ns (4+kk)%10 ^ 40:=⟨_,rfl⟩
 have ht:0<t:=by
  have:=(fU (cell ns (4+kk)) (10 ^ 40) (by decide)).1;rw[et];generalize cell ns (4+kk)%10 ^ 40=z at this ⊢;lia
 rw[ag (env':=[fq (.lst (ns.map D.int)),fI (cnt:Int),fI num,fL (qs.map eP),fI (kk:Int),fI t,t6,t7,t8,t9]) (by
  simp only[pv,↓reduceIte,Nat.reduceAdd,Nat.reduceLT,Nat.reduceLeDiff,Nat.reduceEqDiff,op,Ku,show qO (.int 10) (.int 40)=_ from p40,jK _ (10 ^ 40) (by decide),et])]
 rw[ag (env':=[fq (.lst (ns.map D.int)),fI (cnt:Int),fI num,fL (qs.map eP),fI (kk:Int),fI t,fL [],t7,t8,t9]) (by simp only[pv,↓reduceIte,Nat.reduceAdd,Nat.reduceLT,Nat.reduceLeDiff,Nat.reduceEqDiff,op])];obtain⟨Lf,xs,u7,h1,h2,e⟩:=Ii ns cnt hc (fL (qs.map eP)) (fI t) t7 t8 t9 kk (by lia) num;rw[ag e];clear e;unfold dI;have Sg:g7 (.int 2) (.int (cnt:Int))=.ok (.f,.int (2*(cnt:Int))):=Gv 2 _ (by decide);have c1:iH (xs.map D.int) none (some (cnt:Int))=(xs.take cnt).map D.int:=by rw[iS,YD]
 have c2:iH (xs.map D.int) (some (cnt:Int)) (some (2*(cnt:Int)))=((xs.drop cnt).take cnt).map D.int:=by
  have:=B2 (xs.map D.int) cnt (2*cnt) (by lia) (by rw[aO];lia);rw[show((2*cnt:Nat):Int)=2*(cnt:Int) by lia,show 2*cnt-cnt=cnt by lia]at this;rw[this,YD,ZL]
 have m1:=nF (xs.take cnt) t fun x hx=>h1 x (XW hx)
 have m2:=nF ((xs.drop cnt).take cnt) t fun x hx=>h1 x (Zi (XW hx))
 have l1:(xs.take cnt).length=cnt:=by rw[VB];lia
 have l2:((xs.drop cnt).take cnt).length=cnt:=by rw[VB,Wi];lia
 have f1:(((xs.take cnt).map (·* t)).map D.int).length<=sizeLine:=line_le (by rw[aO,aO];lia);have f2:((((xs.drop cnt).take cnt).map (·* t)).map D.int).length<=sizeLine:=line_le (by rw[aO,aO];lia);have a1:atI (xs.map D.int) (2*(cnt:Int))=some (.int (xs.getD (2*cnt) 0)):=by
  have:=j3 (l:=xs) (k:=2*cnt) (by lia);rw[show((2*cnt:Nat):Int)=2*(cnt:Int) by lia]at this;exact this
 have hs:cA (xs.getD (2*cnt) 0)=true:=by
  rw[UU,eT (by lia)];exact h1 _ (VZ _)
 have hz:(qs.map eP).length<sizeLine:=oF (by rw[aO];lia);generalize xs.getD (2*cnt) 0=b at a1 hs;generalize xs.take cnt=tk at c1 m1 l1 f1;generalize (xs.drop cnt).take cnt=gv at c2 m2 l2 f2;refine⟨Lf,(b*t+Lf / 28%t,tk.map (·* t),gv.map (·* t)),fI t,fL (xs.map D.int),u7,fq (.tup ((tk.map (·* t)).map D.int)),fq (.tup ((gv.map (·* t)).map D.int)),⟨by rw[aO];exact l1,by rw[aO];exact l2⟩,?_⟩;rw[ag (env':=[fq (.lst (ns.map D.int)),fI (cnt:Int),fI Lf,fL (qs.map eP),fI (kk:Int),fI t,fL (xs.map D.int),u7,fq (.tup ((tk.map (·* t)).map D.int)),t9]) (by simp only[pv,↓reduceIte,Nat.reduceAdd,Nat.reduceLT,Nat.reduceLeDiff,Nat.reduceEqDiff,op,c1,m1,f1])];rw[ag (env':=[fq (.lst (ns.map D.int)),fI (cnt:Int),fI Lf,fL (qs.map eP),fI (kk:Int),fI t,fL (xs.map D.int),u7,fq (.tup ((tk.map (·* t)).map D.int)),fq (.tup ((gv.map (·* t)).map D.int))]) (by simp only[pv,↓reduceIte,Nat.reduceAdd,Nat.reduceLT,Nat.reduceLeDiff,Nat.reduceEqDiff,op,Sg,c2,m2,f2])];rw[Vh,cW,VT];simp only[pv,↓reduceIte,Nat.reduceAdd,Nat.reduceLT,Nat.reduceLeDiff,Nat.reduceEqDiff,op,Sg,a1,Gv b t hs,kZ Lf 28 (by decide) (by decide),jK _ t ht,hz];rfl
theorem x9(ns:List Int)(cnt:Nat)(hc:cnt<=3):∃ps:List Pl,ps≠[]/\ps.length<=3/\(∀p∈ps,Lb p cnt)/\cn [.lst (ns.map D.int),.int (cnt:Int)]=.ok (.l .f,.lst (ps.map eP)):=by
 unfold cn gD;rw[ba (h:=by rfl)];have Ng:=iz ns 2;have hc3:=iz ns 3;rw[ag (env':=[fq (.lst (ns.map D.int)),fI (cnt:Int),fI (cell ns 2%2147483629+1),none,none,none,none,none,none,none]) (by
  simp only[pv,seval,op,show au [.lst (ns.map D.int),.int 2]=_ from Ng,jK _ 2147483629 (by decide)])]
 rw[ag (env':=[fq (.lst (ns.map D.int)),fI (cnt:Int),fI (cell ns 2%2147483629+1),fL [],none,none,none,none,none,none]) (by simp only[pv,seval,op])];have b3:=fU (cell ns 3) 3 (by decide);obtain⟨env',ef,num,qs,t4,t5,t6,t7,t8,t9,h1,h2,rfl⟩:=fS (a:=aq 4) (g:=bG) (e:=fun k=>D.int (k:Int)) (1+cell ns 3%3).toNat (fun i env=>∃(num:Int) (qs:List Pl) (t4 t5 t6 t7 t8 t9:Option R),qs.length=i/\(∀q∈qs,Lb q cnt)/\env=[fq (.lst (ns.map D.int)),fI (cnt:Int),fI num,fL (qs.map eP),t4,t5,t6,t7,t8,t9]) (by
  rintro k env hk ⟨num,qs,t4,t5,t6,t7,t8,t9,h1,h2,rfl⟩;obtain⟨Lf,q,u5,u6,u7,u8,u9,hq,e⟩:=JH ns cnt hc qs (by lia) h2 k (by lia) num t5 t6 t7 t8 t9;refine⟨_,rfl,_,e,Lf,qs++[q],fI (k:Int),u5,u6,u7,u8,u9,by rw[iy,h1];rfl,fun z hz=>?_,rfl⟩;rcases oE hz with hz|hz
  ·exact h2 z hz
  ·rw[iw hz];exact hq) _ ⟨_,[],none,none,none,none,none,none,rfl,(fun _ h=>nomatch h),rfl⟩
 refine⟨qs,fun z=>?_,by lia,h2,?_⟩
 ·rw[z]at h1;rw[We]at h1;lia
 rw[ag (env':=_) (by
  unfold d4;simp only[pv,seval,op,show au [.lst (ns.map D.int),.int 3]=_ from hc3,jK _ 3 (by decide)];rw[U2 (by lia)];simp only[pv,seval,op];exact ef)]
 unfold dJ;simp only[pv,seval,op]
theorem CF(nY:LNN)(hn:nY.length<=3)(A:List ArK)(hA:A.length<=60)(hk:∀a∈A,a.2.1<nY.length):cN [.lst (nY.map D.str),.lst (A.map eK)]=.ok (.f,JY nY (a8 bB (A.map (Na nY)))):=by
 have hc:b7 (gT 3 (ax (aq 0) (ax (aq 1) (ax (aq 2) b6)))) fO (cU (af (ay 0) (af (ao ixD (oVar 3) (oVar 1)) (af (ay 2) aD)))) (A.map eK) [none,none,none,fq (.lst (nY.map D.str))]=.ok ((A.map (Na nY)).map eA):=by
  rw[Vy];refine bH (fun env=>∃t u w,env=[t,u,w,fq (.lst (nY.map D.str))]) _ ?_ _ ⟨_,_,_,rfl⟩;rintro⟨a,k,b⟩ ha env ⟨t,u,w,rfl⟩;have hi:atI (nY.map D.str) (k:Int)=some (.str (nY.getD k [])):=by
   rw[yZ (hk _ ha),UU,eT (hk _ ha)];rfl
  refine⟨[fI a,fI (k:Int),fI b,fq (.lst (nY.map D.str))],by unfold eK;simp only[pv,seval],?_⟩;simp only[pv,seval,op,hi];exact⟨_,_,rfl,_,_,_,rfl⟩
 have hl:(nY.map D.str).length<=sizeLine:=line_le (by rw[aO];lia);have hs:=uR (A.map (Na nY)) (by rw[aO];lia);have L3:((A.map (Na nY)).map eA).length<=sizeLine:=line_le (by rw[aO,aO];lia);have hf:flatDs ((A.map (Na nY)).map eA)=true:=by
  rw[bz,V4,Vg];exact fun _ _=>rfl
 unfold cN iu JY;rw[ba (h:=by rfl)];simp only[pv,seval,op,hl,hc,hs,L3,hf]
inductive Rb(am:List J0):Nat->Int->Prop
 |z:Rb am 0 0
 |s {n:Nat}{x y:Int}{mv:List Nat}:Rb am n x->((x,mv,y):J0)∈am->Rb am (n+1) y
theorem F8{p:Nat->Prop}:∀n,p n->∃m,p m/\∀k,k<m->¬ p k:=fun n=>by
 induction n using Nat.strongRecOn with
 |_ n ih=>
  intro h;by_cases hk:∃k,k<n/\p k
  ·obtain⟨k,h1,h2⟩:=hk;exact ih k h1 h2
  ·exact⟨n,h,fun k h1 h2=>hk ⟨k,h1,h2⟩⟩
noncomputable def rE(am:List J0)(j:Nat):Nat:=@dite Nat (∃m,Rb am m (j:Int)/\∀k,k<m->¬ Rb am k (j:Int)) (Classical.propDecidable _) (fun h=>Classical.choose h) fun _=>0
theorem vJ{n:Nat}(h:Rb am n (j:Int)):Rb am (rE am j) (j:Int)/\∀k,k<rE am j->¬ Rb am k (j:Int):=by
 have hx:=F8 (p:=fun m=>Rb am m (j:Int)) n h;unfold rE;rw[dif_pos hx];exact XN hx
theorem F9(hb:∀a∈am,0<=a.1/\0<=a.2.2):∀{n:Nat}{s:Int},Rb am n s->0<=s
 |_,_,.z=>Zu _
 |_,_,.s _ h=>(hb _ h).2
theorem Ij(mm:1<=mZ/\mZ<=12)(len:am.length<=60)(bd:∀a∈am,(0<=a.1/\a.1<(mZ:Int))/\0<=a.2.2/\a.2.2<(mZ:Int))(nm:∀a∈am,a.2.1∈nY)(rb:∀j:Nat,j<mZ->∃n,Rb am n (j:Int)):Ra nY am mZ:=by
 refine⟨mm,len,bd,nm,rE am,fun j h1 h2=>?_⟩;obtain⟨n,hn⟩:=rb j h2;obtain⟨h3,h4⟩:=vJ hn;generalize hr:rE am j=r at h3 h4;generalize hj:(j:Int)=s at h3;cases h3 with
 |z=>lia
 | @s m x _ mv hx ha=>
  have b:=(bd _ ha).1;obtain⟨i,rfl⟩:=Vk b.1;refine⟨_,ha,rfl,i,?_,rfl⟩;obtain⟨h5,h6⟩:=vJ hx;rcases Y6 m (rE am i) with h|h
  ·exact absurd hx (h6 m h)
  ·lia
theorem Ga(r:Ra nY am mZ):∀j:Nat,j<mZ->∃n,Rb am n (j:Int):=by
 obtain⟨f,hf⟩:=r.rc;have key:∀(m j:Nat),f j=m->j<mZ->∃n,Rb am n (j:Int):=fun m=>by
  induction m using Nat.strongRecOn with
  |_ m ih=>
   intro j e hj;by_cases h0:j=0
   ·subst h0;exact⟨0,.z⟩
   obtain⟨⟨x,mv,y⟩,ha,h1,b,h2,h3⟩:=hf j (by lia) hj;dsimp only at h1 h3;subst h1 h3;have hb:=(r.bd _ ha).1.2;dsimp only at hb;obtain⟨n,hn⟩:=ih (f b) (by lia) b rfl (by lia);exact⟨n+1,.s hn ha⟩
 exact fun j hj=>key _ j rfl hj
section
variable{S:List (List Int)}{JS C:List J0}
theorem lA(o:Or nY ps S am)(o':Or nY ps S' JS)(h1:∀a∈C,a∈am)(h2:∀a∈C,a∈JS):∀{n:Nat}{s:Int},Rb C n s->∃(i:Nat) (u:List Int),s=(i:Int)/\S[i]?=some u/\S'[i]?=some u
 |_,_,.z=>⟨0,_,rfl,o.z,o'.z⟩
 |_,_,.s hx ha=>by
  obtain⟨i,u,e,hu,NH⟩:=lA o o' h1 h2 hx;obtain⟨a,b,ea,eb,x,y,UB,hy1,hf⟩:=o.ab _ _ _ (h1 _ ha);obtain⟨a',b',ea',eb',x',y',Ni,TB,R9⟩:=o'.ab _ _ _ (h2 _ ha);have:a=i:=by lia
  subst this;have:a'=a:=by lia
  subst this;have:b'=b:=by lia
  subst this;rw[hu]at UB;rw[NH]at Ni;cases UB;cases Ni;rw[hf]at R9;cases R9;exact⟨b',y,eb,hy1,TB⟩
theorem zt{S:List (List Int)}(nd:S.Nodup){x:List Int}(hi:S[i]?=some x)(hj:S[j]?=some x):i=j:=by
 obtain⟨l1,h1⟩:=kY hi;obtain⟨l2,h2⟩:=kY hj;have pw:=WV.mp nd;rcases Yx i j with hl|hl|hl
 ·exact absurd (h1.trans h2.symm) (pw _ _ l1 l2 hl)
 ·exact hl
 ·exact absurd (h2.trans h1.symm) (pw _ _ l2 l1 hl)
theorem CG(o:Or nY ps S am)(o':Or nY ps S' JS)(nm:∀a∈am,a.2.1∈nY)(sub:∀a∈JS,a∈am)(ha:a∈am)(hn:a∉JS){n:Nat}(rb:Rb JS n a.1):False:=by
 obtain⟨x,mv,y⟩:=a;obtain⟨i,u,e,hu,NH⟩:=lA o o' sub (fun _ h=>h) rb;obtain⟨p,q,ep,eq,u1,v1,h1,h2,hf⟩:=o.ab _ _ _ ha;dsimp only at e;have:p=i:=by lia
 subst this;rw[hu]at h1;cases h1;obtain⟨k,hk⟩:=o'.fu p mv u v1 (nm _ ha) NH hf;obtain⟨p2,q2,RW,eq2,u2,v2,h3,h4,Nd⟩:=o.ab _ _ _ (sub _ hk);have:p2=p:=by lia
 subst this;rw[hu]at h3;cases h3;rw[hf]at Nd;cases Nd;have:=zt o.nd h2 h4;subst this;exact hn (by rw[eq,<-eq2,e];exact hk)
theorem CI(o:Or nY ps S am)(o':Or nY ps S' JS)(sub:∀a∈am,a∈JS)(ha:a∈JS)(hm:a.2.1∈nY)(hn:a∉am){n m:Nat}(rb:Rb am n a.1)(rb2:Rb am m a.2.2):False:=by
 obtain⟨x,mv,y⟩:=a;obtain⟨i,u,e,hu,NH⟩:=lA o o' (fun _ h=>h) sub rb;obtain⟨j,w,e2,hw,hw'⟩:=lA o o' (fun _ h=>h) sub rb2;obtain⟨p,q,ep,eq,u1,v1,h1,h2,hf⟩:=o'.ab _ _ _ ha;dsimp only at e e2 hm;have:p=i:=by lia
 subst this;have:q=j:=by lia
 subst this;rw[NH]at h1;cases h1;rw[hw']at h2;cases h2;obtain⟨k,hk⟩:=o.fu p mv u w hm hu hf;obtain⟨p2,q2,RW,eq2,u2,v2,h3,h4,Nd⟩:=o.ab _ _ _ hk;have:p2=p:=by lia
 subst this;rw[hu]at h3;cases h3;rw[hf]at Nd;cases Nd;have:=zt o.nd hw h4;subst this;exact hn (by rw[e,e2,<-eq2];exact hk)
end
theorem eqD_I(a b:Int):eqD (.int a) (.int b)=decide (a=b):=by
 rw[eqD,Vr];simp
theorem lB(l:List Int):plainDs 40 (l.map D.int)=true:=eS 40 l
theorem IS(T:List Int)(x:Int):rJ (.int x) (.lst (T.map D.int))=.ok (.f,.bl (!decide (x∈T))):=IP (e:=D.int) eqD_I lB (fun _=>rfl) T x
theorem inI(T:List Int)(x:Int):inP (.int x) (.lst (T.map D.int))=.ok (.f,.bl (decide (x∈T))):=by
 have e1:rH (.int x) (T.map D.int)=decide (x∈T):=by
  have:=IS T x;unfold rJ Bb Nj at this;dsimp only at this;rw[lB,show plainD 40 (D.int x)=true from rfl]at this;simp only[VW,Xd,Res.bind,Res.ok.injEq,YF,true_and,D.bl.injEq]at this;cases h:rH (.int x) (T.map D.int) <;> cases h2:decide (x∈T) <;> rw[h,h2]at this <;> first|rfl|cases this
 unfold inP;dsimp only;unfold Nj;dsimp only;rw[lB,show plainD 40 (D.int x)=true from rfl,e1];rfl
theorem neA(a b:J0):neO (eA a) (eA b)=.ok (.f,.bl (!decide (a=b))):=by
 unfold neO;rw[show plainD 40 (eA a)=true from rfl,show plainD 40 (eA b)=true from rfl,HX];rfl
def vT(am:List J0):List Int:=0::am.map iL
theorem zu(h:l≠[]):PV.maxD [.lst (l.map D.int)]=.ok (.f,.int (lV l)):=by
 unfold PV.maxD;cases l with
 |nil=>exact absurd rfl h
 |cons a l=>
  have:=y6 (a::l);dsimp only;rw[this]
theorem qy(am:List J0):b7 (gT 3 (ax (aq 0) (ax (aq 1) (ax (aq 2) b6)))) fO (aA PV.maxD (osCons (oVar 0) (osCons (oVar 2) osNil))) (am.map eA) [none,none,none]=.ok ((am.map iL).map D.int):=by
 rw[Vy];refine bH (fun env=>∃t u w,env=[t,u,w]) _ ?_ _ ⟨_,_,_,rfl⟩;rintro a _ env ⟨t,u,w,rfl⟩;refine⟨_,dA a t u w _,?_⟩;simp only[pv,seval,op];exact⟨_,_,rfl,_,_,_,rfl⟩
noncomputable def oU(A:J0)(am:List J0):List J0:=am.filter fun a=>!decide (a=A)
theorem comp_out(A:J0)(am:List J0):b7 (aq 0) (eBl (aT neO (oVar 0) (oVar 1))) (ay 0) (am.map eA) [none,fq (eA A)]=.ok ((oU A am).map eA):=by
 unfold oU;rw[iR (p:=fun a:J0=>!decide (a=A)) (r:=fun a:J0=>eA a) (fun env=>∃t,env=[t,fq (eA A)]) am ?_ _ ⟨_,rfl⟩];rintro a _ env ⟨t,rfl⟩;have h:=neA a A;refine⟨[fq (eA a),fq (eA A)],by simp only[pv,seval],?_⟩;generalize eA A=DA at h ⊢;generalize eA a=Da at h ⊢;refine⟨_,by simp only[pv,seval,op,h];rfl,?_⟩;split
 ·exact⟨_,_,by simp only[pv,seval];rfl,_,rfl⟩
 ·exact⟨_,rfl⟩
noncomputable def LV(am:List J0)(T:List Int):List Int:=(am.filter fun a=>decide (a.1∈T)).map (·.2.2)
def Ql(am:List J0)(T:List Int):List Int:=T++(LV am T).filter fun y=>!decide (y∈T)
theorem ya(am:List J0)(T:List Int):b7 (gT 3 (ax (aq 0) (ax (aq 1) (ax (aq 2) b6)))) (eBl (aT inP (oVar 0) (oVar 3))) (ay 2) (am.map eA) [none,none,none,fq (.lst (T.map D.int))]=.ok ((LV am T).map D.int):=by
 unfold LV;rw[iR (p:=fun a:J0=>decide (a.1∈T)) (r:=fun a:J0=>D.int a.2.2) (fun env=>∃t u w,env=[t,u,w,fq (.lst (T.map D.int))]) am ?_ _ ⟨_,_,_,rfl⟩,Vy]
 ·rfl
 rintro a _ env ⟨t,u,w,rfl⟩;have h:=inI T a.1;refine⟨_,dA a t u w _,?_⟩;generalize T.map D.int=DT at h ⊢;refine⟨_,by simp only[pv,seval,op,h];rfl,?_⟩;split
 ·exact⟨_,_,by simp only[pv,seval];rfl,_,_,_,rfl⟩
 ·exact⟨_,_,_,rfl⟩
theorem yb(M T:List Int):b7 (aq 0) (eBl (aT rJ (oVar 0) (oVar 1))) (ay 0) (M.map D.int) [none,fq (.lst (T.map D.int))]=.ok ((M.filter fun y=>!decide (y∈T)).map D.int):=by
 rw[iR (p:=fun y:Int=>!decide (y∈T)) (r:=fun y:Int=>D.int y) (fun env=>∃t,env=[t,fq (.lst (T.map D.int))]) M ?_ _ ⟨_,rfl⟩];rintro a _ env ⟨t,rfl⟩;have h:=IS T a;refine⟨[fI a,fq (.lst (T.map D.int))],by simp only[pv,seval],?_⟩;generalize T.map D.int=DT at h ⊢;refine⟨_,by simp only[pv,seval,op,h];rfl,?_⟩;split
 ·exact⟨_,_,by simp only[pv,seval];rfl,_,rfl⟩
 ·exact⟨_,rfl⟩
theorem vK(am:List J0)(T:List Int):(LV am T).length<=am.length/\(Ql am T).length<=T.length+am.length:=by
 have h1:(LV am T).length<=am.length:=by
  unfold LV;rw[aO];exact Wa _ _
 refine⟨h1,?_⟩;unfold Ql;rw[iy];have:=Wa (fun y=>!decide (y∈T)) (LV am T);lia
theorem Gb(A0 A1 A2 A3 A4:Option R)(am:List J0)(hl:am.length<=60)(T:List Int)(hT:T.length<=900)(t7 t8 t9:Option R):
  ∃u8,bD [A0,A1,A2,A3,A4,fL (am.map eA),fL (T.map D.int),t7,t8,t9]=.ok (.nx [A0,A1,A2,A3,A4,fL (am.map eA),fL ((Ql am T).map D.int),t7,u8,t9]):=by
 have h1:=ya am T;have h2:=yb (LV am T) T;have hb:=vK am T;have f1:((LV am T).map D.int).length<=sizeLine:=line_le (by rw[aO];lia);have f2:(((LV am T).filter fun y=>!decide (y∈T)).map D.int).length<=sizeLine:=line_le (by
  rw[aO];have:=Wa (fun y=>!decide (y∈T)) (LV am T);lia)
 have f3:=PV.flat_ints (LV am T);have f4:=PV.flat_ints ((LV am T).filter fun y=>!decide (y∈T));refine⟨fL ((LV am T).map D.int),?_⟩;unfold bD;rw[ag (env':=[A0,A1,A2,A3,A4,fL (am.map eA),fL (T.map D.int),t7,fL ((LV am T).map D.int),t9]) (by simp only[pv,seval,op,h1,f1,f3])];have h3:=rD (T.map D.int) (((LV am T).filter fun y=>!decide (y∈T)).map D.int) (by
  rw[aO,aO];have:=Wa (fun y=>!decide (y∈T)) (LV am T);lia)
 unfold Ql;rw[Vh];simp only[pv,seval,op,h2,f2,f4,h3]
theorem Ge{T:List Int}(h:∀s∈T,∃n,Rb am n s):∀s∈Ql am T,∃n,Rb am n s:=by
 intro s hs;rcases oE hs with hs|hs
 ·exact h s hs
 ·have h2:=(VP.mp hs).1;unfold LV at h2;rw[WA]at h2;obtain⟨⟨x,mv,y⟩,ha,e⟩:=h2;dsimp only at e;subst e;have h3:=VP.mp ha;obtain⟨n,hn⟩:=h x (VL h3.2);exact⟨n+1,.s hn h3.1⟩
theorem vL(A0 A1 A2 A3 A4:Option R)(am:List J0)(hl:am.length<=60)(n:Nat)(hn:n<=12)(t7 t8 t9:Option R):
  ∃(T:List Int) (u7 u8:Option R),T.length<=900/\(∀s∈T,∃n,Rb am n s)/\cQ (aq 7) bD ((List.range n).map fun(k:Nat)=>D.int (k:Int)) [A0,A1,A2,A3,A4,fL (am.map eA),fL [.int 0],t7,t8,t9]=.ok (.nx [A0,A1,A2,A3,A4,fL (am.map eA),fL (T.map D.int),u7,u8,t9]):=by
 obtain⟨env',ef,T,u7,u8,h1,h2,rfl⟩:=fS (a:=aq 7) (g:=bD) (e:=fun k=>D.int (k:Int)) n (fun i env=>∃(T:List Int) (u7 u8:Option R),T.length<=1+60*i/\(∀s∈T,∃n,Rb am n s)/\env=[A0,A1,A2,A3,A4,fL (am.map eA),fL (T.map D.int),u7,u8,t9]) (by
  rintro k env hk ⟨T,u7,u8,h1,h2,rfl⟩;obtain⟨w8,e⟩:=Gb A0 A1 A2 A3 A4 am hl T (by lia) (fI (k:Int)) u8 t9;exact⟨_,rfl,_,e,Ql am T,_,w8,by have:=(vK am T).2;lia,Ge h2,rfl⟩) _ ⟨[0],t7,t8,U3 _,(fun s hs=>by rw[iw hs];exact⟨0,.z⟩),rfl⟩
 exact⟨T,u7,u8,by lia,h2,ef⟩
theorem ded(l:List Int):∀σ:List Int,σ.Nodup->(l.foldl PyProof.Rows.step_dedup σ).Nodup/\∀x,x∈l.foldl PyProof.Rows.step_dedup σ<->x∈σ\/x∈l:=by
 induction l with
 |nil=>exact fun σ h=>⟨h,fun x=>⟨.inl,fun z=>z.elim id fun z=>nomatch z⟩⟩
 |cons v l ih=>
  intro σ h;rw[Xe];by_cases hv:v∈σ
  ·have e:PyProof.Rows.step_dedup σ v=σ:=by
    unfold PyProof.Rows.step_dedup;rw[U2 (show(σ.any fun x=>x==v)=true from V0.mpr ⟨v,hv,VI v⟩)]
   rw[e];refine⟨(ih σ h).1,fun x=>((ih σ h).2 x).trans ⟨fun z=>z.imp id fun z=>US _ z,fun z=>z.elim .inl fun z=>(U5.mp z).elim (fun z=>.inl (z▸hv)) .inr⟩⟩
  ·have e:PyProof.Rows.step_dedup σ v=σ++[v]:=by
    unfold PyProof.Rows.step_dedup;rw[U6 (fun z=>by obtain⟨w,h1,h2⟩:=V0.mp z;rw[Vz.mp h2]at h1;exact hv h1)]
   have nd:(σ++[v]).Nodup:=by
    rw[Vp];exact⟨h,Vt.mpr ⟨VR,V1⟩,fun a ha b hb=>by rw[iw hb];exact fun z=>hv (z▸ha)⟩
   rw[e];refine⟨(ih _ nd).1,fun x=>((ih _ nd).2 x).trans ?_⟩;rw[Vs,Vi,U5,or_assoc]
theorem Gf{m:Nat}(nd:l.Nodup)(hb:∀x∈l,0<=x/\x<(m:Int))(hl:l.length=m)(j:Nat)(hj:j<m):(j:Int)∈l:=by
 by_cases h:(j:Int)∈l
 ·exact h
 ·have:=iT m (l:=(j:Int)::l) (Vt.mpr ⟨h,nd⟩) fun x hx=>by
   rcases U5.mp hx with rfl|hx
   ·lia
   ·exact hb x hx
  rw[Va]at this;lia
theorem CJ(l:List Int)(h:l.length<=4000):lenSI [.lst (l.map D.int)]=.ok (.f,.int ((l.foldl PyProof.Rows.step_dedup []).length:Nat)):=by
 unfold lenSI;dsimp only;rw[jS];dsimp only;rw[U2 h]
section
def KR(am:List J0):Int:=lV (vT am)
theorem Gw(am:List J0):0<=KR am:=k7 (ns:=vT am) (x:=0) UR
theorem CK(h:a∈am):a.1<=KR am/\a.2.2<=KR am:=by
 have h1:iL a<=KR am:=k7 (ns:=vT am) (US _ (WA.mpr ⟨a,h,rfl⟩));unfold iL at h1;split at h1 <;> lia
theorem yc{m:Int}(h0:0<m)(h:∀a∈am,a.1<m/\a.2.2<m):KR am<m:=by
 have h1:KR am∈vT am:=qg (Xt _ _);rcases U5.mp h1 with h1|h1
 ·rw[h1];exact h0
 ·obtain⟨a,ha,e⟩:=rg h1;have:=h a ha;rw[<-e];unfold iL;split <;> lia
structure Bt(nY:LNN)(am JS:List J0)(A:J0):Prop where
 ch:(A∈am/\JS=oU A am)\/(A∉am/\JS=a8 bB (am++[A]))
 nm:A.2.1∈nY
 b1:0<=A.1/\A.1<=KR am
 b2:0<=A.2.2/\A.2.2<=KR am
 rb:∀j:Nat,(j:Int)<=KR JS->∃n,Rb JS n (j:Int)
end
theorem p_bent(ra:Ra nY am mZ)(hn:nY.length<=3)(h0:1<=nY.length)(hl:am.length<=50)(c:Int):
  cG [JY nY am,.int c]=.ok (.f,.non)\/∃JS A,Bt nY am JS A/\cG [JY nY am,.int c]=.ok (.f,JY nY JS):=by
 have i0:ixD (JY nY am) (.int 0)=.ok (.f,.tup (nY.map D.str)):=rfl;have i1:ixD (JY nY am) (.int 1)=.ok (.f,.lst (am.map eA)):=rfl;have ct:=qy am;have f1:((am.map iL).map D.int).length<=sizeLine:=line_le (by rw[aO,aO];lia);have f2:=PV.flat_ints (am.map iL);have a1:bc (.lst [.int 0]) (.lst ((am.map iL).map D.int))=.ok (.l .f,.lst ((vT am).map D.int)):=rD [.int 0] _ (by rw[aO,aO,Vf];lia);have m1:PV.maxD [.lst ((vT am).map D.int)]=.ok (.f,.int (KR am)):=zu (l:=vT am) (Xt _ _);have mm:=ra.mm;have g0:=Gw am;have g1:KR am<(mZ:Int):=yc (by lia) fun a ha=>by have:=ra.bd a ha;lia
 have Tv:=Gq 12 (by lia);unfold cG jz;rw[ba (h:=by rfl)];rw[show JY nY am=.tup [.tup (nY.map D.str),.lst (am.map eA)] from rfl]at i0 i1;rw[show JY nY am=.tup [.tup (nY.map D.str),.lst (am.map eA)] from rfl];generalize hCH:D.tup [.tup (nY.map D.str),.lst (am.map eA)]=CH at i0 i1 ⊢;rw[ag (env':=[fq CH,fI c,fI (c%10 ^ 12),none,none,none,none,none,none,none]) (by simp only[pv,↓reduceIte,Nat.reduceAdd,Nat.reduceLT,Nat.reduceLeDiff,Nat.reduceEqDiff,op,show qO (.int 10) (.int 12)=_ from Tv,jK c (10 ^ 12) (by decide)])];generalize c%10 ^ 12=x;generalize hGG:(aA PV.maxD (osCons (oVar 0) (osCons (oVar 2) osNil)))=GG at ct ⊢;rw[ag (env':=[fq CH,fI c,fI x,fI (1+KR am),none,none,none,none,none,none]) (by simp only[pv,↓reduceIte,Nat.reduceAdd,Nat.reduceLT,Nat.reduceLeDiff,Nat.reduceEqDiff,op,i1,ct,f1,f2,a1,m1])];have bx:=fU x (1+KR am) (by lia);have by_:=fU (x / 24) (1+KR am) (by lia);have bk:=fU (x / 8) (nY.length:Int) (by lia);obtain⟨k,ek⟩:=Vk bk.1;have hk:k<nY.length:=by lia
 have ak:=yZ hk;obtain⟨A,TF⟩:∃A:J0,A=(x%(1+KR am),nY[k],x / 24%(1+KR am)):=⟨_,rfl⟩
 have nmk:∀y:Int,dR (.int y) (.int (nY.length:Int))=.ok (.f,.int (y%(nY.length:Int))):=fun y=>jK y _ (by lia)
 rw[ag (env':=[fq CH,fI c,fI x,fI (1+KR am),fq (eA A),none,none,none,none,none]) (by
  rw[TF];unfold eA;simp only[pv,↓reduceIte,Nat.reduceAdd,Nat.reduceLT,Nat.reduceLeDiff,Nat.reduceEqDiff,op,i0,aO,jK x (1+KR am) (by lia),kZ x 8 (by decide) (by decide),kZ x 24 (by decide) (by decide),nmk,ek,ak,jK (x / 24) (1+KR am) (by lia)])]
 have hb:A.2.1∈nY/\(0<=A.1/\A.1<=KR am)/\0<=A.2.2/\A.2.2<=KR am:=by
  rw[TF];exact⟨VZ hk,by lia,by lia⟩
 clear TF ak ek;have co:=comp_out A am;have wl:(oU A am).length<=am.length:=Wa _ _;have f3:((oU A am).map eA).length<=sizeLine:=line_le (by rw[aO];lia);have f4:=B5 (oU A am);rw[ag (env':=[fq CH,fI c,fI x,fI (1+KR am),fq (eA A),fL ((oU A am).map eA),none,none,none,none]) (by simp only[pv,↓reduceIte,Nat.reduceAdd,Nat.reduceLT,Nat.reduceLeDiff,Nat.reduceEqDiff,op,i1,co,f3,f4])];have tl:∀JS:List J0,JS.length<=60->(A∈am/\JS=oU A am)\/(A∉am/\JS=a8 bB (am++[A]))->
   ((sSeq (aW 6 (iG (af (av (.int 0)) aD))) (sSeq bQ bE)) [fq CH,fI c,fI x,fI (1+KR am),fq (eA A),fL (JS.map eA),none,none,none,none]=.ok (.rt (.f,.non))\/(Bt nY am JS A/\(sSeq (aW 6 (iG (af (av (.int 0)) aD))) (sSeq bQ bE)) [fq CH,fI c,fI x,fI (1+KR am),fq (eA A),fL (JS.map eA),none,none,none,none]=.ok (.rt (.f,JY nY JS)))):=by
  intro JS QF Mz;rw[ag (env':=[fq CH,fI c,fI x,fI (1+KR am),fq (eA A),fL (JS.map eA),fL [.int 0],none,none,none]) (by simp only[pv,↓reduceIte,Nat.reduceAdd,Nat.reduceLT,Nat.reduceLeDiff,Nat.reduceEqDiff,op])];obtain⟨T,u7,u8,hT,UC,e⟩:=vL (fq CH) (fI c) (fI x) (fI (1+KR am)) (fq (eA A)) JS QF (1+KR am).toNat (by lia) none none none;rw[ag (env':=_) (by
   unfold bQ;simp only[pv,↓reduceIte,Nat.reduceAdd,Nat.reduceLT,Nat.reduceLeDiff,Nat.reduceEqDiff,op];rw[U2 (by lia)];simp only[pv,↓reduceIte,Nat.reduceAdd,Nat.reduceLT,Nat.reduceLeDiff,Nat.reduceEqDiff,op];exact e)]
  clear e;have UD:=qy JS;rw[hGG]at UD;have f1':((JS.map iL).map D.int).length<=sizeLine:=line_le (by rw[aO,aO];lia);have f2':=PV.flat_ints (JS.map iL);have a1':bc (.lst [.int 0]) (.lst ((JS.map iL).map D.int))=.ok (.l .f,.lst ((vT JS).map D.int)):=rD [.int 0] _ (by rw[aO,aO,Vf];lia);have m1':PV.maxD [.lst ((vT JS).map D.int)]=.ok (.f,.int (KR JS)):=zu (l:=vT JS) (Xt _ _);have hs:=CJ T (by lia);unfold bE;rw[hGG];rw[ag (env':=[fq CH,fI c,fI x,fI (1+KR am),fq (eA A),fL (JS.map eA),fL (T.map D.int),u7,u8,fI (KR JS)]) (by simp only[pv,↓reduceIte,Nat.reduceAdd,Nat.reduceLT,Nat.reduceLeDiff,Nat.reduceEqDiff,op,UD,f1',f2',a1',m1'])];have dd:=ded T [] V1;generalize T.foldl PyProof.Rows.step_dedup []=DD at hs dd;by_cases hq:KR JS+1=(DD.length:Int)
  ·right;have PU:((KR JS+1:Int)==(DD.length:Int))=true:=by rw[hq];exact VI _
   refine⟨⟨Mz,hb.1,hb.2.1,hb.2.2,fun j hj=>?_⟩,?_⟩
   ·have bds:∀a∈JS,0<=a.1/\0<=a.2.2:=by
     intro a ha;rcases Mz with⟨_,rfl⟩|⟨_,rfl⟩
     ·have:=ra.bd a (VP.mp ha).1;lia
     ·rcases oE ((br bB).mp ha) with h|h
      ·have:=ra.bd a h;lia
      ·rw[iw h];lia
    have Qg:(j:Int)∈DD:=Gf (m:=DD.length) dd.1 (fun y hy=>by
     have TB:=((dd.2 y).mp hy).resolve_left VR;obtain⟨n,hn⟩:=UC y TB;have h1:=F9 bds hn;refine⟨h1,?_⟩;rw[<-hq];cases hn with
     |z=>have:=Gw JS;lia
     |s _ ha=>have:=(CK ha).2;dsimp only at this;lia) rfl j (by lia)
    exact UC _ (((dd.2 _).mp Qg).resolve_left VR)
   ·unfold JY;simp only[pv,↓reduceIte,Nat.reduceAdd,Nat.reduceLT,Nat.reduceLeDiff,Nat.reduceEqDiff,op,hs,PU,W4,cV,i0]
  ·left
   have PU:((KR JS+1:Int)==(DD.length:Int))=false:=V7.mpr hq;simp only[pv,↓reduceIte,Nat.reduceAdd,Nat.reduceLT,Nat.reduceLeDiff,Nat.reduceEqDiff,op,hs,PU,Xs]
 generalize hTT:(sSeq (aW 6 (iG (af (av (.int 0)) aD))) (sSeq bQ bE))=TT at tl ⊢;by_cases hA:A∈am
 ·have wlt:(oU A am).length<am.length:=by
   rcases Y6 (oU A am).length am.length with h|h
   ·exact h
   ·exfalso;have e:=(List.length_filter_eq_length_iff (p:=fun a=>!decide (a=A)) (l:=am)).mp (Nat.le_antisymm wl h) A hA;simp at e
  have q:(((oU A am).length:Int)==(am.length:Int))=false:=by rw[V7];lia
  rw[ag (env':=[fq CH,fI c,fI x,fI (1+KR am),fq (eA A),fL ((oU A am).map eA),none,none,none,none]) (by simp only[pv,↓reduceIte,Nat.reduceAdd,Nat.reduceLT,Nat.reduceLeDiff,Nat.reduceEqDiff,op,i1,aO,q,cV])];rcases tl (oU A am) (by lia) (.inl ⟨hA,rfl⟩) with h|⟨h1,h2⟩
  ·left;rw[h];simp only[pv,↓reduceIte,Nat.reduceAdd,Nat.reduceLT,Nat.reduceLeDiff,Nat.reduceEqDiff]
  ·right;exact⟨_,A,h1,by rw[h2];simp only[pv,↓reduceIte,Nat.reduceAdd,Nat.reduceLT,Nat.reduceLeDiff,Nat.reduceEqDiff]⟩
 ·have we:oU A am=am:=List.filter_eq_self.mpr fun a ha=>by
   have:a≠A:=fun z=>hA (z▸ha)
   simp[this]
  have q:((am.length:Int)==(am.length:Int))=true:=VI _;have z1:bc (.lst (am.map eA)) (.lst [eA A])=.ok (.l .f,.lst ((am++[A]).map eA)):=by
   rw[rD _ _ (by rw[aO,Vf];lia),Vh];rfl
  have z2:=uR (am++[A]) (by rw[iy,Vf];lia);rw[we];rw[ag (env':=[fq CH,fI c,fI x,fI (1+KR am),fq (eA A),fL (((a8 bB (am++[A])).map eA)),none,none,none,none]) (by simp only[pv,↓reduceIte,Nat.reduceAdd,Nat.reduceLT,Nat.reduceLeDiff,Nat.reduceEqDiff,op,i1,aO,q,z1,z2])];rcases tl (a8 bB (am++[A])) (by rw[d8,iy,Vf];lia) (.inr ⟨hA,rfl⟩) with h|⟨h1,h2⟩
  ·left;rw[h];simp only[pv,↓reduceIte,Nat.reduceAdd,Nat.reduceLT,Nat.reduceLeDiff,Nat.reduceEqDiff]
  ·right;exact⟨_,A,h1,by rw[h2];simp only[pv,↓reduceIte,Nat.reduceAdd,Nat.reduceLT,Nat.reduceLeDiff,Nat.reduceEqDiff]⟩
section
variable{JS:List J0}{A:J0}
theorem Bt.mem(b:Bt nY am JS A):∀a∈JS,a∈am\/a=A:=by
 intro a ha;rcases b.ch with⟨_,rfl⟩|⟨_,rfl⟩
 ·exact .inl (VP.mp ha).1
 ·rcases oE ((br bB).mp ha) with h|h
  ·exact .inl h
  ·exact .inr (iw h)
theorem Bt.ra(ra:Ra nY am mZ)(hl:am.length<=50)(b:Bt nY am JS A):Ra nY JS (KR JS+1).toNat:=by
 have mm:=ra.mm;have g0:=Gw JS;have g1:KR am<(mZ:Int):=yc (by lia) fun a ha=>by have:=ra.bd a ha;lia
 have h0:∀a∈JS,0<=a.1/\0<=a.2.2/\a.1<(mZ:Int)/\a.2.2<(mZ:Int)/\a.2.1∈nY:=by
  intro a ha;rcases b.mem a ha with h|rfl
  ·have:=ra.bd a h;exact⟨by lia,by lia,by lia,by lia,ra.nm a h⟩
  ·have:=b.b1;have:=b.b2;exact⟨by lia,by lia,by lia,by lia,b.nm⟩
 have g2:KR JS<(mZ:Int):=yc (by lia) fun a ha=>by have:=h0 a ha;lia
 refine Ij (by lia) ?_ (fun a ha=>?_) (fun a ha=>(h0 a ha).2.2.2.2) fun j hj=>b.rb j (by lia)
 ·rcases b.ch with⟨_,rfl⟩|⟨_,rfl⟩
  ·have:(oU A am).length<=am.length:=Wa _ _;lia
  ·rw[d8,iy,Vf];lia
 ·have:=h0 a ha;have:=CK ha;lia
theorem CL(hn:nY.length<=3)(e:bF nY ps=some r)(hl:(a8 bB r.2).length<=50)(b:Bt nY (a8 bB r.2) JS A):okb nY JS ps=false:=by
 have OM:=(vg hn e).sort;have ra:=b.ra OM hl;cases hk:okb nY JS ps with
 |false=>rfl
 |true=>
  exfalso;unfold okb at hk;rw[Yj]at hk;obtain⟨S,o'⟩:=vv ra hk;have o:=qp hn e;rcases b.ch with⟨hA,hw⟩|⟨hA,hw⟩
  ·
   have Nt:∀a∈JS,a∈a8 bB r.2:=fun a ha=>by rw[hw]at ha;exact(VP.mp ha).1
   have P7:A∉JS:=fun h=>by
    rw[hw]at h;have:=(VP.mp h).2;simp at this
   have Qg:A.1<=KR JS:=by
    obtain⟨i,hi⟩:=Vk b.b1.1;by_cases h0:i=0
    ·have:=Gw JS;lia
    ·obtain⟨f,hf⟩:=OM.rc;have hm:=(OM.bd A hA).1;obtain⟨a,ha,h1,b',h2,h3⟩:=hf i (by lia) (by lia);have LA:a≠A:=fun z=>by
      rw[z,hi]at h3;have:b'=i:=by lia
      subst this;lia
     have ha':a∈JS:=by
      rw[hw];exact VP.mpr ⟨ha,by simp[LA]⟩
     have:=(CK ha').2;lia
   obtain⟨i,hi⟩:=Vk b.b1.1;obtain⟨n,hn⟩:=b.rb i (by lia);rw[<-hi]at hn;exact CG o o' OM.nm Nt hA P7 hn
  ·
   have Nt:∀a∈a8 bB r.2,a∈JS:=fun a ha=>by rw[hw];exact(br bB).mpr (UX _ ha)
   have hA':A∈JS:=by rw[hw];exact(br bB).mpr (UW _ UR)
   have mm:=OM.mm;have g1:KR (a8 bB r.2)<(r.1.length:Int):=yc (by lia) fun a ha=>by have:=OM.bd a ha;lia
   obtain⟨i,hi⟩:=Vk b.b1.1;obtain⟨j,hj⟩:=Vk b.b2.1;have:=b.b1;have:=b.b2;obtain⟨n,UE⟩:=Ga OM i (by lia);obtain⟨m,RP⟩:=Ga OM j (by lia);rw[<-hi]at UE;rw[<-hj]at RP;exact CI o o' Nt hA' b.nm hA UE RP
end
theorem xF2(F:List D->Bool)(A B:D)(l:PV.Env):xFun F (osCons (oVar 0) (osCons (oVar 1) osNil)) (fq A::fq B::l)=if F [A,B] then some (fq A::fq B::l) else none:=rfl
theorem Ik{A B:D}{b:Bool}(h:b9 [A,B]=.ok (.f,.bl b)):gC [A,B] = !b:=by
 have e:(wV (eBl (c7 b9 (osCons (oVar 0) (osCons (oVar 1) osNil))))) [fq A,fq B,none,none,none]=.ok (!b,[fq A,fq B,none,none,none]):=by
  simp only[pv,seval,op,h]
 show(decide (2=2)&&xIf _ _ [fq A,fq B,none,none,none])=_;unfold xIf;rw[e];cases b <;> rfl
theorem Il{A B:D}:aM [A,B]=gB [A,B]:=by
 have e:aK [A,B]=gB [A,B]:=by
  show(decide (2=2)&&(xFun gB (osCons (oVar 0) (osCons (oVar 1) osNil)) (fq A::fq B::[])).isSome)=_;rw[xF2];cases gB [A,B] <;> rfl
 show(decide (2=2)&&(xFun aK (osCons (oVar 0) (osCons (oVar 1) osNil)) (fq A::fq B::[none,none,none])).isSome)=_;rw[xF2,e];cases gB [A,B] <;> rfl
theorem Io{A B:D}{a b:D}{v:Bool}(ha:ixD A (.int 0)=.ok (.f,a))(hb:ixD B (.int 0)=.ok (.f,b))(h:neO a b=.ok (.f,.bl v)):gB [A,B]=v:=by
 have e:(eBl (aT neO (aa (ao ixD (oVar 0) (aa (av (.int 0))))) (aa (ao ixD (oVar 1) (aa (av (.int 0))))))) [fq A,fq B,none,none,none]=.ok (v,[fq A,fq B,none,none,none]):=by
  simp only[pv,seval,op,ha,hb,h]
 show(decide (2=2)&&xIf _ _ [fq A,fq B,none,none,none])=_;unfold xIf;rw[e];cases v <;> rfl
theorem hV{f g:List Pl->Bool}{all:List Pl}(h:∀P,(∀q∈P,q∈all)->f P=g P):∀(k:Nat) (P:List Pl),(∀q∈P,q∈all)->bW f k P=bW g k P
 | 0,P,_=>rfl
 |k+1,P,hp=>by
  have h1:∀q∈P.eraseIdx k,q∈all:=fun q hq=>hp q (VG hq)
  unfold bW;rw[h _ h1,hV h k _ h1,hV h k P hp]
structure Ns(nY:LNN)(ps:List Pl):Prop where
 nd:nY.Nodup
 n1:1<=nY.length
 n3:nY.length<=3
 p0:ps≠[]
 pl:ps.length<=50
 pk:∀p∈ps,Lb p nY.length
 h8:(bC ps nY.length).1.length<=8
section
theorem Ns.run(n:Ns nY ps):bF nY ps=some (Ly nY (bC ps nY.length)):=vD n.nd n.h8
theorem Ns.ra(n:Ns nY ps):Ra nY (aG nY ps) (bC ps nY.length).1.length:=(vg n.n3 n.run).sort
theorem Ns.len(n:Ns nY ps):(aG nY ps).length<=30:=by
 unfold aG;rw[d8,aO];exact(uW ps nY.length n.n3 (by have:=n.pl;lia) n.pk).1
theorem Ns.more(n:Ns nY ps)(i:Iq nY ps q)(k:Nat)(hl:ps.length<50):Ns nY (Ln k q ps)/\(bC (Ln k q ps) nY.length).2=(bC ps nY.length).2:=by
 obtain⟨hq,Lw,im⟩:=i;obtain⟨m,rm⟩:=lu n.n3 n.run;have e:=im.run k n.run rm.ln;rw[lg n.nd]at e;split at e
 ·rename_i h8;have e2:=Wy Prod.snd (Vq e);refine⟨⟨n.nd,n.n1,n.n3,fun z=>?_,by rw[oJ];lia,fun p hp=>?_,h8⟩,vC n.nd (nE _ _) (nE _ _) e2⟩
  ·have:=oJ k q ps;rw[z]at this;cases this
  ·unfold Ln at hp;rcases oE hp with hp|hp
   ·exact n.pk p (XW hp)
   ·rcases U5.mp hp with rfl|hp
    ·exact hq
    ·exact n.pk p (Zi hp)
 ·cases e
def bg(nY:LNN)(ps:List Pl):List Pl:=bW (gM nY.length ps) ps.length ps
theorem Ns.okb(n:Ns nY ps){P:List Pl}(hP:∀q∈P,q∈ps):LW.okb nY (aG nY ps) P=gM nY.length ps P:=Ih n.nd n.n3 n.h8 hP
theorem Ns.left_eq(n:Ns nY ps):bW (LW.okb nY (aG nY ps)) ps.length ps=bg nY ps:=hV (fun _ h=>n.okb h) _ _ fun _ h=>h
theorem Ns.left_sub(n:Ns nY ps):∀q∈bg nY ps,q∈ps:=fun q hq=>(iU _ _).subset hq
theorem Ns.self(n:Ns nY ps):LW.okb nY (aG nY ps) ps=true:=x3 n.n3 n.run
theorem Ns.left_ok(n:Ns nY ps):LW.okb nY (aG nY ps) (bg nY ps)=true:=by
 rw[<-n.left_eq];exact oQ _ n.self
theorem Ns.left_min(n:Ns nY ps):∀j,j<(bg nY ps).length->LW.okb nY (aG nY ps) ((bg nY ps).eraseIdx j)=false:=by
 rw[<-n.left_eq];exact lr (all:=ps) (fun P P' h h1 h2=>xZ (r:=Ly nY (bC ps nY.length)) n.n3 n.run P P' h h1 h2) ps.length ps (U3 _) (fun _ h=>h) fun j h1 h2=>by lia
theorem Ns.left_again(n:Ns nY ps):bW (LW.okb nY (aG nY ps)) (bg nY ps).length (bg nY ps)=bg nY ps:=j8 n.left_min _ (U3 _)
theorem Ns.left_no(n:Ns nY ps)(j:Nat)(hj:j<(bg nY ps).length):gM nY.length ps ((bg nY ps).eraseIdx j)=false:=by
 rw[<-n.okb fun q hq=>n.left_sub q (VG hq)];exact n.left_min j hj
end
theorem plain_Pn(n:Nat)(l:List Pl):plainDs (n+2) (l.map eP)=true:=by
 induction l with
 |nil=>rfl
 |cons a l ih=>
  rw[cW,plainDs,ih,Xm];unfold eP;rw[plainD];simp only[plainDs,plainD,eS,VW]
theorem yd(n:Nat)(l:List J0):plainDs (n+2) (l.map eA)=true:=by
 induction l with
 |nil=>rfl
 |cons a l ih=>
  rw[cW,plainDs,ih,Xm];unfold eA;rw[plainD];simp only[plainDs,plainD,VW]
theorem CM(env:PV.Env)(i:Nat)(f:FX):uz i f env=match env[i]? with
 |some (some (.t [.f,.l .f],.tup [_,.lst _]))=>Res.bnd (f env) (f:=⟨fun(q:R×PV.Env)=>match q.2[i]? with
  |some (some (.t [.f,.l .f],.tup [d,.lst ds]))=>if ds.length<sizeLine then .ok ((.f,.non),q.2.set i (some (.t [.f,.l .f],.tup [d,.lst (ds++[q.1.2])]))) else .bad
  |_=>.bad⟩)
 |_=>.bad:=id rfl
noncomputable def one(cnt:Nat):Pl:=(1,List.replicate cnt 1,List.replicate cnt 1)
theorem Ip(cnt:Nat)(h:cnt<=3):(bC [one cnt] cnt).1.length<=8:=by
 rcases(show cnt=0\/cnt=1\/cnt=2\/cnt=3 by lia) with rfl|rfl|rfl|rfl <;> decide
theorem CN(cnt:Nat)(h:cnt<=3):g7 (.lst [.int 1]) (.int (cnt:Int))=.ok (.l .f,.lst ((List.replicate cnt (1:Int)).map D.int)):=by
 rw[BU,U2 ⟨by lia,by lia,line_le (by rw[V9,Vf];lia)⟩,V9];rcases(show cnt=0\/cnt=1\/cnt=2\/cnt=3 by lia) with rfl|rfl|rfl|rfl <;> rfl
theorem CO(env:PV.Env)(f:FT):xC f env=Res.bnd (f (env.map frz)) (f:=⟨fun p=>.ok (p.1,env)⟩):=id rfl
theorem Gg(ns:List Int)(n:Ns nY ps)(t5:Option R):eQ [fq (.lst (ns.map D.int)),fI (nY.length:Int),fL (nY.map D.str),fL (ps.map eP),fL ((bC ps nY.length).2.map eK),t5,none,none,none,none,none]=.ok (.rt (.f,.bl true)):=by
 have hA:=(uW ps nY.length n.n3 (by have:=n.pl;lia) n.pk).1;have pc:=CF nY n.n3 (bC ps nY.length).2 (by lia) (nE _ _);rw[show a8 bB ((bC ps nY.length).2.map (Na nY))=aG nY ps from rfl]at pc;have fc:flatD (JY nY (aG nY ps))=false:=by
  unfold JY;rw[bS];simp only[flatDs,show ∀l,flatD (D.lst l)=false from fun _=>rfl,Xq,Yi]
 have KA:ps.length<=100:=by have:=n.pl;lia
 have ll:(bg nY ps).length<=50:=Vo (iU _ _).length_le n.pl;have UG:(nY.map D.str).length<=sizeLine:=line_le (by rw[aO];have:=n.n3;lia);have L3:((bg nY ps).map eP).length<=sizeLine:=line_le (by rw[aO];lia);have hl3:(ps.map eP).length<=sizeLine:=line_le (by rw[aO];lia);have fLw:=oO (bg nY ps);unfold eQ;rw[ag (env':=[fq (.lst (ns.map D.int)),fI (nY.length:Int),fq (.lst (nY.map D.str)),fq (.lst (ps.map eP)),fq (.lst ((bC ps nY.length).2.map eK)),frz t5,fq (JY nY (aG nY ps)),none,none,none,none]) (by simp only[pv,seval,op,pc,fc,Ft,Gs,cV])];generalize frz t5=t5;obtain⟨o,ho,et⟩:=F5 ps ps nY.length n.n3 KA n.pk;rw[show bW (gM nY.length ps) ps.length ps=bg nY ps from rfl]at et;have e7:∃u5,aW 7 (cU (af (aA bK (osCons (oVar 2) osNil)) (af (c7 cF (osCons (oVar 3) (osCons (oVar 1) (osCons (oVar 4) osNil)))) aD))) [fq (.lst (ns.map D.int)),fI (nY.length:Int),fq (.lst (nY.map D.str)),fq (.lst (ps.map eP)),fq (.lst ((bC ps nY.length).2.map eK)),t5,fq (JY nY (aG nY ps)),none,none,none,none]=.ok (.nx [fq (.lst (ns.map D.int)),fI (nY.length:Int),fq (.lst (nY.map D.str)),fq (.lst (ps.map eP)),fq (.lst ((bC ps nY.length).2.map eK)),u5,fq (JY nY (aG nY ps)),fq (eN nY (bg nY ps)),none,none,none]):=by
  unfold eN;have fl:flatD (.lst ((bg nY ps).map eP))=false:=rfl;rcases ho with rfl|rfl
  ·exact⟨frz t5,by simp only[pv,seval,op,UG,et,fl,Ft,Gs,cV]⟩
  ·exact⟨t5,by simp only[pv,seval,op,UG,et,fLw]⟩
 obtain⟨u5,e7⟩:=e7;rw[ag e7];clear e7 et ho;have Qm:ixD (JY nY (aG nY ps)) (.int 0)=.ok (.f,.tup (nY.map D.str)):=rfl;have Sh:ixD (JY nY (aG nY ps)) (.int 1)=.ok (.f,.lst ((aG nY ps).map eA)):=rfl;rw[ag (env':=[fq (.lst (ns.map D.int)),fI (nY.length:Int),fq (.lst (nY.map D.str)),fq (.lst (ps.map eP)),fq (.lst ((bC ps nY.length).2.map eK)),u5,fq (JY nY (aG nY ps)),fq (eN nY (bg nY ps)),fL [JY nY (aG nY ps),eN nY ps],none,none]) (by
  rw[show eN nY ps=.tup [.tup (nY.map D.str),.lst (ps.map eP)] from rfl];generalize hCH:JY nY (aG nY ps)=CH at Qm Sh ⊢;generalize eN nY (bg nY ps)=DU;simp only[pv,seval,op,Qm,Sh];rw[<-hCH];rfl)]
 have th:=ny n.ra ps KA n.pk n.self;rw[n.left_eq]at th;have UH:∀q∈bg nY ps,Lb q nY.length:=fun q hq=>n.pk q (n.left_sub q hq)
 have Si:=ny n.ra (bg nY ps) (by lia) UH n.left_ok;rw[n.left_again]at Si;have fN:=PV.flat_strs nY;have cl:aw (.t [.f,.l .f]) (eN nY (bg nY ps))=true:=by
  unfold eN;simp only[aw,l7,bS,fN,V4,YE,Xm];rw[Vg];exact fun p _=>flat_P p
 have a0:∀x y:D,atI [x,y] (0:Int)=some x:=fun _ _=>rfl
 have a1:∀x y:D,atI [x,y] (1:Int)=some y:=fun _ _=>rfl
 rw[ag (env':=[fq (.lst (ns.map D.int)),fI (nY.length:Int),fq (.lst (nY.map D.str)),fq (.lst (ps.map eP)),fq (.lst ((bC ps nY.length).2.map eK)),u5,fq (JY nY (aG nY ps)),fq (eN nY (bg nY ps)),fL [JY nY (aG nY ps),eN nY ps],some (.t [.f,.l .f],eN nY (bg nY ps)),none]) (by
  generalize JY nY (aG nY ps)=CH at th ⊢;generalize eN nY ps=NP at th ⊢;generalize eN nY (bg nY ps)=NL at th cl ⊢;simp only[pv,seval,op,a0,a1,th,cl])]
 have nq:neO (eN nY (bg nY ps)) (eN nY (bg nY ps))=.ok (.f,.bl false):=by
  unfold neO;have pl:plainD 40 (eN nY (bg nY ps))=true:=by
   unfold eN;rw[plainD,plainDs,plainDs,plainDs,plainD,plainD,cw,plain_Pn 36];rfl
  rw[pl,gk _ 40 pl];rfl
 rw[ag (env':=[fq (.lst (ns.map D.int)),fI (nY.length:Int),fq (.lst (nY.map D.str)),fq (.lst (ps.map eP)),fq (.lst ((bC ps nY.length).2.map eK)),u5,fq (JY nY (aG nY ps)),fq (eN nY (bg nY ps)),fL [JY nY (aG nY ps),eN nY ps],some (.t [.f,.l .f],eN nY (bg nY ps)),none]) (by
  have i1:ixD (eN nY (bg nY ps)) (.int 1)=.ok (.f,.lst ((bg nY ps).map eP)):=rfl;have t1:xh "tuple" (eN nY (bg nY ps))=true:=rfl;have t2:xh "list" (.lst ((bg nY ps).map eP))=true:=rfl;generalize eN nY (bg nY ps)=NL at nq i1 t1 ⊢;simp only[pv,seval,op,CO,cW,VT,Ft,Gs,i1,t1,t2,nq,W4,cV])]
 have zl:((bg nY ps).map eP).length<sizeLine:=oF (by rw[aO];lia);rw[ag (env':=[fq (.lst (ns.map D.int)),fI (nY.length:Int),fq (.lst (nY.map D.str)),fq (.lst (ps.map eP)),fq (.lst ((bC ps nY.length).2.map eK)),u5,fq (JY nY (aG nY ps)),fq (eN nY (bg nY ps)),fL [JY nY (aG nY ps),eN nY ps],some (.t [.f,.l .f],.tup [.tup (nY.map D.str),.lst ((bg nY ps).map eP++[.tup [.int 0,.tup [],.tup []]])]),none]) (by
  generalize JY nY (aG nY ps)=CH;generalize eN nY ps=NP;unfold eN;simp only[pv,seval,op,CM,zl])]
 generalize (.tup [.tup (nY.map D.str),.lst ((bg nY ps).map eP++[.tup [.int 0,.tup [],.tup []]])]:D)=FD;have pCH:plainD 39 (JY nY (aG nY ps))=true:=by
  unfold JY;rw[plainD,plainDs,plainDs,plainDs,plainD,plainD,cw,yd 35];rfl
 have pNP:plainD 39 (eN nY ps)=true:=by
  unfold eN;rw[plainD,plainDs,plainDs,plainDs,plainD,plainD,cw,plain_Pn 35];rfl
 have nh:neO (.lst [JY nY (aG nY ps),eN nY ps]) (.lst [JY nY (aG nY ps),eN nY ps])=.ok (.f,.bl false):=by
  have pl:plainD 40 (.lst [JY nY (aG nY ps),eN nY ps])=true:=by
   rw[plainD,plainDs,plainDs,plainDs,pCH,pNP];rfl
  unfold neO;rw[pl,gk _ 40 pl];rfl
 have UI:ixD (eN nY (bg nY ps)) (.int 0)=.ok (.f,.tup (nY.map D.str)):=rfl;have PY:ixD (eN nY (bg nY ps)) (.int 1)=.ok (.f,.lst ((bg nY ps).map eP)):=rfl;rw[ag (env':=[fq (.lst (ns.map D.int)),fI (nY.length:Int),fq (.lst (nY.map D.str)),fq (.lst (ps.map eP)),fq (.lst ((bC ps nY.length).2.map eK)),u5,fq (JY nY (aG nY ps)),fq (eN nY (bg nY ps)),fL [JY nY (aG nY ps),eN nY ps],some (.t [.f,.l .f],FD),none]) (by
  have UJ:D.tup [.tup (nY.map D.str),.lst ((bg nY ps).map eP)]=eN nY (bg nY ps):=rfl;have UK:D.tup [.tup (nY.map D.str),.lst (ps.map eP)]=eN nY ps:=rfl;generalize JY nY (aG nY ps)=CH at Si Qm nh ⊢;generalize eN nY ps=NP at nh UK ⊢;generalize eN nY (bg nY ps)=NL at Si cl nq UI PY UJ ⊢;simp only[pv,seval,op,a0,UI,PY,Qm,UJ,UK,Si,cl,nq,nh,cV])]
 have lo:ox [fq (.lst (ns.map D.int)),fI (nY.length:Int),fq (.lst (nY.map D.str)),fq (.lst (ps.map eP)),fq (.lst ((bC ps nY.length).2.map eK)),u5,fq (JY nY (aG nY ps)),fq (eN nY (bg nY ps)),fL [JY nY (aG nY ps),eN nY ps],some (.t [.f,.l .f],FD),none]=.ok (.nx [fq (.lst (ns.map D.int)),fI (nY.length:Int),fq (.lst (nY.map D.str)),fq (.lst (ps.map eP)),fq (.lst ((bC ps nY.length).2.map eK)),(if(bg nY ps).length=0 then u5 else fI ((((bg nY ps).length-1:Nat):Int))),fq (JY nY (aG nY ps)),fq (eN nY (bg nY ps)),fL [JY nY (aG nY ps),eN nY ps],some (.t [.f,.l .f],FD),none]):=by
  generalize JY nY (aG nY ps)=CH;generalize eN nY ps=NP;have ef:=fS (a:=aq 5) (g:=kP) (e:=fun k=>D.int (k:Int)) (bg nY ps).length (fun i env=>env=[fq (.lst (ns.map D.int)),fI (nY.length:Int),fq (.lst (nY.map D.str)),fq (.lst (ps.map eP)),fq (.lst ((bC ps nY.length).2.map eK)),(if i=0 then u5 else fI ((i-1:Nat):Int)),fq CH,fq (eN nY (bg nY ps)),fL [CH,NP],some (.t [.f,.l .f],FD),none]) (by
   rintro k env hk rfl;refine⟨_,rfl,_,?_,rfl⟩;have e1:=vA (bg nY ps) k (by lia);have L3:((bg nY ps).eraseIdx k).length<=100:=Vo (Wz _ _) (by lia);have er:=zr ps ((bg nY ps).eraseIdx k) nY.length n.n3 L3 fun q hq=>UH q (VG hq)
   rw[n.left_no k hk]at er;rw[U6 (Nat.succ_ne_zero k),Nat.add_sub_cancel];unfold kP;generalize eN nY (bg nY ps)=NL at PY ⊢;generalize (bC ps nY.length).2=AA at er ⊢;rcases er with⟨A,h1,h2⟩|⟨h1,_⟩
   ·have hf:=ly A;simp only[pv,seval,op,PY,e1,h1,h2,hf,cV]
   ·have h2:=zq AA;have hf:flatD .non=true:=rfl;simp only[pv,seval,op,PY,e1,h1,h2,hf,cV]) _ rfl
  obtain⟨env',ef,rfl⟩:=ef;unfold ox;generalize eN nY (bg nY ps)=NL at PY ef ⊢;simp only[pv,seval,op,PY,aO];rw[U2 (by lia)];simp only[pv,seval,op,V9];exact ef
 rw[ag lo];clear lo;generalize (if(bg nY ps).length=0 then u5 else fI ((((bg nY ps).length-1:Nat):Int)))=w5;have UL:=iz ns 15;have Tq:aM [.tup [.tup (nY.map D.str++[.str [122,122,122,122,122,122,122,122]]),.lst ((aG nY ps).map eA)],eN nY ps]=true:=by
  rw[Il];refine Io (a:=.tup (nY.map D.str++[.str [122,122,122,122,122,122,122,122]])) (b:=.tup (nY.map D.str)) rfl rfl ?_;have p1:=cw 39 nY;have p2:=cw 39 (nY++[[122,122,122,122,122,122,122,122]]);have e:nY.map D.str++[.str [122,122,122,122,122,122,122,122]]=(nY++[[122,122,122,122,122,122,122,122]]).map D.str:=by rw[Vh];rfl
  rw[e];unfold neO;rw[plainD,plainD,p1,p2,eqD,iP (by rw[aO,aO,iy,Vf];lia)];rfl
 have q2:aF [.tup [.tup (nY.map D.str++[.str [122,122,122,122,122,122,122,122]]),.lst ((aG nY ps).map eA)],eN nY ps]=.ok (.f,.str [109,111,118,101,115]):=by
  unfold aF mT1;rw[Tq];rfl
 have ad:bc (.tup (nY.map D.str)) (.tup [.str [122,122,122,122,122,122,122,122]])=.ok (.f,.tup (nY.map D.str++[.str [122,122,122,122,122,122,122,122]])):=by
  rw[uL,U2 (.inl (line_le (by rw[aO,Vf];have:=n.n3;lia)))]
 have fm:∀l:List Nat,flatD (.str l)=true:=fun _=>rfl
 have fz:∀(A5:Option R) (o8 o9:O),(o8=.f\/o8=.l .f)->∀KL:D,(dM (aT eqO (aa (c7 aF (osCons (aa (cU (af (ao bc (aa (ao ixD (oVar 6) (aa (av (.int 0))))) (aa (cU (af (av (.str [122,122,122,122,122,122,122,122])) aD)))) (af (aA gW (osCons (aa (ao ixD (oVar 6) (aa (av (.int 1))))) osNil)) aD)))) (osCons (aa (ao ixD (oVar 8) (aa (av (.int 1))))) osNil)))) (aa (av (.str [109,111,118,101,115]))))) [fq (.lst (ns.map D.int)),fI (nY.length:Int),fq (.lst (nY.map D.str)),fq (.lst (ps.map eP)),fq (.lst ((bC ps nY.length).2.map eK)),A5,fq (JY nY (aG nY ps)),fq (eN nY (bg nY ps)),some (o8,.lst [JY nY (aG nY ps),eN nY ps]),some (o9,FD),fq KL]=.ok (.rt (.f,.bl true)):=by
  intro A5 o8 o9 ho KL;generalize JY nY (aG nY ps)=CH at Qm Sh ⊢;generalize eN nY ps=NP at q2 ⊢;generalize eN nY (bg nY ps)=NL;rcases ho with rfl|rfl <;> simp only[pv,seval,op,Qm,Sh,ad,a1,q2,fm,VI]
 unfold pY;generalize hR:(dM (aT eqO (aa (c7 aF (osCons (aa (cU (af (ao bc (aa (ao ixD (oVar 6) (aa (av (.int 0))))) (aa (cU (af (av (.str [122,122,122,122,122,122,122,122])) aD)))) (af (aA gW (osCons (aa (ao ixD (oVar 6) (aa (av (.int 1))))) osNil)) aD)))) (osCons (aa (ao ixD (oVar 8) (aa (av (.int 1))))) osNil)))) (aa (av (.str [109,111,118,101,115])))))=RR at fz ⊢;rcases p_bent n.ra n.n3 n.n1 (by have:=n.len;lia) (cell ns 15) with hb|⟨JS,A,bt,hb⟩
 ·rw[ag (env':=[fq (.lst (ns.map D.int)),fI (nY.length:Int),fq (.lst (nY.map D.str)),fq (.lst (ps.map eP)),fq (.lst ((bC ps nY.length).2.map eK)),w5,fq (JY nY (aG nY ps)),fq (eN nY (bg nY ps)),fL [JY nY (aG nY ps),eN nY ps],some (.t [.f,.l .f],FD),fq .non]) (by
   have hf:flatD .non=true:=rfl;generalize JY nY (aG nY ps)=CH at hb ⊢;generalize eN nY ps=NP;generalize eN nY (bg nY ps)=NL;simp only[pv,seval,op,show au [.lst (ns.map D.int),.int 15]=_ from UL,hb,hf])]
  rw[ag (env':=[fq (.lst (ns.map D.int)),fI (nY.length:Int),fq (.lst (nY.map D.str)),fq (.lst (ps.map eP)),fq (.lst ((bC ps nY.length).2.map eK)),w5,fq (JY nY (aG nY ps)),fq (eN nY (bg nY ps)),fL [JY nY (aG nY ps),eN nY ps],some (.t [.f,.l .f],FD),fq .non]) (by
   generalize JY nY (aG nY ps)=CH;generalize eN nY ps=NP;generalize eN nY (bg nY ps)=NL;simp only[pv,seval,op,o_isnN,cV])]
  exact fz _ _ _ (.inr rfl) _
 ·have no:=CL (r:=Ly nY (bC ps nY.length)) n.n3 n.run (by have:=n.len;unfold aG at this;exact Vo this (by decide)) bt;have ra':=bt.ra n.ra (by have:=n.len;lia);have hr:=jE (P:=ps) ra' KA n.pk;rw[no]at hr;have q1:aR [JY nY JS,eN nY ps]=.ok (.f,.str [114,117,110]):=by
   unfold aR mT1;rw[Ik hr];rfl
  have fc':flatD (JY nY JS)=false:=by
   unfold JY;rw[bS];simp only[flatDs,show ∀l,flatD (D.lst l)=false from fun _=>rfl,Xq,Yi]
  rw[ag (env':=[fq (.lst (ns.map D.int)),fI (nY.length:Int),fq (.lst (nY.map D.str)),fq (.lst (ps.map eP)),fq (.lst ((bC ps nY.length).2.map eK)),frz w5,fq (JY nY (aG nY ps)),fq (eN nY (bg nY ps)),fq (.lst [JY nY (aG nY ps),eN nY ps]),fq FD,fq (JY nY JS)]) (by
   generalize JY nY (aG nY ps)=CH at hb ⊢;generalize eN nY ps=NP;generalize eN nY (bg nY ps)=NL;simp only[pv,seval,op,show au [.lst (ns.map D.int),.int 15]=_ from UL,hb,fc',Ft,Gs,cV])]
  have RE:isnO (JY nY JS) .non=.ok (.f,.bl true):=id rfl;rw[ag (env':=[fq (.lst (ns.map D.int)),fI (nY.length:Int),fq (.lst (nY.map D.str)),fq (.lst (ps.map eP)),fq (.lst ((bC ps nY.length).2.map eK)),frz w5,fq (JY nY (aG nY ps)),fq (eN nY (bg nY ps)),fq (.lst [JY nY (aG nY ps),eN nY ps]),fq FD,fq (JY nY JS)]) (by
   generalize JY nY (aG nY ps)=CH;generalize eN nY ps=NP at q1 ⊢;generalize eN nY (bg nY ps)=NL;generalize JY nY JS=BC at q1 RE ⊢;simp only[pv,seval,op,RE,a1,q1,fm,VI,W4,cV])]
  exact fz _ _ _ (.inl rfl) _
theorem vM(ns:List Int)(n:Ns nY ps)(hl:ps.length<=3):(sSeq jA eQ) [fq (.lst (ns.map D.int)),fI (nY.length:Int),fL (nY.map D.str),fL (ps.map eP),fL ((bC ps nY.length).2.map eK),none,none,none,none,none,none]=.ok (.rt (.f,.bl true)):=by
 obtain⟨mn,UM⟩:∃m:Int,m=if(14:Int)<(ns.length:Int) then 14 else(ns.length:Int):=⟨_,rfl⟩
 have hm:mn<=14:=by rw[UM];split <;> lia
 obtain⟨N,UN⟩:∃N:Nat,N=(Builtin.Range.rangeSize 7 mn 2).toNat:=⟨_,rfl⟩
 have hN:N<=4:=by
  rw[UN];unfold Builtin.Range.rangeSize;split
  ·lia
  ·split <;> lia
 obtain⟨env',ef,qs,t5,h1,h2,h3,rfl⟩:=fS (a:=aq 5) (g:=kQ) (e:=fun k=>D.int ((7:Int)+(k:Int)*2)) N (fun i env=>∃(qs:List Pl) (t5:Option R),Ns nY qs/\qs.length<=3+i/\(bC qs nY.length).2=(bC ps nY.length).2/\env=[fq (.lst (ns.map D.int)),fI (nY.length:Int),fL (nY.map D.str),fL (qs.map eP),fL ((bC ps nY.length).2.map eK),t5,none,none,none,none,none]) (by
  rintro k env hk ⟨qs,t5,h1,h2,h3,rfl⟩;have c1:=iz ns (7+k*2);have c2:=iz ns (7+k*2+1);have e1:((7+k*2:Nat):Int)=7+(k:Int)*2:=by lia
  have e2:((7+k*2+1:Nat):Int)=7+(k:Int)*2+1:=by lia
  rw[e1]at c1;rw[e2]at c2;obtain⟨j,q,iq,e⟩:=F6 h1.n3 h1.p0 h1.pl h1.pk (cell ns (7+k*2)) (cell ns (7+k*2+1));obtain⟨h4,h5⟩:=h1.more iq j (by lia);have fq:=oO (Ln j q qs);refine⟨_,rfl,_,?_,Ln j q qs,fI (7+(k:Int)*2),h4,by rw[oJ];lia,h5.trans h3,rfl⟩;unfold kQ;simp only[pv,seval,op,c1,c2,e,fq]) _ ⟨ps,none,n,by lia,rfl,rfl⟩
 rw[ag (env':=_) (by
  unfold jA;have Lz:dU 7 mn 2:=by
   unfold dU;lia
  simp only[pv,seval,op,aO];rw[<-UM];simp only[pv,seval,op,Lz,Xd];rw[<-UN];exact ef),<-h3]
 exact Gg ns h1 t5
theorem vN(ns:List Int)(h63:ns.length<=63):∃o,BL [.lst (ns.map D.int)]=.ok (o,.bl true):=by
 have c0:=iz ns 0;have c1:=iz ns 1;have b:=fU (cell ns 0) 3 (by decide);obtain⟨cnt,ec⟩:=Vk (show 0<=1+cell ns 0%3 by lia);obtain⟨nY,nd,nl,en⟩:=CD (cell ns 0 / 3) (cell ns 1) (cnt:Int) (by lia) (by lia);rw[V9]at nl;subst nl;obtain⟨ps,p0,pl,pk,ep⟩:=x9 ns nY.length (by lia);have fs:=PV.flat_strs nY;have fp:=oO ps;have er:=(uW ps nY.length (by lia) (by lia) pk).2;have h3:nY.length<=3:=by lia
 have h1:1<=nY.length:=by lia
 refine⟨.f,?_⟩;unfold BL E1;rw[ba (h:=by rfl)];rw[ag (env':=[fq (.lst (ns.map D.int)),fI (nY.length:Int),none,none,none,none,none,none,none,none,none]) (by
  simp only[pv,seval,op,show au [.lst (ns.map D.int),.int 0]=_ from c0,jK _ 3 (by decide),ec])]
 rw[ag (env':=[fq (.lst (ns.map D.int)),fI (nY.length:Int),fL (nY.map D.str),none,none,none,none,none,none,none,none]) (by
  simp only[pv,seval,op,show au [.lst (ns.map D.int),.int 0]=_ from c0,show au [.lst (ns.map D.int),.int 1]=_ from c1,kZ _ 3 (by decide) (by decide),en,fs])]
 rw[ag (env':=[fq (.lst (ns.map D.int)),fI (nY.length:Int),fL (nY.map D.str),fL (ps.map eP),none,none,none,none,none,none,none]) (by
  simp only[pv,seval,op,ep,fp])]
 by_cases h8:(bC ps nY.length).1.length<=8
 ·rw[U2 h8]at er;have fk:=ly (bC ps nY.length).2;have n:Ns nY ps:=⟨nd,h1,h3,p0,by lia,pk,h8⟩
  have m:=vM ns n pl;rw[ag (env':=[fq (.lst (ns.map D.int)),fI (nY.length:Int),fL (nY.map D.str),fL (ps.map eP),fL ((bC ps nY.length).2.map eK),none,none,none,none,none,none]) (by simp only[pv,seval,op,er,fk])];generalize (sSeq jA eQ)=TT at m ⊢;rw[ag (env':=[fq (.lst (ns.map D.int)),fI (nY.length:Int),fL (nY.map D.str),fL (ps.map eP),fL ((bC ps nY.length).2.map eK),none,none,none,none,none,none]) (by
   have hi:isO (.lst ((bC ps nY.length).2.map eK)) .non=.ok (.f,.bl false):=id rfl;simp only[pv,seval,op,hi,cV]),m]
  simp only[pv,seval]
 ·rw[U6 h8]at er;have UO:∀p∈[one nY.length],Lb p nY.length:=fun p hp=>by
   rw[iw hp];exact⟨Xc,Xc⟩
  have Sj:=(uW [one nY.length] nY.length h3 (by show 1<=100;decide) UO).2;have UP:=Ip nY.length h3;rw[U2 UP]at Sj;have n:Ns nY [one nY.length]:=⟨nd,h1,h3,Xt _ _,by show 1<=50;decide,UO,UP⟩
  have m:=vM ns n (by show 1<=3;decide);have fk:=ly (bC [one nY.length] nY.length).2;have rm:=CN nY.length h3;have fr:((List.replicate nY.length (1:Int)).map D.int).length<=sizeLine:=line_le (by rw[aO,Xc];lia);have fl:=PV.flat_ints (List.replicate nY.length (1:Int));have hf:flatD .non=true:=rfl;rw[ag (env':=[fq (.lst (ns.map D.int)),fI (nY.length:Int),fL (nY.map D.str),fL (ps.map eP),fq .non,none,none,none,none,none,none]) (by simp only[pv,seval,op,er,hf])];generalize (sSeq jA eQ)=TT at m ⊢;generalize bC [one nY.length] nY.length=KK at Sj m fk;rw[show([one nY.length].map eP)=[.tup [.int 1,.tup ((List.replicate nY.length (1:Int)).map D.int),.tup ((List.replicate nY.length (1:Int)).map D.int)]] from rfl]at Sj m;rw[ag (env':=[fq (.lst (ns.map D.int)),fI (nY.length:Int),fL (nY.map D.str),fL ([.tup [.int 1,.tup ((List.replicate nY.length (1:Int)).map D.int),.tup ((List.replicate nY.length (1:Int)).map D.int)]]),fL (KK.2.map eK),none,none,none,none,none,none]) (by
   have hi:isO .non .non=.ok (.f,.bl true):=id rfl;simp only[pv,seval,op,hi,rm,fr,Sj,fk]),m]
  simp only[pv,seval]
end LW
namespace FIN
open PV LW
theorem Gh{l:PySem.W.OpenLaw}{w:World}{K:W.Frag}{h:Heap}{mg:Str->Option Value}{fa f:Addr}{od an:Option Addr}{sl:Array (Option Value)}{oc kV dc pm cd ct:Value}(X:K.In h)(G:h.Ns mainGlobals mg)(hfa:mg "law" = some (.ref fa))
  (aL:PySem.W.nsIn K mainGlobals "law" = some (some (.ref f))) (lL:K.lookup f=some ⟨oc,od,.func (PySem.W.fnOf "law" "law" (bO (top 30)) (aU (top 30)) (defScope (top 30)) .none kV dc pm an cd ct),sl⟩) (cL:PySem.W.codeIn K cd "law" = true) (kL:PySem.W.keepIn K (.ref f)=true)
  (zs:Al (fun x=>PySem.W.nsIn K mainGlobals x=some none) zL) (D:Ad (fun x i=>Def K mg x (top i)) dL)
  {J7:Addr}(Km:PySem.W.nsIn K mainGlobals "NetError" = some (some (.ref J7))) {JV:Addr}(K8:PySem.W.nsIn K mainGlobals "NoRun" = some (some (.ref JV))) {JO:Addr}(Ko:PySem.W.nsIn K mainGlobals "OtherMoves" = some (some (.ref JO))) {Kf:Addr}(Lg:PySem.W.nsIn K mainGlobals "TooGreat" = some (some (.ref Kf))) (Lh:PySem.W.excIn K J7 [.type "ValueError",.type "Exception",.type "BaseException",.type "object"] "ValueError.__new__" = true) (LN:PySem.W.excIn K JV [.type "ValueError",.type "Exception",.type "BaseException",.type "object"] "ValueError.__new__" = true) (KZ:PySem.W.excIn K JO [.type "ValueError",.type "Exception",.type "BaseException",.type "object"] "ValueError.__new__" = true) (Ki:PySem.W.mroIn K JV (.ref J7)=some true) (J5:PySem.W.mroIn K JO (.ref J7)=some true) (J9:PySem.W.kitOne K (.ref JV) (.type "ValueError")=some true) (JX:PySem.W.kitOne K (.ref JO) (.type "ValueError")=some true) (Ks:PySem.W.kitOne K (.ref JV) (.ref JV)=some true) (Ka:PySem.W.kitOne K (.ref JV) (.ref JO)=some false) (Kj:PySem.W.kitOne K (.ref JV) (.ref Kf)=some false) (Kb:PySem.W.kitOne K (.ref JO) (.ref JV)=some false) (JZ:PySem.W.kitOne K (.ref JO) (.ref JO)=some true) (J6:PySem.W.kitOne K (.ref JO) (.ref Kf)=some false) (KJ:Asks K JV) (Kg:Asks K JO):
  ∃fd:FuncData,(∀(s:Shared) (v:Value),BindsTo s fd ⟨[v],[]⟩ [("_law_script",v)])/\∀base:Heap,K.In base->base.Ns mainGlobals mg->FnOk l.prog w K mg base L4 8 fa fd ["_law_script"] (xk K):=by
 have e:=hfa.symm.trans (Xl X G aL);cases e;have Z:Zs K mg:=⟨zs.imp fun _=>PySem.W.mg_none_of X G,D⟩
 have F:=yq (st:=(top 30)) lL cL kL;have PZ:=Xl X G Km;have My:=Xl X G K8;have Lj:=Xl X G Ko;have Lu:=Xl X G Lg;refine⟨PySem.W.fnOf "law" "law" (bO (top 30)) (aU (top 30)) (defScope (top 30)) .none kV dc pm an cd ct,fun s v=>.of_eq rfl,fun base KB GB=>?_⟩;have Lv:XCl mg base "NetError" J7:=⟨_,_,_,_,Xn,sV KB GB Km Lh⟩
 have Om:XCl mg base "NoRun" JV:=⟨_,_,_,_,Xn,sV KB GB K8 LN⟩
 have LO:XCl mg base "OtherMoves" JO:=⟨_,_,_,_,Xn,sV KB GB Ko KZ⟩
 have Oo:=xH (P:=l.prog) (w:=w) (K:=K) (mg:=mg) (base:=base) Z LO;have K0:=dw (P:=l.prog) (w:=w) (K:=K) (mg:=mg) (base:=base) Z Oo;have Mh:=oz (P:=l.prog) (w:=w) (K:=K) (mg:=mg) (base:=base) Z Om;have K1:=dy (P:=l.prog) (w:=w) (K:=K) (mg:=mg) (base:=base) Z K0;have Lk:Ct l.prog w K mg base "_law_refused" 7 (spF K aR):=gH Z Mh My Lj Lu Ki J9 Ks Ka Kj KJ Lv;have Ll:Ct l.prog w K mg base "_law_refused" 7 (spF K aF):=gI Z K1 My Lj Lu J5 JX Kb JZ J6 Kg Lv;exact(E3 Z F Lk Ll).imp (Es vN)
end FIN
def PySem.W.Fast.tw16680153979891432854:=0
def PySem.W.Fast.tw108359417194105854:=0
def PySem.W.Fast.tw9148855563213323323:=0
def PySem.W.Fast.tw17260207754763450424:=0
def PySem.W.Fast.tw5260651348933290623:=0
def PySem.W.Fast.tw9331609936304201245:=0
def PySem.W.Fast.tw784383736965902601:=0
def PySem.W.Fast.tw10122496786274631152:=0
def PySem.W.Fast.tw17783329196972805511:=0
def PySem.W.Fast.tw14608942732345251793:=0
def PySem.W.Fast.tw5156072170249713311:=0
def PySem.W.Fast.tw8502211885644246873:=0
def PySem.W.Fast.tw2639245860501675247:=0
def PySem.W.Fast.tw323406028160765687:=0
def PySem.W.Fast.tw15158084911069837084:=0
def PySem.W.Fast.tw12509761105960768764:=0
def PySem.W.Fast.tw14367892486618977047:=0
def PySem.W.Fast.tw904495863505835103:=0
def PySem.W.Fast.tw13230613313900085172:=0
def PySem.W.Fast.tw8023421289012355242:=0
def PySem.W.Fast.tw12365063409280682644:=0
def PySem.W.Fast.tw11934486710246055054:=0
def PySem.W.Fast.tw1535407724888451843:=0
def PySem.W.Fast.tw4371362212256795998:=0
def PySem.W.Fast.tw6550039877153343518:=0
def PySem.W.Fast.tw11204419339732128894:=0
def PySem.W.Fast.tw652977938036610052:=0
def PySem.W.Fast.tw1473040591149167454:=0
def PySem.W.Fast.tw11316597122840694566:=0
def PySem.W.Fast.tw15655235661435124297:=0
def PySem.W.Fast.tw18130695118566013757:=0
open PySem.W
set_option maxRecDepth 100000 in
set_option maxHeartbeats 0 in
theorem PySem.Challenge.cw_netfinder_k92_whole_thinned_nets_holds : PySem.Challenge.rw_netfinder_k92_whole_thinned_nets.Holds := by
  w_on; o_law; k_head; (case hw => w_witness2)
  k_fill
  refine PV.walk (l := PySem.Challenge.rw_netfinder_k92_whole_thinned_nets) (k := 8) (x := "_law_script") rfl rfl ⟨rfl, by decide, by decide⟩ (fun w h Y => PySem.W.kIn_of Y) ?F
  case F =>
    intro w mg fa h KX G Qw
    refine' FIN.Gh KX G Qw ?aL ?lL ?cL ?kL ?zs ?D ?Km ?K8 ?Ko ?Lg ?Lh ?LN ?KZ ?Ki ?J5 ?J9 ?JX ?Ks ?Ka ?Kj ?Kb ?JZ ?J6 ?KJ ?Kg
    (case aL => k_is); (case lL => k_is); (case cL => k_is); (case kL => k_is)
    (case zs => ((iterate 13 (refine' PV.Al.cons ?a ?_; (case a => k_is))); exact trivial))
    (case D => ((iterate 20 (refine' PV.Ad.cons (PV.Ez KX G ?a ?l ?c ?k) ?_; (case a => k_is); (case l => k_is); (case c => k_is); (case k => k_is))); exact trivial))
    (case Km => k_is)
    (case K8 => k_is)
    (case Ko => k_is)
    (case Lg => k_is)
    (case Lh => k_exc)
    (case LN => k_exc)
    (case KZ => k_exc)
    (case Ki => k_is)
    (case J5 => k_is)
    (case J9 => kit_is)
    (case JX => kit_is)
    (case Ks => kit_is)
    (case Ka => kit_is)
    (case Kj => kit_is)
    (case Kb => kit_is)
    (case JZ => kit_is)
    (case J6 => kit_is)
    (case KJ => (refine' NX.Asks.mk ?a ?b ?c ?d ?e ?f ?g ?h; (case a => k_is); (case b => k_is); (case c => k_is); (case d => k_is); (case e => k_is); (case f => k_is); (case g => k_is); (case h => k_is)))
    (case Kg => (refine' NX.Asks.mk ?a ?b ?c ?d ?e ?f ?g ?h; (case a => k_is); (case b => k_is); (case c => k_is); (case d => k_is); (case e => k_is); (case f => k_is); (case g => k_is); (case h => k_is)))
