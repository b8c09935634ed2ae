import PyProof.Rows.All
import Wide.All
import OpenK.AllK
import Wide.FinOn
import Lean
import PyProof.EqAt
import PyProof.EqKinds
import PyProof.TupleCall
import PySem.Challenge.RW_netfinder_k51_rows_that_are_stretches
set_option Elab.async false
set_option linter.all false
set_option maxRecDepth 100000
set_option compiler.extract_closed false
set_option bootstrap.genMatcherCode false
noncomputable section
theorem Zz{a b:Prop}(x:a)(y:b):a∧b:=⟨x,y⟩
def Uk:=@PySem.wpAny_bind
def Ul:=@PySem.wpAny_pure
def Um:=@List.length_map
def Uo:=@List.size_toArray
def Up:=@Bool.false_ne_true
def Uq:=@List.mem_cons_self
def Ur:=@Nat.le_refl
def Us:=@List.mem_append_right
def Ut:=@if_pos
def Uu:=@PySem.Heap.lt_size
def Uv:=@List.map_append
def Uw:=@List.mem_of_getElem?
def Ux:=@List.mem_cons
def Uy:=@List.mem_cons_of_mem
def Uz:=@Bool.and_eq_true
def UA:=@List.mem_append_left
def UB:=@Nat.lt_of_lt_of_le
def UC:=@List.map_map
def UD:=@if_neg
def UE:=@List.all_eq_true
def UG:=@List.length_singleton
def UH:=@List.map_cons
def UI:=@List.length_cons
def UJ:=@List.mem_singleton
def UK:=@Nat.ne_of_lt
def UL:=@decide_eq_true_eq
def UM:=@List.length_range
def UN:=@Int.eq_ofNat_of_zero_le
def UO:=@decide_eq_false
def UP:=@Bool.eq_iff_iff
def UQ:=@beq_iff_eq
def UR:=@List.mem_range
def US:=@List.nodup_cons
def UT:=@PySem.PassesOwn.never
def UU:=@Option.some.inj
def UW:=@decide_eq_true
def UX:=@Option.map_eq_some_iff
def UY:=@List.mem_map
def UZ:=@PySem.W.mg_none_of
def U0:=@List.mem_iff_getElem?
def U1:=@List.map_nil
def U2:=@Int.toNat_natCast
def U3:=@List.nodup_append
def U4:=@List.length_take
def U5:=@List.mem_append
def U6:=@Nat.zero_le
def U7:=@beq_eq_false_iff_ne
def U8:=@List.any_eq_true
def U9:=@List.not_mem_nil
def Va:=@PySem.wpAny_newObj_type
def Vb:=@List.length_append
def Vc:=@PySem.wpAny_mono
def Vd:=@List.append_nil
def Ve:=@beq_self_eq_true
def Vf:=@List.take_add_one
def Vg:=@PySem.wpAny_seqItems
def Vh:=@Nat.le_trans
def Vi:=@List.all_map
def Vj:=@PySem.wpAny_call_entry
def Vk:=@List.lookup_cons
def Vl:=@List.take_length
def Vm:=@List.nodup_nil
def Vn:=@Bool.not_false
def Vo:=@List.append_assoc
def Vp:=@decide_eq_false_iff_not
def Vq:=@Option.bind_eq_some_iff
def Vr:=@PySem.sizeLine_eq
def Vs:=@List.eq_nil_of_length_eq_zero
def Vt:=@List.getElem_mem
def Vu:=@Bool.not_true
def Vv:=@List.map_congr_left
def Vx:=@List.length_pos_iff
def Vy:=@PySem.wpAny_truthy_bool
def Vz:=@Option.isSome_iff_exists
def VA:=@of_decide_eq_true
def VB:=@Ne.symm
def VC:=@congrArg
def VD:=@PySem.wpAny_field
def VE:=@Bool.false_eq_true
def VF:=@List.zip_cons_cons
def VG:=@PySem.W.mg_of
def VH:=@PySem.W.kia_one
def VI:=@List.idxOf_lt_length_of_mem
def VJ:=@Array.length_toList
def VL:=@PyProof.Rows.slot_tuple_getitem
def VM:=@List.replicate_succ
def VN:=@Nat.lt_irrefl
def VO:=@PySem.wpAny_holding
def VP:=@PySem.wpAny_tryCatch
def VQ:=@List.length_set
def VR:=@List.length_nil
def VS:=@decide_false
def VT:=@PySem.wpAny_Call_Name_kw
def VU:=@PySem.wpAny_typeNameOfWhole_keyiter
def VW:=@PySem.Around.under_plainId
def VX:=@PySem.F.slot_dict_keyiterator_next
def VY:=@List.any_map
def VZ:=@List.flatten_cons
def V0:=@PyProof.Rows.callWith_type1
def V1:=@PySem.mem_of_lookup
def V2:=@PySem.wpAny_letGo
def V3:=@PyProof.Rows.KeyOrd.kle_refl
def V4:=@List.take_of_length_le
def V5:=@PySem.F.slot_tuple_iterator_next
def V6:=@PySem.wpAny_execs_cons
def V7:=@PySem.F.plain_max_loop
def V8:=@PySem.F.plain_min_loop
def V9:=@PySem.wpAny_pyIter_tuple
def Wa:=@List.mem_filterMap
def Wb:=@PySem.wpAny_setField_rec
def Wc:=@decide_true
def Wd:=@PySem.wpAny_passesOwn
def We:=@PySem.wpAny_pyIter_list
def Wf:=@PySem.codeAny_builtin
def Wg:=@Bool.eq_false_iff
def Wh:=@PySem.F.slot_tuple_index
def Wi:=@List.filterMap_cons_none
def Wj:=@List.filterMap_cons_some
def Wl:=@List.filterMap_cons
def Wm:=@PySem.plainId_quiet
def Wn:=@PySem.F.slot_list_index
def Wo:=@Bool.and_self
def Wq:=@List.length_drop
def Wr:=@Nat.lt_succ_self
def Ws:=@PySem.Heap.size_push
def Wt:=@List.take_zero
def Wu:=@List.pairwise_cons
def Wv:=@List.foldl_cons
def Wx:=@Bool.or_eq_true
def Wy:=@Nat.le_succ
def Wz:=@PySem.wpAny_updateSeq
def WB:=@List.nodup_iff_pairwise_ne
def WC:=@PySem.Calls.call_function_entry
def WD:=@List.toList_toArray
def WE:=@PySem.Heap.SameBut.update
def WG:=@PySem.F.args_tuple_add_2
def WH:=@PySem.wpAny_typeOf
def WI:=@PySem.F.type_tuple_index
def WJ:=@List.mem_filter
def WK:=@PySem.wpAny_execs_nil
def WL:=@List.of_mem_zip
def WM:=@PySem.F.entry_tuple_add
def WN:=@if_true
def WO:=@PySem.Obj.data_mapFields
def WQ:=@List.cons.inj
def WR:=@PySem.tupleKind_room_in1
def WS:=@List.length_zip
def WT:=@PySem.F.type_list_index
def WU:=@Nat.not_lt_zero
def WV:=@List.map_take
def WX:=@PySem.F.slot_tuple_add
def WY:=@PyProof.Rows.KeyOrd.kle_of_klt
def WZ:=@List.ext_getElem?
def W0:=@PySem.wpAny_dictEntries
def W2:=@List.pairwise_map
def W3:=@Option.some.injEq
def W4:=@if_false
def W5:=@PySem.F.args_dict_keyiterator_next_1
def W6:=@PyProof.Rows.KeyOrd.kle_trans
def W7:=@PySem.F.entry_dict_keyiterator_next
def W8:=@PySem.Calls.evalArgs_plain
def W9:=@PySem.codeAny_call_builtin
def Xa:=@PySem.wpAny_updateSeq_pair
def Xb:=@PySem.W.looks_findIn
def Xc:=@List.mem_of_mem_take
def Xd:=@PySem.Paired.length
def Xe:=@PySem.F.args_tuple_iterator_next_1
def Xf:=@PySem.wpAny_attempt
def Xg:=@List.all_cons
def Xh:=@PySem.W.hideAll_get
def Xi:=@List.getElem_of_mem
def Xj:=@PySem.F.entry_tuple_iterator_next
def Xk:=@PySem.F.slot_zip_next
def Xl:=@Array.getD_eq_getD_getElem?
def Xm:=@List.nil_append
def Xn:=@Nat.min_eq_left
def Xo:=@PySem.Calls.Name_function_global
def Xp:=@Bool.true_or
def Xq:=@Int.cast_ofNat_Int
def Xr:=@PySem.wpAny_setField
def Xs:=@List.drop_eq_getElem_cons
def Xt:=@Bool.and_false
def Xu:=@List.mem_or_eq_of_mem_set
def Xv:=@List.take_sublist
def Xw:=@PySem.wpAny_getItem_list_slice
def Xx:=@bne_self_eq_false
def Xy:=@PySem.wpAny_comprehension_free
def Xz:=@Nat.lt_succ_of_lt
def XA:=@List.foldl_append
def XB:=@PySem.wpAny_rule
def XC:=@Option.isSome_map
def XD:=@PySem.F.slot_tuple_count
def XE:=@List.length_erase_of_mem
def XF:=@List.any_eq_false
def XG:=@List.count_append
def XH:=@Bool.false_or
def XI:=@PySem.wpAny_onRaise
def XJ:=@List.not_lt
def XM:=@PySem.F.plainAttrs_list
def XN:=@Bool.and_true
def XO:=@List.sum_cons
def XQ:=@PySem.noFill_tuple_add
def XR:=@Option.getD_none
def XS:=@Option.getD_some
def XT:=@PySem.F.entry_max_loop
def XU:=@List.cons_append
def XW:=@PySem.call_meets
def XX:=@PySem.F.entry_min_loop
def XY:=@PySem.W.cellsFrom_some
def X3:=@List.Perm.append_right
def X4:=@List.drop_eq_nil_of_le
def X5:=@List.length_pos_of_mem
def X6:=@Nat.le_of_lt
def X8:=@PySem.codeAny_mono
def X9:=@PySem.concat_meets
def Ya:=@Nat.le_of_eq
def Yb:=@List.forIn_cons
def Yd:=@PySem.wpAny_dictEpoch
def Yf:=@List.Perm.append_left
def Yg:=@List.perm_append_comm
def Yh:=@List.set_set
def Yi:=@List.idxOf_cons
def Yj:=@Nat.zero_add
def Yk:=@Nat.sub_self
def Yl:=@Int.natCast_add
def Ym:=@List.count_cons_of_ne
def Yn:=@PySem.typeIs_str
def Yo:=@PySem.typeIs_int
def Yq:=@List.getElem_toArray
def Yr:=@List.findIdx_getElem
def Ys:=@List.count_le_length
def Yt:=@Bool.false_and
def Yu:=@List.drop_zero
def Yw:=@PySem.seqIndex_of
def Yx:=@PySem.wpAny_of_eq
def Yz:=@PySem.W.looks_mroIn
def YA:=@List.take_succ_cons
def YB:=@List.drop_succ_cons
def YE:=@PySem.W.of_hideAll
def YF:=@Array.append_assoc
def YG:=@PySem.W.callWith_K
def YH:=@PySem.wpAny_standAt
def YI:=@PySem.seq_tuple_add
def YM:=@PySem.wpAny_newList
def YN:=@of_decide_eq_false
def YO:=@List.any_cons
def YQ:=@List.getElem_range
def YR:=@PySem.call_int_int
def Y2:=@Nat.ne_of_gt
def Y5:=@Nat.add_zero
def Y6:=@Nat.mul_comm
def Y7:=@List.map_set
def Zo:=@or_false
namespace L2
open PySem PySem.Spec PyProof.Rows
def IsTupN(h:Heap)(a:Addr)(items:Array Value):Prop:=∃o,h.get? a=some o/\o.cls=.type "tuple"/\(∃n,o.data=.seq items n)/\o.dict=none
theorem IsTupN.tup{h:Heap}{a:Addr}{items:Array Value}(p:IsTupN h a items):IsTup h a items:=by
 obtain⟨o,e,c,n,_⟩:=p;exact⟨o,e,c,n⟩
theorem IsTupN.new(h:Heap)(items:Array Value):IsTupN (h.push {cls:=.type "tuple",data:=.seq items}) h.objs.size items:=⟨_,Heap.get?_push_size _ rfl,rfl,⟨_,rfl⟩,rfl⟩
abbrev Key:=Sum Int Str
def sO:Key->Value->Bool
 | .inl k,v=>Value.isInt k v
 | .inr x,v=>Value.isStrOf x v
def FR(w:World):Key->Int
 | .inl k=>hashInt k
 | .inr x=>hashStr w x
theorem b9:∀{k:Key}{v:Value},sO k v=true->(∃i t,k=Sum.inl i/\v=Value.int i t)\/(∃x t,k=Sum.inr x/\v=Value.str x t)
 | .inl i,v,h=>by
  obtain⟨t,e⟩:=Value.isInt_shape (k:=i) (v:=v) h;exact .inl ⟨i,t,rfl,e⟩
 | .inr x,v,h=>by
  obtain⟨t,e⟩:=Value.isStrOf_shape (x:=x) (v:=v) h;exact .inr ⟨x,t,rfl,e⟩
theorem ud(i:Int)(t:Tok):sO (.inl i) (.int i t)=true:=by simp[sO,Value.isInt]
theorem ue(x:Str)(t:Tok):sO (.inr x) (.str x t)=true:=by simp[sO,Value.isStrOf]
theorem Bw(a b:Int):decide ((Sum.inl a:Key)=Sum.inl b)=(a==b):=by
 by_cases e:a=b
 ·subst e;simp
 ·have h:¬ (Sum.inl a:Key)=Sum.inl b:=fun q=>e (Sum.inl.inj q)
  rw[UO h];exact(U7.mpr e).symm
theorem Bx(a b:Str):decide ((Sum.inr a:Key)=Sum.inr b)=decide (a=b):=by
 by_cases e:a=b
 ·subst e;simp
 ·have h:¬ (Sum.inr a:Key)=Sum.inr b:=fun q=>e (Sum.inr.inj q)
  rw[UO h,UO e]
theorem By(a:Int)(b:Str):decide ((Sum.inl a:Key)=Sum.inr b)=false:=UO (fun q=>nomatch q)
theorem Bz(a:Str)(b:Int):decide ((Sum.inr a:Key)=Sum.inl b)=false:=UO (fun q=>nomatch q)
noncomputable def mixKind(prog:Program)(w:World):PySem.KeyKind prog w Key where
 is:=sO
 hash:=FR w
 inj:=fun v a b ha hb=>by
  rcases b9 ha with⟨i,t,rfl,rfl⟩|⟨x,t,rfl,rfl⟩
  ·rcases b9 hb with⟨j,u,rfl,e⟩|⟨y,u,rfl,e⟩
   ·injection e with e1 _;rw[e1]
   ·exact nomatch e
  ·rcases b9 hb with⟨j,u,rfl,e⟩|⟨y,u,rfl,e⟩
   ·exact nomatch e
   ·injection e with e1 _;rw[e1]
 byValue:=fun k v h=>by
  rcases b9 h with⟨i,t,rfl,rfl⟩|⟨x,t,rfl,rfl⟩ <;> rfl
 pyHash:=fun hv h=>by
  rcases b9 hv with⟨i,t,rfl,rfl⟩|⟨x,t,rfl,rfl⟩
  ·exact wpAny_pyHash_int h
  ·exact wpAny_pyHash_str h
 eqBool:=fun hu hv h=>by
  rcases b9 hu with⟨i,t,rfl,rfl⟩|⟨x,t,rfl,rfl⟩
  ·rcases b9 hv with⟨j,u,rfl,rfl⟩|⟨y,u,rfl,rfl⟩
   ·rw[Bw]at h;exact wpAny_eqBool_int h
   ·rw[By]at h;exact SeqAt.EqAt.int_str i t y u _ _ _ _ h
  ·rcases b9 hv with⟨j,u,rfl,rfl⟩|⟨y,u,rfl,rfl⟩
   ·rw[Bz]at h;exact SeqAt.EqAt.str_int x t j u _ _ _ _ h
   ·rw[Bx]at h;exact wpAny_eqBool_str h
 «strs»:=fun k x t v h=>by
  rcases b9 h with⟨i,u,rfl,e⟩|⟨y,u,rfl,e⟩
  ·exact nomatch e
  ·injection e with e1 _;subst e1;cases v <;> rfl
theorem qh(prog:Program)(w:World)(i:Int)(t:Tok):(mixKind prog w).is (.inl i) (.int i t)=true:=ud i t
theorem qi(prog:Program)(w:World)(x:Str)(t:Tok):(mixKind prog w).is (.inr x) (.str x t)=true:=ue x t
inductive V where
 |non|bl (b:Bool)|int (i:Int)|str (x:Str)|byt (b:Array UInt8)|flt (b:UInt64)|ref (a:Addr)|ty (n:String)
 deriving DecidableEq
noncomputable def RelV:V->Value->Prop
 | .non,u=>u=Value.none
 | .bl b,u=>u=Value.bool b
 | .int i,u=>∃t,u=Value.int i t
 | .str x,u=>∃t,u=Value.str x t
 | .byt b,u=>∃t,u=Value.bytes b t
 | .flt b,u=>∃t,u=Value.float b t
 | .ref a,u=>u=Value.ref a
 | .ty n,u=>u=Value.type n
abbrev Vals:List V->List Value->Prop:=Paired RelV
theorem Vals.length{xs:List V}{us:List Value}(r:Vals xs us):xs.length=us.length:=Xd r
theorem Vals.get:∀{xs:List V}{us:List Value}{i:Nat}{x:V},Vals xs us->xs[i]?=some x->∃u,us[i]?=some u/\RelV x u
 |_,_,_,_,.nil,e=>by simp at e
 |_,_,0,_,.cons r _,e=>by simp at e;subst e;exact⟨_,rfl,r⟩
 |_,_,i+1,x,.cons _ t,e=>by
  obtain⟨u,h1,h2⟩:=Vals.get (i:=i) (x:=x) t (by simpa using e);exact⟨u,by simpa using h1,h2⟩
theorem Vals.set{x:V}{u:Value}(r:RelV x u):∀{xs:List V}{us:List Value}(i:Nat),Vals xs us->Vals (xs.set i x) (us.set i u)
 |_,_,_,.nil=>.nil
 |_,_,0,.cons _ t=>.cons r t
 |_,_,i+1,.cons q t=>.cons q (Vals.set r i t)
theorem Vals.append:∀{xs ys:List V}{us ws:List Value},Vals xs us->Vals ys ws->Vals (xs++ys) (us++ws)
 |_,_,_,_,.nil,s=>s
 |_,_,_,_,.cons r t,s=>.cons r (Vals.append t s)
theorem Vals.take:∀{xs:List V}{us:List Value}(n:Nat),Vals xs us->Vals (xs.take n) (us.take n)
 |_,_,0,_=>.nil
 |_,_,_+1,.nil=>.nil
 |_,_,n+1,.cons r t=>.cons r (Vals.take n t)
theorem Vals.drop:∀{xs:List V}{us:List Value}(n:Nat),Vals xs us->Vals (xs.drop n) (us.drop n)
 |_,_,0,r=>r
 |_,_,_+1,.nil=>.nil
 |_,_,n+1,.cons _ t=>Vals.drop n t
theorem Vals.none_of:∀{xs:List V}{us:List Value}{i:Nat},Vals xs us->xs[i]?=none->us[i]?=none:=fun{xs us i} r e=>by
 have h1:=r.length;have h2:xs.length<=i:=List.getElem?_eq_none_iff.mp e;exact List.getElem?_eq_none_iff.mpr (by lia)
def RelO:Option V->Option Value->Prop
 |some v,some u=>RelV v u
 |none,none=>True
 |_,_=>False
def KV{κ:Type}:List (κ×V)->List (κ×Value)->Prop:=Paired fun(p:κ×V) (q:κ×Value)=>p.1=q.1/\RelV p.2 q.2
def kV:Key->V
 | .inl i=>.int i
 | .inr x=>.str x
inductive HO where
 |lst (xs:List V)
 |tup (xs:List V)
 |dK (GV:List (Key×V))|dT (GV:List (List Key×V))
 |set (S:Int->Bool) (n:Nat)
 |ins (C dx:Addr) (fs:List (Str×V))
 |own (x:Addr)
 |xd (fs:List (Str×V))
 |met (f x:Addr)
 |rng (lo hi:Int)
 |frz (o:Obj) (u:HO)
 |tbl (ps:Array Value)
 |ext (φ:Heap->Prop)
abbrev Hp:=Addr->Option HO
def upd(H:Hp)(a:Addr)(o:HO):Hp:=fun b=>if b=a then some o else H b
theorem bU{H:Hp}{a:Addr}{o:HO}:upd H a o a=some o:=by unfold upd;rw[Ut rfl]
theorem aS{H:Hp}{a b:Addr}{o:HO}(h:b≠a):upd H a o b=H b:=by unfold upd;rw[UD h]
theorem Ef{H:Hp}{a b:Addr}{o u:HO}(h:H a=some o)(h':H b=some u)(d:o≠u):a≠b:=by
 intro e;subst e;rw[h]at h';exact d (UU h')
theorem bz{H:Hp}{a b:Addr}{o:HO}(h:H a=some o)(h':H b=none):a≠b:=by
 intro e;subst e;rw[h]at h';cases h'
section
variable(P:Program)(w:World)
noncomputable def ObjOk(H:Hp)(h:Heap)(a:Addr):HO->Prop
 | .lst xs=>xs.length<=sizeLine/\∃(GU:List Value) (n:Nat),Vals xs GU/\h.get? a=some {cls:=.type "list",data:=.seq GU.toArray n}
 | .tup xs=>xs.length<=sizeLine/\∃GU:List Value,Vals xs GU/\IsTupN h a GU.toArray
 | .dK GV=>GV.length<=sizeLine/\(a==sysModules)=false/\∃vs,KV GV vs/\h.DictOf (mixKind P w) a vs
 | .dT GV=>GV.length<=sizeLine/\(a==sysModules)=false/\∃xs:List (List Key×Addr×Value),
   Paired (fun(p:List Key×V) (q:List Key×Addr×Value)=>p.1=q.1/\H q.2.1=some (.tup (p.1.map kV))/\RelV p.2 q.2.2) GV xs/\
   ∃o es ep,h.get? a=some o/\o.ExactDict/\o.data=.dict es ep/\es.toList=xs.map (entryOfKey (tupleKind (mixKind P w)))/\(xs.map (·.1)).Nodup
 | .set S n=>h.SetOf (intKind P w) a S n
 | .ins C dx fs=>H dx=some (.own a)/\fs.length<=1000/\dx≠a/\h.get? a=some (PySem.W.instObj C dx)/\
   ∃mA,h.Ns1 dx mA/\(∀f,RelO (fs.lookup f) (mA f))/\PySem.Within mA (fs.map (·.1))
 | .own _=>∃o,h.get? a=some o
 | .xd fs=>∃mA,h.Ns1 a mA/\∀f,RelO (fs.lookup f) (mA f)
 | .rng lo hi=>∃t u v,h.get? a=some {cls:=.type "range",data:=.fields #[.int lo t,.int hi u,.int 1 v]}
 | .frz o u=>h.get? a=some o/\ObjOk H h a u
 | .tbl ps=>h.get? a=some {cls:=.none,data:=.fields ps}
 | .met f x=>h.get? a=some (PySem.W.methodObj (.ref f) (.ref x))
 | .ext φ=>φ h/\(∃o,h.get? a=some o)/\∀h1 h2:Heap,φ h1->(∀o,h1.get? a=some o->h2.get? a=some o)->φ h2
def HOk(H:Hp)(h:Heap):Prop:=∀a o,H a=some o->ObjOk P w H h a o
end
section
variable{P:Program}{w:World}{H H':Hp}{h h':Heap}{a:Addr}{o:HO}
theorem ObjOk.lt(x:ObjOk P w H h a o):a<h.objs.size:=by
 cases o with
 |lst xs=>obtain⟨_,_,_,_,e⟩:=x;exact Uu e
 |tup xs=>obtain⟨_,_,_,p⟩:=x;exact p.tup.lt
 |dK GV=>obtain⟨_,_,_,_,o,_,_,e,_⟩:=x;exact Uu e
 |dT GV=>obtain⟨_,_,_,_,o,_,_,e,_⟩:=x;exact Uu e
 |set S n=>obtain⟨o,_,_,_,e,_⟩:=x;exact Uu e
 |ins C dx fs=>obtain⟨_,_,_,e,_⟩:=x;exact Uu e
 |own y=>obtain⟨_,e⟩:=x;exact Uu e
 |xd fs=>obtain⟨_,⟨_,_,_,e,_⟩,_⟩:=x;exact Uu e
 |rng lo hi=>obtain⟨_,_,_,e⟩:=x;exact Uu e
 |frz ob u=>obtain⟨e,_⟩:=x;exact Uu e
 |tbl ps=>exact Uu (show h.get? a=some _ from x)
 |met f y=>exact Uu (show h.get? a=some _ from x)
 |ext φ=>obtain⟨_,⟨_,e⟩,_⟩:=x;exact Uu e
theorem Paired.mapP{α β:Type}{F G:α->β->Prop}:∀{l₁:List α}{l₂:List β},Paired F l₁ l₂->(∀a b,F a b->G a b)->Paired G l₁ l₂
 |_,_,.nil,_=>.nil
 |_,_,.cons r t,f=>.cons (f _ _ r) (Paired.mapP t f)
theorem ObjOk.stay(x:ObjOk P w H h a o)(k:∀b u,(b=a\/H b=some (.own a))->h.get? b=some u->h'.get? b=some u)
  (ho:∀b,H b=some (.own a)->H' b=some (.own a)) (ht:∀b xs,H b=some (.tup xs)->H' b=some (.tup xs)):ObjOk P w H' h' a o:=by
 induction o with
 |lst xs=>obtain⟨z,GU,n,r,e⟩:=x;exact⟨z,GU,n,r,k _ _ (.inl rfl) e⟩
 |tup xs=>obtain⟨z,GU,r,ob,e,c⟩:=x;exact⟨z,GU,r,ob,k _ _ (.inl rfl) e,c⟩
 |dK GV=>obtain⟨z,y,vs,r,ob,es,ep,e,c⟩:=x;exact⟨z,y,vs,r,ob,es,ep,k _ _ (.inl rfl) e,c⟩
 |dT GV=>
  obtain⟨z,y,xs,r,ob,es,ep,e,c⟩:=x;exact⟨z,y,xs,Paired.mapP r fun p q z=>⟨z.1,ht _ _ z.2.1,z.2.2⟩,ob,es,ep,k _ _ (.inl rfl) e,c⟩
 |set S n=>obtain⟨ob,es,ep,t,e,c⟩:=x;exact⟨ob,es,ep,t,k _ _ (.inl rfl) e,c⟩
 |ins C dx fs=>
  obtain⟨d,z,ne,e,mA,⟨od,es,ep,e2,c⟩,r⟩:=x;exact⟨ho _ d,z,ne,k _ _ (.inl rfl) e,mA,⟨od,es,ep,k _ _ (.inr d) e2,c⟩,r⟩
 |own y=>obtain⟨ob,e⟩:=x;exact⟨ob,k _ _ (.inl rfl) e⟩
 |xd fs=>obtain⟨mA,⟨od,es,ep,e,c⟩,r⟩:=x;exact⟨mA,⟨od,es,ep,k _ _ (.inl rfl) e,c⟩,r⟩
 |rng lo hi=>obtain⟨t,u,v,e⟩:=x;exact⟨t,u,v,k _ _ (.inl rfl) e⟩
 |frz ob u ih=>obtain⟨e,q⟩:=x;exact⟨k _ _ (.inl rfl) e,ih q⟩
 |tbl ps=>
  have e:h.get? a=some {cls:=.none,data:=.fields ps}:=x;show h'.get? a=some {cls:=.none,data:=.fields ps};exact k a _ (.inl rfl) e
 |met f y=>
  have e:h.get? a=some (PySem.W.methodObj (.ref f) (.ref y)):=x;show h'.get? a=some (PySem.W.methodObj (.ref f) (.ref y));exact k a _ (.inl rfl) e
 |ext φ=>obtain⟨p,⟨o,e⟩,st⟩:=x;exact⟨st _ _ p fun o q=>k _ _ (.inl rfl) q,⟨o,k _ _ (.inl rfl) e⟩,st⟩
theorem HOk.lt(x:HOk P w H h)(e:H a=some o):a<h.objs.size:=(x a o e).lt
theorem HOk.fresh(x:HOk P w H h)(e:h.objs.size<=a):H a=none:=by
 cases q:H a with
 |none=>rfl
 |some u=>exact absurd (UB (x.lt q) e) (VN _)
theorem HOk.kept(x:HOk P w H h)(k:∀b u,h.get? b=some u->h'.get? b=some u):HOk P w H h':=fun a o e=>
 (x a o e).stay (fun b u _ q=>k b u q) (fun _ q=>q) fun _ _ q=>q
theorem HOk.laid(x:HOk P w H h)(k:∀b u,h.get? b=some u->h'.get? b=some u)(hp:h.objs.size<=a)(new:ObjOk P w (upd H a o) h' a o):HOk P w (upd H a o) h':=fun b u e=>by
 have hn:=x.fresh hp;by_cases hb:b=a
 ·subst hb;rw[bU]at e;cases e;exact new
 ·rw[aS hb]at e;exact(x b u e).stay (fun c v _ q=>k c v q) (fun c q=>by rw[aS (bz q hn)];exact q) fun c xs q=>by rw[aS (bz q hn)];exact q
end
def Rd(H:Hp)(a:Addr)(u:HO):Prop:=H a=some u\/∃o,H a=some (.frz o u)
theorem Rd.ok{P:Program}{w:World}{H:Hp}{h:Heap}{a:Addr}{u:HO}(r:Rd H a u)(x:HOk P w H h):ObjOk P w H h a u:=by
 rcases r with r|⟨o,r⟩
 ·exact x a u r
 ·obtain⟨_,q⟩:=x a _ r;exact q
def Qe:Option HO->Prop
 |some (.lst _)=>True
 |some (.dK _)=>True
 |some (.dT _)=>True
 |some (.set _ _)=>True
 |some (.ins _ _ _)=>True
 |some (.ext _)=>True
 |_=>False
section
variable{P:Program}{w:World}{H:Hp}{h h':Heap}{x e:Addr}{o':HO}
theorem HOk.write(ok:HOk P w H h)(mu:Qe (H x))(he:e=x\/H e=some (.own x))(k:∀b u,b≠e->h.get? b=some u->h'.get? b=some u)(PU:∃u,h'.get? e=some u)
  (new:ObjOk P w (upd H x o') h' x o'):HOk P w (upd H x o') h':=fun b u q=>by
 have Me:∀c y,H c=some (.own y)->c≠x:=fun c y r z=>by subst z;rw[r]at mu;exact mu
 have ntup:∀c xs,H c=some (.tup xs)->c≠x:=fun c xs r z=>by subst z;rw[r]at mu;exact mu
 by_cases hb:b=x
 ·subst hb;rw[bU]at q;cases q;exact new
 ·rw[aS hb]at q;by_cases hbe:b=e
  ·have q':H b=some (.own x):=by
    rcases he with z|z
    ·exact absurd (hbe.trans z) hb
    ·rw[hbe];exact z
   rw[q]at q';cases q';obtain⟨v,hv⟩:=PU;exact⟨v,by rw[hbe];exact hv⟩
  ·refine(ok b u q).stay (fun c v hc r=>k c v ?_ r) (fun c r=>by rw[aS (Me c b r)];exact r) fun c xs r=>by rw[aS (ntup c xs r)];exact r
   rcases hc with rfl|hc
   ·exact hbe
   ·rintro rfl;rcases he with z|z
    ·exact Me c b hc z
    ·rw[hc]at z;cases z;exact hb rfl
end
structure Un(fs ex:List Addr)(H H':Hp)(h h':Heap):Prop where
 keep:∀b o,h.get? b=some o->H b=none->b∉fs->b∉ex->h'.get? b=some o
 slot:∀b o,h.get? b=some o->H b=none->b∈fs->b∉ex->∃sl,h'.get? b=some {o with slots:=sl}
 free:∀b o,h.get? b=some o->H b=none->b∉ex->H' b=none
 there:∀b o,h.get? b=some o->b∉ex->∃o',h'.get? b=some o'
 tups:∀b xs,H b=some (.tup xs)->H' b=some (.tup xs)
 frzs:∀b o u,H b=some (.frz o u)->H' b=some (.frz o u)
 tbls:∀b ps,H b=some (.tbl ps)->∃more,H' b=some (.tbl (ps++more))
section
variable{fs fs' ex ex':List Addr}{H H1 H2:Hp}{h h1 h2 h':Heap}{a x e:Addr}{o:HO}
theorem Un.any(u:Un fs ex H H1 h h1){b:Addr}{ob:Obj}(q:h.get? b=some ob)(n:H b=none)(hx:b∉ex):∃sl,h1.get? b=some {ob with slots:=sl}:=by
 by_cases hb:b∈fs
 ·exact u.slot b ob q n hb hx
 ·exact⟨ob.slots,u.keep b ob q n hb hx⟩
theorem Un.kept(k:∀b u,h.get? b=some u->h'.get? b=some u):Un fs ex H H h h':=
 ⟨fun b ob q _ _ _=>k b ob q,fun b ob q _ _ _=>⟨ob.slots,k b ob q⟩,fun _ _ _ n _=>n,fun b ob q _=>⟨ob,k b ob q⟩,fun _ _ q=>q,fun _ _ _ q=>q,fun _ ps q=>⟨#[],by rw[q];simp⟩⟩
theorem Un.refl:Un fs ex H H h h:=Un.kept fun _ _ q=>q
theorem Un.laid(k:∀b u,h.get? b=some u->h'.get? b=some u)(hp:h.objs.size<=a)(hn:H a=none):Un fs ex H (upd H a o) h h' where
 keep:=fun b u q _ _ _=>k b u q
 slot:=fun b u q _ _ _=>⟨u.slots,k b u q⟩
 free:=fun b u q n _=>by rw[aS (UK (UB (Uu q) hp))];exact n
 there:=fun b u q _=>⟨u,k b u q⟩
 tups:=fun b xs q=>by rw[aS (bz q hn)];exact q
 frzs:=fun b u xs q=>by rw[aS (bz q hn)];exact q
 tbls:=fun b ps q=>⟨#[],by rw[aS (bz q hn),q];simp⟩
theorem Un.write(mu:Qe (H x))(he:e=x\/H e=some (.own x))(k:∀b u,b≠e->h.get? b=some u->h'.get? b=some u)(PU:∃u,h'.get? e=some u):Un fs ex H (upd H x o) h h':=by
 have hx:∀b,H b=none->b≠x:=fun b n z=>by subst z;rw[n]at mu;exact mu
 have hb:∀b,H b=none->b≠e:=fun b n z=>by
  subst z;rcases he with r|r
  ·exact hx b n r
  ·rw[n]at r;cases r
 have hm:∀b u,H b=some u->¬ Qe (some u)->b≠x:=fun b u q nm z=>by subst z;rw[q]at mu;exact nm mu
 refine⟨fun b u q n _ _=>k b u (hb b n) q,fun b u q n _ _=>⟨u.slots,k b u (hb b n) q⟩,fun b u q n _=>by rw[aS (hx b n)];exact n,fun b u q _=>?_,
  fun b xs q=>by rw[aS (hm b _ q fun z=>z)];exact q,fun b u xs q=>by rw[aS (hm b _ q fun z=>z)];exact q,fun b ps q=>⟨#[],by rw[aS (hm b _ q fun z=>z),q];simp⟩⟩
 by_cases hbe:b=e
 ·subst hbe;exact PU
 ·exact⟨u,k b u hbe q⟩
end
def trk(h:Heap)(H:Hp):List Addr:=(List.range h.objs.size).filter fun a=>(H a).isSome
def wX(h:Heap)(H:Hp):Heap:=PySem.W.hideAll h (trk h H)
theorem uf(h:Heap)(H:Hp):(wX h H).objs.size=h.objs.size:=PySem.W.hideAll_size _ _
theorem wY{h:Heap}{H:Hp}{b:Addr}{o:Obj}(e:h.get? b=some o)(n:H b=none):(wX h H).get? b=some o:=
 Xh _ e fun hm=>by
  have q:(H b).isSome=true:=(WJ.mp hm).2;rw[n]at q;simp at q
theorem yY{h:Heap}{H:Hp}{b:Addr}{o:Obj}(e:(wX h H).get? b=some o):h.get? b=some o/\H b=none:=by
 have e':h.get? b=some o:=YE (trk h H) e;refine⟨e',?_⟩;cases q:H b with
 |none=>rfl
 |some x=>
  have hm:b∈trk h H:=WJ.mpr ⟨UR.mpr (Uu e'),by simp[q]⟩;have z:(wX h H).get? b=none:=PySem.W.hideAll_none (trk h H) hm;rw[z]at e;cases e
def yZ(g h:Heap)(L:Addr):List (Addr×Obj):=(List.range h.objs.size).filterMap fun a=>if a=L\/(g.get? a).isSome=true then none else(h.get? a).map fun o=>(a,o)
def cH(g h:Heap)(L d:Addr):List (Addr×Obj):=(yZ g h L).filter fun p=>decide (p.1≠d)
structure Mod(K:W.Frag)(mg:Str->Option Value)(base:Heap):Prop where
 kin:K.In base
 glob:base.Ns mainGlobals mg
 blt:∃mb,base.Ns builtinsNs mb/\∀x:Str,x≠"__name__"->mb x=bootBuiltins x
 nolimit:base.NoLimit
structure Cx where
 prog:Program
 w:World
 K:W.Frag
 mg:Str->Option Value
 base:Heap
 A:Around
 N:List Str
 s₀:Shared
 H₀:Hp
 env:Env
 outer:List Env
 stack:List Env
 ex:List Addr
 fn:Str->Bool
 calm:Bool
 pn:List (Addr×Obj)
 xe:Value->Shared->Prop
def HY(l:List Env):List Addr:=l.filterMap (·.frame)
abbrev Cx.fs(X:Cx):List Addr:=HY X.outer
def R5(sc:Scope)(x:Str):Prop:=sc.names.lookup x=some .local\/sc.names.lookup x=some .cell\/sc.names.lookup x=some .free
def Loc(sc:Scope)(x:Str):Prop:=sc.names.lookup x=some .local\/sc.names.lookup x=some .cell
def Fz(sc:Scope)(x:Str):Bool:=match sc.names.lookup x with
 |some .local=>true
 |some .cell=>true
 |_=>false
theorem lo{sc:Scope}{x:Str}(h:Fz sc x=true):Loc sc x:=by
 unfold Fz at h;split at h
 ·exact .inl (by assumption)
 ·exact .inr (by assumption)
 ·cases h

def FU(env:Env)(h:Heap)(m:Str->Option Value)(x:Str)(u:Value):Prop:=
 (env.kindOf x=some .local/\m x=some u)\/((env.kindOf x=some .cell\/env.kindOf x=some .free)/\∃c,env.cells.lookup x=some c/\h.IsCell c (some u))
structure Cx.Ok(X:Cx):Prop where
 mod:Mod X.K X.mg X.base
 kind:X.env.scope.kind=.function
 glob:X.env.globals=mainGlobals
 blt:X.env.builtins=builtinsNs
 above:X.s₀.heap.objs.size<=X.env.locals
 inj:∀x y c,X.env.cells.lookup x=some c->X.env.cells.lookup y=some c->x=y
 has:∀x,(X.env.kindOf x=some .cell\/X.env.kindOf x=some .free)->∃c,X.env.cells.lookup x=some c
 cab:∀x c,X.fn x=true->X.env.cells.lookup x=some c->X.s₀.heap.objs.size<=c
 hd:X.calm=true->X.A.handled=none
 frames:X.A.frames=some X.stack
 stk:X.stack=X.outer\/(X.stack=X.env::X.outer/\X.env.frame=some X.env.locals)
 exf:∀b∈X.ex,b≠X.env.locals/\∀x c,X.env.cells.lookup x=some c->c≠b
 bs:∀b o,X.base.get? b=some o->X.s₀.heap.get? b=some o/\X.H₀ b=none
 bsz:X.base.objs.size<=X.s₀.heap.objs.size
 noex:∀b o,X.base.get? b=some o->b∉X.ex
 exfs:∀b∈X.ex,b∉X.fs
 funs:X.s₀.heap.FunFrames X.base X.outer
 frf:∀b∈X.fs,X.H₀ b=none
structure Inv(X:Cx)(pi:List (Addr×Obj))(σ:List (Option V))(H:Hp)(s:Shared):Prop where
 ok:X.Ok
 os:s.os=X.s₀.os
 bare:AllBare s.gens
 base:Un X.fs X.ex X.H₀ H X.s₀.heap s.heap
 loc:∃m,s.heap.Ns X.env.locals m/\∀(i:Nat) (x:Str) (v:V),X.N[i]?=some x->σ[i]?=some (some v)->R5 X.env.scope x->∃u,RelV v u/\FU X.env s.heap m x u
 cell:∀x c,X.env.cells.lookup x=some c->∃v,s.heap.IsCell c v
 free:H X.env.locals=none
 freeC:∀x c,X.env.cells.lookup x=some c->H c=none
 pin:∀p∈X.pn++pi,s.heap.get? p.1=some p.2/\H p.1=none/\p.1≠X.env.locals/\p.1∉X.fs/\∀v,p.2.data≠.cell v
 hok:HOk X.prog X.w H s.heap
 len:σ.length=X.N.length
section
variable{X:Cx}{pi:List (Addr×Obj)}{σ:List (Option V)}{H H':Hp}{s:Shared}{h':Heap}
theorem Cx.Ok.nofr(ok:X.Ok){b:Addr}{o:Obj}(e:X.base.get? b=some o):b∉X.fs:=fun hb=>by
 have:=(ok.funs.mem hb).1;rw[e]at this;cases this
theorem Inv.bs(I:Inv X pi σ H s):∀b o,X.base.get? b=some o->s.heap.get? b=some o/\H b=none:=fun b o e=>
 ⟨I.base.keep b o (I.ok.bs b o e).1 (I.ok.bs b o e).2 (I.ok.nofr e) (I.ok.noex b o e),I.base.free b o (I.ok.bs b o e).1 (I.ok.bs b o e).2 (I.ok.noex b o e)⟩
theorem Inv.bk(I:Inv X pi σ H s):∀b o,X.base.get? b=some o->s.heap.get? b=some o:=fun b o e=>(I.bs b o e).1
theorem Inv.mod(I:Inv X pi σ H s):Mod X.K X.mg X.base:=I.ok.mod
theorem Inv.kIn(I:Inv X pi σ H s):X.K.In s.heap:=I.ok.mod.kin.keeps I.bk
theorem Inv.lt(I:Inv X pi σ H s):X.env.locals<s.heap.objs.size:=let⟨_,hn,_⟩:=I.loc;hn.lt
theorem Inv.sz(I:Inv X pi σ H s):X.s₀.heap.objs.size<=s.heap.objs.size:=Vh I.ok.above (X6 I.lt)
theorem Inv.nofs(I:Inv X pi σ H s){a:Addr}(h:s.heap.objs.size<=a):a∉X.fs:=fun hb=>by
 obtain⟨_,o,ho,_⟩:=I.ok.funs.mem hb;exact absurd (UB (Uu ho) (Vh I.sz h)) (VN _)
theorem Inv.cne(I:Inv X pi σ H s):∀x c,X.env.cells.lookup x=some c->c≠X.env.locals:=fun x c e z=>by
 obtain⟨v,o,ho,hd⟩:=I.cell x c e;obtain⟨m,⟨o',es,ep,Nu,OO,_⟩,_⟩:=I.loc;rw[z,Nu]at ho;cases ho;rw[OO]at hd;cases hd
theorem Inv.funs(I:Inv X pi σ H s):s.heap.FunFrames X.base X.outer:=by
 have all:∀(l:List Env),(∀b∈HY l,b∈X.fs)->X.s₀.heap.FunFrames X.base l->s.heap.FunFrames X.base l:=by
  intro l;induction l with
  |nil=>intro _ _;trivial
  |cons env r ih=>
   intro hs hl;obtain⟨hk,⟨L,o,hf,hn,ho,hd⟩,hr⟩:=hl;have hL:L∈X.fs:=hs L (by unfold HY;rw[Wl,hf];exact Uq);obtain⟨sl,e⟩:=I.base.slot L o ho (I.ok.frf L hL) hL fun z=>I.ok.exfs L z hL
   exact⟨hk,⟨L,_,hf,hn,e,hd⟩,ih (fun b hb=>hs b (by unfold HY;rw[Wl,hf];exact Uy _ hb)) hr⟩
 exact all X.outer (fun _ hb=>hb) I.ok.funs
theorem Inv.stack(I:Inv X pi σ H s):s.heap.FunFrames X.base X.stack:=by
 rcases I.ok.stk with e|⟨e,hf⟩
 ·rw[e];exact I.funs
 ·rw[e];obtain⟨m,hn,_⟩:=I.loc;refine .cons (by rw[I.ok.kind];decide) hf hn ?_ I.funs;exact Heap.get?_none_of_le (Vh I.ok.bsz I.ok.above)
theorem Inv.stkSub(I:Inv X pi σ H s):∀b∈HY X.stack,b∈X.env.locals::X.fs:=fun b hb=>by
 rcases I.ok.stk with e|⟨e,hf⟩
 ·rw[e]at hb;exact Uy _ hb
 ·rw[e]at hb;unfold HY at hb;rw[Wl,hf]at hb;exact hb
theorem Inv.stkFree(I:Inv X pi σ H s):∀b∈HY X.stack,H b=none:=fun b hb=>by
 rcases Ux.mp (I.stkSub b hb) with e|hb
 ·rw[e];exact I.free
 ·obtain⟨_,o,ho,_⟩:=I.ok.funs.mem hb;exact I.base.free b o ho (I.ok.frf b hb) fun z=>I.ok.exfs b z hb
theorem Inv.step{g':Array GenState}{t':Nat}{d':Drawn}{ch:List Addr}(I:Inv X pi σ H s)
  (Nl:∀b∈ch,(b∈X.ex\/X.s₀.heap.objs.size<=b)/\b≠X.env.locals/\(∀x c,X.env.cells.lookup x=some c->c≠b)/\∀p∈X.pn++pi,p.1≠b)
  (keep:∀b o,b≠X.env.locals->b∉X.fs->b∉ch->s.heap.get? b=some o->H b=none->h'.get? b=some o)
  (slot:∀b o,b≠X.env.locals->b∈X.fs->b∉ch->s.heap.get? b=some o->H b=none->∃sl,h'.get? b=some {o with slots:=sl}) (free:∀b o,b∉ch->s.heap.get? b=some o->H b=none->H' b=none)
  (there:∀b o,b∉ch->s.heap.get? b=some o->∃o',h'.get? b=some o')
  (tups:∀b xs,H b=some (.tup xs)->H' b=some (.tup xs)) (frzs:∀b o u,H b=some (.frz o u)->H' b=some (.frz o u)) (tbls:∀b ps,H b=some (.tbl ps)->∃more,H' b=some (.tbl (ps++more)))
  (ns:∀m,s.heap.Ns X.env.locals m->h'.Ns X.env.locals m) (hok:HOk X.prog X.w H' h') (hg:AllBare g'):
  Inv X pi σ H' {s with heap:=h',gens:=g',drawn:=d',toks:=t'}:=by
 have To:∀b o,X.s₀.heap.get? b=some o->b≠X.env.locals:=fun b o e=>UK (UB (Uu e) I.ok.above)
 have Rt:∀b o,X.s₀.heap.get? b=some o->b∉X.ex->b∉ch:=fun b o e hx hb=>by
  rcases(Nl b hb).1 with z|z
  ·exact hx z
  ·exact absurd (UB (Uu e) z) (VN _)
 have cellK:∀x c,X.env.cells.lookup x=some c->∀v,s.heap.IsCell c v->h'.IsCell c v:=fun x c e v Hg=>by
  obtain⟨o,ho,hd⟩:=Hg;have Qf:c∉ch:=fun z=>(Nl c z).2.2.1 x c e rfl
  by_cases hc:c∈X.fs
  ·obtain⟨sl,q⟩:=slot c o (I.cne x c e) hc Qf ho (I.freeC x c e);exact⟨_,q,hd⟩
  ·exact⟨o,keep c o (I.cne x c e) hc Qf ho (I.freeC x c e),hd⟩
 refine⟨I.ok,I.os,hg,⟨fun b o e n hb hx=>?_,fun b o e n hb hx=>?_,fun b o e n hx=>?_,fun b o e hx=>?_,fun b xs e=>tups b xs (I.base.tups b xs e),fun b o xs e=>frzs b o xs (I.base.frzs b o xs e),fun b ps e=>?_⟩,?_,fun x c e=>?_,?_,fun x c e=>?_,fun p hp=>?_,hok,I.len⟩
 ·exact keep b o (To b o e) hb (Rt b o e hx) (I.base.keep b o e n hb hx) (I.base.free b o e n hx)
 ·obtain⟨sl,e1⟩:=I.base.slot b o e n hb hx;obtain⟨Tp,e2⟩:=slot b _ (To b o e) hb (Rt b o e hx) e1 (I.base.free b o e n hx);exact⟨Tp,e2⟩
 ·obtain⟨o',e1⟩:=I.base.there b o e hx;exact free b o' (Rt b o e hx) e1 (I.base.free b o e n hx)
 ·obtain⟨o',e1⟩:=I.base.there b o e hx;exact there b o' (Rt b o e hx) e1
 ·obtain⟨m1,e1⟩:=I.base.tbls b ps e;obtain⟨m2,e2⟩:=tbls b _ e1;exact⟨m1++m2,by rw[e2,YF]⟩
 ·obtain⟨m,hn,hl⟩:=I.loc;refine⟨m,ns m hn,fun i x v e1 e2 e3=>?_⟩;obtain⟨u,r,l⟩:=hl i x v e1 e2 e3;refine⟨u,r,?_⟩;rcases l with l|⟨k,c,e,z⟩
  ·exact .inl l
  ·exact .inr ⟨k,c,e,cellK x c e _ z⟩
 ·obtain⟨v,z⟩:=I.cell x c e;exact⟨v,cellK x c e v z⟩
 ·obtain⟨m,⟨o,_,_,ho,_⟩,_⟩:=I.loc;exact free _ o (fun z=>(Nl _ z).2.1 rfl) ho I.free
 ·obtain⟨v,o,ho,hd⟩:=I.cell x c e;exact free c o (fun z=>(Nl c z).2.2.1 x c e rfl) ho (I.freeC x c e)
 ·obtain⟨e,n,ne,nf,d⟩:=I.pin p hp;have Qf:p.1∉ch:=fun z=>(Nl p.1 z).2.2.2 p hp rfl
  exact⟨keep p.1 p.2 ne nf Qf e n,free p.1 p.2 Qf e n,ne,nf,d⟩
theorem Inv.un{t':Nat}(I:Inv X pi σ H s)(u:Un X.fs [] H H' s.heap h')(hok:HOk X.prog X.w H' h'):Inv X pi σ H' {s with heap:=h',toks:=t'}:=by
 obtain⟨m,⟨o,es,ep,ho,r⟩,_⟩:=id I.loc;obtain⟨sl,hL⟩:=u.any ho I.free (by simp);exact I.step (g':=s.gens) (d':=s.drawn) (ch:=[]) (fun _ z=>nomatch z) (fun b o _ hb _ e n=>u.keep b o e n hb (by simp)) (fun b o _ hb _ e n=>u.slot b o e n hb (by simp)) (fun b o _ e n=>u.free b o e n (by simp)) (fun b o _ e=>u.there b o e (by simp)) u.tups u.frzs u.tbls (fun m' hm=>by
  obtain⟨o',OP,R6,Nu,r'⟩:=hm;rw[ho]at Nu;cases Nu;exact⟨_,OP,R6,hL,r'⟩) hok I.bare
theorem Inv.call{g':Array GenState}{t':Nat}{d':Drawn}{ch:List Addr}(I:Inv X pi σ H s)(u:Un (HY X.stack) ch H H' s.heap h')(hok:HOk X.prog X.w H' h')(hg:AllBare g')
  (Nl:∀b∈ch,(b∈X.ex\/X.s₀.heap.objs.size<=b)/\b≠X.env.locals/\(∀x c,X.env.cells.lookup x=some c->c≠b)/\∀p∈X.pn++pi,p.1≠b):
  Inv X pi σ H' {s with heap:=h',gens:=g',drawn:=d',toks:=t'}:=by
 obtain⟨m,⟨o,es,ep,ho,r⟩,_⟩:=id I.loc;obtain⟨sl,hL⟩:=u.any ho I.free fun z=>(Nl _ z).2.1 rfl
 exact I.step (ch:=ch) Nl (fun b o hL hb hc e n=>u.keep b o e n (fun z=>(Ux.mp (I.stkSub b z)).elim hL hb) hc) (fun b o _ _ hc e n=>u.any e n hc) (fun b o hc e n=>u.free b o e n hc) (fun b o hc e=>u.there b o e hc) u.tups u.frzs u.tbls (fun m' hm=>by
  obtain⟨o',OP,R6,Nu,r'⟩:=hm;rw[ho]at Nu;cases Nu;exact⟨_,OP,R6,hL,r'⟩) hok hg
theorem Inv.turned{t':Nat}{it:Addr}(I:Inv X pi σ H s)(k:∀b o,b≠it->s.heap.get? b=some o->h'.get? b=some o)(hn:H it=none)(hL:it≠X.env.locals)
  (h1:it∈X.ex\/X.s₀.heap.objs.size<=it) (h2:∀x c,X.env.cells.lookup x=some c->c≠it) (h3:∀p∈X.pn++pi,p.1≠it):Inv X pi σ H {s with heap:=h',toks:=t'}:=by
 have Tq:∀b u,H b=some u->b≠it:=fun b u e z=>by rw[z,hn]at e;cases e
 refine I.step (g':=s.gens) (d':=s.drawn) (ch:=[it]) (fun b hb=>?_) (fun b o _ _ hc e _=>k b o (fun z=>hc (by simp[z])) e) (fun b o _ _ hc e _=>⟨o.slots,k b o (fun z=>hc (by simp[z])) e⟩) (fun _ _ _ _ n=>n)
  (fun b o hc e=>⟨o,k b o (fun z=>hc (by simp[z])) e⟩) (fun _ _ e=>e) (fun _ _ _ e=>e) (fun b ps e=>⟨#[],by rw[e];simp⟩) (fun m hm=>?_) (fun b u e=>?_) I.bare
 ·have e:b=it:=by simpa using hb
  subst e;exact⟨h1,hL,h2,h3⟩
 ·obtain⟨o,es,ep,ho,r⟩:=hm;exact⟨o,es,ep,k _ o (VB hL) ho,r⟩
 ·refine(I.hok b u e).stay (fun c v hc q=>k c v ?_ q) (fun _ q=>q) fun _ _ q=>q
  rcases hc with z|z
  ·rw[z];exact Tq b u e
  ·exact Tq c _ z
theorem Inv.tok(I:Inv X pi σ H s)(t:Nat):Inv X pi σ H {s with toks:=t}:=I.un (h':=s.heap) (t':=t) Un.refl I.hok
theorem Inv.kept{t':Nat}(I:Inv X pi σ H s)(k:∀b u,s.heap.get? b=some u->h'.get? b=some u):Inv X pi σ H {s with heap:=h',toks:=t'}:=I.un (Un.kept k) (I.hok.kept k)
theorem Inv.laid{a:Addr}{o:HO}{t':Nat}(I:Inv X pi σ H s)(k:∀b u,s.heap.get? b=some u->h'.get? b=some u)(hp:s.heap.objs.size<=a)(new:ObjOk X.prog X.w (upd H a o) h' a o):
  Inv X pi σ (upd H a o) {s with heap:=h',toks:=t'}:=I.un (Un.laid k hp (I.hok.fresh hp)) (I.hok.laid k hp new)
theorem Inv.write{x e:Addr}{o:HO}{t':Nat}(I:Inv X pi σ H s)(mu:Qe (H x))(he:e=x\/H e=some (.own x))(k:∀b u,b≠e->s.heap.get? b=some u->h'.get? b=some u)(PU:∃u,h'.get? e=some u)
  (new:ObjOk X.prog X.w (upd H x o) h' x o):Inv X pi σ (upd H x o) {s with heap:=h',toks:=t'}:=I.un (Un.write mu he k PU) (I.hok.write mu he k PU new)
theorem Inv.pins_of{Oy:List (Addr×Obj)}(I:Inv X pi σ H s)(h:∀p∈Oy,s.heap.get? p.1=some p.2/\H p.1=none/\p.1≠X.env.locals/\p.1∉X.fs/\∀v,p.2.data≠.cell v):Inv X Oy σ H s:=
 ⟨I.ok,I.os,I.bare,I.base,I.loc,I.cell,I.free,I.freeC,fun p hp=>(U5.mp hp).elim (fun z=>I.pin p (UA _ z)) (h p),I.hok,I.len⟩
theorem m9{N:List Str}(hN:N.Nodup){i j:Nat}{x:Str}(a:N[i]?=some x)(b:N[j]?=some x):i=j:=by
 obtain⟨h1,e1⟩:=List.getElem?_eq_some_iff.mp a;obtain⟨h2,e2⟩:=List.getElem?_eq_some_iff.mp b;exact(List.getElem_inj hN).mp (e1.trans e2.symm)
theorem oK{M:Model}{A:Around}{E:Value->Shared->Prop}{i:Nat}{x:Str}{v:V}{u:Value}{Q:Unit->Shared->Prop}(I:Inv X pi σ H s)(hN:X.N.Nodup)(hi:X.N[i]?=some x)(hx:Loc X.env.scope x)(r:RelV v u)
  (h:∀s',Inv X pi (σ.set i (some v)) H s'->(∃a,Heap.SameBut a s.heap s'.heap/\(a=X.env.locals\/X.env.cells.lookup x=some a))->Q () s') (hf:X.fn x=true\/X.env.scope.names.lookup x=some .local:=by first|exact .inl rfl|exact .inr rfl|assumption):wpAny M A (storeName X.env x u) Q E s:=by
 obtain⟨m,hn,hl⟩:=id I.loc;have hcls:(X.env.scope.kind==.class||(X.env.scope.kind==.module&&X.env.locals != X.env.globals))=false:=by rw[I.ok.kind];rfl
 have hiσ:i<σ.length:=by rw[I.len];exact(List.getElem?_eq_some_iff.mp hi).1
 have cne:=I.cne;have tracked:∀{a:Addr}{h':Heap},(∃o,s.heap.get? a=some o/\H a=none)->Heap.SameBut a s.heap h'->HOk X.prog X.w H h':=fun{a h'} ha hs b ob e=>by
  obtain⟨_,_,Oz⟩:=ha;refine(I.hok b ob e).stay (fun c w' hc q=>(hs.2 c ?_).trans q) (fun _ q=>q) fun _ _ q=>q
  rintro rfl;rcases hc with rfl|hc
  ·rw[Oz]at e;cases e
  ·rw[Oz]at hc;cases hc
 rcases hx with hk|hk
 ·refine wpAny_storeName_local hk hn (fun h' R7 hs=>?_) hcls;obtain⟨oL,_,_,hoL,_⟩:=id hn;refine h _ ⟨I.ok,I.os,I.bare,⟨fun b o e n hb hx=>?_,fun b o e n hb hx=>?_,I.base.free,fun b o e hx=>?_,I.base.tups,I.base.frzs,I.base.tbls⟩,⟨_,R7,fun j y v' e1 e2 e3=>?_⟩,fun y c e=>?_,I.free,I.freeC,fun p hp=>?_,tracked ⟨oL,hoL,I.free⟩ hs,by simpa using I.len⟩ ⟨_,hs,.inl rfl⟩
  ·exact(hs.2 b (UK (UB (Uu e) I.ok.above))).trans (I.base.keep b o e n hb hx)
  ·obtain⟨sl,e1⟩:=I.base.slot b o e n hb hx;exact⟨sl,(hs.2 b (UK (UB (Uu e) I.ok.above))).trans e1⟩
  ·obtain⟨o',e1⟩:=I.base.there b o e hx;exact⟨o',(hs.2 b (UK (UB (Uu e) I.ok.above))).trans e1⟩
  ·by_cases hj:j=i
   ·subst hj;rw[hi]at e1;cases e1;rw[List.getElem?_set_self hiσ]at e2;cases e2;exact⟨u,r,.inl ⟨hk,by simp⟩⟩
   ·rw[List.getElem?_set_ne (VB hj)]at e2;obtain⟨u',r',q⟩:=hl j y v' e1 e2 e3;refine⟨u',r',?_⟩;rcases q with⟨k,e⟩|⟨k,c,e,z⟩
    ·refine .inl ⟨k,?_⟩;have:y≠x:=fun e=>hj (m9 hN e1 (e▸hi))
     simp[this,e]
    ·exact .inr ⟨k,c,e,z.sameBut hs (cne y c e)⟩
  ·obtain⟨w',z⟩:=I.cell y c e;exact⟨w',z.sameBut hs (cne y c e)⟩
  ·obtain⟨e,n,ne,nf,d⟩:=I.pin p hp;exact⟨(hs.2 p.1 ne).trans e,n,ne,nf,d⟩
 ·have Nv:X.fn x=true:=by
   rcases hf with z|z
   ·exact z
   ·rw[z]at hk;cases hk
  obtain⟨c,hc⟩:=I.ok.has x (.inl hk);obtain⟨w',z⟩:=I.cell x c hc;refine wpAny_storeName_cell I.ok.kind hk hc z (fun h' JR hs=>?_);obtain⟨oc,Tr,hocd⟩:=id z;refine h {s with heap:=h'} ⟨I.ok,I.os,I.bare,⟨fun b o e n hb hx=>?_,fun b o e n hb hx=>?_,I.base.free,fun b o e hx=>?_,I.base.tups,I.base.frzs,I.base.tbls⟩,⟨m,hn.sameBut hs (VB (cne x c hc)),fun j y v' e1 e2 e3=>?_⟩,fun y c' e=>?_,I.free,I.freeC,fun p hp=>?_,tracked ⟨oc,Tr,I.freeC x c hc⟩ hs,by simpa using I.len⟩ ⟨c,hs,.inr hc⟩
  ·exact(hs.2 b (UK (UB (Uu e) (I.ok.cab x c Nv hc)))).trans (I.base.keep b o e n hb hx)
  ·obtain⟨sl,e1⟩:=I.base.slot b o e n hb hx;exact⟨sl,(hs.2 b (UK (UB (Uu e) (I.ok.cab x c Nv hc)))).trans e1⟩
  ·obtain⟨o',e1⟩:=I.base.there b o e hx;exact⟨o',(hs.2 b (UK (UB (Uu e) (I.ok.cab x c Nv hc)))).trans e1⟩
  ·by_cases hj:j=i
   ·subst hj;rw[hi]at e1;cases e1;rw[List.getElem?_set_self hiσ]at e2;cases e2;exact⟨u,r,.inr ⟨.inl hk,c,hc,JR⟩⟩
   ·rw[List.getElem?_set_ne (VB hj)]at e2;obtain⟨u',r',q⟩:=hl j y v' e1 e2 e3;refine⟨u',r',?_⟩;rcases q with q|⟨k,c',e,z'⟩
    ·exact .inl q
    ·refine .inr ⟨k,c',e,z'.sameBut hs ?_⟩;rintro rfl;exact hj (m9 hN e1 (I.ok.inj _ _ _ e hc▸hi))
  ·by_cases Qg:c'=c
   ·subst Qg;exact⟨_,JR⟩
   ·obtain⟨w2,z2⟩:=I.cell y c' e;exact⟨w2,z2.sameBut hs Qg⟩
  ·obtain⟨e,n,ne,nf,d⟩:=I.pin p hp;refine⟨(hs.2 p.1 ?_).trans e,n,ne,nf,d⟩;intro q;rw[q,Tr]at e;have q':oc=p.2:=UU e;exact d w' (by rw[<-q'];exact hocd)
theorem ng{M:Model}{A:Around}{E:Value->Shared->Prop}{i:Nat}{x:Str}{v:V}{u:Value}{Q:Unit->Shared->Prop}(I:Inv X pi σ H s)(hN:X.N.Nodup)(hi:X.N[i]?=some x)(hx:Loc X.env.scope x)(r:RelV v u)
  (h:∀s',Inv X pi (σ.set i (some v)) H s'->Q () s') (hf:X.fn x=true\/X.env.scope.names.lookup x=some .local:=by first|exact .inl rfl|exact .inr rfl|assumption):wpAny M A (storeName X.env x u) Q E s:=
 oK I hN hi hx r (fun s' I' _=>h s' I') hf
theorem Inv.call'{s':Shared}{ch:List Addr}(I:Inv X pi σ H s)(ho:s'.os=s.os)(u:Un (HY X.stack) ch H H' s.heap s'.heap)(hok:HOk X.prog X.w H' s'.heap)(hg:AllBare s'.gens)
  (Nl:∀b∈ch,(b∈X.ex\/X.s₀.heap.objs.size<=b)/\b≠X.env.locals/\(∀x c,X.env.cells.lookup x=some c->c≠b)/\∀p∈X.pn++pi,p.1≠b):Inv X pi σ H' s':=by
 obtain⟨h',g',d',t',o'⟩:=s';have e:o'=s.os:=ho;subst e;exact I.call (g':=g') (t':=t') (d':=d') u hok hg Nl
end
abbrev XK:=Value->Option Addr->Hp->Prop
abbrev St:=List (Option V)
abbrev VK:=V->Hp->Prop
abbrev TE:=St->Hp->VK->Prop
abbrev TT:=St->Hp->(Bool->Hp->Prop)->Prop
abbrev TA:=St->Hp->(List V->Hp->Prop)->Prop
structure Ends where
 nx:St->Hp->Prop
 rt:VK
 bk:St->Hp->Prop:=fun _ _=>False
 ct:St->Hp->Prop:=fun _ _=>False
abbrev TS:=Ends->St->Hp->Prop
def EP(X:Cx)(pi:List (Addr×Obj))(σ:St)(Q:VK)(u:Value)(s':Shared):Prop:=∃v H',Inv X pi σ H' s'/\RelV v u/\Q v H'
def TP(X:Cx)(pi:List (Addr×Obj))(σ:St)(Q:Bool->Hp->Prop)(b:Bool)(s':Shared):Prop:=∃H',Inv X pi σ H' s'/\Q b H'
def AP(X:Cx)(pi:List (Addr×Obj))(σ:St)(Q:List V->Hp->Prop)(us:List Value)(s':Shared):Prop:=∃vs H',Inv X pi σ H' s'/\Vals vs us/\Q vs H'
def SP(X:Cx)(pi:List (Addr×Obj))(D:Ends)(f:Flow)(s':Shared):Prop:=
 match f with
 | .next=>∃σ' H',Inv X pi σ' H' s'/\D.nx σ' H'
 | .brk=>∃σ' H',Inv X pi σ' H' s'/\D.bk σ' H'
 | .cont=>∃σ' H',Inv X pi σ' H' s'/\D.ct σ' H'
 | .ret u=>∃v σ' H',Inv X pi σ' H' s'/\RelV v u/\D.rt v H'
def PE(X:Cx)(e:Expr)(t:TE):Prop:=
 ∀(pi:List (Addr×Obj)) (s:Shared) (σ:St) (H:Hp) (Q:VK),Inv X pi σ H s->t σ H Q->wpAny (model X.prog X.w) X.A (eval e X.env) (EP X pi σ Q) X.xe s
def PT(X:Cx)(e:Expr)(t:TT):Prop:=
 ∀(pi:List (Addr×Obj)) (s:Shared) (σ:St) (H:Hp) (Q:Bool->Hp->Prop),Inv X pi σ H s->t σ H Q->wpAny (model X.prog X.w) X.A (isTrue e X.env (eval e X.env)) (TP X pi σ Q) X.xe s
def PW(X:Cx)(e:Expr)(t:TT):Prop:=
 ∀(whole:Sem Value) (pi:List (Addr×Obj)) (s:Shared) (σ:St) (H:Hp) (Q:Bool->Hp->Prop),Inv X pi σ H s->t σ H Q->wpAny (model X.prog X.w) X.A (isTrue e X.env whole) (TP X pi σ Q) X.xe s
theorem PW.pt{X:Cx}{e:Expr}{t:TT}(h:PW X e t):PT X e t:=h _
def PA(X:Cx)(es:List Expr)(t:TA):Prop:=
 ∀(pos:Pos) (pi:List (Addr×Obj)) (s:Shared) (σ:St) (H:Hp) (Q:List V->Hp->Prop),Inv X pi σ H s->t σ H Q->wpAny (model X.prog X.w) X.A (spliced (backTo pos (starEach es X.env))) (AP X pi σ Q) X.xe s
def PS(X:Cx)(st:Stmt)(t:TS):Prop:=
 ∀(pi:List (Addr×Obj)) (s:Shared) (σ:St) (H:Hp) (D:Ends),Inv X pi σ H s->t D σ H->wpAny (model X.prog X.w) X.A (exec st X.env) (SP X pi D) X.xe s
def PSs(X:Cx)(st:List Stmt)(t:TS):Prop:=
 ∀(pi:List (Addr×Obj)) (s:Shared) (σ:St) (H:Hp) (D:Ends),Inv X pi σ H s->t D σ H->wpAny (model X.prog X.w) X.A (execs st X.env) (SP X pi D) X.xe s
theorem Hk{α:Type}{t:Sem α}{Q Q':α->Shared->Prop}{M:Model}{A:Around}{E:Value->Shared->Prop}{s:Shared}(h:wpAny M A t Q E s)(hQ:∀a s,Q a s->Q' a s):wpAny M A t Q' E s:=Vc h hQ fun _ _ x=>x
section
variable{X:Cx}
theorem bin{a b:Expr}{ta tb:TE}(ha:PE X a ta)(hb:PE X b tb){pi:List (Addr×Obj)}{s:Shared}{σ:St}{H:Hp}{R:V->V->Hp->Prop}(I:Inv X pi σ H s)(h:ta σ H fun x H1=>tb σ H1 fun y H2=>R x y H2)
  {α:Type}{Q:α->Shared->Prop}{f:Value->Value->Sem α}
  (hf:∀v u s2 x y H2,Inv X pi σ H2 s2->RelV x v->RelV y u->R x y H2->wpAny (model X.prog X.w) X.A (f v u) Q X.xe s2):
  wpAny (model X.prog X.w) X.A (eval a X.env) (fun v s₁=>wpAny (model X.prog X.w) X.A (eval b X.env) (fun u s₂=>wpAny (model X.prog X.w) X.A (f v u) Q X.xe s₂) X.xe s₁) X.xe s:=by
 refine Hk (ha pi s σ H _ I h) fun v s1 Hm=>?_
 obtain⟨x,H1,I1,r1,q1⟩:=Hm;refine Hk (hb pi s1 σ H1 _ I1 q1) fun u s2 Hm=>?_
 obtain⟨y,H2,I2,r2,q2⟩:=Hm;exact hf v u s2 x y H2 I2 r1 r2 q2
def qj(i:Nat):TE:=fun σ H Q=>∃v,σ[i]?=some (some v)/\Q v H
def tC(v:V):TE:=fun _ H Q=>Q v H
theorem BA{i:Nat}{x:Str}{pos:Pos}(hN:X.N[i]?=some x)(hv:R5 X.env.scope x)(hd:(x==("__debug__" : Str))=false:=by decide)(Mf:(x==("__classdict__" : Str))=false:=by decide):PE X (.Name x pos) (qj i):=by
 intro pi s σ H Q I h;obtain⟨v,e,h⟩:=h;obtain⟨m,hn,hl⟩:=I.loc;obtain⟨u,r,l⟩:=hl i x v hN e hv;have fin:EP X pi σ Q u s:=⟨v,H,I,r,h⟩
 rcases l with⟨hk,hm⟩|⟨hk,c,hc,HP⟩
 ·exact wpAny_Name (wpAny_loadName_local I.ok.kind hk hn hm fin) hd
 ·rcases hk with hk|hk
  ·exact wpAny_Name (wpAny_loadName_cell I.ok.kind hk hc HP fin) hd
  ·exact wpAny_Name (wpAny_loadName_free I.ok.kind hk hc HP fin Mf) hd
theorem BC{i j pos}:PE X (.Constant (.int i) j pos) (tC (.int i)):=fun _ _ _ H _ I h=>wpAny_Constant_int ⟨.int i,H,I.tok _,⟨_,rfl⟩,h⟩
theorem Eg{b j pos}:PE X (.Constant (.bool b) j pos) (tC (.bl b)):=fun _ _ _ H _ I h=>Constant_bool ⟨.bl b,H,I,rfl,h⟩
theorem BD{j pos}:PE X (.Constant .none j pos) (tC .non):=fun _ _ _ H _ I h=>Constant_none ⟨.non,H,I,rfl,h⟩
theorem BF{x j pos}:PE X (.Constant (.str x) j pos) (tC (.str x)):=fun _ _ _ H _ I h=>Calls.Constant_str ⟨.str x,H,I.tok _,⟨_,rfl⟩,h⟩
def Gl(X:Cx)(x:Str):Prop:=X.env.kindOf x=some .globalImplicit
theorem k7{E:Value->Shared->Prop}{pi:List (Addr×Obj)}{s:Shared}{σ:St}{H:Hp}{x:Str}{u:Value}{pos:Pos}{Q:Value->Shared->Prop}(I:Inv X pi σ H s)(hg:Gl X x)(hm:X.mg x=some u)(h:Q u s)
  (hd:(x==("__debug__" : Str))=false:=by decide):wpAny (model X.prog X.w) X.A (eval (.Name x pos) X.env) Q E s:=
 Xo I.ok.kind hg (Calls.loadGlobal_global (by rw[I.ok.glob];exact I.mod.glob.keeps I.bk) hm h) hd
theorem kh{E:Value->Shared->Prop}{pi:List (Addr×Obj)}{s:Shared}{σ:St}{H:Hp}{x:Str}{u:Value}{pos:Pos}{Q:Value->Shared->Prop}(I:Inv X pi σ H s)(hg:Gl X x)(hm:X.mg x=none)(hv:bootBuiltins x=some u)(h:Q u s)
  (hn:x≠"__name__":=by decide) (hd:(x==("__debug__" : Str))=false:=by decide):wpAny (model X.prog X.w) X.A (eval (.Name x pos) X.env) Q E s:=by
 obtain⟨mb,h1,h2⟩:=I.mod.blt;exact Xo I.ok.kind hg (Calls.loadGlobal_builtin (by rw[I.ok.glob];exact I.mod.glob.keeps I.bk) hm (by rw[I.ok.blt];exact h1.keeps I.bk) ((h2 x hn).trans hv) h) hd
theorem ug{x:Str}{v:V}{u:Value}{pos:Pos}(hg:Gl X x)(hm:X.mg x=some u)(r:RelV v u)(hd:(x==("__debug__" : Str))=false:=by decide):PE X (.Name x pos) (tC v):=
 fun _ _ _ H _ I h=>k7 I hg hm ⟨v,H,I,r,h⟩ hd
theorem uh{x:Str}{v:V}{u:Value}{pos:Pos}(hg:Gl X x)(hm:X.mg x=none)(hv:bootBuiltins x=some u)(r:RelV v u)(hn:x≠"__name__":=by decide)(hd:(x==("__debug__" : Str))=false:=by decide):PE X (.Name x pos) (tC v):=
 fun _ _ _ H _ I h=>kh I hg hm hv ⟨v,H,I,r,h⟩ hn hd
variable{a b:Expr}{ta tb:TE}{pos:Pos}
def PC(X:Cx)(op:CmpOp)(a b:Expr)(t:TE):Prop:=
 ∀(pi:List (Addr×Obj)) (s:Shared) (σ:St) (H:Hp) (Q:VK),Inv X pi σ H s->t σ H Q->
  wpAny (model X.prog X.w) X.A (eval a X.env) (fun v s₁=>wpAny (model X.prog X.w) X.A (eval b X.env) (fun u s₂=>wpAny (model X.prog X.w) X.A (compareOp op v u) (EP X pi σ Q) X.xe s₂) X.xe s₁) X.xe s
theorem wZ(b:Expr){op:CmpOp}(h:op≠.In)(h2:op≠.NotIn):behindInMarks op b=false:=by
 have e1:(op==CmpOp.In)=false:=by cases op <;> first|rfl|exact absurd rfl h
 have e2:(op==CmpOp.NotIn)=false:=by cases op <;> first|rfl|exact absurd rfl h2
 cases b <;> simp[behindInMarks,e1,e2]
def tB(t:TE):TT:=fun σ H Q=>t σ H fun x H1=>∃c,x=.bl c/\Q c H1
theorem FA{op:CmpOp}{t:TE}(h:PC X op a b t)(h1:behindInMarks op b=false:=by first|exact wZ _ (by decide) (by decide)|rfl):PT X (.Compare a [op] [b] pos) (tB t):=by
 intro pi s σ H Q I hw;refine wpAny_isTrue_Compare1 (Hk (h pi s σ H _ I hw) fun v s1 h1=>Hk h1 fun u s2 h2=>Hk h2 fun c s3 ⟨x,H1,I1,r1,q1⟩=>?_) h1;obtain⟨d,rfl,q⟩:=q1;cases r1;exact Vy ⟨H1,I1,q⟩
theorem BG{e:Expr}{t:TE}(h:PE X e t)(he:∀whole,isTrue e X.env whole=(do let v <-whole;standAt e.pos;holding [v] (truthy v)):=by intro _;rfl):PT X e (tB t):=by
 intro pi s σ H Q I hw;refine isTrue_plain (Hk (h pi s σ H _ I hw) fun v s1 ⟨x,H1,I1,r1,q1⟩=>?_) (he _);obtain⟨d,rfl,q⟩:=q1;cases r1;exact Vy ⟨H1,I1,q⟩
variable{tA Ru:TT}{cH:List Expr}
def FV(t u:TT):TT:=fun σ H Q=>t σ H fun c H1=>if c=true then u σ H1 Q else Q false H1
def tOr(t u:TT):TT:=fun σ H Q=>t σ H fun c H1=>if c=true then Q true H1 else u σ H1 Q
def FW(t:TT):TT:=fun σ H Q=>t σ H fun c H1=>Q (!c) H1
theorem y0(ha:PT X a tA):PW X (.BoolOp .And [a] pos) tA:=by
 intro wh pi s σ H Q I h;refine isTrue_and (Hk (ha pi s σ H Q I h) fun c s1 e=>?_);cases c with
 |true=>exact isTrue_and_nil e
 |false=>exact e
theorem BH(ha:PT X a tA):PW X (.BoolOp .Or [a] pos) tA:=by
 intro wh pi s σ H Q I h;refine isTrue_or (Hk (ha pi s σ H Q I h) fun c s1 e=>?_);cases c with
 |false=>exact isTrue_or_nil e
 |true=>exact e
theorem BI(ha:PT X a tA)(hb:PW X (.BoolOp .And (b::cH) pos) Ru):PW X (.BoolOp .And (a::b::cH) pos) (FV tA Ru):=by
 intro wh pi s σ H Q I h;refine isTrue_and (Hk (ha pi s σ H _ I h) fun c s1 Hm=>?_);obtain⟨H1,I1,q1⟩:=Hm;cases c with
 |true=>exact hb wh pi s1 σ H1 Q I1 q1
 |false=>exact⟨H1,I1,q1⟩
theorem Eh(ha:PT X a tA)(hb:PW X (.BoolOp .Or (b::cH) pos) Ru):PW X (.BoolOp .Or (a::b::cH) pos) (tOr tA Ru):=by
 intro wh pi s σ H Q I h;refine isTrue_or (Hk (ha pi s σ H _ I h) fun c s1 Hm=>?_);obtain⟨H1,I1,q1⟩:=Hm;cases c with
 |true=>exact⟨H1,I1,q1⟩
 |false=>exact hb wh pi s1 σ H1 Q I1 q1
theorem BJ(ha:PT X a tA):PT X (.UnaryOp .Not a pos) (FW tA):=by
 intro pi s σ H Q I h;exact isTrue_not (ha pi s σ H (fun c H1=>Q (!c) H1) I h)
def Ei(ta tb:TE):TE:=fun σ H Q=>ta σ H fun x H1=>∃c,x=.bl c/\if c=true then tb σ H1 Q else Q (.bl false) H1
def FY(ta tb:TE):TE:=fun σ H Q=>ta σ H fun x H1=>∃c,x=.bl c/\if c=true then Q (.bl true) H1 else tb σ H1 Q
def Ej(ta:TE):TE:=fun σ H Q=>ta σ H fun x H1=>∃c,x=.bl c/\Q (.bl (!c)) H1
theorem yj{op}{t:TE}(h:PE X a t):PE X (.BoolOp op [a] pos) t:=fun pi s σ H Q I hw=>BoolOp_one (h pi s σ H Q I hw)
theorem BK(ha:PE X a ta)(hb:PE X (.BoolOp .And (b::cH) pos) tb):PE X (.BoolOp .And (a::b::cH) pos) (Ei ta tb):=by
 intro pi s σ H Q I h;refine BoolOp_and (Hk (ha pi s σ H _ I h) fun v s1 Hm=>?_);obtain⟨x,H1,I1,r1,q1⟩:=Hm;obtain⟨c,rfl,q1⟩:=q1;cases r1;refine Vy ?_;cases c with
 |true=>exact hb pi s1 σ H1 Q I1 q1
 |false=>exact⟨.bl false,H1,I1,rfl,q1⟩
theorem Ek(ha:PE X a ta)(hb:PE X (.BoolOp .Or (b::cH) pos) tb):PE X (.BoolOp .Or (a::b::cH) pos) (FY ta tb):=by
 intro pi s σ H Q I h;refine BoolOp_or (Hk (ha pi s σ H _ I h) fun v s1 Hm=>?_);obtain⟨x,H1,I1,r1,q1⟩:=Hm;obtain⟨c,rfl,q1⟩:=q1;cases r1;refine Vy ?_;cases c with
 |false=>exact hb pi s1 σ H1 Q I1 q1
 |true=>exact⟨.bl true,H1,I1,rfl,q1⟩
theorem BL(ha:PE X a ta):PE X (.UnaryOp .Not a pos) (Ej ta):=by
 intro pi s σ H Q I h;refine UnaryOp_ (Hk (ha pi s σ H _ I h) fun v s1 Hm=>?_);obtain⟨x,H1,I1,r1,q1⟩:=Hm;obtain⟨c,rfl,q1⟩:=q1;cases r1;exact not_of (Vy ⟨.bl (!c),H1,I1,rfl,q1⟩)
end
def SqL(K:W.Frag)(H:Hp)(a:Addr)(xs:List V):Prop:=
 Rd H a (.lst xs)\/
  ∃(o:Obj) (GU:Array Value) (n:Nat),K.lookup a=some o/\o.cls=.type "list"/\o.dict=none/\o.data=.seq GU n/\GU.size<=sizeLine/\Vals xs GU.toList
def SqT(K:W.Frag)(H:Hp)(a:Addr)(xs:List V):Prop:=
 Rd H a (.tup xs)\/
  ∃(o:Obj) (GU:Array Value) (n:Nat),K.lookup a=some o/\o.cls=.type "tuple"/\o.dict=none/\o.data=.seq GU n/\GU.size<=sizeLine/\Vals xs GU.toList
def FZ:Value->Option V
 | .none=>some .non
 | .bool b=>some (.bl b)
 | .int i _=>some (.int i)
 | .str x _=>some (.str x)
 | .bytes b _=>some (.byt b)
 | .float b _=>some (.flt b)
 | .ref a=>some (.ref a)
 | .type n=>some (.ty n)
 |_=>none
theorem RelV.abs{x:V}{u:Value}(r:RelV x u):FZ u=some x:=by
 cases x with
 |non=>cases r;rfl
 |bl _=>cases r;rfl
 |int _=>obtain⟨t,rfl⟩:=r;rfl
 |str _=>obtain⟨t,rfl⟩:=r;rfl
 |byt _=>obtain⟨t,rfl⟩:=r;rfl
 |flt _=>obtain⟨t,rfl⟩:=r;rfl
 |ref _=>cases r;rfl
 |ty _=>cases r;rfl
theorem RelV.inj{x y:V}{u:Value}(r:RelV x u)(q:RelV y u):x=y:=UU (r.abs.symm.trans q.abs)
theorem Vals.inj:∀{xs ys:List V}{us:List Value},Vals xs us->Vals ys us->xs=ys
 |_,_,_,.nil,.nil=>rfl
 |_,_,_,.cons r t,.cons r' t'=>by rw[r.inj r',Vals.inj t t']
section
variable{X:Cx}{pi:List (Addr×Obj)}{σ:St}{H:Hp}{s:Shared}{a:Addr}{xs ys:List V}
theorem SqL.of{K:W.Frag}(h:H a=some (.lst xs)):SqL K H a xs:=.inl (.inl h)
theorem SqT.of{K:W.Frag}(h:H a=some (.tup xs)):SqT K H a xs:=.inl (.inl h)
theorem Inv.list(I:Inv X pi σ H s)(h:SqL X.K H a xs):∃GU:List Value,Vals xs GU/\PlainL s.heap a GU.toArray/\xs.length<=sizeLine:=by
 rcases h with h|⟨o,GU,n,hk,hc,hd,hs,hz,r⟩
 ·obtain⟨z,GU,n,r,e⟩:=h.ok I.hok;exact⟨GU,r,⟨_,n,e,rfl,rfl,rfl⟩,z⟩
 ·refine⟨GU.toList,r,⟨o,n,I.kIn a o hk,hc,hd,by simpa using hs⟩,?_⟩;have e:=r.length;simp only[VJ]at e;lia
theorem Inv.tupleN(I:Inv X pi σ H s)(h:SqT X.K H a xs):∃GU:List Value,Vals xs GU/\IsTupN s.heap a GU.toArray/\xs.length<=sizeLine:=by
 rcases h with h|⟨o,GU,n,hk,hc,hdn,hs,hz,r⟩
 ·obtain⟨z,GU,r,p⟩:=h.ok I.hok;exact⟨GU,r,p,z⟩
 ·refine⟨GU.toList,r,⟨o,I.kIn a o hk,hc,⟨n,by simpa using hs⟩,hdn⟩,?_⟩;have e:=r.length;simp only[VJ]at e;lia
theorem Inv.tuple(I:Inv X pi σ H s)(h:SqT X.K H a xs):∃GU:List Value,Vals xs GU/\IsTup s.heap a GU.toArray/\xs.length<=sizeLine:=by
 obtain⟨GU,r,p,z⟩:=I.tupleN h;exact⟨GU,r,p.tup,z⟩
theorem Inv.list_inj(I:Inv X pi σ H s)(h:SqL X.K H a xs)(h':SqL X.K H a ys):xs=ys:=by
 obtain⟨GU,r,⟨o,n,e,_,_,d⟩,_⟩:=I.list h;obtain⟨its',r',⟨o',n',e',_,_,d'⟩,_⟩:=I.list h';rw[e]at e';cases e';rw[d]at d';injection d' with d1 _;have:GU=its':=by simpa using VC Array.toList d1
 subst this;exact r.inj r'
theorem Inv.tuple_inj(I:Inv X pi σ H s)(h:SqT X.K H a xs)(h':SqT X.K H a ys):xs=ys:=by
 obtain⟨GU,r,⟨o,e,_,n,d⟩,_⟩:=I.tuple h;obtain⟨its',r',⟨o',e',_,n',d'⟩,_⟩:=I.tuple h';rw[e]at e';cases e';rw[d]at d';injection d' with d1 _;have:GU=its':=by simpa using VC Array.toList d1
 subst this;exact r.inj r'
end
abbrev Cx.wish(X:Cx)(E:Value->Shared->Prop):Cx:={X with xe:=E}
abbrev Cx.nox(X:Cx):Cx:=X.wish fun _ _=>False
theorem Cx.Ok.wish{X:Cx}(ok:X.Ok)(E:Value->Shared->Prop):(X.wish E).Ok:=
 ⟨ok.mod,ok.kind,ok.glob,ok.blt,ok.above,ok.inj,ok.has,ok.cab,ok.hd,ok.frames,ok.stk,ok.exf,ok.bs,ok.bsz,ok.noex,ok.exfs,ok.funs,ok.frf⟩
theorem Cx.Ok.unwish{X:Cx}{E:Value->Shared->Prop}(ok:(X.wish E).Ok):X.Ok:=
 ⟨ok.mod,ok.kind,ok.glob,ok.blt,ok.above,ok.inj,ok.has,ok.cab,ok.hd,ok.frames,ok.stk,ok.exf,ok.bs,ok.bsz,ok.noex,ok.exfs,ok.funs,ok.frf⟩
section
variable{X:Cx}{pi:List (Addr×Obj)}{σ:St}{H:Hp}{s:Shared}{E:Value->Shared->Prop}
theorem Inv.wish(I:Inv X pi σ H s)(E:Value->Shared->Prop):Inv (X.wish E) pi σ H s:=⟨I.ok.wish E,I.os,I.bare,I.base,I.loc,I.cell,I.free,I.freeC,I.pin,I.hok,I.len⟩
theorem Inv.unwish(I:Inv (X.wish E) pi σ H s):Inv X pi σ H s:=⟨I.ok.unwish,I.os,I.bare,I.base,I.loc,I.cell,I.free,I.freeC,I.pin,I.hok,I.len⟩
theorem SP.unwish{D:Ends}{f:Flow}{s':Shared}(h:SP (X.wish E) pi D f s'):SP X pi D f s':=by
 cases f with
 |next=>obtain⟨σ',H',I,q⟩:=h;exact⟨σ',H',I.unwish,q⟩
 |brk=>obtain⟨σ',H',I,q⟩:=h;exact⟨σ',H',I.unwish,q⟩
 |cont=>obtain⟨σ',H',I,q⟩:=h;exact⟨σ',H',I.unwish,q⟩
 |ret u=>obtain⟨v,σ',H',I,r,q⟩:=h;exact⟨v,σ',H',I.unwish,r,q⟩
theorem PT.nox{e:Expr}{t:TT}(h:PT X.nox e t):PT X e t:=fun pi s σ H Q I hw=>
 Vc (h pi s σ H Q (I.wish _) hw) (fun _ _ ⟨H',I',q⟩=>⟨H',I'.unwish,q⟩) fun _ _ z=>False.elim z
theorem PSs.nox{st:List Stmt}{t:TS}(h:PSs X.nox st t):PSs X st t:=fun pi s σ H D I hw=>
 Vc (h pi s σ H D (I.wish _) hw) (fun _ _ q=>q.unwish) fun _ _ z=>False.elim z
end
section
variable{X:Cx}{st:Stmt}{cH:List Stmt}{t u:TS}{e:Expr}{te:TE}{pos:Pos}
def El:TS:=fun D σ H=>D.nx σ H
def F0(t u:TS):TS:=fun D σ H=>t {D with nx:=u D} σ H
theorem uk:PSs X [] El:=fun _ _ σ H _ I h=>WK ⟨σ,H,I,h⟩
theorem nh(h1:PS X st t)(h2:PSs X cH u):PSs X (st::cH) (F0 t u):=by
 intro pi s σ H D I h;refine V6 (Hk (h1 pi s σ H {D with nx:=u D} I h) fun f s1 q=>?_);cases f with
 |next=>
  obtain⟨σ',H',I',q⟩:=q;exact h2 pi s1 σ' H' D I' q
 |ret v=>exact q
 |brk=>exact q
 |cont=>exact q
theorem y3(h1:PS X st t):PSs X [st] t:=by
 intro pi s σ H D I h;refine V6 (Hk (h1 pi s σ H D I h) fun f s1 q=>?_);cases f with
 |next=>exact WK q
 |ret v=>exact q
 |brk=>exact q
 |cont=>exact q
theorem Inv.quiet{pi:List (Addr×Obj)}{σ:St}{H:Hp}{s:Shared}(I:Inv X pi σ H s):interactive X.env=false:=by simp[interactive,I.ok.kind]
def Em(te:TE):TS:=fun D σ H=>te σ H fun _ H1=>D.nx σ H1
theorem y4(he:PE X e te)(hs:swapsWith e none pos.line X.env=pure false:=by rfl):PS X (.Expr e pos) (Em te):=by
 intro pi s σ H D I h;exact wpAny_Expr_any (Hk (he pi s σ H _ I h) fun v s1 ⟨x,H1,I1,r1,q1⟩=>⟨σ,H1,I1,q1⟩) I.quiet hs
def F1(te:TE):TS:=fun D σ H=>te σ H D.rt
theorem BM(he:PE X e te):PS X (.Return (some e) pos) (F1 te):=by
 intro pi s σ H D I h;exact wpAny_Return_some (Hk (he pi s σ H _ I h) fun v s1 ⟨x,H1,I1,r1,q1⟩=>⟨x,σ,H1,I1,r1,q1⟩)
def F2(c:TT)(t u:TS):TS:=fun D σ H=>c σ H fun b H1=>if b=true then t D σ H1 else u D σ H1
theorem En{c:Expr}{a b:List Stmt}{tc:TT}(hc:PT X c tc)(ha:PSs X a t)(hb:PSs X b u):PS X (.If c a b pos) (F2 tc t u):=by
 intro pi s σ H D I h;refine wpAny_If (Hk (hc pi s σ H _ I h) fun d s1 Hm=>?_);obtain⟨H1,I1,q1⟩:=Hm;cases d with
 |true=>exact ha pi s1 σ H1 D I1 q1
 |false=>exact hb pi s1 σ H1 D I1 q1
def BN:TS:=fun _ _ _=>False
theorem w4:PS X st BN:=fun _ _ _ _ _ _ h=>h.elim
end
abbrev TG:=V->St->Hp->(St->Hp->Prop)->Prop
abbrev OA:=List V->St->Hp->(St->Hp->Prop)->Prop
def PG(X:Cx)(target:Expr)(t:TG):Prop:=
 ∀(pi:List (Addr×Obj)) (s:Shared) (σ:St) (H:Hp) (v:V) (u:Value) (Q:St->Hp->Prop),Inv X pi σ H s->RelV v u->t v σ H Q->
  wpAny (model X.prog X.w) X.A (assign target X.env u) (fun _ s'=>∃σ' H',Inv X pi σ' H' s'/\Q σ' H') X.xe s
def OQ(X:Cx)(ts:List Expr)(t:OA):Prop:=
 ∀(pi:List (Addr×Obj)) (s:Shared) (σ:St) (H:Hp) (vs:List V) (us:List Value) (Q:St->Hp->Prop),Inv X pi σ H s->Vals vs us->t vs σ H Q->
  wpAny (model X.prog X.w) X.A (assignInOrder ((assignEach ts X.env).map (·.2)) us) (fun _ s'=>∃σ' H',Inv X pi σ' H' s'/\Q σ' H') X.xe s
abbrev Eo:=V->V->V->Hp->(Hp->Prop)->Prop
def FC(X:Cx)(t:Eo):Prop:=
 ∀(pi:List (Addr×Obj)) (s:Shared) (σ:St) (H:Hp) (o i v:V) (ov iv u:Value) (Q:Hp->Prop),Inv X pi σ H s->RelV o ov->RelV i iv->RelV v u->t o i v H Q->
  wpAny (model X.prog X.w) X.A (setItem ov iv u) (fun _ s'=>∃H',Inv X pi σ H' s'/\Q H') X.xe s
abbrev Rv:=V->V->Hp->VK->Prop
def Ts(X:Cx)(op:Operator)(t:Rv):Prop:=
 ∀(pi:List (Addr×Obj)) (s:Shared) (σ:St) (H:Hp) (x y:V) (v u:Value) (Q:VK),Inv X pi σ H s->RelV x v->RelV y u->t x y H Q->
  wpAny (model X.prog X.w) X.A (inplaceOp op v u) (EP X pi σ Q) X.xe s
section
variable{X:Cx}{pos:Pos}
def BO(i:Nat):TG:=fun v σ H Q=>Q (σ.set i (some v)) H
theorem y6{i:Nat}{x:Str}(hN:X.N.Nodup)(hi:X.N[i]?=some x)(hx:Loc X.env.scope x)(hf:X.fn x=true\/X.env.scope.names.lookup x=some .local:=by first|exact .inl rfl|exact .inr rfl|assumption):PG X (.Name x pos) (BO i):=by
 intro pi s σ H v u Q I r h;exact wpAny_assign_Name (ng I hN hi hx r (fun s' I'=>⟨_,H,I',h⟩) hf)
def F3:OA:=fun vs σ H Q=>vs=[]/\Q σ H
def Ep(t:TG)(u:OA):OA:=fun vs σ H Q=>∃v r,vs=v::r/\t v σ H fun σ' H'=>u r σ' H' Q
theorem y7:OQ X [] F3:=by
 intro pi s σ H vs us Q I r h;obtain⟨e,h⟩:=h;subst e;cases r;exact assignInOrder_nil ⟨σ,H,I,h⟩
theorem w5{e:Expr}{es:List Expr}{t:TG}{u:OA}(h1:PG X e t)(h2:OQ X es u)
  (hs:(assignEach (e::es) X.env).map (·.2)=assign e X.env::(assignEach es X.env).map (·.2):=by rfl):OQ X (e::es) (Ep t u):=by
 intro pi s σ H vs us Q I r h;obtain⟨v,vr,e1,h⟩:=h;subst e1;cases r with
 |cons r rr=>
  rw[hs];refine assignInOrder_cons (Hk (h1 pi s σ H _ _ _ I r h) fun _ s1 Hm=>?_);obtain⟨σ1,H1,I1,q1⟩:=Hm;exact h2 pi s1 σ1 H1 _ _ Q I1 rr q1
def F4(K:W.Frag)(n:Nat)(t:OA):TG:=fun v σ H Q=>∃a xs,v=.ref a/\SqT K H a xs/\xs.length=n/\t xs σ H Q
theorem BP{es:List Expr}{k:Nat}{t:OA}{n:Nat}(hc:X.calm=true)(h:OQ X es t)
  (hn:(assignEach es X.env).length=n:=by rfl) (Lp:(assignEach es X.env).findIdx? (·.1)=none:=by rfl):PG X (.Tuple es k pos) (F4 X.K n t):=by
 intro pi s σ H v u Q I r hw;obtain⟨a,xs,e1,hq,hl,hw⟩:=hw;subst e1;cases r;obtain⟨GU,rv,ht,hz⟩:=I.tuple hq;refine assign_Tuple_tuple (I.ok.hd hc) ht (by simp[hn,<-hl,rv.length]) Lp fun h' hx=>?_
 have I1:Inv X pi σ H {s with heap:=h'}:=I.kept (t':=s.toks) fun b o e=>hx b o (UK (Uu e)) e
 exact h pi _ σ H xs _ Q I1 (by simpa using rv) hw
def FD(te:TE)(g:TG):TS:=fun D σ H=>te σ H fun x H1=>g x σ H1 D.nx
theorem BQ{tg e:Expr}{te:TE}{g:TG}(he:PE X e te)(hg:PG X tg g)(hs:swapsWithSole [tg] e pos.line X.env=pure false:=by rfl)(hw:swappedStores [tg] e X.env=pure none:=by rfl)
  (h1:(assignEach [tg] X.env).map (·.2)=[assign tg X.env]:=by rfl):PS X (.Assign [tg] e pos) (FD te g):=by
 intro pi s σ H D I h;refine wpAny_Assign_stores (Hk (he pi s σ H _ I h) fun v s1 ⟨x,H1,I1,r1,q1⟩=>?_) hs hw;rw[h1];exact Hk (hg pi s1 σ H1 x v _ I1 r1 q1) fun _ s2 q=>q
theorem um{i:Nat}{x:Str}{e:Expr}{te:TE}{pos':Pos}(hN:X.N.Nodup)(hi:X.N[i]?=some x)(hx:Loc X.env.scope x)(he:PE X e te)(hs:swapsWith e (some (.Name x pos')) pos.line X.env=pure false:=by rfl)(hf:X.fn x=true\/X.env.scope.names.lookup x=some .local:=by first|exact .inl rfl|exact .inr rfl|assumption):
  PS X (.Assign [.Name x pos'] e pos) (FD te (BO i)):=by
 intro pi s σ H D I h;refine wpAny_Assign_Name (Hk (he pi s σ H _ I h) fun v s1 ⟨y,H1,I1,r1,q1⟩=>?_) hs;exact ng I1 hN hi hx r1 (fun s2 I2=>⟨_,H1,I2,q1⟩) hf
def Er(to ti te:TE)(Nw:V->V->Hp->VK->Prop)(Rw:Rv)(Nx:Eo):TS:=fun D σ H=>to σ H fun o H1=>ti σ H1 fun i H2=>Nw o i H2 fun x H3=>te σ H3 fun y H4=>Rw x y H4 fun z H5=>Nx o i z H5 fun H6=>D.nx σ H6
def FE(X:Cx)(t:V->V->Hp->VK->Prop):Prop:=
 ∀(pi:List (Addr×Obj)) (s:Shared) (σ:St) (H:Hp) (o i:V) (ov iv:Value) (Q:VK),Inv X pi σ H s->RelV o ov->RelV i iv->t o i H Q->
  wpAny (model X.prog X.w) X.A (getItem ov iv) (EP X pi σ Q) X.xe s
theorem y8{o i e:Expr}{to ti te:TE}{Nw:V->V->Hp->VK->Prop}{Rw:Rv}{Nx:Eo}{op:Operator}{Jq:Pos}(ho:PE X o to)(hi:PE X i ti)(hg:FE X Nw)(he:PE X e te)(hp:Ts X op Rw)(hs:FC X Nx)
  (ha:∀ov iv new,augStore i ov iv new=(do holding [new,ov,iv] (setItem ov iv new);release [new,ov,iv] [];pure .next):=by intros;rfl):PS X (.AugAssign (.Subscript o i Jq) op e pos) (Er to ti te Nw Rw Nx):=by
 intro pi s σ H D I h;refine wpAny_AugAssign_SubscriptAny (Hk (ho pi s σ H _ I h) fun ov s1 ⟨x1,H1,I1,r1,q1⟩=>?_) ha;refine Hk (hi pi s1 σ H1 _ I1 q1) fun iv s2 Hm=>?_
 obtain⟨x2,H2,I2,r2,q2⟩:=Hm;refine Hk (hg pi s2 σ H2 x1 x2 ov iv _ I2 r1 r2 q2) fun old s3 Hm=>?_
 obtain⟨x3,H3,I3,r3,q3⟩:=Hm;refine Hk (he pi s3 σ H3 _ I3 q3) fun v s4 Hm=>?_
 obtain⟨x4,H4,I4,r4,q4⟩:=Hm;refine Hk (hp pi s4 σ H4 x3 x4 old v _ I4 r3 r4 q4) fun new s5 Hm=>?_
 obtain⟨x5,H5,I5,r5,q5⟩:=Hm;exact Hk (hs pi s5 σ H5 x1 x2 x5 ov iv new _ I5 r1 r2 r5 q5) fun _ s6 ⟨H6,I6,q6⟩=>⟨σ,H6,I6,q6⟩
def ipI(f:Int->Int->Int):Rv:=fun x y H Q=>∃i j,x=.int i/\y=.int j/\Q (.int (f i j)) H
theorem BR:Ts X .Add (ipI fun i j=>i+j):=by
 intro pi s σ H x y v u Q I r1 r2 h;obtain⟨i,j,e1,e2,q⟩:=h;subst e1;subst e2;obtain⟨t,rfl⟩:=r1;obtain⟨t',rfl⟩:=r2;exact iadd_int ⟨.int _,H,I.tok _,⟨_,rfl⟩,q⟩
end
section
variable{X:Cx}{pos:Pos}
def BS(c:TT)(tb:TS):TS:=fun D σ H=>∃W:Nat->St->Hp->Prop,(∃m,W m σ H)/\∀m σ H,W m σ H->
 c σ H fun b H1=>if b=true then ∃N:St->Hp->Prop,(∀σ' H',N σ' H'->∃m',m'<m/\W m' σ' H')/\tb {D with nx:=N,ct:=N,bk:=D.nx} σ H1 else D.nx σ H1
theorem w6{c:Expr}{body:List Stmt}{tc:TT}{tb:TS}(hp:PassesOwn (model X.prog X.w) X.A X.env X.xe)(hc:PT X c tc)(hb:PSs X body tb):PS X (.While c body [] pos) (BS tc tb):=by
 intro pi s σ H D I h;obtain⟨W,⟨m0,w0⟩,turn⟩:=h;refine wpAny_While (codeAny_whileLoop (fun n s'=>∃σ' H',Inv X pi σ' H' s'/\W n σ' H') ?_ m0 ⟨σ,H,I,w0⟩);rintro n s1 ⟨σ1,H1,I1,w1⟩;refine Wd hp (Hk (hc pi s1 σ1 H1 _ I1 (turn n σ1 H1 w1)) fun b s2 Hm=>?_);obtain⟨H2,I2,q2⟩:=Hm;cases b with
 |true=>
  obtain⟨N,hN,q2⟩:=q2;rw[Ut rfl];refine Wd hp (Hk (hb pi s2 σ1 H2 _ I2 q2) fun f s3 q3=>?_);cases f with
  |next=>
   obtain⟨σ3,H3,I3,n3⟩:=q3;obtain⟨m',hm,w3⟩:=hN σ3 H3 n3;exact⟨m',hm,σ3,H3,I3,w3⟩
  |cont=>
   obtain⟨σ3,H3,I3,n3⟩:=q3;obtain⟨m',hm,w3⟩:=hN σ3 H3 n3;exact⟨m',hm,σ3,H3,I3,w3⟩
  |brk=>exact q3
  |ret v=>exact q3
 |false=>
  rw[UD Up];exact WK ⟨σ1,H2,I2,q2⟩
end
structure It where
 go:Nat->Hp->Prop
 yld:Nat->Hp->V->Hp->Prop
 stop:Nat->Hp->Prop
def tZ(X:Cx)(pi:List (Addr×Obj))(H:Hp)(b:Addr):Prop:=
 H b=none/\b≠X.env.locals/\b∉X.fs/\(b∈X.ex\/X.s₀.heap.objs.size<=b)/\(∀x c,X.env.cells.lookup x=some c->c≠b)/\∀p∈X.pn++pi,p.1≠b
theorem Inv.fpOk{X:Cx}{pi:List (Addr×Obj)}{σ:St}{H H':Hp}{s:Shared}{b:Addr}(I:Inv X pi σ H s)(hb:s.heap.objs.size<=b)(hn:H' b=none):tZ X pi H' b:=by
 refine⟨hn,Y2 (UB I.lt hb),I.nofs hb,.inr (Vh I.sz hb),fun x c e z=>?_,fun p hp z=>?_⟩
 ·obtain⟨v,q⟩:=I.cell x c e;exact absurd (UB q.lt (by rw[z];exact hb)) (VN _)
 ·exact absurd (UB (Uu (I.pin p hp).1) (by rw[z];exact hb)) (VN _)
structure Turn(P:Program)(w:World)(K:W.Frag)(tg:Expr)(J:It)(fp:List Addr)(it:Addr)(tn:Nat->Heap->Prop):Prop where
 mem:it∈fp
 obj:∀i h,tn i h->∀b∈fp,∃o,h.get? b=some o/\∀v,o.data≠.cell v
 keep:∀i h h',tn i h->(∀b∈fp,∀o,h.get? b=some o->h'.get? b=some o)->tn i h'
 item:∀(X:Cx),X.prog=P->X.w=w->X.K=K->X.calm=true->∀(i:Nat) (pi:List (Addr×Obj)) (s:Shared) (σ:St) (H:Hp) (E:Value->Shared->Prop),Inv X pi σ H s->(∀b∈fp,tZ X pi H b)->tn i s.heap->J.go i H->
  wpAny (model P w) X.A (pyNext (.ref it)) (fun r s1=>∃u,r=some u/\
   wpAny (model P w) X.A (letOwnedTupleGo tg (.ref it) u) (fun _ s2=>∃x H',Inv X pi σ H' s2/\RelV x u/\J.yld i H x H'/\tn (i+1) s2.heap/\∀b∈fp,H' b=none) E s1) E s
 done:∀(X:Cx),X.prog=P->X.w=w->X.K=K->X.calm=true->∀(i:Nat) (pi:List (Addr×Obj)) (s:Shared) (σ:St) (H:Hp) (E:Value->Shared->Prop),Inv X pi σ H s->(∀b∈fp,tZ X pi H b)->tn i s.heap->J.stop i H->
  wpAny (model P w) X.A (pyNext (.ref it)) (fun r s1=>r=none/\Inv X pi σ H s1) E s
 self:∀(A:Around) (i:Nat) (s:Shared) (Q:Value->Shared->Prop) (E:Value->Shared->Prop),tn i s.heap->Q (.ref it) s->wpAny (model P w) A (pyIter (.ref it)) Q E s
abbrev TI:=St->Hp->(It->Hp->Prop)->Prop
def Tt(X:Cx)(pi:List (Addr×Obj))(σ:St)(tg:Expr)(R:It->Hp->Prop)(Rx:Value)(s2:Shared):Prop:=
 ∃(it:Addr) (fp:List Addr) (tn:Nat->Heap->Prop) (J:It) (H':Hp),Rx=.ref it/\Inv X pi σ H' s2/\Turn X.prog X.w X.K tg J fp it tn/\tn 0 s2.heap/\(∀b∈fp,tZ X pi H' b)/\R J H'
def PI(X:Cx)(tg iter:Expr)(wi:TI):Prop:=
 ∀(pi:List (Addr×Obj)) (s:Shared) (σ:St) (H:Hp) (R:It->Hp->Prop),Inv X pi σ H s->wi σ H R->
  wpAny (model X.prog X.w) X.A (eval iter X.env) (fun v s1=>wpAny (model X.prog X.w) X.A (pyIter v) (Tt X pi σ tg R) X.xe s1) X.xe s
theorem w9 {M : Model} {A : Around} {E : Value -> Shared -> Prop} {s : Shared} {tg : Expr} {it : Addr} {u : Value} {o : Obj} {n : String} {vs : Array Value} {Q : Unit -> Shared -> Prop} (ho : s.heap.get? it = some o) (hc : o.cls = .type n) (hd : o.data = .fields vs)
    (hn : ["enumerate", "zip", "dict_itemiterator", "dict_reverseitemiterator", "odict_iterator", "itertools.zip_longest", "itertools.pairwise"].contains n = false) (hQ : Q () s) : wpAny M A (letOwnedTupleGo tg (.ref it) u) Q E s := by
  unfold letOwnedTupleGo
  cases tg <;> first
    | exact Ul hQ
    | (cases u <;> first
        | exact Ul hQ
        | (refine Uk (wpAny_load ho ?_)
           rw [hc, hd]
           show wpAny M A (if (["enumerate", "zip", "dict_itemiterator", "dict_reverseitemiterator", "odict_iterator", "itertools.zip_longest", "itertools.pairwise"].contains n && vs[0]? == some (rawInt _)) = true then _ else _) Q E s
           rw [UD (by intro h; rw [hn, Yt] at h; cases h)]
           exact Ul hQ))
def PY(K:W.Frag)(a:Addr):It:=
 ⟨fun i H=>∃xs x,SqL K H a xs/\xs[i]?=some x,fun i H x H'=>H'=H/\∀xs,SqL K H a xs->xs[i]?=some x,fun i H=>∃xs,SqL K H a xs/\xs.length<=i⟩
def R8(K:W.Frag)(a:Addr):It:=
 ⟨fun i H=>∃xs x,SqT K H a xs/\xs[i]?=some x,fun i H x H'=>H'=H/\∀xs,SqT K H a xs->xs[i]?=some x,fun i H=>∃xs,SqT K H a xs/\xs.length<=i⟩
def Qh(lo:Int)(n:Nat):It:=⟨fun i _=>i<n,fun i H x H'=>H'=H/\x=.int (lo+i),fun i _=>n<=i⟩
theorem uo{P:Program}{w:World}{K:W.Frag}{tg:Expr}(a it:Addr):Turn P w K tg (PY K a) [it] it (fun i h=>h.IsListIter it a i) where
 mem:=by simp
 obj:=fun i h st b hb=>by
  have e:b=it:=by simpa using hb
  subst e;obtain⟨o,e,c,d⟩:=st;exact⟨o,e,fun v z=>by rw[d]at z;cases z⟩
 keep:=fun i h h' st k=>st.at fun o e=>k it (by simp) o e
 item:=by
  intro X hP hw hK hc i pi s σ H E I hf st hg;subst hP hw hK;obtain⟨xs,x,hq,hx⟩:=hg;obtain⟨GU,rv,p,hz⟩:=I.list hq;obtain⟨u,hu,ru⟩:=rv.get hx;obtain⟨f0,f1,f2,f3,f4,f5⟩:=hf it (by simp);refine wpAny_pyNext_list_item st p.isList (x:=u) (by simpa using hu) fun h' Jr sb=>?_
  have I1:Inv X pi σ H {s with heap:=h'}:=I.turned (t':=s.toks) (fun b o hb e=>(sb.2 b hb).trans e) f0 f1 f3 f4 f5;obtain⟨o,e,c,d⟩:=id Jr;exact⟨u,rfl,w9 (s:={s with heap:=h'}) e c d (by decide) ⟨x,H,I1,ru,⟨rfl,fun ys hy=>by rw[I.list_inj hy hq];exact hx⟩,Jr,fun b hb=>(hf b hb).1⟩⟩
 done:=by
  intro X hP hw hK hc i pi s σ H E I hf st hg;subst hP hw hK;obtain⟨xs,hq,hx⟩:=hg;obtain⟨GU,rv,p,hz⟩:=I.list hq;obtain⟨f0,f1,f2,f3,f4,f5⟩:=hf it (by simp);have hl:=rv.length;exact wpAny_pyNext_list_end (I.ok.hd hc) st p.isList (by simp;lia) fun h' eb=>⟨rfl,I.turned (t':=s.toks) (fun b o hb e=>eb b o hb e) f0 f1 f3 f4 f5⟩
 self:=fun _ _ _ _ _ st h=>wpAny_pyIter_listiter st h
theorem sP{P:Program}{w:World}{K:W.Frag}{tg:Expr}(a it:Addr):Turn P w K tg (R8 K a) [it] it (fun i h=>h.IsTupleIter it a i) where
 mem:=by simp
 obj:=fun i h st b hb=>by
  have e:b=it:=by simpa using hb
  subst e;obtain⟨o,e,c,d⟩:=st;exact⟨o,e,fun v z=>by rw[d]at z;cases z⟩
 keep:=fun i h h' st k=>st.at fun o e=>k it (by simp) o e
 item:=by
  intro X hP hw hK hc i pi s σ H E I hf st hg;subst hP hw hK;obtain⟨xs,x,hq,hx⟩:=hg;obtain⟨GU,rv,p,hz⟩:=I.tuple hq;obtain⟨u,hu,ru⟩:=rv.get hx;obtain⟨f0,f1,f2,f3,f4,f5⟩:=hf it (by simp);refine wpAny_pyNext_tuple_item st (show s.heap.IsTuple a GU.toArray from p) (x:=u) (by simpa using hu) fun h' Jr sb=>?_
  have I1:Inv X pi σ H {s with heap:=h'}:=I.turned (t':=s.toks) (fun b o hb e=>(sb.2 b hb).trans e) f0 f1 f3 f4 f5;obtain⟨o,e,c,d⟩:=id Jr;exact⟨u,rfl,w9 (s:={s with heap:=h'}) e c d (by decide) ⟨x,H,I1,ru,⟨rfl,fun ys hy=>by rw[I.tuple_inj hy hq];exact hx⟩,Jr,fun b hb=>(hf b hb).1⟩⟩
 done:=by
  intro X hP hw hK hc i pi s σ H E I hf st hg;subst hP hw hK;obtain⟨xs,hq,hx⟩:=hg;obtain⟨GU,rv,p,hz⟩:=I.tuple hq;obtain⟨f0,f1,f2,f3,f4,f5⟩:=hf it (by simp);have hl:=rv.length;exact wpAny_pyNext_tuple_end (I.ok.hd hc) st (show s.heap.IsTuple a GU.toArray from p) (by simp;lia) fun h' eb=>⟨rfl,I.turned (t':=s.toks) (fun b o hb e=>eb b o hb e) f0 f1 f3 f4 f5⟩
 self:=fun _ _ _ _ _ st h=>wpAny_pyIter_tupleiter st h
theorem sQ{P:Program}{w:World}{K:W.Frag}{tg:Expr}(it:Addr)(lo:Int)(n:Nat):Turn P w K tg (Qh lo n) [it] it (fun i h=>IsRangeIter h it (lo+(i:Nat)*1) ((n:Int)-(i:Nat)) 1) where
 mem:=by simp
 obj:=fun i h st b hb=>by
  have e:b=it:=by simpa using hb
  subst e;exact⟨_,st,fun v z=>by
   have z':Data.fields _=Data.cell v:=z;cases z'⟩
 keep:=fun i h h' st k=>k it (by simp) _ st
 item:=by
  intro X hP hw hK hc i pi s σ H E I hf st hg;subst hP hw hK;obtain⟨f0,f1,f2,f3,f4,f5⟩:=hf it (by simp);have W:=Walks.range (prog:=X.prog) (w:=X.w) (I.ok.hd hc) it lo 1 n;refine W.item i s _ _ hg st fun v h' tk hv Jr kk=>?_
  obtain⟨t,rfl⟩:=hv;have I1:Inv X pi σ H {s with heap:=h',toks:=tk}:=I.turned (fun b o hb e=>kk b o (by simpa using hb) e) f0 f1 f3 f4 f5;refine⟨_,rfl,w9 (s:={s with heap:=h',toks:=tk}) (n:="range_iterator") Jr rfl rfl (by decide) ⟨.int (lo+i),H,I1,⟨t,?_⟩,⟨rfl,rfl⟩,Jr,fun b hb=>(hf b hb).1⟩⟩;rw[Int.mul_one]
 done:=by
  intro X hP hw hK hc i pi s σ H E I hf st hg;subst hP hw hK;obtain⟨f0,f1,f2,f3,f4,f5⟩:=hf it (by simp);exact wpAny_pyNext_range_end (I.ok.hd hc) st (by have:n<=i:=hg;lia) fun h' eb=>⟨rfl,I.turned (t':=s.toks) (fun b o hb e=>eb b o hb e) f0 f1 f3 f4 f5⟩
 self:=fun _ _ _ _ _ st h=>wpAny_pyIter_rangeiter st h
section
variable{X:Cx}{tg:Expr}
def Es(K:W.Frag)(tl:TE):TI:=fun σ H R=>tl σ H fun x H1=>∃a,x=.ref a/\(∃xs,SqL K H1 a xs)/\R (PY K a) H1
def F5(K:W.Frag)(tl:TE):TI:=fun σ H R=>tl σ H fun x H1=>∃a,x=.ref a/\(∃xs,SqT K H1 a xs)/\R (R8 K a) H1
theorem uq{l:Expr}{tl:TE}(hl:PE X l tl):PI X tg l (Es X.K tl):=by
 intro pi s σ H R I h;refine Hk (hl pi s σ H _ I h) fun v s1 Hm=>?_
 obtain⟨x,H1,I1,r1,q1⟩:=Hm;obtain⟨a,e,⟨xs,hq⟩,q⟩:=q1;subst e;cases r1;obtain⟨GU,rv,p,hz⟩:=I1.list hq;refine We p.isList ?_;refine⟨s1.heap.objs.size,[s1.heap.objs.size],_,_,H1,rfl,I1.kept (t':=s1.toks) fun b o e=>Heap.get?_push_of_some _ e,uo a _,⟨_,Heap.get?_push_size _ rfl,rfl,rfl⟩,fun b hb=>?_,q⟩;have e:b=s1.heap.objs.size:=by simpa using hb
 subst e;exact I1.fpOk (Ur _) (I1.hok.fresh (Ur _))
theorem BU{l:Expr}{tl:TE}(hl:PE X l tl):PI X tg l (F5 X.K tl):=by
 intro pi s σ H R I h;refine Hk (hl pi s σ H _ I h) fun v s1 Hm=>?_
 obtain⟨x,H1,I1,r1,q1⟩:=Hm;obtain⟨a,e,⟨xs,hq⟩,q⟩:=q1;subst e;cases r1;obtain⟨GU,rv,p,hz⟩:=I1.tuple hq;refine V9 (show s1.heap.IsTuple a GU.toArray from p) ?_;refine⟨s1.heap.objs.size,[s1.heap.objs.size],_,_,H1,rfl,I1.kept (t':=s1.toks) fun b o e=>Heap.get?_push_of_some _ e,sP a _,⟨_,Heap.get?_push_size _ rfl,rfl,rfl⟩,fun b hb=>?_,q⟩;have e:b=s1.heap.objs.size:=by simpa using hb
 subst e;exact I1.fpOk (Ur _) (I1.hok.fresh (Ur _))
theorem qX{pi:List (Addr×Obj)}{σ:St}{H:Hp}{s:Shared}{R:It->Hp->Prop}{E:Value->Shared->Prop}{lo hi:Int}{t u v:Tok}{tk:Nat}(I:Inv X pi σ H s)(h1:-(2 ^ 62)<=lo)(h2:lo<2 ^ 62)(h3:-(2 ^ 62)<=hi)(h4:hi<2 ^ 62)
  (q:R (Qh lo (hi-lo).toNat) H):wpAny (model X.prog X.w) X.A (pyIter (.ref s.heap.objs.size)) (Tt X pi σ tg R) E {s with heap:=s.heap.push {cls:=.type "range",data:=.fields #[.int lo t,.int hi u,.int 1 v]},toks:=tk}:=by
 refine wpAny_pyIter_range (IsRange.new ..) (small_one h1 h2 h3 h4) ?_;have I1:Inv X pi σ H {s with heap:=s.heap.push {cls:=.type "range",data:=.fields #[.int lo t,.int hi u,.int 1 v]},toks:=tk}:=I.kept fun b o e=>Heap.get?_push_of_some _ e
 refine⟨(s.heap.push {cls:=.type "range",data:=.fields #[.int lo t,.int hi u,.int 1 v]}).objs.size,[(s.heap.push {cls:=.type "range",data:=.fields #[.int lo t,.int hi u,.int 1 v]}).objs.size],_,_,H,rfl,
  I1.kept (t':=tk) fun b o e=>Heap.get?_push_of_some _ e,sQ _ lo (hi-lo).toNat,?_,fun b hb=>?_,q⟩
 ·have e1:lo+((0:Nat):Int)*1=lo:=by simp
  have e2:(((hi-lo).toNat:Nat):Int)-((0:Nat):Int)=Builtin.Range.rangeSize lo hi 1:=by rw[rangeSize_one];split <;> lia
  show IsRangeIter _ _ (lo+((0:Nat):Int)*1) ((((hi-lo).toNat:Nat):Int)-((0:Nat):Int)) 1;rw[e1,e2];exact Heap.get?_push_size _ rfl
 ·have e:b=(s.heap.push {cls:=.type "range",data:=.fields #[.int lo t,.int hi u,.int 1 v]}).objs.size:=by simpa using hb
  subst e;exact I1.fpOk (Ur _) (I1.hok.fresh (Ur _))
def Et(ta:TA):TI:=fun σ H R=>ta σ H fun vs H1=>∃j:Int,vs=[.int j]/\-(2 ^ 62)<=j/\j<2 ^ 62/\R (Qh 0 j.toNat) H1
def Eu(ta:TA):TI:=fun σ H R=>ta σ H fun vs H1=>∃i j:Int,vs=[.int i,.int j]/\(-(2 ^ 62)<=i/\i<2 ^ 62/\-(2 ^ 62)<=j/\j<2 ^ 62)/\R (Qh i (j-i).toNat) H1
theorem ur{a:Expr}{ta:TA}{p pos:Pos}(hg:Gl X "range")(hm:X.mg "range" = none)(ha:PA X [a] ta)(hs:starEach [a] X.env=[(false,eval a X.env)]:=by rfl):PI X tg (.Call (.Name "range" p) [a] [] pos) (Et ta):=by
 intro pi s σ H R I h;refine Call_ (kh I hg hm boot_range (V0 (Hk (ha pos pi s σ H _ I h) fun us s1 ⟨vs,H1,I1,r1,q1⟩=>?_) hs rfl));obtain⟨j,e,q1,q2,q⟩:=q1;subst e;cases r1 with
 |cons r rr=>
  cases rr;obtain⟨t,rfl⟩:=r;exact call_range_1 (qX I1 (by lia) (by lia) q1 q2 (by simpa using q))
theorem uu{a b:Expr}{ta:TA}{p pos:Pos}(hg:Gl X "range")(hm:X.mg "range" = none)(ha:PA X [a,b] ta)(hs:starEach [a,b] X.env=[(false,eval a X.env),(false,eval b X.env)]:=by rfl)(Ln:starEach [b] X.env=[(false,eval b X.env)]:=by rfl):
  PI X tg (.Call (.Name "range" p) [a,b] [] pos) (Eu ta):=by
 intro pi s σ H R I h;refine Call_ (kh I hg hm boot_range (V0 (Hk (ha pos pi s σ H _ I h) fun us s1 ⟨vs,H1,I1,r1,q1⟩=>?_) (by rw[hs,Ln]) (by rw[Ln];rfl)));obtain⟨i,j,e,⟨q1,q2,q3,q4⟩,q⟩:=q1;subst e;cases r1 with
 |cons r rr=>
  cases rr with
  |cons r' rr=>
   cases rr;obtain⟨t,rfl⟩:=r;obtain⟨t',rfl⟩:=r';exact call_range_2 (qX I1 q1 q2 q3 q4 q)
noncomputable def F6(wi:TI)(g:TG)(tb:TS):TS:=fun D σ H=>wi σ H fun J H1=>∃W:Nat->Nat->St->Hp->Prop,(∃m,W 0 m σ H1)/\∀i m σ H,W i m σ H->
 (J.stop i H/\D.nx σ H)\/(J.go i H/\∃N:St->Hp->Prop,(∀σ' H',N σ' H'->∃m',m'<m/\W (i+1) m' σ' H')/\∀x H',J.yld i H x H'->g x σ H' fun σ2 H2=>tb {D with nx:=N,ct:=N,bk:=D.nx} σ2 H2)
def oM(fp:List Addr)(h:Heap):List (Addr×Obj):=fp.filterMap fun b=>(h.get? b).map fun o=>(b,o)
theorem iA{fp:List Addr}{h:Heap}{b:Addr}{o:Obj}(hb:b∈fp)(e:h.get? b=some o):(b,o)∈oM fp h:=Wa.mpr ⟨b,hb,by rw[e];rfl⟩
theorem uv{fp:List Addr}{h:Heap}{p:Addr×Obj}(hp:p∈oM fp h):p.1∈fp/\h.get? p.1=some p.2:=by
 obtain⟨b,hb,e⟩:=Wa.mp hp;cases q:h.get? b with
 |none=>rw[q]at e;cases e
 |some o=>
  rw[q]at e;have e':(b,o)=p:=UU e;subst e';exact⟨hb,q⟩
theorem Inv.pinned{pi:List (Addr×Obj)}{σ:St}{H:Hp}{s:Shared}{fp:List Addr}(I:Inv X pi σ H s)(hf:∀b∈fp,tZ X pi H b)(ho:∀b∈fp,∃o,s.heap.get? b=some o/\∀v,o.data≠.cell v):Inv X (pi++oM fp s.heap) σ H s:=
 I.pins_of fun p hp=>(U5.mp hp).elim (fun z=>I.pin p (Us _ z)) fun z=>by
  obtain⟨hb,e⟩:=uv z;obtain⟨f0,f1,f2,_⟩:=hf p.1 hb;obtain⟨o,e',d⟩:=ho p.1 hb;rw[e]at e';cases e';exact⟨e,f0,f1,f2,d⟩
theorem Inv.unpinned{pi pl:List (Addr×Obj)}{σ:St}{H:Hp}{s:Shared}(I:Inv X (pi++pl) σ H s):Inv X pi σ H s:=I.pins_of fun p hp=>I.pin p (Us _ (UA _ hp))
theorem BV{iter:Expr}{body:List Stmt}{wi:TI}{g:TG}{tb:TS}{pos:Pos}(hp:PassesOwn (model X.prog X.w) X.A X.env X.xe)(hc:X.calm=true)(hi:PI X tg iter wi)(hg:PG X tg g)(hb:PSs X body tb)
  (hs:∀x,foldedSetIterable iter X.env x=pure x:=by intro _;rfl):PS X (.For tg iter body [] pos) (F6 wi g tb):=by
 intro pi s σ H D I h;refine wpAny_For (Hk (hi pi s σ H _ I h) fun v s1 h1=>Hk h1 fun Rx s2 h2=>?_) hs;obtain⟨it,fp,tn,J,H2,e,I2,T,Hd,f2,W,⟨m0,w0⟩,turn⟩:=h2;subst e;have Lq:∀{H':Hp},(∀b∈fp,H' b=none)->∀b∈fp,tZ X pi H' b:=fun hn b hb=>⟨hn b hb,(f2 b hb).2⟩
 refine codeAny_forLoop_any (fun n s'=>∃i σ' H',Inv X pi σ' H' s'/\tn i s'.heap/\(∀b∈fp,H' b=none)/\W i n σ' H') ?_ m0 ⟨0,σ,H2,I2,Hd,fun b hb=>(f2 b hb).1,w0⟩;rintro n s3 ⟨i,σ3,H3,I3,Hy,OR,w3⟩;rcases turn i n σ3 H3 w3 with⟨stop,qn⟩|⟨go,N,hN,step⟩
 ·refine Wd hp (Hk (T.done X rfl rfl rfl hc i pi s3 σ3 H3 X.xe I3 (Lq OR) Hy stop) fun r s4 Hm=>?_);obtain⟨hr,I4⟩:=Hm;subst hr;exact WK ⟨σ3,H3,I4,qn⟩
 ·refine Wd hp (Hk (T.item X rfl rfl rfl hc i pi s3 σ3 H3 X.xe I3 (Lq OR) Hy go) fun r s4 Hm=>?_);obtain⟨u,hr,h4⟩:=Hm;subst hr;refine Wd hp (Hk h4 fun _ s5 Hm=>?_);obtain⟨x,H5,I5,r5,y5,JM,R9⟩:=Hm;have Sa:=I5.pinned (Lq R9) (T.obj _ _ JM);refine Wd hp (Hk (hg _ s5 σ3 H5 x u _ Sa r5 (step x H5 y5)) fun _ s6 Hm=>?_);obtain⟨σ6,H6,I6,q6⟩:=Hm;refine Wd hp (Hk (hb _ s6 σ6 H6 _ I6 q6) fun f s7 q7=>?_);have again:∀{σ7:St}{H7:Hp},Inv X (pi++oM fp s5.heap) σ7 H7 s7->N σ7 H7->∃m,m<n/\∃i σ' H',Inv X pi σ' H' s7/\tn i s7.heap/\(∀b∈fp,H' b=none)/\W i m σ' H':=fun{σ7 H7} I7 n7=>by
   obtain⟨m',hm,w7⟩:=hN σ7 H7 n7;refine⟨m',hm,i+1,σ7,H7,I7.unpinned,T.keep _ _ _ JM fun b hb o e=>(I7.pin (b,o) (Us _ (Us _ (iA hb e)))).1,fun b hb=>?_,w7⟩;obtain⟨o,e,d⟩:=T.obj _ _ JM b hb;exact(I7.pin (b,o) (Us _ (Us _ (iA hb e)))).2.1
  cases f with
  |next=>obtain⟨σ7,H7,I7,n7⟩:=q7;exact again I7 n7
  |cont=>obtain⟨σ7,H7,I7,n7⟩:=q7;exact again I7 n7
  |brk=>obtain⟨σ7,H7,I7,q7⟩:=q7;exact⟨σ7,H7,I7.unpinned,q7⟩
  |ret v=>obtain⟨x7,σ7,H7,I7,r7,q7⟩:=q7;exact⟨x7,σ7,H7,I7.unpinned,r7,q7⟩
end
theorem for_list{K:W.Frag}{a:Addr}{xs:List V}{g:TG}{tb:TS}{D:Ends}{σ:St}{H:Hp}(Pv:Nat->St->Hp->Prop)(h0:Pv 0 σ H)(hl:∀i σ H,i<=xs.length->Pv i σ H->SqL K H a xs)
  (hs:∀i x σ H,xs[i]?=some x->Pv i σ H->g x σ H fun σ2 H2=>tb {D with nx:=Pv (i+1),ct:=Pv (i+1),bk:=D.nx} σ2 H2) (hd:∀σ H,Pv xs.length σ H->D.nx σ H):
  ∃W:Nat->Nat->St->Hp->Prop,(∃m,W 0 m σ H)/\∀i m σ H,W i m σ H->
   ((PY K a).stop i H/\D.nx σ H)\/((PY K a).go i H/\∃N:St->Hp->Prop,(∀σ' H',N σ' H'->∃m',m'<m/\W (i+1) m' σ' H')/\∀x H',(PY K a).yld i H x H'->g x σ H' fun σ2 H2=>tb {D with nx:=N,ct:=N,bk:=D.nx} σ2 H2):=by
 refine⟨fun i m σ H=>m=xs.length-i/\i<=xs.length/\Pv i σ H,⟨xs.length,by simp,U6 _,h0⟩,?_⟩;rintro i m σ H ⟨rfl,hi,p⟩;have q:=hl i σ H hi p;by_cases HN:i<xs.length
 ·refine .inr ⟨⟨xs,xs[i],q,by simp[HN]⟩,Pv (i+1),fun σ' H' p'=>⟨xs.length-(i+1),by lia,rfl,HN,p'⟩,fun x H' y=>?_⟩;obtain⟨e,y⟩:=y;subst e;exact hs i x σ _ (y xs q) p
 ·have e:i=xs.length:=by lia
  subst e;exact .inl ⟨⟨xs,q,Ur _⟩,hd σ H p⟩
abbrev R2:=V->V->Hp->VK->Prop
def HS(X:Cx)(f:Value->Value->Sem Value)(r:R2):Prop:=
 ∀(pi:List (Addr×Obj)) (s:Shared) (σ:St) (H:Hp) (x y:V) (v u:Value) (Q:VK),Inv X pi σ H s->RelV x v->RelV y u->r x y H Q->
  wpAny (model X.prog X.w) X.A (f v u) (EP X pi σ Q) X.xe s
def cX(X:Cx)(f:Value)(r:List V->Hp->VK->Prop):Prop:=
 ∀(pi:List (Addr×Obj)) (s:Shared) (σ:St) (H:Hp) (xs:List V) (us:List Value) (Q:VK),Inv X pi σ H s->Vals xs us->r xs H Q->
  wpAny (model X.prog X.w) X.A (call f us) (EP X pi σ Q) X.xe s
def PZ(r:R2)(ta tb:TE):TE:=fun σ H Q=>ta σ H fun x H1=>tb σ H1 fun y H2=>r x y H2 Q
def rI(C:Int->Int->Prop)(g:Int->Int->V):R2:=fun x y H Q=>∃i j,x=.int i/\y=.int j/\C i j/\Q (g i j) H
def P0(g:Int->Int->V):R2:=fun x y H Q=>∃i j,x=.int i/\y=.int j/\Q (g i j) H
section
variable{X:Cx}{a b c:Expr}{ta tb tc:TE}{pos:Pos}
theorem Ew(ha:PE X a ta)(hb:PE X b tb){pi:List (Addr×Obj)}{s:Shared}{σ:St}{H:Hp}{R:V->V->Hp->Prop}(I:Inv X pi σ H s)
  (h:ta σ H fun x H1=>tb σ H1 fun y H2=>R x y H2) {Q:Value->Shared->Prop}{f:Value->Value->Sem Value}
  (hf:∀v u s2 x y H2,Inv X pi σ H2 s2->RelV x v->RelV y u->R x y H2->wpAny (model X.prog X.w) X.A (f v u) Q X.xe s2):
  wpAny (model X.prog X.w) X.A (eval a X.env) (fun v s₁=>wpAny (model X.prog X.w) X.A (eval b X.env) (fun u s₂=>wpAny (model X.prog X.w) X.A (f v u) Q X.xe s₂) X.xe s₁) X.xe s:=by
 refine Hk (ha pi s σ H _ I h) fun v s1 Hm=>?_
 obtain⟨x,H1,I1,r1,q1⟩:=Hm;refine Hk (hb pi s1 σ H1 _ I1 q1) fun u s2 Hm=>?_
 obtain⟨y,H2,I2,r2,q2⟩:=Hm;exact hf v u s2 x y H2 I2 r1 r2 q2
theorem BW{op:Operator}{r:R2}(ho:HS X (binaryOp op) r)(ha:PE X a ta)(hb:PE X b tb):PE X (.BinOp a op b pos) (PZ r ta tb):=by
 intro pi s σ H Q I h;exact wpAny_BinOp (Ew ha hb I h fun v u s2 x y H2 I2 rx ry q=>ho pi s2 σ H2 x y v u Q I2 rx ry q)
theorem Qi{f:Value->Value->Sem Value}{C:Int->Int->Prop}{g:Int->Int->Int}
  (rule:∀(i j:Int) (t u:Tok) (s:Shared) (Q:Value->Shared->Prop) (E:Value->Shared->Prop),C i j->Q (.int (g i j) s.toks) {s with toks:=s.toks+1}->wpAny (model X.prog X.w) X.A (f (.int i t) (.int j u)) Q E s):
  HS X f (rI C fun i j=>.int (g i j)):=by
 intro pi s σ H x y v u Q I rx ry h;obtain⟨i,j,rfl,rfl,hc,q⟩:=h;obtain⟨t,rfl⟩:=rx;obtain⟨t',rfl⟩:=ry;exact rule i j t t' s _ _ hc ⟨.int (g i j),H,I.tok _,⟨_,rfl⟩,q⟩
theorem FF{f:Value->Value->Sem Value}{g:Int->Int->Int}
  (rule:∀(i j:Int) (t u:Tok) (s:Shared) (Q:Value->Shared->Prop) (E:Value->Shared->Prop),Q (.int (g i j) s.toks) {s with toks:=s.toks+1}->wpAny (model X.prog X.w) X.A (f (.int i t) (.int j u)) Q E s):
  HS X f (P0 fun i j=>.int (g i j)):=by
 intro pi s σ H x y v u Q I rx ry h;obtain⟨i,j,rfl,rfl,q⟩:=h;obtain⟨t,rfl⟩:=rx;obtain⟨t',rfl⟩:=ry;exact rule i j t t' s _ _ ⟨.int (g i j),H,I.tok _,⟨_,rfl⟩,q⟩
theorem FH{f:Value->Value->Sem Value}{g:Int->Int->Bool}
  (rule:∀(i j:Int) (t u:Tok) (s:Shared) (Q:Value->Shared->Prop) (E:Value->Shared->Prop),Q (.bool (g i j)) s->wpAny (model X.prog X.w) X.A (f (.int i t) (.int j u)) Q E s):
  HS X f (P0 fun i j=>.bl (g i j)):=by
 intro pi s σ H x y v u Q I rx ry h;obtain⟨i,j,rfl,rfl,q⟩:=h;obtain⟨t,rfl⟩:=rx;obtain⟨t',rfl⟩:=ry;exact rule i j t t' s _ _ ⟨.bl (g i j),H,I,rfl,q⟩
def F7(i j:Int):Prop:=0<j/\j<1073741824
def F8(i j:Int):Prop:=0<=j/\j<=1000000/\i.natAbs<2 ^ 64
def CMul(i j:Int):Prop:=(-(2 ^ 64)<i/\i<2 ^ 64)\/(-(2 ^ 64)<j/\j<2 ^ 64)
theorem CMul.ok{i j:Int}(h:CMul i j):IntMulOk i j:=by
 rcases h with⟨h1,h2⟩|⟨h1,h2⟩
 ·exact .of_left (intBits_le_64 h1 h2)
 ·exact .of_right (intBits_le_64 h1 h2)
theorem yk:HS X (binaryOp .Add) (P0 fun i j=>.int (i+j)):=FF fun _ _ _ _ _ _ _ q=>add_int q
theorem BX:HS X (binaryOp .Sub) (P0 fun i j=>.int (i-j)):=FF fun _ _ _ _ _ _ _ q=>sub_int q
theorem BY:HS X (binaryOp .Mult) (rI CMul fun i j=>.int (i*j)):=Qi fun _ _ _ _ _ _ _ hc q=>mul_int q hc.ok
theorem y9:HS X (binaryOp .FloorDiv) (rI F7 fun i j=>.int (i / j)):=Qi fun i j _ _ _ _ _ hc q=>by
 have h1:(0:Int)<j:=hc.1;have h2:j<1073741824:=hc.2;exact floordiv_int (by lia) (by rw[Int.fdiv_eq_ediv_of_nonneg i (by lia)];exact q) (.inl (PyProof.noPylong_small (by lia)))
theorem BZ:HS X (binaryOp .Mod) (rI (fun _ j=>0<j) fun i j=>.int (i%j)):=Qi fun i j _ _ _ _ _ hc q=>by
 have h1:(0:Int)<j:=hc;exact mod_int' (by lia) (by rw[Int.fmod_eq_emod_of_nonneg i (by lia)];exact q)
theorem B0:HS X (binaryOp .Pow) (rI F8 fun i j=>.int (i ^ j.toNat)):=Qi fun _ _ _ _ _ _ _ hc q=>pow_int_small hc.1 hc.2.1 hc.2.2 q
end
section
variable{X:Cx}{a b c:Expr}{ta tb tc:TE}{pos:Pos}
theorem uw{pi:List (Addr×Obj)}{σ:St}{H:Hp}{s:Shared}{Q:VK}{k k':Bool}(I:Inv X pi σ H s)(q:Q (.bl k) H)(e:k=k'):EP X pi σ Q (.bool k') s:=by
 subst e;exact⟨.bl k,H,I,rfl,q⟩
theorem Ex:HS X (compareOp .Lt) (P0 fun i j=>.bl (decide (i<j))):=FH fun _ _ _ _ _ _ _ q=>lt_int q
theorem Ey:HS X (compareOp .Gt) (P0 fun i j=>.bl (decide (j<i))):=FH fun _ _ _ _ _ _ _ q=>gt_int q
theorem ux:HS X (compareOp .Lt) (fun x y H Q=>∃i j,x=.str i/\y=.str j/\Q (.bl (decide (i.cps.toList<j.cps.toList))) H):=by
 intro pi s σ H x y v u Q I rx ry h;obtain⟨i,j,rfl,rfl,q⟩:=h;obtain⟨t,rfl⟩:=rx;obtain⟨t',rfl⟩:=ry;exact lt_str (uw I q rfl)
theorem uy:HS X (compareOp .In) (fun x y H Q=>∃i j,x=.str i/\y=.str j/\Q (.bl (!(Builtin.Str.occurrences j i 0 j.length 1).isEmpty)) H):=by
 intro pi s σ H x y v u Q I rx ry h;obtain⟨i,j,rfl,rfl,q⟩:=h;obtain⟨t,rfl⟩:=rx;obtain⟨t',rfl⟩:=ry;exact in_str (uw I q rfl)
theorem oN:HS X (compareOp .NotIn) (fun x y H Q=>∃i j,x=.str i/\y=.str j/\Q (.bl (!(!(Builtin.Str.occurrences j i 0 j.length 1).isEmpty))) H):=by
 intro pi s σ H x y v u Q I rx ry h;obtain⟨i,j,rfl,rfl,q⟩:=h;obtain⟨t,rfl⟩:=rx;obtain⟨t',rfl⟩:=ry;exact notIn_str (uw I q rfl)
theorem bM(b:Expr){op:CmpOp}(h:op≠.In:=by decide)(h2:op≠.NotIn:=by decide):behindInMarks op b=false:=by
 have e1:(op==CmpOp.In)=false:=by cases op <;> first|rfl|exact absurd rfl h
 have e2:(op==CmpOp.NotIn)=false:=by cases op <;> first|rfl|exact absurd rfl h2
 cases b <;> simp[behindInMarks,e1,e2]
theorem za{op:CmpOp}{r:R2}(ho:HS X (compareOp op) r)(ha:PE X a ta)(hb:PE X b tb)(hm:behindInMarks op b=false):PE X (.Compare a [op] [b] pos) (PZ r ta tb):=by
 intro pi s σ H Q I h;exact wpAny_Compare1 (Ew ha hb I h fun v u s2 x y H2 I2 rx ry q=>ho pi s2 σ H2 x y v u Q I2 rx ry q) hm
def Ez(t:TE):TT:=fun σ H Q=>t σ H fun x H'=>∃k,x=.bl k/\Q k H'
theorem uz{op:CmpOp}{r:R2}(ho:HS X (compareOp op) r)(ha:PE X a ta)(hb:PE X b tb)(hm:behindInMarks op b=false):PT X (.Compare a [op] [b] pos) (Ez (PZ r ta tb)):=by
 intro pi s σ H Q I h;refine wpAny_isTrue_Compare1 (Hk (ha pi s σ H _ I h) fun v s1 ⟨x,H1,I1,r1,q1⟩=>Hk (hb pi s1 σ H1 _ I1 q1) fun u s2 ⟨y,H2,I2,r2,q2⟩=>
  Hk (ho pi s2 σ H2 x y v u _ I2 r1 r2 q2) fun c s3 ⟨z,H3,I3,r3,k,e,q3⟩=>?_) hm
 subst e;cases r3;exact Vy ⟨H3,I3,q3⟩
theorem k8:(sizeLine:Nat)<2 ^ 63:=by rw[Vr];decide
theorem sR:HS X (binaryOp .Add) (fun x y H Q=>∃i j,x=.str i/\y=.str j/\i.length+j.length<=sizeLine/\Q (.str (i++j)) H):=by
 intro pi s σ H x y v u Q I rx ry h;obtain⟨i,j,rfl,rfl,hz,q⟩:=h;obtain⟨t,rfl⟩:=rx;obtain⟨t',rfl⟩:=ry;exact add_str (fun t' tk=>⟨.str (i++j),H,I.tok _,⟨_,rfl⟩,q⟩) hz
theorem eF{x:V}{us:List Value}(r:Vals [x] us):∃u,us=[u]/\RelV x u:=by
 cases r with
 |cons r1 r2=>cases r2;exact⟨_,rfl,r1⟩
theorem qk{x y:V}{us:List Value}(r:Vals [x,y] us):∃u w',us=[u,w']/\RelV x u/\RelV y w':=by
 cases r with
 |cons r1 r2=>
  cases r2 with
  |cons r3 r4=>cases r4;exact⟨_,_,rfl,r1,r3⟩
theorem uA(hc:X.calm=true):cX X (.builtin "min") (fun xs H Q=>∃i j,xs=[.int i,.int j]/\Q (.int (if j<i then j else i)) H):=by
 intro pi s σ H xs us Q I r h;obtain⟨i,j,rfl,q⟩:=h;obtain⟨u,w',rfl,⟨t,rfl⟩,⟨t',rfl⟩⟩:=qk r;refine min_two_ints (I.ok.hd hc) fun h' tk k=>⟨_,H,I.kept k,?_,q⟩
 by_cases hj:j<i
 ·rw[Ut hj,Ut hj];exact⟨_,rfl⟩
 ·rw[UD hj,UD hj];exact⟨_,rfl⟩
end
section
variable{prog:Program}{w:World}{A:Around}{E:Value->Shared->Prop}{s:Shared}{K:W.Frag}{x dx C f:Addr}{mA:Str->Option Value}{name:Str}{v:Value}
end
theorem RelO.some_of{v:V}{o:Option Value}(r:RelO (some v) o):∃u,o=some u/\RelV v u:=by
 cases o with
 |none=>exact(show False from r).elim
 |some u=>exact⟨u,rfl,r⟩
section
variable{P:Program}{w:World}{H H':Hp}{h h':Heap}{a C dx:Addr}{fs fs':List (Str×V)}
end
section
variable{X:Cx}{pi:List (Addr×Obj)}{σ:St}{H:Hp}{s:Shared}{a C dx:Addr}{fs:List (Str×V)}{f:Str}{v:V}{A:Around}{E:Value->Shared->Prop}
end
section
variable{X:Cx}{o e value:Expr}{f:Str}{pos pos' Jq:Pos}{ta tv:TE}
end
section
variable{X:Cx}{pi:List (Addr×Obj)}{σ:St}{H:Hp}{s:Shared}{A:Around}{E:Value->Shared->Prop}{Q:Value->Shared->Prop}{c:Value}{b:Bool}
end
structure Room(k:Nat)(A:Around):Prop where
 hd:A.handled=none
 dp:A.depth+3*k+5<recursionLimit
 un:A.units+16*k+200<cLine
theorem Room.mono{j k:Nat}{A:Around}(r:Room k A)(h:j<=k):Room j A:=⟨r.hd,by have:=r.dp;lia,by have:=r.un;lia⟩
theorem Room.m{j k:Nat}{A:Around}(r:Room k A)(h:j<=k:=by decide):Room j A:=r.mono h
theorem Room.deeper{k:Nat}{A:Around}(r:Room (k+1) A)(env:Env):Room k (A.deeper env):=
 ⟨r.hd,by have:=r.dp;show A.depth+1+3*k+5<_;lia,by have:=r.un;show A.units+3+16*k+200<_;lia⟩
theorem Room.depth{k:Nat}{A:Around}(r:Room k A):A.depth<recursionLimit:=by have:=r.dp;lia
theorem Room.units{k:Nat}{A:Around}(r:Room k A):A.units+64<cLine:=by have:=r.un;lia
theorem Room.units0{k:Nat}{A:Around}(r:Room k A):A.units<cLine:=by have:=r.un;lia
def Br:TA:=fun _ H Q=>Q [] H
def sS(ta:TE)(tr:TA):TA:=fun σ H Q=>ta σ H fun x H1=>tr σ H1 fun xs H2=>Q (x::xs) H2
section
variable{X:Cx}{e:Expr}{es:List Expr}{te:TE}{t:TA}{pos:Pos}
theorem gU:PA X [] Br:=fun _ _ _ _ H Q I h=>Calls.spliced_nil ⟨[],H,I,.nil,h⟩
theorem cI(ha:PE X e te)(hr:PA X es t)(hs:starEach (e::es) X.env=(false,eval e X.env)::starEach es X.env:=by rfl):PA X (e::es) (sS te t):=by
 intro pos pi s σ H Q I h;rw[hs];show wpAny _ _ (spliced ((false,eval e X.env)::backTo pos (starEach es X.env))) _ _ s;refine Calls.spliced_cons (Hk (ha pi s σ H _ I h) fun u s1 Hm=>?_);obtain⟨x,H1,I1,r1,q1⟩:=Hm;exact Hk (hr pos pi s1 σ H1 _ I1 q1) fun us s2 ⟨xs,H2,I2,r2,q2⟩=>⟨x::xs,H2,I2,.cons r1 r2,q2⟩
def F9(t:TA):TE:=fun σ H Q=>t σ H fun xs H1=>xs.length<=sizeLine/\∀p,H1 p=none->Q (.ref p) (upd H1 p (.tup xs))
def Ga(t:TA):TE:=fun σ H Q=>t σ H fun xs H1=>xs.length<=sizeLine/\∀p,H1 p=none->Q (.ref p) (upd H1 p (.lst xs))
theorem uB{x1}(h:PA X es t):PE X (.Tuple es x1 pos) (F9 t):=by
 intro pi s σ H Q I hq;refine wpAny_Tuple_spliced (Hk (h pos pi s σ H _ I hq) fun us s1 ⟨xs,H1,I1,r,z,q⟩=>⟨by rw[<-r.length];exact z,?_⟩);have hf:H1 s1.heap.objs.size=none:=I1.hok.fresh (Ur _);refine⟨.ref s1.heap.objs.size,upd H1 s1.heap.objs.size (.tup xs),I1.laid (t':=s1.toks) (fun b u e=>Heap.get?_push_of_some _ e) (Ur _) ?_,rfl,q _ hf⟩;exact⟨z,us,r,⟨_,Heap.get?_push_size _ rfl,rfl,⟨_,rfl⟩,rfl⟩⟩
theorem B1(h:PA X es t):PE X (.List es pos) (Ga t):=by
 intro pi s σ H Q I hq;refine wpAny_List_spliced (Hk (h pos pi s σ H _ I hq) fun us s1 ⟨xs,H1,I1,r,z,q⟩=>⟨by rw[<-r.length];exact z,?_⟩);have hf:H1 s1.heap.objs.size=none:=I1.hok.fresh (Ur _);refine⟨.ref s1.heap.objs.size,upd H1 s1.heap.objs.size (.lst xs),I1.laid (t':=s1.toks) (fun b u e=>Heap.get?_push_of_some _ e) (Ur _) ?_,rfl,q _ hf⟩;exact⟨z,us,0,r,Heap.get?_push_size _ rfl⟩
end
abbrev Sp:=List V->Hp->VK->XK->Prop
abbrev Mg:=List Env->Hp->Shared->XK->Value->Shared->Prop
structure Env0(P:Program)(w:World)(K:W.Frag)(mg:Str->Option Value)(base:Heap)(A:Around)(outer:List Env)(s:Shared)(H:Hp):Prop where
 frames:A.frames=some outer
 mod:Mod K mg base
 bs:∀b o,base.get? b=some o->s.heap.get? b=some o/\H b=none
 bsz:base.objs.size<=s.heap.objs.size
 funs:s.heap.FunFrames base outer
 frf:∀b∈HY outer,H b=none
 hok:HOk P w H s.heap
 bare:AllBare s.gens
def CE(outer:List Env)(P:Program)(w:World)(H:Hp)(s:Shared)(Q:VK)(u:Value)(s':Shared):Prop:=
 ∃v H',s'.os=s.os/\AllBare s'.gens/\Un (HY outer) [] H H' s.heap s'.heap/\HOk P w H' s'.heap/\RelV v u/\Q v H'
def CR(CX:Mg)(outer:List Env)(P:Program)(w:World)(H:Hp)(s:Shared)(Q:VK)(E:XK)(r:Result)(s':Shared):Prop:=
 match r with
 | .ok (.ret u)=>CE outer P w H s Q u s'
 | .ok _=>False
 | .error e=>CX outer H s E e s'
structure FnOk(P:Program)(w:World)(K:W.Frag)(mg:Str->Option Value)(base:Heap)(CX:Mg)(k:Nat)(f:Addr)(fd:FuncData)(ps:List Str)(sp:Sp):Prop where
 len:∀vs H Q E,sp vs H Q E->vs.length=ps.length
 run:∀(A:Around) (outer:List Env) (s:Shared) (H:Hp) (args:Args) (us:List Value) (vs:List V) (Q:VK) (E:XK),Room k A->Env0 P w K mg base A outer s H->BindsTo s fd args (ps.zip us)->Vals vs us->sp vs H Q E->
  codeAny (model P w) A (.call (.ref f) args) (CR CX outer P w H s Q E) s
theorem FnOk.imp{P:Program}{w:World}{K:W.Frag}{mg:Str->Option Value}{base:Heap}{CX:Mg}{k:Nat}{f:Addr}{fd:FuncData}{ps:List Str}{sp Tu:Sp}(F:FnOk P w K mg base CX k f fd ps sp)
  (h:∀vs H Q E,Tu vs H Q E->sp vs H Q E):FnOk P w K mg base CX k f fd ps Tu:=
 ⟨fun vs H Q E q=>F.len vs H Q E (h _ _ _ _ q),fun A outer s H args us vs Q E hr he hb hv hs=>F.run A outer s H args us vs Q E hr he hb hv (h _ _ _ _ hs)⟩
section
variable{X:Cx}{pi:List (Addr×Obj)}{σ:St}{H:Hp}{s s':Shared}
theorem Inv.env0(I:Inv X pi σ H s):Env0 X.prog X.w X.K X.mg X.base X.A X.stack s H:=
 ⟨I.ok.frames,I.ok.mod,I.bs,Vh I.ok.bsz I.sz,I.stack,I.stkFree,I.hok,I.bare⟩
theorem Inv.after{Q:VK}{u:Value}(I:Inv X pi σ H s)(h:CE X.stack X.prog X.w H s Q u s'):EP X pi σ Q u s':=by
 obtain⟨v,H',os,bare,un,hok,r,q⟩:=h;obtain⟨hh,g,d,t,os'⟩:=s';obtain rfl:os'=s.os:=os;exact⟨v,H',I.call (h':=hh) (g':=g) (d':=d) (t':=t) (ch:=[]) un hok bare (fun b z=>absurd z (by simp)),r,q⟩
end
def tCall(sp:Sp)(OB:List V)(E:XK)(t:TA):TE:=fun σ H Q=>t σ H fun vs H1=>sp (vs++OB) H1 Q E
def Binds(K:W.Frag)(fd:FuncData)(ps:List Str)(ds:List Value):Prop:=
 ∀(s:Shared) (us:List Value),K.In s.heap->(us++ds).length=ps.length->BindsTo s fd ⟨us,[]⟩ (ps.zip (us++ds))
theorem Binds.all{K:W.Frag}{fd:FuncData}{ps:List Str}(h:∀us:List Value,us.length=ps.length->bindArgs fd ⟨us,[]⟩=pure (ps.zip us)):Binds K fd ps []:=fun s us _ hl=>by
 rw[Vd]at hl ⊢;exact .of_eq (h us hl)
def uC(CX:Mg)(X:Cx)(E:XK):Prop:=∀(pi:List (Addr×Obj)) (σ:St) (H:Hp) (s:Shared) (e:Value) (s':Shared),Inv X pi σ H s->CX X.stack H s E e s'->X.xe e s'
section
variable{X:Cx}{CX:Mg}{k:Nat}{f C:Addr}{fd:FuncData}{ps:List Str}{sp:Sp}{OB:List V}{ds:List Value}{E:XK}{x m:Str}{p pos apos:Pos}{e o:Expr}{es:List Expr}{ta:TE}{t:TA}
theorem B2{pi:List (Addr×Obj)}{σ:St}{H:Hp}{s:Shared}{Q:VK}{us:List Value}{vs:List V}(F:FnOk X.prog X.w X.K X.mg X.base CX k f fd ps sp)(hr:Room k X.A)(hb:Binds X.K fd ps ds)(hd:Vals OB ds)(hx:uC CX X E)
  (I:Inv X pi σ H s) (r:Vals vs us) (h:sp (vs++OB) H Q E):wpAny (model X.prog X.w) X.A (call (.ref f) us) (EP X pi σ Q) X.xe s:=by
 have r2:Vals (vs++OB) (us++ds):=r.append hd;have hl:(us++ds).length=ps.length:=by rw[<-r2.length];exact F.len _ _ _ _ h
 refine wpAny_call (X8 (F.run X.A X.stack s H ⟨us,[]⟩ (us++ds) (vs++OB) Q E hr I.env0 (hb s us I.kIn hl) r2 h) fun r s' hq=>?_);cases r with
 |error e=>exact hx pi σ H s e s' I hq
 |ok fl=>
  cases fl with
  |ret u=>exact I.after hq
  |next=>exact False.elim hq
  |brk=>exact False.elim hq
  |cont=>exact False.elim hq
theorem zb(F:FnOk X.prog X.w X.K X.mg X.base CX k f fd ps sp)(hr:Room k X.A)(hg:Gl X x)(hm:X.mg x=some (.ref f))(hk:PySem.W.keepIn X.K (.ref f)=true)(hb:Binds X.K fd ps ds)(hd:Vals OB ds)(hx:uC CX X E)
  (ha:PA X (e::es) t) (HZ:(x==("__debug__" : Str))=false:=by decide) (he:starEach (e::es) X.env=(false,eval e X.env)::starEach es X.env:=by rfl) (HU:(backTo pos (starEach es X.env)).any (·.1)=false:=by rfl):
  PE X (.Call (.Name x p) (e::es) [] pos) (tCall sp OB E t):=by
 intro pi s σ H Q I h;refine VT (k7 I hg hm ?_ HZ);refine YG (h₀:=X.base) I.ok.mod.kin hk (Hk (ha pos pi s σ H _ I h) fun us s1 ⟨vs,H1,I1,r,q⟩=>⟨I1.kIn,?_⟩) he HU;exact B2 F hr hb hd hx I1 r q
end
def PK(X:Cx)(Qj:List Keyword)(t:TA):Prop:=
 ∀(pos:Pos) (pi:List (Addr×Obj)) (s:Shared) (σ:St) (H:Hp) (Q:List V->Hp->Prop),Inv X pi σ H s->t σ H Q->wpAny (model X.prog X.w) X.A (evalAll ((backToKw pos (keywordEach Qj X.env)).map (·.2))) (AP X pi σ Q) X.xe s
section
variable{X:Cx}{CX:Mg}{k:Nat}{f C:Addr}{fd:FuncData}{ps ks:List Str}{sp:Sp}{E:XK}{x m:Str}{p pos apos Ky:Pos}{e o:Expr}{es:List Expr}{Qj:List Keyword}{te ta:TE}{t tk:TA}{nm:Option Str}
theorem ym:PK X [] Br:=fun _ _ _ _ H Q I h=>wpAny_evalAll_nil ⟨[],H,I,.nil,h⟩
theorem uD(ha:PE X e te)(hr:PK X Qj t):PK X (⟨nm,e,Ky⟩::Qj) (sS te t):=by
 intro pos pi s σ H Q I h;show wpAny _ _ (evalAll ((do let v <-eval e X.env;standAt pos;pure v)::(backToKw pos (keywordEach Qj X.env)).map (·.2))) _ _ s;refine wpAny_evalAll_cons (Uk (Hk (ha pi s σ H _ I h) fun u s1 ⟨x,H1,I1,r1,q1⟩=>Uk (YH (Ul ?_))));exact Hk (hr pos pi s1 σ H1 _ I1 q1) fun us s2 ⟨xs,H2,I2,r2,q2⟩=>⟨x::xs,H2,I2,.cons r1 r2,q2⟩
variable{g:List Value->List Value->List Value}{gV:List V->List V->List V}
end
structure FnScope(N P:List Str)(sc:Scope):Prop where
 kind:sc.kind=.function
 co:sc.isCoroutine=false
 gen:sc.isGenerator=false
 nd:N.Nodup
 pre:N.take P.length=P
 par:∀x∈P,sc.names.lookup x=some .local\/sc.names.lookup x=some .cell
 nofree:∀y∈sc.names,y.2≠.free
theorem fs{N P:List Str}{sc:Scope}(a:sc.kind=.function:=by rfl)(b:sc.isCoroutine=false:=by rfl)(c:sc.isGenerator=false:=by rfl)(d:N.Nodup:=by decide +kernel)(e:N.take P.length=P:=by rfl)(f:∀x∈P,sc.names.lookup x=some .local\/sc.names.lookup x=some .cell:=by decide +kernel)(g:∀y∈sc.names,y.2≠.free:=by decide +kernel):FnScope N P sc:=⟨a,b,c,d,e,f,g⟩
theorem oO{kindOf:Str->Option NameKind}{x:Str}:∀{binds:List (Str×Value)}{m:Str->Option Value},(∀v,(x,v)∉binds)->bindL kindOf binds m x=m x
 |[],_,_=>rfl
 |(n,v)::r,m,h=>by
  unfold bindL;rw[oO fun w hw=>h w (Uy _ hw)];split
  ·have:x≠n:=by rintro rfl;exact h v Uq
   simp[this]
  ·rfl
theorem oP{kindOf:Str->Option NameKind}{x:Str}:∀{binds:List (Str×Value)}{m:Str->Option Value},(∀v,(x,v)∉binds)->bindC kindOf binds m x=m x
 |[],_,_=>rfl
 |(n,v)::r,m,h=>by
  unfold bindC;rw[oP fun w hw=>h w (Uy _ hw)];split
  ·rfl
  ·have:x≠n:=by rintro rfl;exact h v Uq
   simp[this]
theorem oQ{kindOf:Str->Option NameKind}{x:Str}{v:Value}:∀{P:List Str}{vs:List Value}{i:Nat}{m:Str->Option Value},P.Nodup->P[i]?=some x->vs[i]?=some v->kindOf x=some .local->
  bindL kindOf (P.zip vs) m x=some v
 |[],_,_,_,_,h,_,_=>by simp at h
 |_::_,[],_,_,_,_,h,_=>by simp at h
 |p::P,w::vs,0,m,nd,h1,h2,hk=>by
  simp at h1 h2;subst h1;subst h2;show bindL kindOf ((p,w)::P.zip vs) m p=_;unfold bindL;rw[oO fun v hv=>(US.mp nd).1 (WL hv).1,Ut hk];simp
 |p::P,w::vs,i+1,m,nd,h1,h2,hk=>by
  show bindL kindOf ((p,w)::P.zip vs) m x=_;unfold bindL;exact oQ (i:=i) (US.mp nd).2 (by simpa using h1) (by simpa using h2) hk
theorem oR{kindOf:Str->Option NameKind}{x:Str}{v:Value}:∀{P:List Str}{vs:List Value}{i:Nat}{m:Str->Option Value},P.Nodup->P[i]?=some x->vs[i]?=some v->kindOf x≠some .local->
  bindC kindOf (P.zip vs) m x=some v
 |[],_,_,_,_,h,_,_=>by simp at h
 |_::_,[],_,_,_,_,h,_=>by simp at h
 |p::P,w::vs,0,m,nd,h1,h2,hk=>by
  simp at h1 h2;subst h1;subst h2;show bindC kindOf ((p,w)::P.zip vs) m p=_;unfold bindC;rw[oP fun v hv=>(US.mp nd).1 (WL hv).1,UD hk];simp
 |p::P,w::vs,i+1,m,nd,h1,h2,hk=>by
  show bindC kindOf ((p,w)::P.zip vs) m x=_;unfold bindC;exact oR (i:=i) (US.mp nd).2 (by simpa using h1) (by simpa using h2) hk
def start(N:List Str)(vs:List V):St:=vs.map some++List.replicate (N.length-vs.length) none
noncomputable def sT(CX:Mg)(P:Program)(w:World)(K:W.Frag)(mg:Str->Option Value)(base:Heap)(N:List Str)(qual:Str)(scope:Scope)(f:Addr)(cd:Value)(A:Around)(outer:List Env)(s:Shared)(H:Hp)(E:XK):Cx where
 prog:=P
 w:=w
 K:=K
 mg:=mg
 base:=base
 A:=A.deeper (envOfC qual scope s.heap.objs.size f cd)
 N:=N
 s₀:=s
 H₀:=H
 env:=envOfC qual scope s.heap.objs.size f cd
 outer:=outer
 stack:=envOfC qual scope s.heap.objs.size f cd::outer
 ex:=[]
 calm:=true
 fn:=fun _=>true
 pn:=[]
 xe:=fun e s'=>wpAny (model P w) (A.deeper (envOfC qual scope s.heap.objs.size f cd)) (leaving (envOfC qual scope s.heap.objs.size f cd) e) (fun _ Sb=>CX outer H s E e Sb) (fun e' Sb=>CX outer H s E e' Sb) s'
theorem qY{sc:Scope}{n:Nat}{x:Str}(h:sc.names.lookup x=some .cell):∃c,(cellsFrom n sc.names []).lookup x=some c:=by
 have q:=XY sc.names n [] (.inl h);exact Vz.mp q
theorem uE{CX:Mg}{P:Program}{w:World}{K:W.Frag}{mg:Str->Option Value}{base:Heap}{N ps:List Str}{qual:Str}{scope:Scope}{f:Addr}{cd:Value}{A:Around}{outer:List Env}{s s1:Shared}{H:Hp}{E:XK}{us:List Value}{vs:List V}
  (S:FnScope N ps scope) (hd:A.handled=none) (e0:Env0 P w K mg base A outer s H) (hl:vs.length=ps.length) (r:Vals vs us)
  (x:InCallC s s.heap.objs.size (bindL (envOfC qual scope s.heap.objs.size f cd).kindOf (ps.zip us) fun _=>none) (cellsFrom (s.heap.objs.size+1) scope.names []) (bindC (envOfC qual scope s.heap.objs.size f cd).kindOf (ps.zip us) fun _=>none) s1):
  Inv (sT CX P w K mg base N qual scope f cd A outer s H E) [] (start N vs) H s1:=by
 have HU:ps.length<=N.length:=by have:=VC List.length S.pre;rw[U4]at this;lia
 obtain⟨h1,tk,rfl,hk⟩:=x.done;have Qk:∀b:Addr,b∉(sT CX P w K mg base N qual scope f cd A outer s H E).ex:=fun b z=>absurd (show b∈([]:List Addr) from z) (by simp)
 refine⟨⟨e0.mod,S.kind,rfl,rfl,Ur _,fun y z c h1 h2=>?_,fun y hy=>?_,fun y c _ h=>?_,fun _=>hd,Around.frames_deeper e0.frames,.inr ⟨rfl,rfl⟩,fun b z=>absurd z (Qk b),e0.bs,e0.bsz,fun b _ _=>Qk b,fun b z=>absurd z (Qk b),e0.funs,e0.frf⟩,
  rfl,e0.bare,Un.kept hk,⟨_,x.toInCall.ns,fun i y v h1 h2 h3=>?_⟩,fun y c h=>⟨_,x.cell y c h⟩,e0.hok.fresh (Ur _),fun y c h=>?_,fun p hp=>absurd (show p∈([]:List (Addr×Obj)) from hp) (by simp),e0.hok.kept hk,?_⟩
 ·exact name_of_addr x.apart (V1 h1) (V1 h2)
 ·have hy:scope.names.lookup y=some .cell\/scope.names.lookup y=some .free:=hy;rcases hy with hy|hy
  ·exact qY hy
  ·exact absurd rfl (S.nofree _ (V1 hy))
 ·exact X6 (x.above y c (V1 h))
 ·have hi:i<vs.length:=by
   unfold start at h2;by_cases hi:i<vs.length
   ·exact hi
   ·rw[List.getElem?_append_right (by simpa using hi)]at h2;rw[List.getElem?_replicate]at h2;split at h2 <;> cases h2
  have ha:vs[i]?=some v:=by
   unfold start at h2;rw[List.getElem?_append_left (by simpa using hi),List.getElem?_map]at h2;cases e:vs[i]? with
   |none=>rw[e]at h2;cases h2
   |some a=>rw[e]at h2;cases h2;rfl
  obtain⟨u,hu,rv⟩:=r.get ha;have hp:ps[i]?=some y:=by
   rw[<-S.pre,List.getElem?_take_of_lt (by lia)];exact h1
  have Tv:ps.Nodup:=by rw[<-S.pre];exact S.nd.sublist (Xv _ _)
  refine⟨u,rv,?_⟩;rcases S.par y (Uw hp) with k|k
  ·exact .inl ⟨k,oQ Tv hp hu k⟩
  ·obtain⟨c,e⟩:=qY (n:=s.heap.objs.size+1) k;refine .inr ⟨.inl k,c,e,?_⟩;have q:=x.cell y c e;rw[oR Tv hp hu (by show scope.names.lookup y≠_;rw[k];decide)]at q;exact q
 ·exact e0.hok.fresh (X6 (x.above y c (V1 h)))
 ·unfold start;show _=N.length;rw[Vb,Um,List.length_replicate];lia
theorem B3{CX:Mg}{P:Program}{w:World}{K:W.Frag}{mg:Str->Option Value}{base:Heap}{k:Nat}{f:Addr}{name qual:Str}{params:Arguments}{body:List Stmt}{scope:Scope}{dV kV doc pm Hs ct oc:Value}{an od:Option Addr}
  {ME:Array (Option Value)}{N ps:List Str}{sp:Sp}(lk:K.lookup f=some ⟨oc,od,.func (PySem.W.fnOf name qual params body scope dV kV doc pm an Hs ct),ME⟩) (Mf:PySem.W.codeIn K Hs qual=true) (S:FnScope N ps scope)
  (len:∀vs H Q E,sp vs H Q E->vs.length=ps.length)
  (KS:∀(A:Around) (outer:List Env) (s:Shared) (H:Hp) (vs:List V) (Q:VK) (E:XK),Room k (A.deeper (envOfC qual scope s.heap.objs.size f Hs))->sp vs H Q E->
   ∃t,PSs (sT CX P w K mg base N qual scope f Hs A outer s H E) body t/\t {nx:=fun _ H'=>Q .non H',rt:=Q} (start N vs) H):
  FnOk P w K mg base CX (k+1) f (PySem.W.fnOf name qual params body scope dV kV doc pm an Hs ct) ps sp:=by
 refine⟨len,fun A outer s H args us vs Q E hr e0 hb r Lr=>?_⟩;have hl:=len _ _ _ _ Lr;have KX:K.In s.heap:=e0.mod.kin.keeps fun b o e=>(e0.bs b o e).1
 have lim:s.heap.NoLimit:=e0.mod.nolimit.keeps fun b o e=>(e0.bs b o e).1
 have JS:∀y∈ps.zip us,scope.names.lookup y.1=some .local\/(scope.names.lookup y.1=some .cell/\((cellsFrom (s.heap.objs.size+1) scope.names []).lookup y.1).isSome=true):=fun Hg hy=>by
  obtain⟨n,v⟩:=Hg;rcases S.par n (WL hy).1 with q|q
  ·exact .inl q
  ·exact .inr ⟨q,XY _ _ _ (.inl q)⟩
 refine codeAny_call_function hr.depth (KX _ _ lk) rfl S.co S.gen rfl (PySem.W.codeRec_of KX Mf) (hb _ _ _ _ ?_);refine wpAny_newFunctionEnv_cells S.kind JS fun env he s1 x=>?_
 subst he;refine⟨lim.keeps x.toInCall.keep,codeAny_func ?_⟩;obtain⟨t,ht,hq⟩:=KS A outer s H vs Q E (hr.deeper _) Lr;have I:Inv (sT CX P w K mg base N qual scope f Hs A outer s H E) [] (start N vs) H s1:=uE S hr.hd e0 hl r x;refine Vc (ht [] s1 (start N vs) H _ I hq) (fun fl s' hs=>?_) fun e s' hs=>hs
 have fin:∀{σ':St}{H':Hp}{v:V}{u:Value},Inv (sT CX P w K mg base N qual scope f Hs A outer s H E) [] σ' H' s'->RelV v u->Q v H'->CE outer P w H s Q u s':=
  fun{σ' H' v u} J rv q=>⟨v,H',J.os,J.bare,J.base,J.hok,rv,q⟩
 cases fl with
 |ret u=>
  obtain⟨v,σ',H',J,rv,q⟩:=hs;exact fin J rv q
 |next=>
  obtain⟨σ',H',J,q⟩:=hs;exact fin (v:=V.non) (u:=Value.none) J rfl q
 |brk=>
  obtain⟨_,_,_,q⟩:=hs;exact False.elim q
 |cont=>
  obtain⟨_,_,_,q⟩:=hs;exact False.elim q
section
variable{X:Cx}{x:Str}{p pos:Pos}{e:Expr}{es:List Expr}{t:TA}{id T:String}{r:List V->Hp->VK->Prop}
def Sd(r:List V->Hp->VK->Prop)(t:TA):TE:=fun σ H Q=>t σ H fun vs H1=>r vs H1 Q
theorem jm(hc:cX X (.builtin id) r)(hg:Gl X x)(hm:X.mg x=none)(hv:bootBuiltins x=some (.builtin id))(ha:PA X (e::es) t)(hn:x≠"__name__":=by decide)(HZ:(x==("__debug__" : Str))=false:=by decide)
  (he:starEach (e::es) X.env=(false,eval e X.env)::starEach es X.env:=by rfl) (HU:(backTo pos (starEach es X.env)).any (·.1)=false:=by rfl):PE X (.Call (.Name x p) (e::es) [] pos) (Sd r t):=by
 intro pi s σ H Q I h;refine VT (kh I hg hm hv ?_ hn HZ);exact PyProof.Rows.callWith_builtin1 (Hk (ha pos pi s σ H _ I h) fun us s1 ⟨vs,H1,I1,r1,q1⟩=>hc pi s1 σ H1 vs us Q I1 r1 q1) he HU
theorem oS(hc:cX X (.type T) r)(hg:Gl X x)(hm:X.mg x=none)(hv:bootBuiltins x=some (.type T))(ha:PA X (e::es) t)(hn:x≠"__name__":=by decide)(HZ:(x==("__debug__" : Str))=false:=by decide)
  (he:starEach (e::es) X.env=(false,eval e X.env)::starEach es X.env:=by rfl) (HU:(backTo pos (starEach es X.env)).any (·.1)=false:=by rfl):PE X (.Call (.Name x p) (e::es) [] pos) (Sd r t):=by
 intro pi s σ H Q I h;refine VT (kh I hg hm hv ?_ hn HZ);exact V0 (Hk (ha pos pi s σ H _ I h) fun us s1 ⟨vs,H1,I1,r1,q1⟩=>hc pi s1 σ H1 vs us Q I1 r1 q1) he HU
end
end L2
namespace HT
open PySem PyProof.Rows
section
open PySem.SeqAt
open PySem.AutoSeq1 (wpAny_loadPart')
open PySem.MeetsSeq PySem.MeetsSeq2 PySem.MeetsSeq3
end
section
variable{prog:Program}{w:World}{A:Around}{E:Value->Shared->Prop}{s:Shared}
theorem zc{t b:Addr}{vs ws:List Value}{Q:Value->Shared->Prop}(ht:IsTup s.heap t vs.toArray)(hb:IsTup s.heap b ws.toArray)(hv:vs≠[])
  (h1:ws=[]->Q (.ref t) s) (h2:ws≠[]->Q (.ref s.heap.objs.size) {s with heap:=s.heap.push {cls:=.type "tuple",data:=.seq (vs++ws).toArray}})
  (hsz:vs.length+ws.length<=sizeLine):wpAny (model prog w) A (binaryOp .Add (.ref t) (.ref b)) Q E s:=by
 obtain⟨⟨cls,dd,data,sl⟩,ho,hc,n,hd⟩:=id ht;obtain⟨⟨OS,Nm,data2,Nn⟩,Jc,JA,n2,hd2⟩:=id hb;simp only at hc hd JA hd2;subst hc hd JA hd2;have e:vs.toArray++ws.toArray=(vs++ws).toArray:=by simp
 by_cases hw:ws=[]
 ·exact X9 ⟨_,ho,rfl⟩ ⟨_,Jc,rfl⟩ XQ YI WX WM (WG _ _)
   (tuple_addW1 t b vs.toArray ws.toArray n n2 dd Nm sl Nn (by simpa using hv) (by simp[hw])) ⟨ho,Jc,h1 hw⟩
 ·refine X9 ⟨_,ho,rfl⟩ ⟨_,Jc,rfl⟩ XQ YI WX WM (WG _ _)
   (tuple_addW2 t b vs.toArray ws.toArray n n2 dd Nm sl Nn (by simpa using hv) (by simpa using hw) (by rw[Uo,Uo];exact hsz)) ⟨ho,Jc,?_⟩
  rw[e];exact h2 hw
def sIx(n d:Nat):Option Int->Nat
 |none=>d
 |some v=>if v<0 then(v+(n:Int)).toNat else min v.toNat n
theorem qZ(n d:Nat):sIx n d none=d:=rfl
theorem ni(n d k:Nat):sIx n d (some (k:Int))=min k n:=by
 show(if(k:Int)<0 then((k:Int)+(n:Int)).toNat else min (k:Int).toNat n)=min k n;rw[UD (by lia),U2]
theorem uF(n d:Nat)(hd:d<=n)(o:Option Int):sIx n d o<=n:=by
 cases o with
 |none=>exact hd
 |some v=>
  show(if v<0 then(v+(n:Int)).toNat else min v.toNat n)<=n;by_cases hv:v<0
  ·rw[Ut hv];lia
  ·rw[UD hv];exact Nat.min_le_right _ _
theorem uG(v:Int)(n d:Nat):(if v<0 then max (v+(n:Int)) 0 else min v (n:Int))=((sIx n d (some v):Nat):Int):=by
 show(if v<0 then max (v+(n:Int)) 0 else min v (n:Int))=(((if v<0 then(v+(n:Int)).toNat else min v.toNat n):Nat):Int)
 by_cases hv:v<0
 ·simp only[Ut hv];lia
 ·simp only[UD hv];lia
theorem sU(lo hi:Option Int)(n:Nat):Builtin.Slice.sliceAdjust lo hi 1 (n:Int)=(((sIx n 0 lo:Nat):Int),((sIx n n hi:Nat):Int)):=by
 have h1:¬ ((1:Int)<0):=by lia
 unfold Builtin.Slice.sliceAdjust;simp only[h1,W4];refine Prod.ext ?_ ?_
 ·cases lo with
  |none=>rfl
  |some v=>exact uG v n 0
 ·cases hi with
  |none=>rfl
  |some v=>exact uG v n n
theorem sV(i j:Nat):Builtin.Slice.slicePlaces (i:Int) (j:Int) 1=j-i:=by
 unfold Builtin.Slice.slicePlaces;have h1:(1:Int)>0:=by lia
 simp only[h1,WN,Int.ediv_one];split <;> lia
theorem mK{v:Value}{o:Option Int}{Q:Option Int->Shared->Prop}(p:IsPart v o)(h:Q o s):wpAny (model prog w) A (Builtin.Slice.slicePartIndex v) Q E s:=by
 cases p with
 |none=>exact slicePart_none h
 |int i t=>exact slicePart_int h
theorem gI{sl:Addr}{vl vu:Value}{lo hi:Option Int}{n:Nat}{Q:Int×Int×Nat->Shared->Prop}(hs:s.heap.IsSliceOf sl vl vu .none)(pl:IsPart vl lo)(pu:IsPart vu hi)
  (h:Q (((sIx n 0 lo:Nat):Int),1,sIx n n hi-sIx n 0 lo) s):wpAny (model prog w) A (Builtin.Slice.sliceApplied (.ref sl) (pure (n:Int))) Q E s:=by
 obtain⟨os,Ny,Ry,Nz⟩:=id hs;unfold Builtin.Slice.sliceApplied Builtin.Slice.sliceFields;refine Uk (Uk (VD Ny Nz (x:=vl) rfl (Uk (VD Ny Nz (x:=vu) rfl (Uk (VD Ny Nz (x:=.none) rfl (Ul ?_)))))));refine Uk (slicePart_none ?_);show wpAny _ _ (if((1:Int)==0)=true then _ else _) _ _ s;rw[UD (by decide)];refine Uk (mK pl (Uk (mK pu (Uk (Ul ?_)))));show wpAny _ _ (match Builtin.Slice.sliceAdjust lo hi 1 (n:Int) with|(lo,hi)=>pure (lo,(1:Int),Builtin.Slice.slicePlaces lo hi 1)) _ _ s;rw[sU lo hi n];show wpAny _ _ (pure (((sIx n 0 lo:Nat):Int),(1:Int),Builtin.Slice.slicePlaces ((sIx n 0 lo:Nat):Int) ((sIx n n hi:Nat):Int) 1)) _ _ s;rw[sV];exact Ul h
theorem xa(xs:Array Value)(i k:Nat):((List.range k).filterMap fun(m:Nat)=>xs[((i:Int)+(m:Int)*1).toNat]?).toArray=((xs.toList.drop i).take k).toArray:=by
 have e:(fun(m:Nat)=>xs[((i:Int)+(m:Int)*1).toNat]?)=fun m=>xs[i+m]?:=by
  funext m
  have:((i:Int)+(m:Int)*1).toNat=i+m:=by lia
  rw[this]
 rw[e];have:=pick_run xs i k;rw[List.filterMap_map]at this;have e2:((fun x=>xs[x]?)∘fun x=>i+x)=fun m=>xs[i+m]?:=rfl
 rw[e2]at this;rw[this]
theorem jW{t sl:Addr}{items:Array Value}{vl vu:Value}{lo hi:Option Int}{Q:Value->Shared->Prop}(ht:IsTup s.heap t items)(hs:s.heap.IsSliceOf sl vl vu .none)(pl:IsPart vl lo)(pu:IsPart vu hi)
  (hw:¬ (sIx items.size 0 lo=0/\sIx items.size items.size hi=items.size))
  (h:Q (.ref s.heap.objs.size) {s with heap:=s.heap.push {cls:=.type "tuple",data:=.seq ((items.toList.drop (sIx items.size 0 lo)).take (sIx items.size items.size hi-sIx items.size 0 lo)).toArray}})
  (hsz:items.size<=sizeLine):wpAny (model prog w) A (getItem (.ref t) (.ref sl)) Q E s:=by
 have LY:sizeOk (.seq ((items.toList.drop (sIx items.size 0 lo)).take (sIx items.size items.size hi-sIx items.size 0 lo)).toArray):=by
  show((items.toList.drop (sIx items.size 0 lo)).take (sIx items.size items.size hi-sIx items.size 0 lo)).toArray.size<=sizeLine;rw[Uo,U4,Wq,VJ];lia
 have hj:sIx items.size items.size hi<=items.size:=uF _ _ (Ur _) hi;obtain⟨os,Ny,Ry,Nz⟩:=id hs;have Se:s.TypeIs (.ref sl) "slice":=⟨os,Ny,Ry⟩
 unfold getItem;try with_reducible refine VO ?_
 first|refine Uk (Ul ?_)|skip
 refine Uk (wpAny_sequenceKey ht.typeIs (by decide) ?_);refine Uk (wpAny_callSpecial?_slot (name:=Str.ofString "__getitem__") ht.typeIs VL
  (Vj VL ht.typeIs entry_tuple_getitem ?_ (args_tuple_getitem _ _)))
 show wpAny _ _ (Builtin.Tuple.tupleItemsOf (.ref t) >>= _) _ _ s;refine Uk (tupleItemsOf_ ht ?_);refine Uk (WH Se ?_);rw[Ut (by decide)];refine Uk (gI hs pl pu ?_);have Tw:¬ ((((sIx items.size 0 lo:Nat):Int)==0&&(1:Int)==1&&(sIx items.size items.size hi-sIx items.size 0 lo)==items.size)=true):=by
  intro q;rw[Uz,Uz]at q;have q1:((sIx items.size 0 lo:Nat):Int)=0:=eq_of_beq q.1.1;have q2:sIx items.size items.size hi-sIx items.size 0 lo=items.size:=eq_of_beq q.2;exact hw ⟨by lia,by lia⟩
 show wpAny _ _ (if(((sIx items.size 0 lo:Nat):Int)==0&&(1:Int)==1&&(sIx items.size items.size hi-sIx items.size 0 lo)==items.size)=true then _ else _) _ _ s;rw[UD Tw,xa];first
  |exact Uk (m:=Builtin.Tuple.tupleExact _) (Va (Ul ⟨_,rfl,Ul h⟩) LY)
  |exact Uk (m:=Builtin.Tuple.tupleExact _) (Va (Uk (Ul (Ul ⟨_,rfl,Ul h⟩))) LY)
  |exact Uk (Uk (m:=Builtin.Tuple.tupleExact _) (Va (Ul (Ul ⟨_,rfl,Ul h⟩)) LY))
  |exact Uk (Uk (m:=Builtin.Tuple.tupleExact _) (Va (Ul ⟨_,rfl,Ul h⟩) LY))
end
end HT
namespace L2
open PySem PySem.Spec PyProof.Rows
abbrev TO:=St->Hp->(Option Int->Hp->Prop)->Prop
def PO(X:Cx)(e:Option Expr)(t:TO):Prop:=
 ∀(pi:List (Addr×Obj)) (s:Shared) (σ:St) (H:Hp) (Q:Option Int->Hp->Prop),Inv X pi σ H s->t σ H Q->
  wpAny (model X.prog X.w) X.A (evalPart e X.env) (fun u s'=>∃o H',Inv X pi σ H' s'/\IsPart u o/\Q o H') X.xe s
def ze:TO:=fun _ H Q=>Q none H
def EA(t:TE):TO:=fun σ H Q=>t σ H fun x H1=>∃i,x=.int i/\Q (some i) H1
section
variable{X:Cx}{e:Expr}{te:TE}{lo hi:Option Expr}{tl th:TO}{pos p2:Pos}
theorem zf:PO X none ze:=by
 intro pi s σ H Q I h;rw[evalPart_none];exact Ul ⟨none,H,I,.none,h⟩
theorem zg(h:PE X e te):PO X (some e) (EA te):=by
 intro pi s σ H Q I hw;rw[evalPart_some];refine Hk (h pi s σ H _ I hw) fun u s1 Hm=>?_
 obtain⟨x,H1,I1,r1,q1⟩:=Hm;obtain⟨i,rfl,q⟩:=q1;obtain⟨t,rfl⟩:=r1;exact⟨some i,H1,I1,.int i t,q⟩
def OT(X:Cx)(r:V->Option Int->Option Int->Hp->VK->Prop):Prop:=
 ∀(pi:List (Addr×Obj)) (s:Shared) (σ:St) (H:Hp) (x:V) (v vl vu:Value) (lo hi:Option Int) (sl:Addr) (Q:VK),Inv X pi σ H s->RelV x v->s.heap.IsSliceOf sl vl vu .none->IsPart vl lo->IsPart vu hi->r x lo hi H Q->
  ∃T id,typeLookup (.type T) "__getitem__" = pure (some (.builtin id))/\s.TypeIs v T/\wpAny (model X.prog X.w) X.A (getItem v (.ref sl)) (EP X pi σ Q) X.xe s
def tSl(r:V->Option Int->Option Int->Hp->VK->Prop)(te:TE)(tl th:TO):TE:=fun σ H Q=>te σ H fun x H1=>tl σ H1 fun l H2=>th σ H2 fun u H3=>r x l u H3 Q
theorem xb{r:V->Option Int->Option Int->Hp->VK->Prop}(hr:OT X r)(he:PE X e te)(hl:PO X lo tl)(hu:PO X hi th):PE X (.Subscript e (.Slice lo hi none p2) pos) (tSl r te tl th):=by
 intro pi s σ H Q I h;refine Subscript_ (Hk (he pi s σ H _ I h) fun v s1 Hm=>?_);obtain⟨x,H1,I1,r1,q1⟩:=Hm;refine wpAny_Slice (Hk (hl pi s1 σ H1 _ I1 q1) fun vl s2 ⟨l,H2,I2,pl,q2⟩=>Hk (hu pi s2 σ H2 _ I2 q2) fun vu s3 Hm=>?_);obtain⟨u,H3,I3,pu,q3⟩:=Hm;rw[evalPart_none];refine Ul ?_;have I4:Inv X pi σ H3 {s3 with heap:=s3.heap.push {cls:=.type "slice",data:=.fields #[vl,vu,.none]}}:=I3.kept (t':=s3.toks) fun b ob q=>Heap.get?_push_of_some _ q
 obtain⟨T,id,hT,ht,hg⟩:=hr pi {s3 with heap:=s3.heap.push {cls:=.type "slice",data:=.fields #[vl,vu,.none]}} σ H3 x v vl vu l u s3.heap.objs.size Q I4 r1 (Heap.IsSliceOf.new ..) pl pu q3;show wpAny (model X.prog X.w) X.A (subscriptTail e (.Slice lo hi none p2) v (.ref s3.heap.objs.size)) (EP X pi σ Q) X.xe {s3 with heap:=s3.heap.push {cls:=.type "slice",data:=.fields #[vl,vu,.none]}};exact tail_any (ops:=[.ref s3.heap.objs.size,v]) ht hT hg (by with_unfolding_all rfl)
def yn(xs:List V)(lo hi:Option Int):List V:=(xs.drop (HT.sIx xs.length 0 lo)).take (HT.sIx xs.length xs.length hi-HT.sIx xs.length 0 lo)
theorem k9(xs:List V)(lo hi:Option Int):(yn xs lo hi).length<=xs.length:=by
 unfold yn;rw[U4,Wq];lia
def Gb(K:W.Frag):V->Option Int->Option Int->Hp->VK->Prop:=fun x lo hi H Q=>∃a xs,x=.ref a/\SqT K H a xs/\
 ¬ (HT.sIx xs.length 0 lo=0/\HT.sIx xs.length xs.length hi=xs.length)/\∀p,H p=none->Q (.ref p) (upd H p (.tup (yn xs lo hi)))
theorem B4:OT X (Gb X.K):=by
 intro pi s σ H x v vl vu lo hi sl Q I rx hs pl pu h;obtain⟨a,xs,rfl,hx,hw,q⟩:=h;cases rx;obtain⟨GU,r,ht,hz⟩:=I.tuple hx;have hlen:GU.toArray.size=xs.length:=by rw[Uo];exact r.length.symm
 refine⟨"tuple",_,PyProof.Rows.slot_tuple_getitem.lookup,ht.typeIs,?_⟩;refine HT.jW ht hs pl pu (by rw[hlen];exact hw) ?_ (by rw[hlen];exact hz);rw[hlen];refine⟨.ref s.heap.objs.size,_,I.laid (t':=s.toks) (o:=.tup (yn xs lo hi)) (fun b ob q=>Heap.get?_push_of_some _ q) (Ur _) ?_,rfl,q _ (I.hok.fresh (Ur _))⟩;exact⟨Vh (k9 xs lo hi) hz,_,(r.drop (HT.sIx xs.length 0 lo)).take (HT.sIx xs.length xs.length hi-HT.sIx xs.length 0 lo),IsTupN.new _ _⟩
def EB(K:W.Frag):R2:=fun x y H Q=>∃a b xs ys,x=.ref a/\y=.ref b/\SqT K H a xs/\SqT K H b ys/\xs≠[]/\xs.length+ys.length<=sizeLine/\
 (ys=[]->Q (.ref a) H)/\(ys≠[]->∀p,H p=none->Q (.ref p) (upd H p (.tup (xs++ys))))
theorem Vals.nil_iff{xs:List V}{us:List Value}(r:Vals xs us):us=[]<->xs=[]:=by
 cases r with
 |nil=>simp
 |cons _ _=>simp
theorem zh:HS X (binaryOp .Add) (EB X.K):=by
 intro pi s σ H x y v u Q I rx ry h;obtain⟨a,b,xs,ys,rfl,rfl,ha,hb,hx,hz,q1,q2⟩:=h;cases rx;cases ry;obtain⟨GU,r1,p1,_⟩:=I.tuple ha;obtain⟨Mh,r2,p2,_⟩:=I.tuple hb;refine HT.zc p1 p2 (fun z=>hx (r1.nil_iff.mp z)) (fun z=>⟨.ref a,H,I,rfl,q1 (r2.nil_iff.mp z)⟩) (fun z=>?_) (by rw[<-r1.length,<-r2.length];exact hz);refine⟨.ref s.heap.objs.size,_,I.laid (t':=s.toks) (o:=.tup (xs++ys)) (fun b ob q=>Heap.get?_push_of_some _ q) (Ur _) ?_,rfl,q2 (fun w=>z (r2.nil_iff.mpr w)) _ (I.hok.fresh (Ur _))⟩;exact⟨by rw[Vb];exact hz,_,r1.append r2,IsTupN.new _ _⟩
end
def ixN(n:Nat)(i:Int):Option Nat:=if 0<=i then(if i<n then some i.toNat else none) else if -(n:Int)<=i then some (i+n).toNat else none
def Ik{α:Type}(xs:List α)(i:Int):Option α:=(ixN xs.length i).bind fun j=>xs[j]?
theorem uH{n:Nat}{i:Int}{j:Nat}(h:ixN n i=some j):seqIndex? i n=some j/\j<n/\-(n:Int)<=i/\i<n:=by
 unfold ixN at h;by_cases h0:0<=i
 ·rw[Ut h0]at h;by_cases h1:i<n
  ·rw[Ut h1]at h;have e:i.toNat=j:=UU h;exact⟨by rw[Yw h0 h1,e],by lia,by lia,h1⟩
  ·rw[UD h1]at h;cases h
 ·rw[UD h0]at h;by_cases h1:-(n:Int)<=i
  ·rw[Ut h1]at h;have e:(i+n).toNat=j:=UU h;exact⟨by rw[seqIndex_neg (by lia) h1,e],by lia,h1,by lia⟩
  ·rw[UD h1]at h;cases h
theorem nj{α:Type}{xs:List α}{i:Int}{v:α}(h:Ik xs i=some v):∃j,seqIndex? i xs.length=some j/\xs[j]?=some v/\j<xs.length/\-(xs.length:Int)<=i/\i<xs.length:=by
 unfold Ik at h;cases e:ixN xs.length i with
 |none=>rw[e]at h;cases h
 |some j=>
  rw[e]at h;obtain⟨h1,h2,h3,h4⟩:=uH e;exact⟨j,h1,h,h2,h3,h4⟩
theorem e9{α:Type}{xs:List α}{j:Nat}{v:α}(h:xs[j]?=some v):Ik xs (j:Int)=some v:=by
 have hj:j<xs.length:=(List.getElem?_eq_some_iff.mp h).1;have e:ixN xs.length (j:Int)=some j:=by
  unfold ixN;rw[Ut (by lia),Ut (by lia)];simp
 unfold Ik;rw[e];exact h
def uI(b:Expr):Prop:=∀o i,subscripted b false o i=operate [o,i] (getItem o i)
def Ql(X:Cx)(r:R2):Prop:=
 ∀(value slice:Expr) (pi:List (Addr×Obj)) (s:Shared) (σ:St) (H:Hp) (x y:V) (v u:Value) (Q:VK),Inv X pi σ H s->RelV x v->RelV y u->r x y H Q->
  subscripted slice false v u=operate [v,u] (getItem v u)->wpAny (model X.prog X.w) X.A (subscriptTail value slice v u) (EP X pi σ Q) X.xe s
def NA(X:Cx)(id:String)(r:V->List V->Hp->VK->Prop):Prop:=
 ∀(pi:List (Addr×Obj)) (s:Shared) (σ:St) (H:Hp) (x:V) (xs:List V) (v:Value) (us:List Value) (Q:VK),Inv X pi σ H s->RelV x v->Vals xs us->r x xs H Q->
  wpAny (model X.prog X.w) X.A (call (.builtin id) (v::us)) (EP X pi σ Q) X.xe s
section
variable{X:Cx}{a b:Expr}{ta tb:TE}{pos:Pos}
theorem EC{r:R2}(hr:Ql X r)(ha:PE X a ta)(hb:PE X b tb)(hs:uI b):PE X (.Subscript a b pos) (PZ r ta tb):=by
 intro pi s σ H Q I h;exact Subscript_ (Ew ha hb I h fun v u s2 x y H2 I2 rx ry q=>hr a b pi s2 σ H2 x y v u Q I2 rx ry q (hs _ _))
def Gd(K:W.Frag):R2:=fun x y H Q=>∃p xs i v,x=.ref p/\y=.int i/\SqL K H p xs/\Ik xs i=some v/\Q v H
def Ge(K:W.Frag):R2:=fun x y H Q=>∃p xs i v,x=.ref p/\y=.int i/\SqT K H p xs/\Ik xs i=some v/\Q v H
def Gf:R2:=fun x y H Q=>∃z i c,x=.str z/\y=.int i/\z.length<=sizeLine/\Ik z.cps.toList i=some c/\Q (.str ⟨#[c]⟩) H
theorem zi:Ql X (Gd X.K):=by
 intro value slice pi s σ H x y v u Q I rx ry h hs;obtain⟨p,xs,i,z,rfl,rfl,hq,he,q⟩:=h;cases rx;obtain⟨t,rfl⟩:=ry;obtain⟨GU,r,pl,hz⟩:=I.list hq;obtain⟨j,h1,h2,h3,h4,h5⟩:=nj he;obtain⟨w,ew,KU⟩:=r.get h2;have hl:=r.length;have hn:=k8;have fin:EP X pi σ Q w s:=⟨z,H,I,KU,q⟩
 by_cases h0:0<=i
 ·have hj:i.toNat=j:=by
   rw[Yw h0 h5]at h1;exact UU h1
  exact item_listR pl.isList h0 (by lia) (by rw[hj];simpa using ew) fin hs
 ·have hj:(i+(GU.toArray.size:Int)).toNat=j:=by
   rw[seqIndex_neg (by lia) h4]at h1;rw[Uo,<-hl];exact UU h1
  exact subscriptTail_builtinR (x:=w) pl.isList.typeIs slot_list_getitem.lookup
   (wpAny_getItem_list_neg (Q:=fun r s'=>r=w/\EP X pi σ Q r s') pl.isList (by lia) (by rw[Uo] <;> lia) (by lia) (by rw[hj];simpa using ew) ⟨rfl,fin⟩) hs
theorem B5:Ql X (Ge X.K):=by
 intro value slice pi s σ H x y v u Q I rx ry h hs;obtain⟨p,xs,i,z,rfl,rfl,hq,he,q⟩:=h;cases rx;obtain⟨t,rfl⟩:=ry;obtain⟨GU,r,pl,hz⟩:=I.tuple hq;obtain⟨j,h1,h2,h3,h4,h5⟩:=nj he;obtain⟨w,ew,KU⟩:=r.get h2;have hl:=r.length;have hn:=k8;have fin:EP X pi σ Q w s:=⟨z,H,I,KU,q⟩
 exact subscriptTail_builtinR (x:=w) pl.typeIs slot_tuple_getitem.lookup
  (getItem_tuple (j:=j) (Q:=fun r s'=>r=w/\EP X pi σ Q r s') pl (by lia) (by lia) (by rw[Uo,<-hl];exact h1) (by simpa using ew) ⟨rfl,fin⟩) hs
theorem B6:Ql X Gf:=by
 intro value slice pi s σ H x y v u Q I rx ry h hs;obtain⟨z,i,c,rfl,rfl,hz,he,q⟩:=h;obtain⟨t,rfl⟩:=rx;obtain⟨t',rfl⟩:=ry;obtain⟨j,h1,h2,h3,h4,h5⟩:=nj he;have hl:z.cps.toList.length=z.length:=by simp[Str.length]
 rw[hl]at h1 h4 h5;have hn:=k8;exact tail_any (Yn s z t) slot_str_getitem.lookup (getItem_str (c:=c) (by
  have e1:decide (i < -(2 ^ 63:Int))=false:=UO (by lia);have e2:decide (i>=2 ^ 63)=false:=UO (by lia);rw[e1,e2,Bool.or_false]) (by rw[h1];simpa using h2) ⟨.str ⟨#[c]⟩,H,I.tok _,⟨_,rfl⟩,q⟩) hs
theorem sW(GU:List Value)(n j:Nat)(u:Value):Obj.mapSeq (·.setIfInBounds j u) {cls:=.type "list",data:=.seq GU.toArray n}={cls:=.type "list",data:=.seq (GU.set j u).toArray n}:=by
 simp[Obj.mapSeq]
theorem Inv.lst{pi:List (Addr×Obj)}{σ:St}{H:Hp}{s:Shared}{p:Addr}{xs:List V}(I:Inv X pi σ H s)(h:H p=some (.lst xs)):
  ∃(GU:List Value) (n:Nat),Vals xs GU/\s.heap.get? p=some {cls:=.type "list",data:=.seq GU.toArray n}/\xs.length<=sizeLine:=by
 obtain⟨z,GU,n,r,e⟩:=I.hok p _ h;exact⟨GU,n,r,e,z⟩
theorem Inv.lstUpd{pi:List (Addr×Obj)}{σ:St}{H:Hp}{s:Shared}{p:Addr}{xs ys:List V}{GU its':List Value}{n n':Nat}{f:Obj->Obj}(I:Inv X pi σ H s)(h:H p=some (.lst xs))
  (ho:s.heap.get? p=some {cls:=.type "list",data:=.seq GU.toArray n}) (hf:f {cls:=.type "list",data:=.seq GU.toArray n}={cls:=.type "list",data:=.seq its'.toArray n'}) (r:Vals ys its') (hz:ys.length<=sizeLine) (t:Nat):
  Inv X pi σ (upd H p (.lst ys)) {s with heap:=s.heap.update p f,toks:=t}:=by
 have e:(s.heap.update p f).get? p=some {cls:=.type "list",data:=.seq its'.toArray n'}:=by
  rw[Heap.get?_update_self f ho (by rw[hf] <;> rfl),hf]
 refine I.write (x:=p) (e:=p) (by rw[h];trivial) (.inl rfl) (fun b u hb q=>(Heap.get?_update_other _ _ (VB hb)).trans q) ⟨_,e⟩ ?_;exact⟨hz,its',n',r,e⟩
def B7:V->V->V->Hp->(Hp->Prop)->Prop:=fun o i v H Q=>∃p xs k j,o=.ref p/\i=.int k/\H p=some (.lst xs)/\ixN xs.length k=some j/\Q (upd H p (.lst (xs.set j v)))
theorem q0:FC X B7:=by
 intro pi s σ H o i v ov iv u Q I ro ri rv h;obtain⟨p,xs,k,j,rfl,rfl,hp,hj,q⟩:=h;cases ro;obtain⟨t,rfl⟩:=ri;obtain⟨GU,n,r,ho,hz⟩:=I.lst hp;obtain⟨h1,h2,h3,h4⟩:=uH hj;have hl:=r.length;have hn:=k8;have I':Inv X pi σ (upd H p (.lst (xs.set j v))) {s with heap:=s.heap.update p (Obj.mapSeq (·.setIfInBounds j u))}:=
  I.lstUpd hp ho (sW GU n j u) (r.set rv j) (by rw[VQ];exact hz) s.toks
 by_cases h0:0<=k
 ·have hk:k.toNat=j:=by
   rw[Yw h0 h4]at h1;exact UU h1
  exact PySem.W.ki_setAt ho h0 (by lia) (by rw[Uo,<-hl];exact h4) (by rw[hk];exact⟨_,I',q⟩)
 ·have hk:(k+(GU.toArray.size:Int)).toNat=j:=by
   rw[seqIndex_neg (by lia) h3]at h1;rw[Uo,<-hl];exact UU h1
  exact PySem.W.ki_setBack ho (by lia) (by rw[Uo,<-hl];exact h3) (by lia) (by rw[hk];exact⟨_,I',q⟩)
theorem oU(lo hi:Option Int)(n:Nat):(sliceBounds lo hi none n).1=((HT.sIx n 0 lo:Nat):Int)/\(sliceBounds lo hi none n).2.1=((HT.sIx n n hi:Nat):Int)/\(sliceBounds lo hi none n).2.2=1:=by
 refine⟨?_,?_,rfl⟩
 ·cases lo with
  |none=>simp[sliceBounds,HT.sIx]
  |some i=>
   simp only[sliceBounds,HT.sIx,XR,show(1:Int)>0 by decide,WN];by_cases h:i<0
   ·simp only[h,WN] <;> lia
   ·simp only[h,W4] <;> lia
 ·cases hi with
  |none=>simp[sliceBounds,HT.sIx]
  |some i=>
   simp only[sliceBounds,HT.sIx,XR,show(1:Int)>0 by decide,WN];by_cases h:i<0
   ·simp only[h,WN] <;> lia
   ·simp only[h,W4] <;> lia
theorem nq(GU:List Value)(lo hi:Option Int):slicePick GU.toArray lo hi none=((GU.drop (HT.sIx GU.length 0 lo)).take (HT.sIx GU.length GU.length hi-HT.sIx GU.length 0 lo)).toArray:=by
 obtain⟨h1,h2,h3⟩:=oU lo hi GU.toArray.size;unfold slicePick;rw[h1,h2,h3];simp only[sliceRange_one,pick_run,Uo] <;> rfl
def Gg(K:W.Frag):V->Option Int->Option Int->Hp->VK->Prop:=fun x lo hi H Q=>∃a xs,x=.ref a/\SqL K H a xs/\∀p,H p=none->Q (.ref p) (upd H p (.lst (yn xs lo hi)))
theorem zj:OT X (Gg X.K):=by
 intro pi s σ H x v vl vu lo hi sl Q I rx hs pl pu h;obtain⟨a,xs,rfl,hx,q⟩:=h;cases rx;obtain⟨GU,r,ht,hz⟩:=I.list hx;have hlen:=r.length;refine⟨"list",_,slot_list_getitem.lookup,ht.isList.typeIs,?_⟩;refine Xw ht.isList hs pl pu .none (by simp) ?_ (by rw[Uo] <;> lia);rw[nq,<-hlen];refine⟨.ref s.heap.objs.size,_,I.laid (t':=s.toks) (o:=.lst (yn xs lo hi)) (fun b ob q=>Heap.get?_push_of_some _ q) (Ur _) ?_,rfl,q _ (I.hok.fresh (Ur _))⟩;exact⟨Vh (k9 xs lo hi) hz,_,0,(r.drop (HT.sIx xs.length 0 lo)).take (HT.sIx xs.length xs.length hi-HT.sIx xs.length 0 lo),Heap.get?_push_size _ rfl⟩
def xc:V->Bool
 | .non=>true
 | .bl _=>true
 | .int _=>true
 | .str _=>true
 |_=>false
def Sf:V->V->Bool
 | .non,.non=>true
 | .bl a,.bl b=>a==b
 | .bl a,.int b=>(if a then 1 else 0)==b
 | .int a,.bl b=>a==(if b then 1 else 0)
 | .int a,.int b=>a==b
 | .str a,.str b=>a==b
 |_,_=>false
theorem yo{A:Around}{s:Shared}{y x:V}{u v:Value}(ry:RelV y u)(rx:RelV x v)(fy:xc y=true)(fx:xc x=true):SeqAt.EqAt A s u v (Sf y x):=by
 cases y with
 |non=>
  cases ry;cases x with
  |non=>cases rx;exact SeqAt.EqAt.same _
  |bl b=>cases rx;exact SeqAt.EqAt.none_bool b
  |int b=>obtain⟨t,rfl⟩:=rx;exact SeqAt.EqAt.none_int b t
  |str b=>obtain⟨t,rfl⟩:=rx;exact SeqAt.EqAt.none_str b t
  |_=>exact absurd (show false=true from fx) Up
 |bl a=>
  cases ry;cases x with
  |non=>cases rx;exact SeqAt.EqAt.bool_none a
  |bl b=>cases rx;exact SeqAt.EqAt.bool_bool a b
  |int b=>obtain⟨t,rfl⟩:=rx;exact SeqAt.EqAt.bool_int a b t
  |str b=>obtain⟨t,rfl⟩:=rx;exact SeqAt.EqAt.bool_str a b t
  |_=>exact absurd (show false=true from fx) Up
 |int a=>
  obtain⟨t',rfl⟩:=ry;cases x with
  |non=>cases rx;exact SeqAt.EqAt.int_none a t'
  |bl b=>cases rx;exact SeqAt.EqAt.int_bool a t' b
  |int b=>obtain⟨t,rfl⟩:=rx;exact SeqAt.EqAt.int_int a t' b t
  |str b=>obtain⟨t,rfl⟩:=rx;exact SeqAt.EqAt.int_str a t' b t
  |_=>exact absurd (show false=true from fx) Up
 |str a=>
  obtain⟨t',rfl⟩:=ry;cases x with
  |non=>cases rx;exact SeqAt.EqAt.str_none a t'
  |bl b=>cases rx;exact SeqAt.EqAt.str_bool a t' b
  |int b=>obtain⟨t,rfl⟩:=rx;exact SeqAt.EqAt.str_int a t' b t
  |str b=>obtain⟨t,rfl⟩:=rx;exact SeqAt.EqAt.str_str a t' b t
  |_=>exact absurd (show false=true from fx) Up
 |_=>exact absurd (show false=true from fy) Up
theorem ki:cX X (.builtin "len") (fun xs H Q=>∃p ys,xs=[.ref p]/\(SqL X.K H p ys\/SqT X.K H p ys)/\Q (.int ys.length) H):=by
 intro pi s σ H xs us Q I r h;obtain⟨p,ys,rfl,hq,q⟩:=h;obtain⟨u,rfl,rx⟩:=eF r;cases rx;have hn:=k8;rcases hq with hq|hq
 ·obtain⟨GU,r',pl,hz⟩:=I.list hq;have hlen:=r'.length;exact Calls.call_len_list pl.isList (by simp only[Uo] <;> lia) ⟨.int ys.length,H,I.tok _,⟨s.toks+1,by rw[Uo,hlen]⟩,q⟩
 ·obtain⟨GU,r',pl,hz⟩:=I.tuple hq;have hlen:=r'.length;exact len_tuple pl (by simp only[Uo] <;> lia) ⟨.int ys.length,H,I.tok _,⟨s.toks+1,by rw[Uo,hlen]⟩,q⟩
theorem oV:cX X (.builtin "len") (fun xs H Q=>∃z,xs=[.str z]/\z.length<=sizeLine/\Q (.int z.length) H):=by
 intro pi s σ H xs us Q I r h;obtain⟨z,rfl,hz,q⟩:=h;obtain⟨u,rfl,t,rfl⟩:=eF r;have hn:=k8;exact len_str (by lia) ⟨.int z.length,H,I.tok _,⟨_,rfl⟩,q⟩
theorem kj:cX X (.type "list") (fun xs H Q=>∃p ys,xs=[.ref p]/\(SqL X.K H p ys\/SqT X.K H p ys)/\∀l,H l=none->Q (.ref l) (upd H l (.lst ys))):=by
 intro pi s σ H xs us Q I r h;obtain⟨p,ys,rfl,hq,q⟩:=h;obtain⟨u,rfl,rx⟩:=eF r;cases rx;have fin:∀(GU:List Value),Vals ys GU->ys.length<=sizeLine->∀(h':Heap) (c':Nat),(∀b o',s.heap.get? b=some o'->h'.get? b=some o')->
   h'.get? s.heap.objs.size=some {cls:=.type "list",dict:=none,data:=.seq GU.toArray c',slots:=#[]}->EP X pi σ Q (.ref s.heap.objs.size) {s with heap:=h'}:=fun GU r' hz h' c' kp e=>
  ⟨.ref s.heap.objs.size,_,I.laid (t':=s.toks) kp (Ur _) (show ObjOk X.prog X.w _ h' _ (.lst ys) from⟨hz,GU,c',r',e⟩),rfl,q _ (I.hok.fresh (Ur _))⟩
 rcases hq with hq|hq
 ·obtain⟨GU,r',pl,hz⟩:=I.list hq;have hlen:=r'.length;obtain⟨o,ho,hc,n,hd⟩:=pl.isList;exact call_list_seq p (.inl rfl) ho hc hd (fun h' c' kp e=>fin GU r' hz h' c' kp e) (by simp only[Uo] <;> lia)
 ·obtain⟨GU,r',pl,hz⟩:=I.tuple hq;have hlen:=r'.length;obtain⟨o,ho,hc,n,hd⟩:=pl;exact call_list_seq p (.inr rfl) ho hc hd (fun h' c' kp e=>fin GU r' hz h' c' kp e) (by simp only[Uo] <;> lia)
theorem jo:cX X (.type "tuple") (fun xs H Q=>∃p ys,xs=[.ref p]/\((SqL X.K H p ys/\∀l,H l=none->Q (.ref l) (upd H l (.tup ys)))\/(SqT X.K H p ys/\Q (.ref p) H))):=by
 intro pi s σ H xs us Q I r h;obtain⟨p,ys,rfl,h⟩:=h;obtain⟨u,rfl,rx⟩:=eF r;cases rx;rcases h with⟨hq,q⟩|⟨hq,q⟩
 ·obtain⟨GU,r',pl,hz⟩:=I.list hq;have hlen:=r'.length;refine call_tuple_list pl.isList (fun h' kp=>?_) (by simp only[Uo] <;> lia);have I1:Inv X pi σ H {s with heap:=h'}:=I.kept (t':=s.toks) kp;have I2:Inv X pi σ (upd H h'.objs.size (.tup ys)) {s with heap:=h'.push {cls:=.type "tuple",data:=.seq GU.toArray}}:=
   I1.laid (t':=s.toks) (fun b o e=>Heap.get?_push_of_some _ e) (Ur _) (show ObjOk X.prog X.w _ _ _ (.tup ys) from⟨hz,GU,r',IsTupN.new _ _⟩)
  exact⟨.ref h'.objs.size,_,I2,rfl,q _ (I1.hok.fresh (Ur _))⟩
 ·obtain⟨GU,r',pl,hz⟩:=I.tuple hq;exact call_tuple_same pl ⟨.ref p,H,I,rfl,q⟩
def Sg(K:W.Frag)(T:String)(x:V)(H:Hp):Prop:=match x with
 | .str _=>T = "str"
 | .int _=>T = "int"
 | .ref p=>(T = "list"/\∃xs,SqL K H p xs)\/(T = "tuple"/\∃o,K.lookup p=some o/\o.cls=.type "tuple"/\o.dict=none)\/
   (T = "dict"/\((∃GV,H p=some (.dK GV))\/∃GV,H p=some (.dT GV)))\/(T = "set"/\∃S n,H p=some (.set S n))
 |_=>False
theorem B8{pi:List (Addr×Obj)}{σ:St}{H:Hp}{s:Shared}{T:String}{x:V}{v:Value}(I:Inv X pi σ H s)(r:RelV x v)(ty:Sg X.K T x H):
  s.TypeIs v T/\∀a,v=.ref a->∃ob,s.heap.get? a=some ob/\ob.dict=none:=by
 cases x with
 |str z=>
  obtain⟨t,rfl⟩:=r;cases(show T = "str" from ty);exact⟨Yn s z t,fun _ e=>nomatch e⟩
 |int i=>
  obtain⟨t,rfl⟩:=r;cases(show T = "int" from ty);exact⟨Yo s i t,fun _ e=>nomatch e⟩
 |ref p=>
  cases r;rcases ty with⟨rfl,xs,hq⟩|⟨rfl,o,hk,hc,hd⟩|⟨rfl,hk⟩|⟨rfl,S,n,hk⟩
  ·obtain⟨GU,_,pl,_⟩:=I.list hq;refine⟨pl.isList.typeIs,fun a e=>?_⟩;cases e;obtain⟨o,n,e,c,hd,_⟩:=pl;exact⟨o,e,hd⟩
  ·refine⟨⟨o,I.kIn p o hk,hc⟩,fun a e=>?_⟩;cases e;exact⟨o,I.kIn _ o hk,hd⟩
  ·have z:∃o,s.heap.get? p=some o/\o.ExactDict:=by
    rcases hk with⟨GV,hk⟩|⟨GV,hk⟩
    ·obtain⟨_,_,_,_,o,_,_,e,ex,_⟩:=I.hok p _ hk;exact⟨o,e,ex⟩
    ·obtain⟨_,_,_,_,o,_,_,e,ex,_⟩:=I.hok p _ hk;exact⟨o,e,ex⟩
   obtain⟨o,e,ex⟩:=z;refine⟨⟨o,e,ex.1⟩,fun a e2=>?_⟩;cases e2;exact⟨o,e,ex.2.1⟩
  ·obtain⟨o,_,_,_,e,ex,_⟩:=I.hok p _ hk;refine⟨⟨o,e,ex.1⟩,fun a e2=>?_⟩;cases e2;exact⟨o,e,ex.2.1⟩
 |_=>exact False.elim ty
def tBM(K:W.Frag)(T:String)(r:V->List V->Hp->VK->Prop)(to:TE)(t:TA):TE:=fun σ H Q=>to σ H fun x H1=>Sg K T x H1/\t σ H1 fun xs H2=>r x xs H2 Q
variable{o e:Expr}{es:List Expr}{to:TE}{t:TA}{name:Str}{apos Hj:Pos}{T id:String}{r:V->List V->Hp->VK->Prop}
theorem zk(pa:PlainAttrs T)(slot:Slot T name id)(MF:typeOf (.builtin id)=pure (.type "method_descriptor"))(hm:NA X id r)(ho:PE X o to)(ha:PA X (e::es) t)
  (Iu:attributeBase o name X.env (eval o X.env)=eval o X.env:=by rfl)
  (JT:((backTo Hj (starEach (e::es) X.env)).all (fun x=>!x.1)&&(backToKw Hj (keywordEach [] X.env)).all (fun x=>x.1.isSome)
   && decide ((e::es).length+([]:List Keyword).length+(if([]:List Keyword).isEmpty then 0 else 1)<30))=true:=by rfl)
  (Iv:(apos.endLine==Hj.line)=true:=by rfl) (hs:starEach (e::es) X.env=(false,eval e X.env)::starEach es X.env:=by rfl) (HQ:(backTo Hj (starEach es X.env)).any (·.1)=false:=by rfl):
  PE X (.Call (.Attribute o name apos) (e::es) [] Hj) (tBM X.K T r to t):=by
 intro pi s σ H Q I h;refine wpAny_Call_method_late Iu JT Iv rfl (Hk (ho pi s σ H _ I h) fun v s1 Hm=>?_);obtain⟨x,H1,I1,r1,ty,q1⟩:=Hm;obtain⟨h1,h2⟩:=B8 I1 r1 ty;refine⟨T,id,pa,slot,MF,h1,h2,?_⟩;have hA:=ha Hj pi s1 σ H1 _ I1 q1;rw[hs]at hA ⊢;refine Calls.callWith_builtin (by show(false||(backTo Hj (starEach es X.env)).any (·.1))=false;rw[HQ] <;> rfl) (W8 ?_);exact Hk hA fun us s2 ⟨vs,H2,I2,r2,q2⟩=>hm pi s2 σ H2 x vs v us Q I2 r1 r2 q2
end
def MtM(X:Cx)(id:String)(r:V->List V->Hp->VK->Prop):Prop:=
 ∀(pi:List (Addr×Obj)) (s:Shared) (σ:St) (H:Hp) (x:V) (xs:List V) (v:Value) (us:List Value) (Q:VK),Inv X pi σ H s->RelV x v->Vals xs us->r x xs H Q->
  wpAny (model X.prog X.w) X.A (call (.builtin id) (v::us)) (EP X pi σ Q) X.xe s
theorem Vals.one:∀{x:V}{us:List Value},Vals [x] us->∃u,us=[u]/\RelV x u
 |_,_,.cons r .nil=>⟨_,rfl,r⟩
theorem Vals.rep{xs:List V}{us:List Value}(h:Vals xs us):∀k:Nat,Vals (List.replicate k xs).flatten (List.replicate k us).flatten
 | 0=>.nil
 |k+1=>by
  rw[VM,VM,VZ,VZ];exact Vals.append h (Vals.rep h k)
theorem oW(GU:List Value):∀(k:Nat) (acc:List Value),
  List.foldl (fun x1 x2=>x1++x2) acc.toArray (List.replicate k GU.toArray)=(acc++(List.replicate k GU).flatten).toArray
 | 0,acc=>by simp
 |k+1,acc=>by
  have e:acc.toArray++GU.toArray=(acc++GU).toArray:=by simp
  have e2:(acc++GU)++(List.replicate k GU).flatten=acc++(List.replicate (k+1) GU).flatten:=by
   rw[VM,VZ,Vo]
  rw[<-e2,<-oW GU k (acc++GU),<-e,VM,Wv]
section
variable{X:Cx}{pi:List (Addr×Obj)}{σ:St}{H:Hp}{s:Shared}{l b:Addr}{xs ys zs:List V}
theorem Inv.lset{GU its':List Value}{n:Nat}{f:Array Value->Array Value}{t':Nat}(I:Inv X pi σ H s)(hH:H l=some (.lst xs))
  (e:s.heap.get? l=some {cls:=.type "list",data:=.seq GU.toArray n}) (hf:f GU.toArray=its'.toArray) (hv:Vals ys its') (hz:ys.length<=sizeLine):
  Inv X pi σ (upd H l (.lst ys)) {s with heap:=s.heap.update l (Obj.mapSeq f),toks:=t'}:=by
 have q:=PySem.IsL.update e f;rw[hf]at q;refine I.write (x:=l) (e:=l) (by rw[hH];exact trivial) (.inl rfl) (fun b' u hb hu=>(Heap.get?_update_other s.heap (Obj.mapSeq f) (VB hb)).trans hu) ⟨_,q⟩ ?_;exact⟨hz,its',_,hv,q⟩
theorem Inv.lnew{GU:List Value}{t':Nat}(I:Inv X pi σ H s)(hv:Vals ys GU)(hz:ys.length<=sizeLine):
  Inv X pi σ (upd H s.heap.objs.size (.lst ys)) {s with heap:=s.heap.push {cls:=.type "list",data:=.seq GU.toArray},toks:=t'}:=
 I.laid (fun _ _ q=>Heap.get?_push_of_some _ q) (Ur _) ⟨hz,GU,0,hv,Heap.get?_push_size _ rfl⟩
theorem Inv.fresh(I:Inv X pi σ H s):H s.heap.objs.size=none:=I.hok.fresh (Ur _)
theorem Inv.lstM(I:Inv X pi σ H s)(hH:H l=some (.lst xs)):xs.length<=sizeLine/\∃(GU:List Value) (n:Nat),Vals xs GU/\xs.length=GU.length/\s.heap.get? l=some {cls:=.type "list",data:=.seq GU.toArray n}:=by
 obtain⟨z,GU,n,r,e⟩:=I.hok l _ hH;exact⟨z,GU,n,r,r.length,e⟩
theorem xf{n:Nat}(h:n<=sizeLine):Builtin.List.listTooLong n=false:=by
 unfold Builtin.List.listTooLong;exact UO (by lia)
end
section
variable{X:Cx}
def zl:V->List V->Hp->VK->Prop:=fun x vs H Q=>∃l xs y,x=.ref l/\vs=[y]/\H l=some (.lst xs)/\xs.length<sizeLine/\Q .non (upd H l (.lst (xs++[y])))
theorem oX:MtM X "list.append" zl:=by
 intro pi s σ H x vs v us Q I rx rv h;obtain⟨l,xs,y,rfl,rfl,hH,hz,q⟩:=h;cases rx;obtain⟨u,rfl,ru⟩:=rv.one;obtain⟨z,GU,n,r,hl,e⟩:=I.lstM hH;refine call_meets F.slot_list_append ⟨_,e,rfl⟩ F.entry_list_append (F.args_list_append_2 _ _) (PySem.list_append l GU.toArray n u (by rw[Uo];lia)) ⟨e,?_⟩;refine⟨.non,_,I.lset (its':=GU++[u]) hH e (by simp) (r.append (.cons ru .nil)) ?_,rfl,q⟩;rw[Vb,UG];lia
theorem nr{α:Type}(xs:List α)(k:Nat):(List.replicate k xs).flatten.length=k*xs.length:=by
 induction k with
 |zero=>simp
 |succ k ih=>rw[VM,VZ,Vb,ih,Nat.succ_mul,Nat.add_comm]
end
section
variable{prog:Program}{w:World}{A:Around}{E:Value->Shared->Prop}{s:Shared}
end
section
variable{X:Cx}
end
end L2
namespace Att
open PySem PySem.W PySem.Calls PyProof.Rows
theorem lb{P:Params}{h:Heap}:∀(ns:List Int) (vs:List Value),WellAll P h vs (ns.map WData.int)->IntsAre vs ns:=by
 intro ns;induction ns with
 |nil=>
  intro vs w;rw[U1]at w;cases w;exact .nil
 |cons n ns ih=>
  intro vs w;rw[UH]at w;cases w with
  |cons a b=>
   cases a;exact .cons _ _ (ih _ b)
theorem uJ{l:OpenLaw}{n:Nat}(hn:l.most=some n){P:Params}{h:Heap}{args:List WData}{vals:List Value}
  (NB:l.row.toRowW.claim.pre args=true) (P1:WellAll P h vals args):
  ∃a vs ns,vals=[Value.ref a]/\args=[WData.list (ns.map WData.int)]/\h.get? a=some {cls:=.type "list",data:=.seq vs.toArray}/\IntsAre vs ns/\ns.length<=n:=by
 have hsh:WShape.hasAll [] args [.list .int]=true:=(pre_splitW NB).1;have hc:l.pre.holds [] {args:=args}=true:=(pre_splitW NB).2;obtain⟨d,r,rfl,h1,h2⟩:=hasAllW_cons hsh;obtain rfl:=hasAllW_nil h2;obtain⟨xs,rfl,h3⟩:=hasW_list h1;obtain⟨ns,rfl⟩:=items_int h3;have hlen:ns.length<=n:=by
  unfold OpenLaw.pre at hc;have h4:(WTm.not (.lt (.lit (.int (n:Int))) (.len (.arg 0)))).holds [] {args:=[.list (ns.map .int)]}=true:=by
   have h4:=(holds_andW hc).1;rw[hn]at h4;exact h4
  have h5:=condW_of h4 (w_not (w_lt w_lit (w_len_list (w_arg rfl))));rw[Um]at h5;refine Nat.le_of_not_lt fun q=>?_
  have q':(n:Int)<((ns.length:Nat):Int):=by lia
  first
   |(rw[UW q']at h5;exact absurd h5 (by decide))
   |(simp at h5;lia)
 cases P1 with
 |cons w1 w2=>
  cases w2;cases w1 with
  |list ho Jd=>exact⟨_,_,ns,rfl,rfl,ho,lb ns _ Jd,hlen⟩
theorem uK(l:OpenLaw)(args:List WData):l.row.toRowW.claim.post args (.bool true) args=true:=
 postW_of (r:=l.row.toRowW) (X:=(true==true))
  (show WShape.has [] (.bool true) .bool=true by first|rfl|decide|simp[WShape.has,WShape.arms,WShape.armsAll])
  (show(WTm.eq .res (.lit (.bool true))).value [] {args:=args,res:=some (.bool true),after:=args}=some (.bool (true==true)) from w_eq_bool (w_res rfl) w_lit) rfl
theorem attach_call{l:OpenLaw}{n:Nat}{q:Program}{loose:List Str}{XP:(Str->Option Value)->Heap->Prop}{YP:World->Heap->Prop}{d:DefRec}
  (hn:l.most=some n) (Qm:d.params.defaults=[])
  (call:∀(w:World) (s₀ s₁:Shared) (mg mb:Str->Option Value) (fa:Addr) (o:Obj) (pm cd doc:Value) (a:Addr) (vs:List Value) (ns:List Int),
   Ground q loose [] XP w s₀ mg mb s₁.heap->YP w s₁.heap->
   s₁.heap.get? fa=some o->o.data=.func (docDef d.name d.params d.body d.scope pm cd doc)->s₁.heap.CodeRec cd d.name->mg d.name=some (.ref fa)->
   s₁.heap.get? a=some {cls:=.type "list",data:=.seq vs.toArray}->IntsAre vs ns->ns.length<=n->s₁.gens = #[]->
   codeAny (model l.prog w) callerA (.call (.ref fa) ⟨[.ref a],[]⟩) (fun r s'=>r=.ok (.ret (.bool true))/\OldK s₁.heap s'.heap/\s'.os=s₁.os/\AllBare s'.gens) s₁):
  WalkO q loose XP YP l.row.toRowW d [] (fun f vs=>PySem.call f vs):=by
 intro w s₀ s₁ mg mb G Y fa o pm cd doc dV kV ho hd Mf hD Qn hg args vals as NB hlay hrd P1 Rz;obtain rfl:dV=.none:=Dflts.none hD Qm;obtain rfl:kV=.none:=Dflts.noKw hD;obtain⟨a,vs,ns,rfl,rfl,OU,hints,hlen⟩:=uJ hn NB P1;refine enter_call (X8 (call w s₀ s₁ mg mb fa o pm cd doc a vs ns G Y ho (fd_plain hd) Mf Qn OU hints hlen hg) fun r s' hq=>?_);obtain⟨rfl,h2,h3,h4⟩:=hq;exact⟨.inl ⟨.bool true,.bool true,[],rfl,fun _=>rfl,.bool true,uK l _,fun _=>⟨List.Pairwise.nil,fun _ hm=>(nomatch hm)⟩⟩,h2,h3,h4⟩
section
variable{prog:Program}{w:World}{A:Around}{E:Value->Shared->Prop}{s:Shared}{K:Frag}
end
end Att
namespace L2
open PySem PySem.Spec PyProof.Rows
theorem oY:∀{vs:List Value}{ns:List Int},IntsAre vs ns->Vals (ns.map V.int) vs
 |_,_,.nil=>.nil
 |_,_,.cons n t h=>.cons ⟨t,rfl⟩ (oY h)
def ED(H:Hp):Prop:=∀b,H b=none\/∃o xs,H b=some (.frz o (.lst xs))
theorem xg{P:Program}{w:World}{K:W.Frag}{mg mb:Str->Option Value}{CX:Mg}{k:Nat}{fa a:Addr}{fd:FuncData}{x:Str}{sp:Sp}{s₁:Shared}{vs:List Value}{ns:List Int}
  (KX:K.In s₁.heap) (OC:s₁.heap.Ns mainGlobals mg) (hb:s₁.heap.Ns builtinsNs mb) (MG:∀x:Str,x≠"__name__"->mb x=bootBuiltins x) (hlim:s₁.heap.NoLimit) (hg:s₁.gens = #[])
  (ha:s₁.heap.get? a=some {cls:=.type "list",data:=.seq vs.toArray}) (hi:IntsAre vs ns) (hl:ns.length<=sizeLine) (hr:Room k callerA)
  (F:∀base:Heap,K.In base->base.Ns mainGlobals mg->FnOk P w K mg base CX k fa fd [x] sp) (Qo:∀(s:Shared) (u:Value),BindsTo s fd ⟨[u],[]⟩ [(x,u)])
  (Lr:∀H:Hp,ED H->SqL K H a (ns.map V.int)->sp [.ref a] H (fun v _=>v=.bl true) fun _ _ _=>False)
  (Sh:∀H e s',CX [] H s₁ (fun _ _ _=>False) e s'->False):
  codeAny (model P w) callerA (.call (.ref fa) ⟨[.ref a],[]⟩) (fun r s'=>r=.ok (.ret (.bool true))/\OldK s₁.heap s'.heap/\s'.os=s₁.os/\AllBare s'.gens) s₁:=by
 have rv:=oY hi;have lenV:=hi.length;have core:∀H:Hp,ED H->SqL K H a (ns.map V.int)->HOk P w H s₁.heap->(∀b,H b≠none->b=a)->(H a≠none->K.lookup a=none)->
   codeAny (model P w) callerA (.call (.ref fa) ⟨[.ref a],[]⟩) (fun r s'=>r=.ok (.ret (.bool true))/\OldK s₁.heap s'.heap/\s'.os=s₁.os/\AllBare s'.gens) s₁:=by
  intro H hO hS hok hA hK;have LZ:∀{b:Addr}{o:Obj},s₁.heap.get? b=some o->H b=none->(wX s₁.heap H).get? b=some o:=fun e n=>wY e n
  have Qk:∀{b:Addr}{o:Obj}{es:Array DictEntry}{ep:Nat},s₁.heap.get? b=some o->o.data=.dict es ep->H b=none:=fun{b o es ep} e d=>by
   cases q:H b with
   |none=>rfl
   |some u=>
    have e':b=a:=hA b (by rw[q];simp);subst e';rw[ha]at e;cases e;have d':Data.seq vs.toArray _=Data.dict es ep:=d;cases d'
  have RA:∀{b:Addr}{m:Str->Option Value},s₁.heap.Ns b m->(wX s₁.heap H).Ns b m:=fun{b m} ⟨o,es,ep,e,d,r⟩=>⟨o,es,ep,LZ e (Qk e d),d,r⟩
  have Tx:K.In (wX s₁.heap H):=fun b o e=>LZ (KX b o e) (by
   cases q:H b with
   |none=>rfl
   |some u=>
    have e':b=a:=hA b (by rw[q];simp);subst e';rw[hK (by rw[q];simp)]at e;cases e)
  have hM:Mod K mg (wX s₁.heap H):=⟨Tx,RA OC,⟨mb,RA hb,MG⟩,let⟨mc,h1,h2⟩:=hlim;⟨mc,RA h1,h2⟩⟩
  have e0:Env0 P w K mg (wX s₁.heap H) callerA [] s₁ H:=⟨rfl,hM,fun b o e=>yY e,Ya (uf _ _),trivial,fun b hb=>absurd (show b∈([]:List Addr) from hb) (by simp),hok,.of_eq hg⟩
  refine X8 ((F _ Tx (RA OC)).run callerA [] s₁ H ⟨[.ref a],[]⟩ [.ref a] [.ref a] _ _ hr e0 (Qo s₁ (.ref a)) (.cons rfl .nil) (Lr H hO hS)) fun r s' h=>?_
  cases r with
  |error e=>exact(Sh H e s' h).elim
  |ok fl=>
   cases fl with
   |next=>exact False.elim h
   |brk=>exact False.elim h
   |cont=>exact False.elim h
   |ret u=>
    obtain⟨v,H',os,bare,un,hok',r',q⟩:=h;have q':v=.bl true:=q;subst q';obtain rfl:u=Value.bool true:=r';refine⟨rfl,OldK.of_keep fun b o e=>?_,os,bare⟩;cases q:H b with
    |none=>exact un.keep b o e q (by intro z;exact absurd (show b∈([]:List Addr) from z) (by simp)) (by simp)
    |some u=>
     rcases hO b with z|⟨ob,xs,z⟩
     ·rw[q]at z;cases z
     ·have z2:=un.frzs b ob _ z;obtain⟨e1,_⟩:=hok b _ z;obtain⟨e2,_⟩:=hok' b _ z2;rw[e]at e1;cases e1;exact e2
 cases hk:K.lookup a with
 |some o=>
  have e:=KX a o hk;rw[ha]at e;cases e;refine core (fun _=>none) (fun _=>.inl rfl) (.inr ⟨_,vs.toArray,_,hk,rfl,rfl,rfl,by rw[Uo,lenV];exact hl,by simpa using rv⟩) (fun b u z=>by have z':(none:Option HO)=some u:=z;cases z') (fun b z=>absurd rfl z) fun z=>absurd rfl z
 |none=>
  refine core (fun b=>if b=a then some (.frz {cls:=.type "list",data:=.seq vs.toArray} (.lst (ns.map V.int))) else none) (fun b=>?_) (.inl (.inr ⟨{cls:=.type "list",data:=.seq vs.toArray},Ut rfl⟩)) (fun b u z=>?_) (fun b z=>?_) fun _=>hk
  ·by_cases hb:b=a
   ·exact .inr ⟨_,_,Ut hb⟩
   ·exact .inl (UD hb)
  ·by_cases hb:b=a
   ·have z':=(Ut hb).symm.trans z;cases z';subst hb;exact⟨ha,by rw[Um];exact hl,vs,_,rv,ha⟩
   ·have z':=(UD hb).symm.trans z;cases z'
  ·by_cases hb:b=a
   ·exact hb
   ·exact absurd (UD hb) z
theorem zm{l:PySem.W.OpenLaw}{n k:Nat}{q:Program}{loose:List Str}{XP:(Str->Option Value)->Heap->Prop}{YP:World->Heap->Prop}{d:DefRec}{K:Params->W.Frag}{CX:World->Mg}{sp:World->Sp}{x:Str}
  (hn:l.most=some n) (MH:n<=sizeLine) (Qm:d.params.defaults=[]) (hr:Room k callerA)
  (hY:∀(w:World) (h:Heap),YP w h->(K w.params).In h)
  (F:∀(w:World) (mg:Str->Option Value) (fa:Addr) (h:Heap),(K w.params).In h->h.Ns mainGlobals mg->mg d.name=some (.ref fa)->
   ∃fd:FuncData,(∀(s:Shared) (u:Value),BindsTo s fd ⟨[u],[]⟩ [(x,u)])/\
    ∀base:Heap,(K w.params).In base->base.Ns mainGlobals mg->FnOk l.prog w (K w.params) mg base (CX w) k fa fd [x] (sp w))
  (Lr:∀(w:World) (H:Hp) (a:Addr) (ns:List Int),ns.length<=n->ED H->SqL (K w.params) H a (ns.map V.int)->sp w [.ref a] H (fun v _=>v=.bl true) fun _ _ _=>False)
  (Sh:∀(w:World) (H:Hp) (s:Shared) (e:Value) (s':Shared),CX w [] H s (fun _ _ _=>False) e s'->False):
  PySem.W.WalkO q loose XP YP l.row.toRowW d [] (fun f vs=>PySem.call f vs):=by
 refine Att.attach_call hn Qm fun w s₀ s₁ mg mb fa o pm cd doc a vs ns G Y ho hd Mf Qn OU hints hlen hg=>?_
 have KX:=hY w _ Y;obtain⟨fd,hb,hF⟩:=F w mg fa _ KX G.T.g Qn;exact xg KX G.T.g G.T.b G.T.builtins G.T.nolimit hg OU hints (Vh hlen MH) hr hF hb (fun H hO hS=>Lr w H a ns hlen hO hS) fun H e s'=>Sh w H s₁ e s'
def f9(s:Stmt):Arguments:=match s with
 | .FunctionDef _ a _ _ _ _ _ _ _ _=>a
 |_=>{posonlyargs:=[],args:=[],vararg:=none,kwonlyargs:=[],kw_defaults:=[],kwarg:=none,defaults:=[]}
def dE(s:Stmt):List Stmt:=match s with
 | .FunctionDef _ _ b _ _ _ _ _ _ _=>b
 |_=>[]
def defScope(s:Stmt):Scope:=match s with
 | .FunctionDef _ _ _ _ _ _ sc _ _ _=>sc
 |_=>{kind:=.function,names:=[],isGenerator:=false,isCoroutine:=false}
abbrev MI:Mg:=fun _ _ _ _ _ _=>False
abbrev E0:XK:=fun _ _ _=>False
theorem EE{X:Cx}:uC MI X E0:=fun _ _ _ _ _ _ _ h=>h.elim
structure Fun(K:W.Frag)(x qual:Str)(st:Stmt)(f:Addr)(fd:FuncData):Prop where
 ex:∃(oc:Value) (od:Option Addr) (kV doc pm:Value) (an:Option Addr) (Hs ct:Value) (ME:Array (Option Value)),
  fd=PySem.W.fnOf x qual (f9 st) (dE st) (defScope st) .none kV doc pm an Hs ct/\K.lookup f=some ⟨oc,od,.func fd,ME⟩/\PySem.W.codeIn K Hs qual=true
 kp:PySem.W.keepIn K (.ref f)=true
section
variable{P:Program}{w:World}{K:W.Frag}{mg:Str->Option Value}{base:Heap}
theorem Fun.ok{x qual:Str}{st:Stmt}{f:Addr}{fd:FuncData}{N ps:List Str}{k:Nat}{sp:Sp}(F:Fun K x qual st f fd)(S:FnScope N ps (defScope st))(len:∀vs H Q E,sp vs H Q E->vs.length=ps.length)
  (KS:∀(Hs:Value) (A:Around) (outer:List Env) (s:Shared) (H:Hp) (vs:List V) (Q:VK) (E:XK),Room k (A.deeper (envOfC qual (defScope st) s.heap.objs.size f Hs))->sp vs H Q E->
   ∃t,PSs (sT MI P w K mg base N qual (defScope st) f Hs A outer s H E).nox (dE st) t/\t {nx:=fun _ H'=>Q .non H',rt:=Q} (start N vs) H):FnOk P w K mg base MI (k+1) f fd ps sp:=by
 obtain⟨oc,od,kV,doc,pm,an,Hs,ct,ME,rfl,lk,Mf⟩:=F.ex;refine B3 lk Mf S len fun A outer s H vs Q E hr Lr=>?_
 obtain⟨t,h,q⟩:=KS Hs A outer s H vs Q E hr Lr;exact⟨t,h.nox,q⟩
theorem Fun.binds{x qual:Str}{st:Stmt}{f:Addr}{fd:FuncData}{ps:List Str}(F:Fun K x qual st f fd)
  (h:∀(kV doc pm:Value) (an:Option Addr) (Hs ct:Value) (us:List Value),us.length=ps.length->bindArgs (PySem.W.fnOf x qual (f9 st) (dE st) (defScope st) .none kV doc pm an Hs ct) ⟨us,[]⟩=pure (ps.zip us)):Binds K fd ps []:=by
 obtain⟨oc,od,kV,doc,pm,an,Hs,ct,ME,rfl,lk,Mf⟩:=F.ex;exact .all (h kV doc pm an Hs ct)
theorem yp{x qual:Str}{st:Stmt}{f:Addr}{oc:Value}{od an:Option Addr}{ME:Array (Option Value)}{kV doc pm Hs ct:Value}(l:K.lookup f=some ⟨oc,od,.func (PySem.W.fnOf x qual (f9 st) (dE st) (defScope st) .none kV doc pm an Hs ct),ME⟩)
  (c:PySem.W.codeIn K Hs qual=true) (k:PySem.W.keepIn K (.ref f)=true):Fun K x qual st f (PySem.W.fnOf x qual (f9 st) (dE st) (defScope st) .none kV doc pm an Hs ct):=⟨⟨oc,od,kV,doc,pm,an,Hs,ct,ME,rfl,l,c⟩,k⟩
end
theorem hu_of{A:Around}{k:Nat}(hr:Room k A):A.units+1<cLine:=Nat.lt_of_le_of_lt (Nat.add_le_add_left (by decide:1<=64) _) hr.units
section
variable{X:Cx}
theorem pv(i:Nat){x:Str}{pos:Pos}(hN:X.N[i]?=some x:=by rfl)(hv:R5 X.env.scope x:=by first|exact Or.inl rfl|exact Or.inr (Or.inl rfl)|exact Or.inr (Or.inr rfl))(hd:(x==("__debug__" : Str))=false:=by decide)
  (Mf:(x==("__classdict__" : Str))=false:=by decide):PE X (.Name x pos) (qj i):=BA hN hv hd Mf
end
theorem iteF{A B:Prop}(h:B):if false=true then A else B:=by
 rw[UD Up];exact h
theorem Bs{A B:Prop}(h:A):if true=true then A else B:=by
 rw[Ut rfl];exact h
def Same(H H':Hp):Prop:=∀b o,H b=some o->H' b=some o
theorem Same.refl(H:Hp):Same H H:=fun _ _ h=>h
theorem Same.trans{H H1 H2:Hp}(a:Same H H1)(b:Same H1 H2):Same H H2:=fun c o h=>b c o (a c o h)
end L2
set_option maxHeartbeats 4000000
namespace NX
open PySem PySem.Spec PyProof.Rows L2
section
variable{X:Cx}
theorem xh(v:Int)(n:Nat):max (0:Int) (min (if v<0 then v+(n:Int) else v) (n:Int))=((HT.sIx n 0 (some v):Nat):Int):=by
 show _=(((if v<0 then(v+(n:Int)).toNat else min v.toNat n):Nat):Int)
 split <;> lia
theorem B9(a b:Nat):sliceRange (a:Int) (b:Int) 1=(List.range (b-a)).map (fun k=>a+k):=by
 unfold sliceRange;rw[Ut (by decide:(1:Int)>0)];by_cases HN:(a:Int)<b
 ·have e3:(((b:Int)-a+1-1) / 1).toNat=b-a:=by first|lia|(simp;done)|(simp;lia)
  simp only[HN,WN,e3];refine Vv fun k _=>?_
  lia
 ·have:b-a=0:=by lia
  simp[HN,this]
theorem Gh(lo hi:Option Int)(n:Nat):Builtin.Str.strSliceIndices lo hi 1 n=(List.range (HT.sIx n n hi-HT.sIx n 0 lo)).map (fun k=>HT.sIx n 0 lo+k):=by
 rw[<-B9];unfold Builtin.Str.strSliceIndices;simp only[show(1:Int)>0 from by decide,WN];cases lo with
 |none=>
  cases hi with
  |none=>rfl
  |some v=>exact VC (fun z=>sliceRange 0 z 1) (xh v n)
 |some u=>
  cases hi with
  |none=>exact VC (fun z=>sliceRange z (n:Int) 1) (xh u n)
  |some v=>exact(VC (fun z=>sliceRange z _ 1) (xh u n)).trans (VC (fun z=>sliceRange _ z 1) (xh v n))
def Ca(xs:List Nat)(lo hi:Option Int):List Nat:=(xs.drop (HT.sIx xs.length 0 lo)).take (HT.sIx xs.length xs.length hi-HT.sIx xs.length 0 lo)
theorem yq{α:Type}(l:List α):∀(n a:Nat),a+n<=l.length->((List.range n).map (fun k=>a+k)).filterMap (l[·]?)=(l.drop a).take n
 | 0,_,_=>by simp
 |n+1,a,h=>by
  have HN:a+n<l.length:=by lia
  rw[List.range_succ,Uv,List.filterMap_append,yq l n a (by lia),Vf,List.getElem?_drop];simp[List.getElem?_eq_getElem HN]
theorem uL(x:Str)(lo hi:Option Int):(Txt.slice x lo hi).cps.toList=Ca x.cps.toList lo hi:=by
 have hl:x.cps.toList.length=x.length:=VJ;have ha:=HT.uF x.length 0 (U6 _) lo;have hb:=HT.uF x.length x.length (Ur _) hi;unfold Txt.slice Ca;rw[Gh,hl];split
 ·rename_i h;have h2:HT.sIx x.length x.length hi-HT.sIx x.length 0 lo=x.length:=by simpa using h
  have ez:HT.sIx x.length 0 lo=0\/x.length=0:=by lia
  rcases ez with e|e
  ·rw[h2,e,Yu,V4 (by lia)]
  ·have:x.cps.toList=[]:=Vs (by lia);rw[this];simp
 ·have hk:∀(f:List Nat),f.filterMap (x.cps[·]?)=f.filterMap (x.cps.toList[·]?):=fun f=>by
   congr 1
   funext i
   simp
  show(List.filterMap _ _).toArray.toList=_;rw[WD,hk];by_cases hle:HT.sIx x.length 0 lo<=HT.sIx x.length x.length hi
  ·rw[yq _ _ _ (by lia)]
  ·have e0:HT.sIx x.length x.length hi-HT.sIx x.length 0 lo=0:=by lia
   rw[e0];rfl
abbrev S(l:List Nat):Str:=⟨l.toArray⟩
theorem oZ(x:Str):S x.cps.toList=x:=by cases x;simp[S]
theorem S_inj{a b:List Nat}(h:S a=S b):a=b:=by
 have:=VC (fun z:Str=>z.cps.toList) h;simpa[S] using this
theorem mw(l:List Nat):(S l).length=l.length:=by simp[S,Str.length]
theorem fe(l:List Nat):(S l).cps.toList=l:=by simp[S]
theorem EF(a b:List Nat):S a++S b=S (a++b):=by
 rw[<-oZ (S a++S b),PySem.W.KT.app_list,fe,fe]
def Gi:V->Option Int->Option Int->Hp->VK->Prop:=fun x lo hi H Q=>∃l,x=.str (S l)/\l.length<=sizeLine/\Q (.str (S (Ca l lo hi))) H
theorem Cb:OT X Gi:=by
 intro pi s σ H x v vl vu lo hi sl Q I rx hs pl pu h;obtain⟨l,rfl,hz,q⟩:=h;obtain⟨t,rfl⟩:=rx;have hz':(S l).length<=sizeLine:=by rw[mw];exact hz
 have e:∀t' k,EP X pi σ Q (.str (Txt.slice (S l) lo hi) t') {s with toks:=k}:=fun t' k=>by
  refine⟨.str (S (Ca l lo hi)),H,I.tok _,⟨t',?_⟩,q⟩;have e1:=uL (S l) lo hi;rw[fe]at e1;rw[<-e1,oZ]
 refine⟨"str",_,PySem.F.slot_str_getitem.lookup,Yn _ _ _,?_⟩;have key:∀(OV RB:Option (Int×Tok)),partValue OV=vl->partValue RB=vu->OV.map (·.1)=lo->RB.map (·.1)=hi->
   wpAny (model X.prog X.w) X.A (getItem (.str (S l) t) (.ref sl)) (EP X pi σ Q) X.xe s:=by
  rintro OV RB rfl rfl rfl rfl;exact wpAny_getItem_str_slice (l:=OV) (u:=RB) (st:=none) hs rfl (post_val_or_str ⟨Vh (Txt.slice_le (S l) _ _) hz',fun t' k=>e t' k⟩)
 cases pl with
 |none=>
  cases pu with
  |none=>exact key none none rfl rfl rfl rfl
  |int j uj=>exact key none (some (j,uj)) rfl rfl rfl rfl
 |int i ui=>
  cases pu with
  |none=>exact key (some (i,ui)) none rfl rfl rfl rfl
  |int j uj=>exact key (some (i,ui)) (some (j,uj)) rfl rfl rfl rfl
theorem getD_of{xs:List V}{j:Nat}{x:V}(h:xs[j]?=some x):xs.getD j .non=x:=by rw[List.getD_eq_getElem?_getD,h];rfl
end
def Def(K:W.Frag)(mg:Str->Option Value)(x:Str)(st:Stmt):Prop:=∃f fd,Fun K x x st f fd/\mg x=some (.ref f)
def Ct(P:Program)(w:World)(K:W.Frag)(mg:Str->Option Value)(base:Heap)(x:Str)(k:Nat)(sp:Sp):Prop:=
 ∃f fd ps,FnOk P w K mg base MI k f fd ps sp/\mg x=some (.ref f)/\PySem.W.keepIn K (.ref f)=true/\Binds K fd ps []
section
variable{X:Cx}{e:Expr}{es:List Expr}{t:TA}{x:Str}{p pos:Pos}{k:Nat}{sp:Sp}
theorem EG(C:Ct X.prog X.w X.K X.mg X.base x k sp)(hr:Room k X.A)(hg:Gl X x)(ha:PA X (e::es) t)(HZ:(x==("__debug__" : Str))=false:=by decide)
  (he:starEach (e::es) X.env=(false,eval e X.env)::starEach es X.env:=by rfl) (HU:(backTo pos (starEach es X.env)).any (·.1)=false:=by rfl):
  PE X (.Call (.Name x p) (e::es) [] pos) (tCall sp [] E0 t):=by
 obtain⟨f,fd,ps,G,m,kp,b⟩:=C;exact zb G hr hg m kp b .nil EE ha HZ he HU
end
theorem bt_len:bootBuiltins "len" = some (.builtin "len"):=by decide +kernel
theorem eS:bootBuiltins "isinstance" = some (.builtin "isinstance"):=by decide +kernel
theorem uM:bootBuiltins "list" = some (.type "list"):=by decide +kernel
theorem Cc:bootBuiltins "int" = some (.type "int"):=by decide +kernel
theorem cb:bootBuiltins "tuple" = some (.type "tuple"):=by decide +kernel
theorem zo:bootBuiltins "bool" = some (.type "bool"):=by decide +kernel
theorem line_eq:sizeLine=16777216:=Vr
theorem flat_strs(a:List (List Nat)):(a.map fun l=>V.str (S l)).all xc=true:=by
 rw[UE];intro v hv;obtain⟨l,_,rfl⟩:=UY.mp hv;rfl
section
variable{X:Cx}{e:Expr}{st:Stmt}
end
def clOf(scope:Scope)(env:Env):List (Str×Addr):=scope.names.foldl (fun cs y=>if y.2==NameKind.free then(y.1,(env.cells.lookup y.1).getD 0)::cs else cs) []
def jq(scope:Scope)(env:Env):Bool:=scope.names.all fun y=>y.2 != NameKind.free||env.kindOf y.1==some .cell||env.kindOf y.1==some .free
theorem iC(env:Env):∀(l:List (Str×NameKind)) (cs:List (Str×Addr)),(∀y∈l,y.2=.free->∃c,env.cells.lookup y.1=some c)->
  (forIn l cs fun(y:Str×NameKind) (r:List (Str×Addr))=>(do
   if y.2==NameKind.free then
    let a <-cellOf env y.1
    pure (ForInStep.yield ((y.1,a)::r))
   else pure (ForInStep.yield r):Sem (ForInStep (List (Str×Addr)))))=pure (l.foldl (fun cs y=>if y.2==NameKind.free then(y.1,(env.cells.lookup y.1).getD 0)::cs else cs) cs)
 |[],cs,_=>by simp
 |y::l,cs,h=>by
  rw[Yb,Wv];by_cases k:y.2=.free
  ·obtain⟨c,e⟩:=h y Uq k;have e2:cellOf env y.1=pure c:=by unfold cellOf;rw[e]
   simp only[k,Ve,WN,e2,e,XS,pure_bind];exact iC env l _ fun z hz=>h z (Uy _ hz)
  ·have kb:(y.2==NameKind.free)=false:=by simpa using k
   simp only[kb,VE,W4,pure_bind];exact iC env l _ fun z hz=>h z (Uy _ hz)
theorem iP(env:Env)(x:Str)(c:Addr):∀(l:List (Str×NameKind)) (cs:List (Str×Addr)),(∀y∈l,y.2=.free->∃c,env.cells.lookup y.1=some c)->(cs.lookup x=some c->env.cells.lookup x=some c)->
  (l.foldl (fun cs y=>if y.2==NameKind.free then(y.1,(env.cells.lookup y.1).getD 0)::cs else cs) cs).lookup x=some c->env.cells.lookup x=some c
 |[],_,_,h,e=>h e
 |y::l,cs,hf,h,e=>by
  rw[Wv]at e;refine iP env x c l _ (fun z hz=>hf z (Uy _ hz)) (fun q=>?_) e;split at q
  ·rename_i k;have k:y.2=.free:=by simpa using k
   obtain⟨d,ed⟩:=hf y Uq k;rw[Vk]at q;cases hx:x==y.1 with
   |true=>
    rw[hx]at q;have exy:x=y.1:=by simpa using hx
    rw[ed,XS]at q;rw[exy,ed];exact q
   |false=>
    rw[hx]at q;exact h q
  ·exact h q
theorem lg(env:Env)(x:Str):∀(l:List (Str×NameKind)) (cs:List (Str×Addr)),((∃d,cs.lookup x=some d)\/(x,NameKind.free)∈l)->
  ∃d,(l.foldl (fun cs y=>if y.2==NameKind.free then(y.1,(env.cells.lookup y.1).getD 0)::cs else cs) cs).lookup x=some d
 |[],_,h=>by
  rcases h with h|h
  ·exact h
  ·cases h
 |y::l,cs,h=>by
  rw[Wv];refine lg env x l _ ?_;rcases h with⟨d,h⟩|h
  ·refine .inl ?_;split
   ·rw[Vk];cases hx:x==y.1 with
    |true=>exact⟨_,rfl⟩
    |false=>exact⟨d,h⟩
   ·exact⟨d,h⟩
  ·rcases Ux.mp h with h|h
   ·refine .inl ?_;rw[<-h];refine⟨(env.cells.lookup x).getD 0,?_⟩;show List.lookup x ((x,_)::cs)=_;rw[Vk,Ve]
   ·exact .inr h
noncomputable def cw(X:Cx)(scope:Scope)(N:List Str)(C:Addr)(s:Shared)(H:Hp)(fp:List Addr)(pn:List (Addr×Obj)):Cx:=
 {X with N:=N,s₀:=s,H₀:=H,env:=compEnvC scope (clOf scope X.env) C X.env,outer:=X.stack,ex:=fp,fn:=fun _=>false,pn:=pn,xe:=fun _ _=>False}
def mL(ix:List (Option Nat))(σ:L2.St):L2.St:=ix.map fun i=>i.bind fun i=>(σ[i]?).bind id
noncomputable def zp(wi:TI)(ix:List (Option Nat))(g:TG)(tc:TT)(te:TE):TE:=fun σ H Q=>wi σ H fun J H1=>∀D,H1 D=none->∃W:Nat->Nat->L2.St->Hp->Prop,(∃m,W 0 m (mL ix σ) (upd H1 D (.lst [])))/\
 ∀i m σ1 H2,W i m σ1 H2->(J.stop i H2/\Q (.ref D) H2)\/(J.go i H2/\∀x H3,J.yld i H2 x H3->g x σ1 H3 fun σ2 H4=>tc σ2 H4 fun b H5=>if b=true then te σ2 H5 fun v H6=>
  ∃ys,H6 D=some (.lst ys)/\ys.length<sizeLine/\∃m',m'<m/\W (i+1) m' σ2 (upd H6 D (.lst (ys++[v]))) else ∃m',m'<m/\W (i+1) m' σ2 H5)
abbrev NC:Value->Shared->Prop:=fun _ _=>False
theorem P2{α:Type}{M:Model}{A:Around}{t:Sem α}{Q Q':α->Shared->Prop}{E:Value->Shared->Prop}{s:Shared}(h:wpAny M A t Q NC s)(k:∀a s,Q a s->Q' a s):wpAny M A t Q' E s:=Vc h k fun _ _ z=>z.elim
theorem uN{prog:Program}{w:World}{A:Around}{R:Result->Shared->Prop}{s:Shared}{elt target iter:Expr}{ifs:List Expr}{scope:Scope}{pos:Pos}{it acc:Value}{env:Env}(I:Nat->Shared->Prop)
  (turn:∀n s,I n s->wpAny (model prog w) A (pyNext it) (fun r s₁=>match r with
   |none=>R (.ok .next) s₁
   |some v=>wpAny (model prog w) A (letOwnedTupleGo target it v) (fun _ s₂=>wpAny (model prog w) A (assign target env v) (fun _ s₃=>
     wpAny (model prog w) A (forIn ifs true fun c r=>if r=true then do let ok <-isTrue c env (eval c env);pure (ForInStep.yield ok) else pure (ForInStep.yield r)) (fun ok s₄=>
      if ok=true then wpAny (model prog w) A (eval elt env) (fun x s₅=>
       wpAny (model prog w) A (call (.builtin "list.append") [acc,x]) (fun _ s₆=>∃m,m<n/\I m s₆) NC s₅) NC s₄
      else ∃m,m<n/\I m s₄) NC s₃) NC s₂) NC s₁) NC s)
  (n:Nat) (h:I n s):codeAny (model prog w) A (.compLoop (.ListComp elt [⟨target,iter,ifs,0⟩] scope pos) 0 it acc env) R s:=by
 refine codeAny_loop rfl I (fun n s hI=>?_) n h;show wpAny _ A ((compTurn (.ListComp elt [⟨target,iter,ifs,0⟩] scope pos) 0 it acc env).onRaise (fun x=>do noteFrame x env;theTreesLotGoes x)) _ _ s;refine wpAny_noted ?_;rw[compTurn_list];refine Uk (YH (Uk (P2 (turn n s hI) fun r s₁ h₁=>?_)));cases r with
 |none=>exact Ul h₁
 |some v=>
  refine Uk (P2 h₁ fun _ s₂ h₂=>Uk (P2 h₂ fun _ s₃ h₃=>Uk (P2 h₃ fun ok s₄ h₄=>?_)));cases ok with
  |false=>exact Ul ⟨rfl,h₄⟩
  |true=>exact Uk (Uk (P2 h₄ fun x s₅ h₅=>Uk (P2 h₅ fun _ s₆ h₆=>Ul (Ul ⟨rfl,h₆⟩))))
def P4(X:Cx)(ifs:List Expr)(t:TT):Prop:=
 ∀(pi:List (Addr×Obj)) (s:Shared) (σ:L2.St) (H:Hp) (Q:Bool->Hp->Prop),Inv X pi σ H s->t σ H Q->
  wpAny (model X.prog X.w) X.A (forIn ifs true fun c r=>if r=true then do let ok <-isTrue c X.env (eval c X.env);pure (ForInStep.yield ok) else pure (ForInStep.yield r)) (TP X pi σ Q) X.xe s
def Gj:TT:=fun _ H Q=>Q true H
theorem zq{X:Cx}:P4 X [] Gj:=fun _ _ _ H _ I h=>wpAny_tests_nil ⟨H,I,h⟩
theorem zt{X:Cx}{c:Expr}{t:TT}(h:PT X c t):P4 X [c] t:=fun pi s σ H Q I k=>wpAny_tests_one (h pi s σ H Q I k)
def yr(X:Cx)(scope:Scope)(N:List Str)(ix:List (Option Nat)):Bool:=
 N.length==ix.length&&(N.zip ix).all fun y=>match y.2 with
  |none=>true
  |some j=>X.N[j]?==some y.1&&scope.names.lookup y.1==some .free
theorem o4{scope:Scope}{env:Env}{x:Str}(h:scope.names.lookup x=some .free):(relabel scope env).names.lookup x=some .cell\/(relabel scope env).names.lookup x=some .free:=by
 unfold relabel;dsimp only;generalize scope.names=l at h;induction l with
 |nil=>cases h
 |cons y l ih=>
  obtain⟨n,k⟩:=y;rw[Vk]at h;rw[UH];cases hx:x==n with
  |true=>
   rw[hx]at h;have hk:k=.free:=UU h;subst hk;dsimp only;split
   ·exact .inl (by rw[Vk,hx])
   ·exact .inr (by rw[Vk,hx])
  |false=>
   rw[hx]at h;dsimp only;split
   ·rw[Vk,hx];exact ih h
   ·rw[Vk,hx];exact ih h
theorem o5{scope:Scope}{env:Env}{x:Str}(hc:∀y∈scope.names,y.2≠.cell)(h:(relabel scope env).names.lookup x=some .cell\/(relabel scope env).names.lookup x=some .free):(x,NameKind.free)∈scope.names:=by
 unfold relabel at h;dsimp only at h;generalize scope.names=l at h hc;induction l with
 |nil=>rcases h with h|h <;> cases h
 |cons y l ih=>
  obtain⟨n,k⟩:=y;rw[UH]at h;dsimp only at h;have nk:k≠.cell:=hc (n,k) Uq;have Tz:=ih (hc:=fun z hz=>hc z (Uy _ hz));by_cases cnd:(k==NameKind.free&&env.scope.kind==.function&&env.kindOf n==some .cell)=true
  ·rw[Ut cnd,Vk]at h;have kf:k=.free:=by
    have:(k==NameKind.free)=true:=by
     simp only[Uz]at cnd;exact cnd.1.1
    simpa using this
   cases hx:x==n with
   |true=>
    have:x=n:=by simpa using hx
    rw[this,kf];exact Uq
   |false=>
    rw[hx]at h;exact Uy _ (Tz h)
  ·rw[UD cnd,Vk]at h;cases hx:x==n with
   |true=>
    rw[hx]at h;have:x=n:=by simpa using hx
    rcases h with h|h
    ·exact absurd (UU h) nk
    ·rw[this,<-UU h];exact Uq
   |false=>
    rw[hx]at h;exact Uy _ (Tz h)
section
variable{X:Cx}{pi:List (Addr×Obj)}{σ:L2.St}{H:Hp}{s:Shared}{scope:Scope}{N:List Str}{ix:List (Option Nat)}{fp:List Addr}
theorem nu(ok:X.Ok)(hf:jq scope X.env=true):∀y∈scope.names,y.2=.free->∃c,X.env.cells.lookup y.1=some c:=fun y hy k=>by
 have:=UE.mp hf y hy;rw[k]at this;simp only[Xx,XH,Wx,UQ]at this;exact ok.has y.1 this
theorem lh(ok:X.Ok)(hf:jq scope X.env=true){x:Str}{c:Addr}(h:(clOf scope X.env).lookup x=some c):X.env.cells.lookup x=some c:=
 iP X.env x c scope.names [] (nu ok hf) (fun z=>nomatch z) h
theorem uO(ok:X.Ok)(hf:jq scope X.env=true){x:Str}(h:(x,NameKind.free)∈scope.names):∃c,(clOf scope X.env).lookup x=some c/\X.env.cells.lookup x=some c:=by
 obtain⟨c,e⟩:=lg X.env x scope.names [] (.inr h);exact⟨c,e,lh ok hf e⟩
theorem _root_.L2.Inv.block(I:Inv X pi σ H s)(hf:jq scope X.env=true)(hk:scope.kind=.function)(HP:∀y∈scope.names,y.2≠.cell)(IT:yr X scope N ix=true)(fo:∀b∈fp,tZ X pi H b)(fin:∀b∈fp,∃o,s.heap.get? b=some o)
  {h1:Heap}{t1:Nat}{D C:Addr}(hD:D=s.heap.objs.size) (hC:C=s.heap.objs.size+1) (old:∀b o,s.heap.get? b=some o->h1.get? b=some o) {n:Nat}(acc:h1.get? D=some {cls:=.type "list",data:=.seq #[] n})
  {m:Str->Option Value}(ns:h1.Ns C m):Inv (cw X scope N C s H fp (X.pn++pi)) [] (mL ix σ) (upd H D (.lst [])) {s with heap:=h1,toks:=t1}:=by
 have Lu:s.heap.objs.size<=C:=by rw[hC];exact Wy _
 have freshD:s.heap.objs.size<=D:=by rw[hD];exact Ur _
 have nD:H D=none:=I.hok.fresh freshD;have DC:D≠C:=by rw[hD,hC];exact UK (Wr _)
 have OW:∀b,H b=none->b≠D->upd H D (.lst []) b=none:=fun b n z=>by rw[aS z];exact n
 have P5:∀b o,s.heap.get? b=some o->b≠D:=fun b o e=>UK (UB (Uu e) freshD)
 have ND:∀b o,s.heap.get? b=some o->b≠C:=fun b o e=>UK (UB (Uu e) Lu)
 have cellAt:∀x c,(clOf scope X.env).lookup x=some c->∃v o,s.heap.get? c=some o/\o.data=.cell v:=fun x c e=>by
  obtain⟨v,o,ho,hd⟩:=I.cell x c (lh I.ok hf e);exact⟨v,o,ho,hd⟩
 have okY:(cw X scope N C s H fp (X.pn++pi)).Ok:=by
  refine⟨I.ok.mod,hk,I.ok.glob,I.ok.blt,Lu,fun x y c e1 e2=>?_,fun x hx=>?_,fun x c z _=>?_,I.ok.hd,I.ok.frames,.inl rfl,fun b hb=>?_,I.bs,?_,fun b o e hb=>?_,fun b hb hs=>?_,I.stack,I.stkFree⟩
  ·exact I.ok.inj x y c (lh I.ok hf e1) (lh I.ok hf e2)
  ·obtain⟨c,e,_⟩:=uO I.ok hf (o5 HP hx);exact⟨c,e⟩
  ·exact absurd (show false=true from z) Up
  ·obtain⟨f0,f1,f2,f3,f4,f5⟩:=fo b hb;refine⟨?_,fun x c e=>f4 x c (lh I.ok hf e)⟩;intro z;have z:b=C:=z;obtain⟨o,ho⟩:=fin b hb;exact ND b o ho z
  ·exact Vh I.ok.bsz I.sz
  ·obtain⟨f0,f1,f2,f3,f4,f5⟩:=fo b hb;rcases f3 with q|q
   ·exact I.ok.noex b o e q
   ·exact absurd (UB (Uu e) (Vh I.ok.bsz q)) (VN _)
  ·obtain⟨f0,f1,f2,_⟩:=fo b hb;exact(Ux.mp (I.stkSub b hs)).elim f1 f2
 refine⟨okY,rfl,I.bare,Un.laid old freshD nD,⟨m,ns,fun i x v e1 e2 e3=>?_⟩,fun x c e=>?_,?_,fun x c e=>?_,fun p hp=>?_,I.hok.laid old freshD ⟨U6 _,[],n,.nil,acc⟩,?_⟩
 ·
  have e2:(ix.map fun i=>i.bind fun i=>(σ[i]?).bind id)[i]?=some (some v):=e2;have e1:N[i]?=some x:=e1;unfold yr at IT;rw[Uz]at IT;rw[List.getElem?_map]at e2;cases q:ix[i]? with
  |none=>rw[q]at e2;cases e2
  |some o=>
   rw[q]at e2;have e2:(o.bind fun i=>(σ[i]?).bind id)=some v:=UU e2;cases o with
   |none=>cases e2
   |some j=>
    have e2:(σ[j]?).bind id=some v:=e2;have hσ:σ[j]?=some (some v):=by
     cases w':σ[j]? with
     |none=>rw[w']at e2;cases e2
     |some y=>rw[w']at e2;exact VC some e2
    have hz:(N.zip ix)[i]?=some (x,some j):=by
     rw[List.getElem?_zip_eq_some];exact⟨e1,q⟩
    have hy:=UE.mp IT.2 _ (Uw hz);simp only[Uz,UQ]at hy;have Qp:(x,NameKind.free)∈scope.names:=V1 hy.2;obtain⟨c,c1,c2⟩:=uO I.ok hf Qp;have Qq:X.env.kindOf x=some .cell\/X.env.kindOf x=some .free:=by
     have:=UE.mp hf _ Qp;simpa using this
    obtain⟨mo,Tw,Rz⟩:=I.loc;obtain⟨u,r,l⟩:=Rz j x v hy.1 hσ (.inr Qq);refine⟨u,r,.inr ⟨o4 hy.2,c,c1,?_⟩⟩;rcases l with⟨k1,_⟩|⟨_,c',e',Nu⟩
    ·rcases Qq with k2|k2 <;> (rw[k1]at k2;cases k2)
    ·rw[c2]at e';cases e';obtain⟨o,ho,hd⟩:=Nu;exact⟨o,old c o ho,hd⟩
 ·obtain⟨v,o,ho,hd⟩:=cellAt x c e;exact⟨v,o,old c o ho,hd⟩
 ·exact OW C (I.hok.fresh Lu) (VB DC)
 ·obtain⟨v,o,ho,hd⟩:=cellAt x c e;exact OW c (I.freeC x c (lh I.ok hf e)) (P5 c o ho)
 ·have hp:p∈X.pn++pi:=by
   have:p∈(X.pn++pi)++[]:=hp
   rwa [Vd]at this
  obtain⟨e,nn,ne,nf,d⟩:=I.pin p hp;refine⟨old _ _ e,OW _ nn (P5 _ _ e),ND _ _ e,fun z=>?_,d⟩;exact(Ux.mp (I.stkSub p.1 z)).elim ne nf
 ·unfold yr at IT;rw[Uz]at IT;have:N.length=ix.length:=by simpa using IT.1
  show(ix.map _).length=N.length;rw[Um,this]
theorem _root_.L2.Inv.unblock{C:Addr}{σ1:L2.St}{H1:Hp}{s1:Shared}{h2:Heap}(I:Inv X pi σ H s)(fo:∀b∈fp,tZ X pi H b)(hC:s.heap.objs.size<=C)(J:Inv (cw X scope N C s H fp (X.pn++pi)) [] σ1 H1 s1)(hs:Heap.SameBut C s1.heap h2):
  Inv X pi σ H1 {s1 with heap:=h2}:=by
 have ND:∀b o,s.heap.get? b=some o->b≠C:=fun b o e=>UK (UB (Uu e) hC)
 have bb:Un (HY X.stack) fp H H1 s.heap s1.heap:=J.base;have jf:H1 C=none:=J.free;refine I.call' (s':={s1 with heap:=h2}) (ch:=fp) J.os ⟨fun b o e n hb hx=>?_,fun b o e n hb hx=>?_,bb.free,fun b o e hx=>?_,bb.tups,bb.frzs,bb.tbls⟩ (fun b ob e=>?_) J.bare fun b hb=>?_
 ·exact(hs.2 b (ND b o e)).trans (bb.keep b o e n hb hx)
 ·obtain⟨sl,q⟩:=bb.slot b o e n hb hx;exact⟨sl,(hs.2 b (ND b o e)).trans q⟩
 ·obtain⟨o',q⟩:=bb.there b o e hx;exact⟨o',(hs.2 b (ND b o e)).trans q⟩
 ·refine(J.hok b ob e).stay (fun c w' hc q=>(hs.2 c ?_).trans q) (fun _ q=>q) fun _ _ q=>q
  rintro rfl;rcases hc with rfl|hc
  ·rw[jf]at e;cases e
  ·rw[jf]at hc;cases hc
 ·obtain⟨f0,f1,f2,f3,f4,f5⟩:=fo b hb;exact⟨f3,f1,f4,f5⟩
end
section
variable{X:Cx}{scope:Scope}{N:List Str}{ix:List (Option Nat)}{tg iter elt:Expr}{ifs:List Expr}{pos:Pos}{wi:TI}{g:TG}{tc:TT}{te:TE}
theorem mM{pi:List (Addr×Obj)}{σ:L2.St}{H2:Hp}{s2:Shared}{J:It}{fp:List Addr}{it:Addr}{tn:Nat->Heap->Prop}{Q:VK}{RR:Value->Addr->Result->Shared->Prop}{E:Value->Shared->Prop}
  (hc:X.calm=true) (I2:Inv X pi σ H2 s2) (T:Turn X.prog X.w X.K tg J fp it tn) (Hd:tn 0 s2.heap) (f2:∀b∈fp,tZ X pi H2 b)
  (hg:∀C s H fp pn,PG (cw X scope N C s H fp pn) tg g) (ht:∀C s H fp pn,P4 (cw X scope N C s H fp pn) ifs tc) (he:∀C s H fp pn,PE (cw X scope N C s H fp pn) elt te)
  (hf:jq scope X.env=true) (hk:scope.kind=.function) (HP:∀y∈scope.names,y.2≠.cell) (IT:yr X scope N ix=true)
  (q:∀D,H2 D=none->∃W:Nat->Nat->L2.St->Hp->Prop,(∃m,W 0 m (mL ix σ) (upd H2 D (.lst [])))/\
   ∀i m σ1 H3,W i m σ1 H3->(J.stop i H3/\Q (.ref D) H3)\/(J.go i H3/\∀x H4,J.yld i H3 x H4->g x σ1 H4 fun σ2 H5=>tc σ2 H5 fun b H6=>if b=true then te σ2 H6 fun v H7=>
    ∃ys,H7 D=some (.lst ys)/\ys.length<sizeLine/\∃m',m'<m/\W (i+1) m' σ2 (upd H7 D (.lst (ys++[v]))) else ∃m',m'<m/\W (i+1) m' σ2 H6))
  (hRR:∀(D C:Addr) (σ1:L2.St) (H1:Hp) (s1:Shared),s2.heap.objs.size<=C->Inv (cw X scope N C s2 H2 fp (X.pn++pi)) [] σ1 H1 s1->Q (.ref D) H1->RR (.ref D) C (.ok .next) s1):
  wpAny (model X.prog X.w) X.A (newList []) (fun acc s₃=>wpAny (model X.prog X.w) X.A (newFunctionEnv scope X.env.globals (clOf scope X.env) [] X.env.qual none .none (some X.env)) (fun Qr s₄=>
   codeAny (model X.prog X.w) X.A (.compStart (.ListComp elt [⟨tg,iter,ifs,0⟩] scope pos) 0 (.ref it) acc {Qr with scope:=relabel scope X.env}) (RR acc Qr.locals) s₄) E s₃) E s2:=by
 refine Va (wpAny_newFunctionEnv HP (by intro y hy;simp at hy) (fun h₁ hns₁ hsb₁=>?_) hk);dsimp only at hns₁ hsb₁ ⊢;generalize hH2:s2.heap.push {cls:=.type "list",dict:=none,data:=.seq ([]:List Value).toArray}=HH at hns₁ hsb₁ ⊢;have hC:HH.objs.size=s2.heap.objs.size+1:=by rw[<-hH2,Ws]
 have hDC:s2.heap.objs.size≠HH.objs.size:=by rw[hC];exact UK (Wr _)
 have Qs:s2.heap.objs.size<=HH.objs.size:=by rw[hC];exact Wy _
 have ND:∀b o,s2.heap.get? b=some o->b≠HH.objs.size:=fun b o e=>UK (UB (Uu e) Qs)
 have old:∀b o,s2.heap.get? b=some o->h₁.get? b=some o:=fun b o e=>hsb₁.extBut b o (ND b o e) (Heap.get?_push_of_some _ (hH2▸Heap.get?_push_of_some _ e))
 have NF:h₁.get? s2.heap.objs.size=some {cls:=.type "list",data:=.seq #[] 0}:=hsb₁.extBut _ _ hDC (Heap.get?_push_of_some _ (hH2▸Heap.get?_push_size _ rfl));obtain⟨W,⟨m0,w0⟩,turn⟩:=q s2.heap.objs.size (I2.hok.fresh (Ur _));have fin:∀b∈fp,∃o,s2.heap.get? b=some o:=fun b hb=>let⟨o,e,_⟩:=T.obj 0 _ Hd b hb;⟨o,e⟩
 have Lq:∀{H':Hp},(∀b∈fp,H' b=none)->∀b∈fp,tZ (cw X scope N HH.objs.size s2 H2 fp (X.pn++pi)) [] H' b:=fun{H'} hn b hb=>by
  obtain⟨f0,f1,ff,f3,f4,f5⟩:=f2 b hb;refine⟨hn b hb,?_,fun z=>?_,.inl hb,fun x c e=>f4 x c (lh I2.ok hf e),fun p hp=>?_⟩
  ·intro z;have z:b=HH.objs.size:=z;obtain⟨o,ho⟩:=fin b hb;exact ND b o ho z
  ·exact(Ux.mp (I2.stkSub b z)).elim f1 ff
  ·have hp:p∈X.pn++pi:=by
    have:p∈(X.pn++pi)++[]:=hp
    rwa [Vd]at this
   exact f5 p hp
 have loop:∀s₃:Shared,s₃={s2 with heap:=h₁,toks:=s2.toks+([]:List (Str×Value)).length}->
   codeAny (model X.prog X.w) X.A (.compLoop (.ListComp elt [⟨tg,iter,ifs,0⟩] scope pos) 0 (.ref it) (.ref s2.heap.objs.size) (compEnvC scope (clOf scope X.env) HH.objs.size X.env)) (RR (.ref s2.heap.objs.size) HH.objs.size) s₃:=by
  rintro s₃ rfl;refine uN (fun n s'=>∃i σ' H',Inv (cw X scope N HH.objs.size s2 H2 fp (X.pn++pi)) [] σ' H' s'/\tn i s'.heap/\(∀b∈fp,H' b=none)/\W i n σ' H') ?_ m0
   ⟨0,_,_,I2.block hf hk HP IT f2 fin rfl hC old NF hns₁,T.keep 0 _ _ Hd fun b _ o e=>old b o e,fun b hb=>?_,w0⟩
  ·rintro n s3 ⟨i,σ3,H3,I3,Hy,OR,w3⟩;rcases turn i n σ3 H3 w3 with⟨stop,qn⟩|⟨go,step⟩
   ·refine Hk (T.done (cw X scope N HH.objs.size s2 H2 fp (X.pn++pi)) rfl rfl rfl hc i [] s3 σ3 H3 NC I3 (Lq OR) Hy stop) fun r s4 Hm=>?_
    obtain⟨hr,I4⟩:=Hm;subst hr;exact hRR _ _ σ3 H3 s4 Qs I4 qn
   ·refine Hk (T.item (cw X scope N HH.objs.size s2 H2 fp (X.pn++pi)) rfl rfl rfl hc i [] s3 σ3 H3 NC I3 (Lq OR) Hy go) fun r s4 Hm=>?_
    obtain⟨u,hr,h4⟩:=Hm;subst hr;refine Hk h4 fun _ s5 Hm=>?_
    obtain⟨x,H5,I5,r5,y5,JM,R9⟩:=Hm;have Sa:=I5.pinned (Lq R9) (T.obj _ _ JM);refine Hk (hg _ _ _ _ _ _ s5 σ3 H5 x u _ Sa r5 (step x H5 y5)) fun _ s6 Hm=>?_
    obtain⟨σ6,H6,I6,q6⟩:=Hm;refine Hk (ht _ _ _ _ _ _ s6 σ6 H6 _ I6 q6) fun ok s7 Hm=>?_
    obtain⟨H7,I7,q7⟩:=Hm;have again:∀{H8:Hp}{s8:Shared},Inv (cw X scope N HH.objs.size s2 H2 fp (X.pn++pi)) ([]++oM fp s5.heap) σ6 H8 s8->(∃m',m'<n/\W (i+1) m' σ6 H8)->
      ∃m,m<n/\∃i σ' H',Inv (cw X scope N HH.objs.size s2 H2 fp (X.pn++pi)) [] σ' H' s8/\tn i s8.heap/\(∀b∈fp,H' b=none)/\W i m σ' H':=fun{H8 s8} I8 ⟨m',hm,w8⟩=>by
     refine⟨m',hm,i+1,σ6,H8,I8.unpinned,T.keep _ _ _ JM fun b hb o e=>(I8.pin (b,o) (Us _ (Us _ (iA hb e)))).1,fun b hb=>?_,w8⟩;obtain⟨o,e,d⟩:=T.obj _ _ JM b hb;exact(I8.pin (b,o) (Us _ (Us _ (iA hb e)))).2.1
    cases ok with
    |false=>exact again I7 q7
    |true=>
     show wpAny _ _ _ _ _ _;refine Hk (he _ _ _ _ _ _ s7 σ6 H7 _ I7 q7) fun x8 s8 Hm=>?_
     obtain⟨v8,H8,I8,r8,ys,Si,HN,q8⟩:=Hm;refine Hk (oX _ s8 σ6 H8 (.ref s2.heap.objs.size) [v8] (.ref s2.heap.objs.size) [x8] (fun _ H9=>∃m',m'<n/\W (i+1) m' σ6 H9) I8 rfl (.cons r8 .nil) ⟨_,ys,v8,rfl,rfl,Si,HN,q8⟩) fun _ s9 Hm=>?_
     obtain⟨_,H9,I9,_,q9⟩:=Hm;exact again I9 q9
  ·rw[aS (fun z=>by
    obtain⟨o,ho⟩:=fin b hb;exact absurd z (UK (Uu ho)))]
   exact(f2 b hb).1
 exact codeAny_compStart_list (loop _ rfl) (T.self _ 0 _ _ _ (T.keep 0 _ _ Hd fun b _ o e=>old b o e) (loop _ rfl))
theorem zu(ix:List (Option Nat))(N:List Str)(hc:X.calm=true)(hi:PI X tg iter wi)(hg:∀C s H fp pn,PG (cw X scope N C s H fp pn) tg g)(ht:∀C s H fp pn,P4 (cw X scope N C s H fp pn) ifs tc)(he:∀C s H fp pn,PE (cw X scope N C s H fp pn) elt te)
  (hf:jq scope X.env=true:=by rfl) (hk:scope.kind=.function:=by rfl) (HP:∀y∈scope.names,y.2≠.cell:=by decide +kernel) (IU:∀y∈scope.names,y.2=.local->scope.names.lookup y.1=some .local:=by decide +kernel) (IT:yr X scope N ix=true:=by rfl)
  (hs:∀x,foldedSetIterable iter X.env x=pure x:=by intro _;rfl):PE X (.ListComp elt [⟨tg,iter,ifs,0⟩] scope pos) (zp wi ix g tc te):=by
 intro pi s σ H Q I h;rw[eval_ListComp];have MJ:closureFor scope X.env=pure (clOf scope X.env):=by
  unfold closureFor clOf;have:=iC X.env scope.names [] (nu I.ok hf);simpa using this
 refine Xy (use:=none) rfl hs MJ hk IU (Hk (hi pi s σ H _ I h) fun v s1 h1=>Hk h1 fun Rx s2 h2=>?_);obtain⟨it,fp,tn,J,H2,e,I2,T,Hd,f2,q⟩:=h2;subst e;refine mM (RR:=fun acc C=>compPost (model X.prog X.w) X.A X.xe none (EP X pi σ Q) acc C) (Q:=Q) (iter:=iter) hc I2 T Hd f2 hg ht he hf hk HP IT q fun D C σ1 H1 s1 hC J1 q1=>?_
 obtain⟨m,ns,_⟩:=J1.loc;exact⟨m,ns,fun h' Sj=>⟨.ref D,H1,I2.unblock f2 hC J1 Sj,rfl,q1⟩⟩
end
section
variable{X:Cx}{scope:Scope}{N:List Str}{ix:List (Option Nat)}{tg iter elt:Expr}{ifs:List Expr}{pos:Pos}{wi:TI}{g:TG}{tc:TT}{te:TE}
theorem zv{i:Nat}{y:Str}{py MK:Pos}(ix:List (Option Nat))(N:List Str)(hN:X.N.Nodup)(Sk:X.N[i]?=some y)(hy:Loc X.env.scope y)(hc:X.calm=true)(hi:PI X tg iter wi)(hg:∀C s H fp pn,PG (cw X scope N C s H fp pn) tg g)(ht:∀C s H fp pn,P4 (cw X scope N C s H fp pn) ifs tc)
  (he:∀C s H fp pn,PE (cw X scope N C s H fp pn) elt te) (Sl:swapsWith (.ListComp elt [⟨tg,iter,ifs,0⟩] scope pos) (some (.Name y py)) MK.line X.env=pure true:=by rfl)
  (hf:jq scope X.env=true:=by rfl) (hk:scope.kind=.function:=by rfl) (HP:∀y∈scope.names,y.2≠.cell:=by decide +kernel) (IU:∀y∈scope.names,y.2=.local->scope.names.lookup y.1=some .local:=by decide +kernel) (IT:yr X scope N ix=true:=by rfl)
  (hs:∀x,foldedSetIterable iter X.env x=pure x:=by intro _;rfl) (Nv:X.fn y=true\/X.env.scope.names.lookup y=some .local:=by first|exact .inl rfl|exact .inr rfl):
  PS X (.Assign [.Name y py] (.ListComp elt [⟨tg,iter,ifs,0⟩] scope pos) MK) (fun D σ H=>zp wi ix g tc te σ H fun v H'=>D.nx (σ.set i (some v)) H'):=by
 intro pi s σ H Dd I h;rw[exec_Assign_Name_used _ _ _ _ Sl];have MJ:closureFor scope X.env=pure (clOf scope X.env):=by
  unfold closureFor clOf;have:=iC X.env scope.names [] (nu I.ok hf);simpa using this
 refine Uk (YH (Uk ?_));show wpAny _ X.A (do let _ <-comprehension (.ListComp elt [⟨tg,iter,ifs,0⟩] scope pos) scope X.env _ (newList []) false (eval iter X.env) (some (assign (.Name y py) X.env))) _ _ s;refine Uk (Vc (Xy (use:=some (assign (.Name y py) X.env)) (Q:=fun _ s'=>SP X pi Dd .next s') rfl hs MJ hk IU
  (Hk (hi pi s σ H _ I h) fun v s1 h1=>Hk h1 fun Rx s2 h2=>?_)) (fun _ s' hq=>Ul (Ul hq)) fun _ _ e=>e)
 obtain⟨it,fp,tn,J,H2,e,I2,T,Hd,f2,q⟩:=h2;subst e;refine mM (RR:=fun acc C=>compPost (model X.prog X.w) X.A X.xe (some (assign (.Name y py) X.env)) (fun _ s'=>SP X pi Dd .next s') acc C) (Q:=fun v H'=>Dd.nx (σ.set i (some v)) H') (iter:=iter) hc I2 T Hd f2 hg ht he hf hk HP IT q fun D C σ1 H1 s1 hC J1 q1=>?_
 obtain⟨m,ns,_⟩:=id J1.loc;have ns:s1.heap.Ns C m:=ns;have I3:Inv X pi σ H1 s1:=I2.unblock f2 hC J1 (.refl ..);show wpAny _ X.A (assign (.Name y py) X.env (.ref D)) _ _ s1;refine wpAny_assign_Name (oK I3 hN Sk hy (v:=.ref D) rfl (fun s4 I4 ⟨a,sb,ha⟩=>?_) Nv);have aC:C≠a:=by
  intro z;rcases ha with ha|ha
  ·exact UK (UB I2.lt hC) (ha▸z.symm)
  ·obtain⟨v,o,ho,_⟩:=I2.cell y a ha;exact UK (UB (Uu ho) hC) z.symm
 refine⟨m,ns.sameBut sb aC,fun h' Sj=>?_⟩;have jf:H1 C=none:=J1.free;have kk:∀b o,b≠C->s4.heap.get? b=some o->h'.get? b=some o:=fun b o hb e=>(Sj.2 b hb).trans e
 refine⟨σ.set i (some (.ref D)),H1,?_,q1⟩;have z:=I4.turned (t':=s4.toks) kk jf (fun z=>UK (UB I2.lt hC) z.symm) (.inr (Vh I2.sz hC)) (fun x c e z=>by
  obtain⟨v,o,ho,_⟩:=I2.cell x c e;exact UK (UB (Uu ho) hC) z) (fun p hp z=>UK (UB (Uu (I2.pin p hp).1) hC) z)
 exact z
end
def Itv(val:Nat->V)(n:Nat):It:=⟨fun i _=>i<n,fun i H x H'=>H'=H/\x=val i,fun i _=>i=n⟩
theorem rg{P:Program}{w:World}{K:W.Frag}{tg:Expr}(ty:String)(MF:["enumerate","zip","dict_itemiterator","dict_reverseitemiterator","odict_iterator","itertools.zip_longest","itertools.pairwise"].contains ty=false)(l:List Nat)(t:Tok)(it:Addr)
  (Wk:∀A:Around,A.handled=none->Walks P w A it [it] [it] (S l).cps.size (SignAt (S l)) (fun i h=>h.IsStrIter it ty (S l) t i))
  (self:∀(A:Around) (i:Nat) (s:Shared) (Q:Value->Shared->Prop) (E:Value->Shared->Prop),s.heap.IsStrIter it ty (S l) t i->Q (.ref it) s->wpAny (model P w) A (pyIter (.ref it)) Q E s):
  Turn P w K tg (Itv (fun i=>.str (S [l.getD i 0])) l.length) [it] it (fun i h=>h.IsStrIter it ty (S l) t i) where
 mem:=by simp
 obj:=fun i h st b hb=>by
  have e:b=it:=by simpa using hb
  subst e;obtain⟨o,e,c,d⟩:=st;exact⟨o,e,fun v z=>by rw[d]at z;cases z⟩
 keep:=fun i h h' st k=>by
  obtain⟨o,e,r⟩:=st;exact⟨o,k it (by simp) o e,r⟩
 item:=by
  intro X hP hw hK hc i pi s σ H E I hf st hg;subst hP hw hK;obtain⟨f0,f1,f2,f3,f4,f5⟩:=hf it (by simp);have hg:i<l.length:=hg;refine(Wk X.A (I.ok.hd hc)).item i s _ _ (by simpa[S] using hg) st fun v h' tk hv Jr kk=>?_
  obtain⟨c,u,JR,rfl⟩:=hv;have I1:Inv X pi σ H {s with heap:=h',toks:=tk}:=I.turned (fun b o hb e=>kk b o (by simpa using hb) e) f0 f1 f3 f4 f5;obtain⟨o,e,cc,d⟩:=id Jr;have L0:l.getD i 0=c:=by
   have:l[i]?=some c:=by simpa[S] using JR
   rw[List.getD_eq_getElem?_getD,this];rfl
  refine⟨_,rfl,w9 (s:={s with heap:=h',toks:=tk}) e cc d MF ⟨.str (S [l.getD i 0]),H,I1,⟨u,?_⟩,⟨rfl,rfl⟩,Jr,fun b hb=>(hf b hb).1⟩⟩;rw[L0]
 done:=by
  intro X hP hw hK hc i pi s σ H E I hf st hg;subst hP hw hK;obtain⟨f0,f1,f2,f3,f4,f5⟩:=hf it (by simp);have hg:i=l.length:=hg;have hn:(S l).cps.size=i:=by rw[hg];simp[S]
  refine(Wk X.A (I.ok.hd hc)).done s _ _ (by rw[hn];exact st) fun h' tk kk=>⟨rfl,I.turned (fun b o hb e=>kk b o (by simpa using hb) e) f0 f1 f3 f4 f5⟩
 self:=self
def Gk(tl:TE):TI:=fun σ H R=>tl σ H fun x H1=>∃l,x=.str (S l)/\R (Itv (fun i=>.str (S [l.getD i 0])) l.length) H1
section
variable{X:Cx}{tg:Expr}
theorem Cd{l:Expr}{tl:TE}(hl:PE X l tl):PI X tg l (Gk tl):=by
 intro pi s σ H R I h;refine Hk (hl pi s σ H _ I h) fun v s1 Hm=>?_
 obtain⟨x,H1,I1,r1,l,e,q⟩:=Hm;subst e;obtain⟨t,rfl⟩:=r1;cases ha:(S l).cps.all (·< 128)
 ·refine wpAny_pyIter_wide ha ?_;refine⟨s1.heap.objs.size,[s1.heap.objs.size],_,_,H1,rfl,I1.kept (t':=s1.toks) fun b o e=>Heap.get?_push_of_some _ e,
   rg "str_iterator" (by decide) l t _ (fun A hA=>Walks.strWide hA _ _ _) (fun _ _ _ _ _ st h=>wpAny_pyIter_striter_wide st h),⟨_,Heap.get?_push_size _ rfl,rfl,rfl⟩,fun b hb=>?_,q⟩
  have e:b=s1.heap.objs.size:=by simpa using hb
  subst e;exact I1.fpOk (Ur _) (I1.hok.fresh (Ur _))
 ·refine wpAny_pyIter_ascii ha ?_;refine⟨s1.heap.objs.size,[s1.heap.objs.size],_,_,H1,rfl,I1.kept (t':=s1.toks) fun b o e=>Heap.get?_push_of_some _ e,
   rg "str_ascii_iterator" (by decide) l t _ (fun A hA=>Walks.strAscii hA _ _ _) (fun _ _ _ _ _ st h=>wpAny_pyIter_striter_ascii st h),⟨_,Heap.get?_push_size _ rfl,rfl,rfl⟩,fun b hb=>?_,q⟩
  have e:b=s1.heap.objs.size:=by simpa using hb
  subst e;exact I1.fpOk (Ur _) (I1.hok.fresh (Ur _))
theorem gc{pi:List (Addr×Obj)}{s:Shared}{σ:L2.St}{H:Hp}{p:Addr}{xs:List V}{E:Value->Shared->Prop}{R:Value->Shared->Prop}(hc:X.calm=true)(I:Inv X pi σ H s)(h:SqL X.K H p xs\/SqT X.K H p xs)
  (k:∀(it:Addr) (fp:List Addr) (o:Obj) (us:List Value) (Sx:Nat->Heap->Prop),Vals xs us->Walks X.prog X.w X.A.in1 it fp [it] us.length (fun i v=>us[i]?=some v) Sx->Sx 0 (s.heap.push o)->(∀b∈fp,b<(s.heap.push o).objs.size)->it=s.heap.objs.size->R (.ref it) {s with heap:=s.heap.push o}):
  wpAny (model X.prog X.w) X.A.in1 (pyIter (.ref p)) R E s:=by
 have hh:X.A.in1.handled=none:=I.ok.hd hc;rcases h with h|h
 ·obtain⟨us,r,pl,hz⟩:=I.list h;have HN:p<s.heap.objs.size:=by obtain⟨o,ho,_⟩:=pl.isList;exact Uu ho
  refine We pl.isList (k s.heap.objs.size [s.heap.objs.size,p] _ us (fun i h=>h.IsListIter s.heap.objs.size p i/\h.IsList p us.toArray) r (by
   have W:=Walks.list (prog:=X.prog) (w:=X.w) hh s.heap.objs.size p (UK HN) us.toArray;simpa using W) ⟨⟨_,Heap.get?_push_size _ rfl,rfl,rfl⟩,pl.isList.at fun o e=>Heap.get?_push_of_some _ e⟩ (fun b hb=>?_) rfl)
  rw[Ws];rcases Ux.mp hb with rfl|hb
  ·exact Wr _
  ·rw[UJ]at hb;rw[hb];exact Xz HN
 ·obtain⟨us,r,pl,hz⟩:=I.tuple h;have OV:s.heap.IsTuple p us.toArray:=pl;have HN:p<s.heap.objs.size:=by obtain⟨o,ho,_⟩:=pl;exact Uu ho
  refine V9 OV (k s.heap.objs.size [s.heap.objs.size,p] _ us (fun i h=>h.IsTupleIter s.heap.objs.size p i/\h.IsTuple p us.toArray) r (by
   have W:=Walks.tuple (prog:=X.prog) (w:=X.w) hh s.heap.objs.size p (UK HN) us.toArray;simpa using W) ⟨⟨_,Heap.get?_push_size _ rfl,rfl,rfl⟩,OV.at fun o e=>Heap.get?_push_of_some _ e⟩ (fun b hb=>?_) rfl)
  rw[Ws];rcases Ux.mp hb with rfl|hb
  ·exact Wr _
  ·rw[UJ]at hb;rw[hb];exact Xz HN
theorem dQ{pi:List (Addr×Obj)}{s:Shared}{σ:L2.St}{H:Hp}{o:Obj}{h':Heap}{tk:Nat}(I:Inv X pi σ H s)(kk:∀b ob,b∉[s.heap.objs.size]->(s.heap.push o).get? b=some ob->h'.get? b=some ob):
  Inv X pi σ H {s with heap:=h',toks:=tk}:=I.kept fun b ob e=>kk b ob (fun z=>UK (Uu e) (by simpa using z)) (Heap.get?_push_of_some _ e)
theorem bA{α:Type}(l:List α)(i:Nat)(d:α)(h:i<l.length):l.getD i d=l[i]:=by
 rw[List.getD_eq_getElem?_getD,List.getElem?_eq_getElem h];rfl
def yt:V->Bool
 | .bl b=>b
 |_=>false
def D9:V->Bool
 | .bl _=>true
 |_=>false
theorem rh{xs:List V}{us:List Value}(r:Vals xs us)(hb:xs.all D9=true):TruthOf X.prog X.w X.A.in1 (fun i v=>us[i]?=some v) (fun i=>yt (xs.getD i .non)):=by
 intro i v s Q E hv q;have hl:=r.length;obtain⟨hi,_⟩:=List.getElem?_eq_some_iff.mp hv;have e1:xs[i]?=some (xs[i]'(by lia)):=List.getElem?_eq_getElem _;obtain⟨u,hu,ru⟩:=r.get e1;rw[hv]at hu;cases hu;have q:Q (yt (xs.getD i .non)) s:=q;rw[getD_of e1]at q;have bl:=UE.mp hb _ (Uw e1);generalize xs[i]'(by lia)=x at ru q bl;cases x <;> first|(exact absurd (show false=true from bl) Up)|skip
 cases ru;exact Vy q
theorem uP{xs:List V}(f:V->Bool):(List.range xs.length).all (fun i=>f (xs.getD i .non))=xs.all f:=by
 rw[UP,UE,UE];constructor
 ·intro h x hx;obtain⟨i,hi,rfl⟩:=Xi hx;have:=h i (UR.mpr hi)
  rwa [bA _ _ _ hi]at this
 ·intro h i hi;have hi:=UR.mp hi;rw[bA _ _ _ hi];exact h _ (Vt hi)
theorem uQ{xs:List V}(f:V->Bool):(List.range xs.length).any (fun i=>f (xs.getD i .non))=xs.any f:=by
 rw[UP,U8,U8];constructor
 ·rintro⟨i,hi,h⟩;have hi:=UR.mp hi;rw[bA _ _ _ hi]at h;exact⟨_,Vt hi,h⟩
 ·rintro⟨x,hx,h⟩;obtain⟨i,hi,rfl⟩:=Xi hx;refine⟨i,UR.mpr hi,?_⟩;rw[bA _ _ _ hi];exact h
theorem xi(hc:X.calm=true):cX X (.builtin "all") (fun vs H Q=>∃p xs,vs=[.ref p]/\(SqL X.K H p xs\/SqT X.K H p xs)/\xs.all D9=true/\Q (.bl (xs.all yt)) H):=by
 intro pi s σ H vs us Q I r h;obtain⟨p,xs,rfl,hp,hb,q⟩:=h;obtain⟨u,rfl,r1⟩:=eF r;cases r1;refine call_all_walk (gc hc I hp fun it fp o ws Sx rv W st hf hit=>⟨it,fp,[it],_,_,Sx,_,rfl,W,st,rh rv hb,fun h' tk kk=>?_⟩);subst hit;refine⟨.bl (xs.all yt),H,dQ (s:=s) I kk,?_,q⟩;rw[<-rv.length,uP];rfl
theorem xj(hc:X.calm=true):cX X (.builtin "any") (fun vs H Q=>∃p xs,vs=[.ref p]/\(SqL X.K H p xs\/SqT X.K H p xs)/\xs.all D9=true/\Q (.bl (xs.any yt)) H):=by
 intro pi s σ H vs us Q I r h;obtain⟨p,xs,rfl,hp,hb,q⟩:=h;obtain⟨u,rfl,r1⟩:=eF r;cases r1;refine call_any_walk (gc hc I hp fun it fp o ws Sx rv W st hf hit=>⟨it,fp,[it],_,_,Sx,_,rfl,W,st,rh rv hb,fun h' tk kk=>?_⟩);subst hit;refine⟨.bl (xs.any yt),H,dQ (s:=s) I kk,?_,q⟩;rw[<-rv.length,uQ];rfl
theorem eG{ns:List Int}{us:List Value}(r:Vals (ns.map V.int) us){i:Nat}{v:Value}(h:us[i]?=some v):∃t,v=.int (ns.getD i 0) t:=by
 have hl:=r.length;rw[Um]at hl;obtain⟨hi,_⟩:=List.getElem?_eq_some_iff.mp h;have e1:(ns.map V.int)[i]?=some (.int (ns.getD i 0)):=by
  rw[List.getElem?_map,List.getElem?_eq_getElem (by lia),bA _ _ _ (by lia)];rfl
 obtain⟨u,hu,t,rfl⟩:=r.get e1;rw[h]at hu;exact⟨t,UU hu⟩
theorem rj{ns:List Int}{us:List Value}(r:Vals (ns.map V.int) us)(A:Around):CmpOf X.prog X.w A .Gt (fun i v=>us[i]?=some v) (fun i j=>decide (ns.getD j 0<ns.getD i 0)):=by
 intro i j vi vj s Q E hi hj q;obtain⟨t,rfl⟩:=eG r hi;obtain⟨t',rfl⟩:=eG r hj;exact gt_int q
theorem o6{ns:List Int}{us:List Value}(r:Vals (ns.map V.int) us)(A:Around):CmpOf X.prog X.w A .Lt (fun i v=>us[i]?=some v) (fun i j=>decide (ns.getD i 0<ns.getD j 0)):=by
 intro i j vi vj s Q E hi hj q;obtain⟨t,rfl⟩:=eG r hi;obtain⟨t',rfl⟩:=eG r hj;exact lt_int q
def fO(ns:List Int):Int:=ns.foldl max (ns.headD 0)
def uR(ns:List Int):Int:=ns.foldl min (ns.headD 0)
theorem ny(ns:List Int):∀k,k<ns.length->argBest (fun i j=>decide (ns.getD j 0<ns.getD i 0)) k<ns.length/\ns.getD (argBest (fun i j=>decide (ns.getD j 0<ns.getD i 0)) k) 0=(ns.take (k+1)).foldl max (ns.headD 0)
 | 0,h=>by
  refine⟨h,?_⟩;cases ns with
  |nil=>cases h
  |cons a l=>show a=max a a;lia
 |k+1,h=>by
  obtain⟨Sm,Sn⟩:=ny ns k (by lia);have et:ns.take (k+1+1)=ns.take (k+1)++[ns.getD (k+1) 0]:=by
   rw[Vf,List.getElem?_eq_getElem h,bA _ _ _ h];rfl
  rw[et,XA,<-Sn];show(if decide (ns.getD (argBest (fun i j=>decide (ns.getD j 0<ns.getD i 0)) k) 0<ns.getD (k+1) 0)=true then k+1 else argBest (fun i j=>decide (ns.getD j 0<ns.getD i 0)) k)<ns.length/\
   ns.getD (if decide (ns.getD (argBest (fun i j=>decide (ns.getD j 0<ns.getD i 0)) k) 0<ns.getD (k+1) 0)=true then k+1 else argBest (fun i j=>decide (ns.getD j 0<ns.getD i 0)) k) 0=max _ _
  split
  ·rename_i hd;have:=VA hd;exact⟨h,by lia⟩
  ·rename_i hd;rw[UL]at hd;exact⟨Sm,by lia⟩
theorem nE(ns:List Int):∀k,k<ns.length->argBest (fun i j=>decide (ns.getD i 0<ns.getD j 0)) k<ns.length/\ns.getD (argBest (fun i j=>decide (ns.getD i 0<ns.getD j 0)) k) 0=(ns.take (k+1)).foldl min (ns.headD 0)
 | 0,h=>by
  refine⟨h,?_⟩;cases ns with
  |nil=>cases h
  |cons a l=>show a=min a a;lia
 |k+1,h=>by
  obtain⟨Sm,Sn⟩:=nE ns k (by lia);have et:ns.take (k+1+1)=ns.take (k+1)++[ns.getD (k+1) 0]:=by
   rw[Vf,List.getElem?_eq_getElem h,bA _ _ _ h];rfl
  rw[et,XA,<-Sn];show(if decide (ns.getD (k+1) 0<ns.getD (argBest (fun i j=>decide (ns.getD i 0<ns.getD j 0)) k) 0)=true then k+1 else argBest (fun i j=>decide (ns.getD i 0<ns.getD j 0)) k)<ns.length/\
   ns.getD (if decide (ns.getD (k+1) 0<ns.getD (argBest (fun i j=>decide (ns.getD i 0<ns.getD j 0)) k) 0)=true then k+1 else argBest (fun i j=>decide (ns.getD i 0<ns.getD j 0)) k) 0=min _ _
  split
  ·rename_i hd;have:=VA hd;exact⟨h,by lia⟩
  ·rename_i hd;rw[UL]at hd;exact⟨Sm,by lia⟩
theorem uS(hc:X.calm=true):cX X (.builtin "max") (fun vs H Q=>∃(p:Addr) (ns:List Int),vs=[.ref p]/\(SqL X.K H p (ns.map V.int)\/SqT X.K H p (ns.map V.int))/\ns≠[]/\Q (.int (fO ns)) H):=by
 intro pi s σ H vs us Q I r h;obtain⟨p,ns,rfl,hp,Mt,q⟩:=h;obtain⟨u,rfl,r1⟩:=eF r;cases r1;have hn:0<ns.length:=by cases ns with|nil=>exact absurd rfl Mt|cons _ _=>simp
 refine call_max_walk (gc hc I hp fun it fp o ws Sx rv W st hf hit=>?_);have hl:=rv.length;rw[Um]at hl;refine⟨it,fp,[it],_,_,Sx,_,rfl,W,st,hf,by lia,rj rv _,fun v h' tk hv kk=>?_⟩;subst hit;obtain⟨b1,b2⟩:=ny ns (ns.length-1) (by lia);rw[<-hl]at hv;obtain⟨t,rfl⟩:=eG rv hv;refine⟨.int (fO ns),H,dQ (s:=s) I kk,⟨t,?_⟩,q⟩;rw[b2,show ns.length-1+1=ns.length by lia,Vl];rfl
theorem uT(hc:X.calm=true):cX X (.builtin "min") (fun vs H Q=>∃(p:Addr) (ns:List Int),vs=[.ref p]/\(SqL X.K H p (ns.map V.int)\/SqT X.K H p (ns.map V.int))/\ns≠[]/\Q (.int (uR ns)) H):=by
 intro pi s σ H vs us Q I r h;obtain⟨p,ns,rfl,hp,Mt,q⟩:=h;obtain⟨u,rfl,r1⟩:=eF r;cases r1;have hn:0<ns.length:=by cases ns with|nil=>exact absurd rfl Mt|cons _ _=>simp
 refine call_min_walk (gc hc I hp fun it fp o ws Sx rv W st hf hit=>?_);have hl:=rv.length;rw[Um]at hl;refine⟨it,fp,[it],_,_,Sx,_,rfl,W,st,hf,by lia,o6 rv _,fun v h' tk hv kk=>?_⟩;subst hit;obtain⟨b1,b2⟩:=nE ns (ns.length-1) (by lia);rw[<-hl]at hv;obtain⟨t,rfl⟩:=eG rv hv;refine⟨.int (uR ns),H,dQ (s:=s) I kk,⟨t,?_⟩,q⟩;rw[b2,show ns.length-1+1=ns.length by lia,Vl];rfl
theorem o7(ns:List Int):∀k,k<=ns.length->preSum (fun i=>ns.getD i 0) k=(ns.take k).sum
 | 0,_=>by simp[preSum]
 |k+1,h=>by
  have et:ns.take (k+1)=ns.take k++[ns.getD k 0]:=by
   rw[Vf,List.getElem?_eq_getElem (by lia),bA _ _ _ (by lia)];rfl
  rw[et,List.sum_append,<-o7 ns k (by lia)];simp[preSum]
theorem uU(hc:X.calm=true):cX X (.builtin "sum") (fun vs H Q=>∃(p:Addr) (ns:List Int),vs=[.ref p]/\(SqL X.K H p (ns.map V.int)\/SqT X.K H p (ns.map V.int))/\Q (.int ns.sum) H):=by
 intro pi s σ H vs us Q I r h;obtain⟨p,ns,rfl,hp,q⟩:=h;obtain⟨u,rfl,r1⟩:=eF r;cases r1;refine call_sum_walkG (gc hc I hp fun it fp o ws Sx rv W st hf hit=>?_);have hl:=rv.length;rw[Um]at hl;refine⟨it,fp,[it],_,_,Sx,fun i=>ns.getD i 0,rfl,W,st,hf,fun i v hv=>eG rv hv,fun h' tk t' kk=>?_⟩;subst hit;refine⟨.int ns.sum,H,dQ (s:=s) I kk,⟨t',?_⟩,q⟩;rw[<-hl,o7 ns _ (Ur _),Vl]
end
section
variable{prog:Program}{w:World}{A:Around}{R:Result->Shared->Prop}{it:Addr}{fp wr:List Addr}{n:Nat}{Pv:Nat->Value->Prop}{Sx:Nat->Heap->Prop}{kw:List (Str×Value)}
theorem nF:(toString "max"++toString ".loop" : String) = "max.loop":=by decide
theorem EH(Wk:Walks prog w A.in1 it fp wr n Pv Sx)(bt:Nat->Nat->Bool)(cm:CmpOf prog w A.in1 .Gt Pv bt)(T:Addr)(nT:T∉fp):∀(k j:Nat) (s:Shared) (vb:Value) (c:Nat),n-(j+1)=k->j+1<=n->Sx (j+1) s.heap->Pv (argBest bt j) vb->
   s.heap.get? T=some {cls:=.type "list",dict:=none,data:=.seq #[vb,vb] c,slots:=#[]}->
   (∀v h' tk,Pv (argBest bt (n-1)) v->(∀b o,b∉wr->b≠T->s.heap.get? b=some o->h'.get? b=some o)->R (.ok (.ret v)) {s with heap:=h',toks:=tk})->codeAny (model prog w) A (.builtin "max.loop" ⟨[.ref it,.none,.ref T],kw⟩) R s:=by
 have NG:T∉wr:=fun z=>nT (Wk.sub _ z)
 intro k;induction k with
 |zero=>
  intro j s vb c hk hj st hp hT fin;have ej:j+1=n:=by lia
  refine Wf XT ?_;rw[VW V7 _];show wpAny _ A.in1 (seqItems? (.ref T) >>= _) _ _ s;refine Uk (Vg hT rfl ?_);show wpAny _ A.in1 (tryCatch (pyNext (.ref it)) _ >>= _) _ _ s;refine Uk (VP (Wk.done s _ _ (ej▸st) fun h' tk kk=>?_));have KW:=kk T _ NG hT;show wpAny _ A.in1 (updateSeq T (fun _=>#[]) >>= _) _ _ _;refine Uk (Wz KW rfl (Uk (V2 (Ul ?_))));exact fin vb _ tk (by rw[<-ej];exact hp) fun b o bw bT e=>(Heap.get?_update_other _ _ (VB bT)).trans (kk b o bw e)
 |succ k ih=>
  intro j s vb c hk hj st hp hT fin;have jn:j+1<n:=by lia
  refine Wf XT ?_;rw[VW V7 _];show wpAny _ A.in1 (seqItems? (.ref T) >>= _) _ _ s;refine Uk (Vg hT rfl ?_);show wpAny _ A.in1 (tryCatch (pyNext (.ref it)) _ >>= _) _ _ s;refine Uk (VP (Wk.item (j+1) s _ _ jn st fun v h' tk pv Jr kk=>?_));have KW:=kk T _ NG hT;show wpAny _ A.in1 (tryCatch (holding [v,v] (richCompare .Gt v vb >>= _)) _ >>= _) _ _ _;refine Uk (VP (VO (Uk (cm (j+1) (argBest bt j) v vb _ _ _ pv hp (Uk (VO (Vy (Uk (V2 (Ul ?_))))))))));cases eb:bt (j+1) (argBest bt j) with
  |true=>
   rw[Ut rfl];refine Uk (Wz KW rfl (Uk (V2 ?_)));rw[nF];refine Ul ⟨Wm V7 _,ih (j+1) _ v _ (by lia) jn (Wk.frame _ _ _ Jr fun b bf o e=>?_) (by simp only[argBest,eb,WN];exact pv) (Heap.get?_update_self _ KW rfl) fun v2 h2 t2 p2 k2=>?_⟩
   ·exact(Heap.get?_update_other _ _ (fun z:T=b=>nT (by rw[z];exact bf))).trans e
   ·exact fin v2 h2 t2 p2 fun b o bw bT e=>k2 b o bw bT ((Heap.get?_update_other _ _ (VB bT)).trans (kk b o bw e))
  |false=>
   rw[UD Up];refine Uk (V2 ?_);rw[nF];refine Ul ⟨Wm V7 _,ih (j+1) _ vb c (by lia) jn Jr (by simp only[argBest,eb,VE,W4];exact hp) KW fun v2 h2 t2 p2 k2=>?_⟩;exact fin v2 h2 t2 p2 fun b o bw bT e=>k2 b o bw bT (kk b o bw e)
theorem xk(Wk:Walks prog w A.in1 it fp wr n Pv Sx)(bt:Nat->Nat->Bool)(cm:CmpOf prog w A.in1 .Gt Pv bt)(T:Addr)(nT:T∉fp){s:Shared}{c:Nat}{d:Value}(So:kw=[(Str.ofString "default",d)])(st:Sx 0 s.heap)
  (hT:s.heap.get? T=some {cls:=.type "list",dict:=none,data:=.seq #[] c,slots:=#[]}) (fin:∀v h' tk,(if n=0 then v=d else Pv (argBest bt (n-1)) v)->(∀b o,b∉wr->b≠T->s.heap.get? b=some o->h'.get? b=some o)->R (.ok (.ret v)) {s with heap:=h',toks:=tk}):
  codeAny (model prog w) A (.builtin "max.loop" ⟨[.ref it,.none,.ref T],kw⟩) R s:=by
 have NG:T∉wr:=fun z=>nT (Wk.sub _ z)
 refine Wf XT ?_;rw[VW V7 _];show wpAny _ A.in1 (seqItems? (.ref T) >>= _) _ _ s;refine Uk (Vg hT rfl ?_);show wpAny _ A.in1 (tryCatch (pyNext (.ref it)) _ >>= _) _ _ s;by_cases hn:n=0
 ·refine Uk (VP (Wk.done s _ _ (by rw[hn];exact st) fun h' tk kk=>?_));subst So;refine Uk (XB (Ul ?_));exact fin d _ tk (by rw[Ut hn]) fun b o bw bT e=>kk b o bw e
 ·refine Uk (VP (Wk.item 0 s _ _ (by lia) st fun v h' tk pv Jr kk=>?_));have KW:=kk T _ NG hT;show wpAny _ A.in1 (updateSeq T (fun _=>#[v,v]) >>= _) _ _ _;refine Uk (Wz KW rfl ?_);rw[nF];refine Ul ⟨Wm V7 _,EH Wk bt cm T nT _ 0 _ v _ rfl (by lia) (Wk.frame _ _ _ Jr fun b bf o e=>?_) pv (Heap.get?_update_self _ KW rfl) fun v2 h2 t2 p2 k2=>?_⟩
  ·exact(Heap.get?_update_other _ _ (fun z:T=b=>nT (by rw[z];exact bf))).trans e
  ·exact fin v2 h2 t2 (by rw[UD hn];exact p2) fun b o bw bT e=>k2 b o bw bT ((Heap.get?_update_other _ _ (VB bT)).trans (kk b o bw e))
end
theorem tree_kw{prog:Program}{w:World}{A:Around}{E:Value->Shared->Prop}{s:Shared}{id:String}{bf:Builtin}{args:List Value}{kw:List (Str×Value)}{Q:Value->Shared->Prop}(hk:builtinKind id=none)(hp:plainId id=true)
  (hb:entryFor table id=some bf) (ha:argsOk id ⟨args,kw⟩)
  (hc:wpAny (model prog w) A.in1 (bf ⟨args,kw⟩) (fun fin s'=>match fin with
   | .done f=>(match(Except.ok f:Result) with | .ok (.ret v)=>Q v s' | .ok _=>False | .error e=>E e s')
   | .again c'=>c'.quiet=true/\codeAny (model prog w) A c' (fun r s'=>match r with | .ok (.ret v)=>Q v s' | .ok _=>False | .error e=>E e s') s') E s):wpAny (model prog w) A (call (.builtin id) args kw) Q E s:=by
 refine wpAny_call (W9 hp hb ?_);simp only[checkBuiltinCall,hk];cases hsig:Manifest.signature? id with
 |none=>exact Ul hc
 |some sig=>
  have NH:Bind.checkArgs id sig ⟨args,kw⟩=pure ():=by simpa only[argsOk,hsig] using ha
  simp only[NH];exact Ul hc
theorem uV(a d:Value):argsOk "max" ⟨[a],[(Str.ofString "default",d)]⟩:=by unfold argsOk;kernel_rfl
section
variable{X:Cx}{e k:Expr}{te tk:TE}{p pos Ky:Pos}
def maxD(ns:List Int)(d:Int):Int:=if ns=[] then d else fO ns
def EI(K:W.Frag)(te tk:TE):TE:=fun σ H Q=>sS te Br σ H fun vs H1=>sS tk Br σ H1 fun ks H2=>∃(a:Addr) (ns:List Int) (d:Int),vs=[.ref a]/\ks=[.int d]/\(SqL K H2 a (ns.map V.int)\/SqT K H2 a (ns.map V.int))/\Q (.int (maxD ns d)) H2
theorem zw(hc:X.calm=true)(hg:Gl X "max")(hm:X.mg "max" = none)(he:PE X e te)(hk:PE X k tk)(hs:starEach [e] X.env=[(false,eval e X.env)]:=by rfl):
  PE X (.Call (.Name "max" p) [e] [⟨some "default",k,Ky⟩] pos) (EI X.K te tk):=by
 intro pi s σ H Q I h;refine VT (kh I hg hm (by decide +kernel:bootBuiltins "max" = some (.builtin "max")) ?_ (by decide) (by decide));refine callWith_kw (Hk (cI he gU (hs:=hs) pos pi s σ H _ I h) fun us s1 ⟨vs,H1,I1,r1,q1⟩=>?_) (by rw[hs];rfl) (by rw[hs];rfl);refine Hk (uD hk ym pos pi s1 σ H1 _ I1 q1) fun ws s2 Hm=>?_
 obtain⟨ks,H2,I2,r2,a,ns,d,e1,e2,hp,q⟩:=Hm;subst e1 e2;obtain⟨u,rfl,ru⟩:=eF r1;obtain⟨w',rfl,t,rfl⟩:=eF r2;cases ru;show wpAny _ _ (call (.builtin "max") [.ref a] [(Str.ofString "default",.int d t)]) _ _ s2;refine tree_kw F.kind_max F.plain_max F.entry_max (uV _ _) ?_;show wpAny _ X.A.in1 (Builtin.Builtins.bindParams "max" ["key","default"] 0 ⟨[],[(Str.ofString "default",.int d t)]⟩ >>= _) _ _ s2;refine Uk (Yx (show Builtin.Builtins.bindParams "max" ["key","default"] 0 ⟨[],[(Str.ofString "default",.int d t)]⟩=pure [none,some (.int d t)] from rfl) ?_);refine Uk (Ul ?_);refine Uk (gc hc I2 hp fun it fp o ws Sx rv Wk st hf hit=>?_);have hl:=rv.length;rw[Um]at hl;refine Uk (Va ?_);have nT:(s2.heap.push o).objs.size∉fp:=fun z=>VN _ (hf _ z)
 rw[nF];refine Ul ⟨Wm V7 _,xk Wk _ (rj rv _) (s2.heap.push o).objs.size nT rfl (Wk.frame _ _ _ st fun b _ ob e=>Heap.get?_push_of_some _ e) (Heap.get?_push_size _ rfl) fun v h' Sq hv kk=>?_⟩;subst hit;have I3:Inv X pi σ H2 {s2 with heap:=h',toks:=Sq}:=dQ (s:=s2) (o:=o) I2 fun b ob nb e=>kk b ob nb (UK (Uu e)) (Heap.get?_push_of_some _ e)
 refine⟨.int (maxD ns d),H2,I3,?_,q⟩;unfold maxD;by_cases hn:ns=[]
 ·rw[Ut (by rw[<-hl,hn];rfl)]at hv;rw[Ut hn,hv];exact⟨t,rfl⟩
 ·have h0:0<ns.length:=Vx.mpr hn;rw[UD (by lia)]at hv;rw[UD hn];obtain⟨b1,b2⟩:=ny ns (ns.length-1) (by lia);rw[<-hl]at hv;obtain⟨t2,rfl⟩:=eG rv hv;refine⟨t2,?_⟩;rw[b2,show ns.length-1+1=ns.length by lia,Vl];rfl
end
section
variable{prog:Program}{w:World}{A:Around}{E:Value->Shared->Prop}{s:Shared}
theorem xl{it t:Addr}{i:Nat}{items:Array Value}{x:Value}{Q:Value->Shared->Prop}(hi:s.heap.IsTupleIter it t i)(ht:s.heap.IsTuple t items)(hx:items[i]?=some x)
  (k:∀h',h'.IsTupleIter it t (i+1)->Heap.SameBut it s.heap h'->Q x {s with heap:=h'}):wpAny (model prog w) A (Builtin.SmallTypes.nextOf (.ref it)) Q E s:=by
 obtain⟨o,ho,oc,od⟩:=id hi;obtain⟨q,hq,_,n,qd⟩:=ht;unfold Builtin.SmallTypes.nextOf;refine Uk (wpAny_callSpecial?_slot (name:=Str.ofString "__next__") hi.typeIs V5 (Vj V5 hi.typeIs Xj ?_ (Xe _)));show wpAny _ _ (field (.ref it) 0 >>= _) _ _ s;refine Uk (VD ho od (x:=.ref t) rfl ?_);show wpAny _ _ (if(Value.ref t==Value.none)=true then _ else _) _ _ s;rw[UD (fun z:(Value.ref t==Value.none)=true=>Up z)];show wpAny _ _ (field (.ref it) 1 >>= _) _ _ s;refine Uk (VD ho od (x:=.int i 0) rfl (Uk (Vg hq qd ?_)));simp only[U2,hx];refine Uk (Xr ho od (by simp) (Ul ⟨x,rfl,Ul (k _ ⟨_,Heap.get?_update_self _ ho (Obj.isFreed_of_fields (WO od _)),(Obj.cls_mapFields ..).trans oc,?_⟩ (WE ..))⟩));rw[WO od];simp[rawInt]
theorem zx{it t:Addr}{i:Nat}{items:Array Value}{Q:Value->Shared->Prop}(hh:A.handled=none)(hi:s.heap.IsTupleIter it t i)(ht:s.heap.IsTuple t items)(hx:items[i]?=none)
  (k:∀h' e,Heap.ExtBut it s.heap h'->(∃o,h'.get? e=some o/\o.cls=.type "StopIteration")->E (.ref e) {s with heap:=h'}):wpAny (model prog w) A (Builtin.SmallTypes.nextOf (.ref it)) Q E s:=by
 obtain⟨o,ho,oc,od⟩:=id hi;obtain⟨q,hq,_,n,qd⟩:=ht;unfold Builtin.SmallTypes.nextOf;refine Uk (wpAny_callSpecial?_slot (name:=Str.ofString "__next__") hi.typeIs V5 (Vj V5 hi.typeIs Xj ?_ (Xe _)));show wpAny _ _ (field (.ref it) 0 >>= _) _ _ s;refine Uk (VD ho od (x:=.ref t) rfl ?_);show wpAny _ _ (if(Value.ref t==Value.none)=true then _ else _) _ _ s;rw[UD (fun z:(Value.ref t==Value.none)=true=>Up z)];show wpAny _ _ (field (.ref it) 1 >>= _) _ _ s;refine Uk (VD ho od (x:=.int i 0) rfl (Uk (Vg hq qd ?_)));simp only[U2,hx];refine Uk (XB (Uk (Xr ho od (by simp) ?_)));show wpAny _ _ (newExc (.type "StopIteration") [] >>= _) _ _ _;refine Uk ?_;simp only[newExc,newTuple];refine Uk (Va (Uk (m:=firstArgMember _ _) (Yx (a:=Value.none) (by first|rfl|(simp only[firstArgMember];rfl)) (Va ?_ (by size_fits)))) (by size_fits));simp only[raiseNew];refine Uk (wpAny_handled ?_);first
  |rw[show A.in1.handled=none from hh]
  |rw[hh]
 exact Uk (Ul (wpAny_throw (k _ _ (((WE ..).extBut.push _).push _) ⟨_,Heap.get?_push_size _ rfl,rfl⟩)))
def IsIt(k:Bool)(h:Heap)(it l:Addr)(i:Nat):Prop:=match k with
 |true=>h.IsListIter it l i
 |false=>h.IsTupleIter it l i
def IsSq(k:Bool)(h:Heap)(l:Addr)(xs:Array Value):Prop:=match k with
 |true=>h.IsList l xs
 |false=>h.IsTuple l xs
theorem IsIt.at{k:Bool}{h h':Heap}{it l:Addr}{i:Nat}(x:IsIt k h it l i)(e:∀o,h.get? it=some o->h'.get? it=some o):IsIt k h' it l i:=by
 cases k with
 |true=>obtain⟨o,ho,r⟩:=(show h.IsListIter it l i from x);exact(show h'.IsListIter it l i from⟨o,e o ho,r⟩)
 |false=>obtain⟨o,ho,r⟩:=(show h.IsTupleIter it l i from x);exact(show h'.IsTupleIter it l i from⟨o,e o ho,r⟩)
theorem IsSq.at{k:Bool}{h h':Heap}{l:Addr}{xs:Array Value}(x:IsSq k h l xs)(e:∀o,h.get? l=some o->h'.get? l=some o):IsSq k h' l xs:=by
 cases k with
 |true=>obtain⟨o,ho,r⟩:=(show h.IsList l xs from x);exact(show h'.IsList l xs from⟨o,e o ho,r⟩)
 |false=>obtain⟨o,ho,r⟩:=(show h.IsTuple l xs from x);exact(show h'.IsTuple l xs from⟨o,e o ho,r⟩)
theorem IsIt.obj{k:Bool}{h:Heap}{it l:Addr}{i:Nat}(x:IsIt k h it l i):∃o,h.get? it=some o/\∀v,o.data≠.cell v:=by
 cases k with
 |true=>obtain⟨o,ho,_,d⟩:=(show h.IsListIter it l i from x);exact⟨o,ho,fun v z=>by rw[d]at z;cases z⟩
 |false=>obtain⟨o,ho,_,d⟩:=(show h.IsTupleIter it l i from x);exact⟨o,ho,fun v z=>by rw[d]at z;cases z⟩
theorem ql{k:Bool}{it l:Addr}{i:Nat}{xs:Array Value}{x:Value}{Q:Value->Shared->Prop}(hi:IsIt k s.heap it l i)(hl:IsSq k s.heap l xs)(hx:xs[i]?=some x)
  (q:∀h',IsIt k h' it l (i+1)->Heap.SameBut it s.heap h'->Q x {s with heap:=h'}):wpAny (model prog w) A (Builtin.SmallTypes.nextOf (.ref it)) Q E s:=by
 cases k with
 |true=>exact wpAny_nextOf_list_item hi hl hx q
 |false=>exact xl hi hl hx q
theorem yu{k:Bool}{it l:Addr}{i:Nat}{xs:Array Value}{Q:Value->Shared->Prop}(hh:A.handled=none)(hi:IsIt k s.heap it l i)(hl:IsSq k s.heap l xs)(hx:xs[i]?=none)
  (q:∀h' e,Heap.ExtBut it s.heap h'->(∃o,h'.get? e=some o/\o.cls=.type "StopIteration")->E (.ref e) {s with heap:=h'}):wpAny (model prog w) A (Builtin.SmallTypes.nextOf (.ref it)) Q E s:=by
 cases k with
 |true=>exact wpAny_nextOf_list_end hh hi hl hx q
 |false=>exact zx hh hi hl hx q
theorem zy{k1 k2:Bool}{z TI TO i1 i2 l1 l2:Addr}{i:Nat}{xs ys:Array Value}{x y a b:Value}{Q:Value->Shared->Prop}(D:ZipApart z TI TO i1 i2 l1 l2)(hz:IsZip s.heap z TI TO .none)(Lw:IsPair s.heap TI (.ref i1) (.ref i2))(Mi:IsPair s.heap TO a b)
  (h1:IsIt k1 s.heap i1 l1 i) (h2:IsIt k2 s.heap i2 l2 i) (g1:IsSq k1 s.heap l1 xs) (g2:IsSq k2 s.heap l2 ys) (hx:xs[i]?=some x) (hy:ys[i]?=some y)
  (q:∀h',IsZip h' z TI TO (rawInt s.heap.objs.size)->IsPair h' TO x y->IsIt k1 h' i1 l1 (i+1)->IsIt k2 h' i2 l2 (i+1)->IsPair h' s.heap.objs.size x y->
   (∀c o,c≠z->c≠TO->c≠i1->c≠i2->s.heap.get? c=some o->h'.get? c=some o)->Q (.ref s.heap.objs.size) {s with heap:=h'}):
  wpAny (model prog w) A (Builtin.«zip.__next__» ⟨[.ref z],[]⟩) (fun fin s'=>∃v,fin=.done (.ret v)/\Q v s') E s:=by
 show wpAny _ _ (field (.ref z) 2 >>= _) _ _ _;refine Uk (VD hz rfl (x:=.bool false) rfl ?_);show wpAny _ _ (field (.ref z) 3 >>= _) _ _ _;refine Uk (VD hz rfl (x:=.ref TI) rfl (Uk (Vg Lw rfl ?_)));show wpAny _ _ (Builtin.SmallTypes.ownedTupleIsFree (.ref z) >>= _) _ _ _;refine Uk ?_;unfold Builtin.SmallTypes.ownedTupleIsFree;refine Uk (VD hz rfl (x:=.none) rfl (Ul ?_));rw[Ut (by rfl)];refine Uk (XB (Uk (VD hz rfl (x:=.ref TO) rfl (Uk (Wb hz (by simp) fun hA zA sA=>?_)))));have zA:IsZip hA z TI TO .ellipsis:=zA;refine Uk ?_;simp only[List.zipIdx_cons,List.zipIdx_nil,Yb,List.forIn_nil];refine Uk (Uk (XI ?_));show wpAny _ _ (Builtin.SmallTypes.nextOf (.ref i1) >>= _) _ _ _;refine Uk (ql (h1.at fun o e=>sA.extBut _ _ D.i1z e) (g1.at fun o e=>sA.extBut _ _ D.l1z e) hx fun hB iB sB=>Ul ?_);have tB:IsPair hB TO a b:=sB.extBut _ _ D.TOi1 (sA.extBut _ _ D.TOz Mi);refine Uk (Vg tB rfl (Uk (Xa tB fun hC tC sC=>Uk (V2 (Ul ?_)))));have tC:IsPair hC TO x b:=tC;refine Uk (Uk (XI ?_));show wpAny _ _ (Builtin.SmallTypes.nextOf (.ref i2) >>= _) _ _ _;refine Uk (ql (h2.at fun o e=>sC.extBut _ _ D.TOi2.symm (sB.extBut _ _ D.i12.symm (sA.extBut _ _ D.i2z e))) (g2.at fun o e=>sC.extBut _ _ D.l2TO (sB.extBut _ _ D.l2i1 (sA.extBut _ _ D.l2z e))) hy fun hD iD sD=>Ul ?_);have tD:IsPair hD TO x b:=sD.extBut _ _ D.TOi2 tC;refine Uk (Vg tD rfl (Uk (Xa tD fun hE tE sE=>Uk (V2 (Ul (Ul ?_))))));have tE:IsPair hE TO x y:=tE;refine Uk (Vg tE rfl (Uk (wpAny_newTuple ?_)));have ez:hE.objs.size=s.heap.objs.size:=by rw[sE.1,sD.1,sC.1,sB.1,sA.1]
 have zE:IsZip hE z TI TO .ellipsis:=sE.extBut _ _ D.TOz.symm (sD.extBut _ _ D.i2z.symm (sC.extBut _ _ D.TOz.symm (sB.extBut _ _ D.i1z.symm zA)));have kE:∀c o,c≠z->c≠TO->c≠i1->c≠i2->s.heap.get? c=some o->hE.get? c=some o:=fun c o c1 c2 c3 c4 e=>sE.extBut _ _ c2 (sD.extBut _ _ c4 (sC.extBut _ _ c2 (sB.extBut _ _ c3 (sA.extBut _ _ c1 e))))
 have i1E:IsIt k1 hE i1 l1 (i+1):=iB.at fun o e=>sE.extBut _ _ D.TOi1.symm (sD.extBut _ _ D.i12 (sC.extBut _ _ D.TOi1.symm e))
 have i2E:IsIt k2 hE i2 l2 (i+1):=iD.at fun o e=>sE.extBut _ _ D.TOi2.symm e
 show wpAny _ _ (Builtin.SmallTypes.ownedTupleHandOut (.ref z) (.ref hE.objs.size) >>= _) _ _ _;refine Uk ?_;unfold Builtin.SmallTypes.ownedTupleHandOut;have zF:IsZip (hE.push {cls:=.type "tuple",data:=.seq #[x,y]}) z TI TO .ellipsis:=Heap.get?_push_of_some _ zE;refine Uk (Wb zF (by simp) fun hG zG sG=>?_);have zG:IsZip hG z TI TO (rawInt hE.objs.size):=zG;refine Wb zG (by simp) fun hK zK sK=>?_
 have zK:IsZip hK z TI TO (rawInt hE.objs.size):=zK;have up:∀c o,c≠z->hE.get? c=some o->hK.get? c=some o:=fun c o c1 e=>sK.extBut _ _ c1 (sG.extBut _ _ c1 (Heap.get?_push_of_some _ e))
 have nz:hE.objs.size≠z:=Y2 (Uu zE);have tK:IsPair hK hE.objs.size x y:=sK.extBut _ _ nz (sG.extBut _ _ nz (Heap.get?_push_size _ rfl));rw[ez]at zK tK;refine Ul ⟨_,rfl,?_⟩;show Q (.ref hE.objs.size) _;rw[ez];exact q hK zK (up _ _ D.TOz tE) (i1E.at fun o e=>up _ o D.i1z e) (i2E.at fun o e=>up _ o D.i2z e) tK fun c o c1 c2 c3 c4 e=>up c o c1 (kE c o c1 c2 c3 c4 e)
theorem Ce{k1 k2:Bool}{z TI TO i1 i2 l1 l2:Addr}{i:Nat}{xs ys:Array Value}{a b:Value}{Q:Fin->Shared->Prop}(hh:A.handled=none)(D:ZipApart z TI TO i1 i2 l1 l2)(hz:IsZip s.heap z TI TO .none)(Lw:IsPair s.heap TI (.ref i1) (.ref i2))(Mi:IsPair s.heap TO a b)
  (h1:IsIt k1 s.heap i1 l1 i) (h2:IsIt k2 s.heap i2 l2 i) (g1:IsSq k1 s.heap l1 xs) (g2:IsSq k2 s.heap l2 ys) (he:xs[i]?=none\/ys[i]?=none)
  (q:∀h' e,(∀c o,c≠z->c≠TO->c≠i1->c≠i2->s.heap.get? c=some o->h'.get? c=some o)->(∃o,h'.get? e=some o/\o.cls=.type "StopIteration")->E (.ref e) {s with heap:=h'}):
  wpAny (model prog w) A (Builtin.«zip.__next__» ⟨[.ref z],[]⟩) Q E s:=by
 show wpAny _ _ (field (.ref z) 2 >>= _) _ _ _;refine Uk (VD hz rfl (x:=.bool false) rfl ?_);show wpAny _ _ (field (.ref z) 3 >>= _) _ _ _;refine Uk (VD hz rfl (x:=.ref TI) rfl (Uk (Vg Lw rfl ?_)));show wpAny _ _ (Builtin.SmallTypes.ownedTupleIsFree (.ref z) >>= _) _ _ _;refine Uk ?_;unfold Builtin.SmallTypes.ownedTupleIsFree;refine Uk (VD hz rfl (x:=.none) rfl (Ul ?_));rw[Ut (by rfl)];refine Uk (XB (Uk (VD hz rfl (x:=.ref TO) rfl (Uk (Wb hz (by simp) fun hA zA sA=>?_)))));have zA:IsZip hA z TI TO .ellipsis:=zA;refine Uk ?_;simp only[List.zipIdx_cons,List.zipIdx_nil,Yb,List.forIn_nil];refine Uk (Uk (XI ?_));show wpAny _ _ (Builtin.SmallTypes.nextOf (.ref i1) >>= _) _ _ _;cases hx:xs[i]? with
 |none=>
  refine Uk (yu hh (h1.at fun o e=>sA.extBut _ _ D.i1z e) (g1.at fun o e=>sA.extBut _ _ D.l1z e) hx fun hB e sB Hm=>?_);obtain⟨oe,ge,ce⟩:=Hm;have zB:IsZip hB z TI TO .ellipsis:=sB _ _ D.i1z.symm zA;have ne:e≠z:=fun x=>by subst x;rw[zB]at ge;cases ge;simp at ce
  exact Wb zB (by simp) fun hC _ sC=>q hC e (fun c o c1 _ c3 _ x=>sC.extBut _ _ c1 (sB _ _ c3 (sA.extBut _ _ c1 x))) ⟨oe,sC.extBut _ _ ne ge,ce⟩
 |some x=>
  have hy:ys[i]?=none:=by
   rcases he with z|z
   ·rw[hx]at z;cases z
   ·exact z
  refine Uk (ql (h1.at fun o e=>sA.extBut _ _ D.i1z e) (g1.at fun o e=>sA.extBut _ _ D.l1z e) hx fun hB iB sB=>Ul ?_);have tB:IsPair hB TO a b:=sB.extBut _ _ D.TOi1 (sA.extBut _ _ D.TOz Mi);refine Uk (Vg tB rfl (Uk (Xa tB fun hC tC sC=>Uk (V2 (Ul ?_)))));refine Uk (Uk (XI ?_));show wpAny _ _ (Builtin.SmallTypes.nextOf (.ref i2) >>= _) _ _ _;refine Uk (yu hh (h2.at fun o e=>sC.extBut _ _ D.TOi2.symm (sB.extBut _ _ D.i12.symm (sA.extBut _ _ D.i2z e))) (g2.at fun o e=>sC.extBut _ _ D.l2TO (sB.extBut _ _ D.l2i1 (sA.extBut _ _ D.l2z e))) hy fun hD e sD Hm=>?_);obtain⟨oe,ge,ce⟩:=Hm;have zD:IsZip hD z TI TO .ellipsis:=sD _ _ D.i2z.symm (sC.extBut _ _ D.TOz.symm (sB.extBut _ _ D.i1z.symm zA));have ne:e≠z:=fun x=>by subst x;rw[zD]at ge;cases ge;simp at ce
  exact Wb zD (by simp) fun hF _ sF=>q hF e (fun c o c1 c2 c3 c4 x=>sF.extBut _ _ c1 (sD _ _ c4 (sC.extBut _ _ c2 (sB.extBut _ _ c3 (sA.extBut _ _ c1 x))))) ⟨oe,sF.extBut _ _ ne ge,ce⟩
end
def itObj(k:Bool)(l:Addr):Obj:=match k with
 |true=>{cls:=.type "list_iterator",data:=.fields #[.ref l,.int 0 0]}
 |false=>{cls:=.type "tuple_iterator",data:=.fields #[.ref l,.int 0 0]}
theorem rl(k:Bool)(h:Heap)(l:Addr):IsIt k (h.push (itObj k l)) h.objs.size l 0:=by
 cases k with
 |true=>exact⟨_,Heap.get?_push_size _ rfl,rfl,rfl⟩
 |false=>exact⟨_,Heap.get?_push_size _ rfl,rfl,rfl⟩
abbrev zA(h:Heap)(k1:Bool)(l1:Addr):Heap:=h.push (itObj k1 l1)
abbrev zB(h:Heap)(k1 k2:Bool)(l1 l2:Addr):Heap:=(zA h k1 l1).push (itObj k2 l2)
abbrev zC(h:Heap)(k1 k2:Bool)(l1 l2:Addr):Heap:=(zB h k1 k2 l1 l2).push {cls:=.type "tuple",data:=.seq #[.ref h.objs.size,.ref (zA h k1 l1).objs.size]}
abbrev zD(h:Heap)(k1 k2:Bool)(l1 l2:Addr):Heap:=(zC h k1 k2 l1 l2).push {cls:=.type "tuple",data:=.seq #[.none,.none]}
abbrev zE(h:Heap)(k1 k2:Bool)(l1 l2:Addr):Heap:=(zD h k1 k2 l1 l2).push {cls:=.type "zip",data:=.fields #[.none,.bool false,.bool false,.ref (zB h k1 k2 l1 l2).objs.size,.ref (zC h k1 k2 l1 l2).objs.size]}
set_option maxHeartbeats 8000000 in
theorem Cf(k1 k2:Bool)(l1 l2:Addr)(xs ys:Array Value):
  Meets (Builtin.«zip.__new__» ⟨[.type "zip",.ref l1,.ref l2],[]⟩) (fun _ R s=>IsSq k1 s.heap l1 xs/\IsSq k2 s.heap l2 ys/\R (.ok (.ret (.ref (zD s.heap k1 k2 l1 l2).objs.size))) {s with heap:=zE s.heap k1 k2 l1 l2}):=
 .of_wp fun prog w A R s h=>by
  obtain⟨hp,g,d,tk,os⟩:=s;obtain⟨g1,g2,q⟩:=h;have KY:=sub_zip;cases k1 with
  |true=>
   have e1:Heap.IsList (Shared.heap ⟨hp,g,d,tk,os⟩) l1 xs:=g1;cases k2 with
   |true=>
    have e2:Heap.IsList (Shared.heap ⟨hp.push {cls:=.type "list_iterator",data:=.fields #[.ref l1,.int 0 0]},g,d,tk,os⟩) l2 ys:=Heap.IsList.push g2 _
    wp_walk using We e1,We e2
    exact⟨_,rfl,q⟩
   |false=>
    have e2:Heap.IsTuple (Shared.heap ⟨hp.push {cls:=.type "list_iterator",data:=.fields #[.ref l1,.int 0 0]},g,d,tk,os⟩) l2 ys:=Heap.IsTuple.push g2 _
    wp_walk using We e1,V9 e2
    exact⟨_,rfl,q⟩
  |false=>
   have e1:Heap.IsTuple (Shared.heap ⟨hp,g,d,tk,os⟩) l1 xs:=g1;cases k2 with
   |true=>
    have e2:Heap.IsList (Shared.heap ⟨hp.push {cls:=.type "tuple_iterator",data:=.fields #[.ref l1,.int 0 0]},g,d,tk,os⟩) l2 ys:=Heap.IsList.push g2 _
    wp_walk using V9 e1,We e2
    exact⟨_,rfl,q⟩
   |false=>
    have e2:Heap.IsTuple (Shared.heap ⟨hp.push {cls:=.type "tuple_iterator",data:=.fields #[.ref l1,.int 0 0]},g,d,tk,os⟩) l2 ys:=Heap.IsTuple.push g2 _
    wp_walk using V9 e1,V9 e2
    exact⟨_,rfl,q⟩
def ZS(k1 k2:Bool)(z TI TO i1 i2 l1 l2:Addr)(i:Nat)(h:Heap):Prop:=IsZip h z TI TO .none/\IsPair h TI (.ref i1) (.ref i2)/\(∃a b,IsPair h TO a b)/\IsIt k1 h i1 l1 i/\IsIt k2 h i2 l2 i
theorem zH{prog:Program}{w:World}{A:Around}{E:Value->Shared->Prop}{s:Shared}{k1 k2:Bool}{l1 l2:Addr}{xs ys:Array Value}{Q:Value->Shared->Prop}(g1:IsSq k1 s.heap l1 xs)(g2:IsSq k2 s.heap l2 ys)
  (q:∀h',ZS k1 k2 (s.heap.objs.size+4) (s.heap.objs.size+2) (s.heap.objs.size+3) s.heap.objs.size (s.heap.objs.size+1) l1 l2 0 h'->(∀c o,s.heap.get? c=some o->h'.get? c=some o)->Q (.ref (s.heap.objs.size+4)) {s with heap:=h'}):
  wpAny (model prog w) A (call (.type "zip") [.ref l1,.ref l2]) Q E s:=by
 refine callType_new F.called_zip (by decide) (F.typeCall_zip_2 _ _) (F.newCall_zip_2 _ _) (fun obj=>F.args_object_init_3 obj _ _) F.entry_zip_new (Cf k1 k2 l1 l2 xs ys) ⟨g1,g2,?_⟩;have nA:(zA s.heap k1 l1).objs.size=s.heap.objs.size+1:=Ws ..;have nB:(zB s.heap k1 k2 l1 l2).objs.size=s.heap.objs.size+2:=by rw[Ws,nA]
 have nC:(zC s.heap k1 k2 l1 l2).objs.size=s.heap.objs.size+3:=by rw[Ws,nB]
 have nD:(zD s.heap k1 k2 l1 l2).objs.size=s.heap.objs.size+4:=by rw[Ws,nC]
 have pu:∀{h:Heap}{o:Obj}{c:Addr}{v:Obj},h.get? c=some v->(h.push o).get? c=some v:=fun e=>Heap.get?_push_of_some _ e
 have gz:(zE s.heap k1 k2 l1 l2).get? (zD s.heap k1 k2 l1 l2).objs.size=some _:=Heap.get?_push_size _ rfl;have go:(zE s.heap k1 k2 l1 l2).get? (zC s.heap k1 k2 l1 l2).objs.size=some _:=pu (Heap.get?_push_size _ rfl);have gi:(zE s.heap k1 k2 l1 l2).get? (zB s.heap k1 k2 l1 l2).objs.size=some _:=pu (pu (Heap.get?_push_size _ rfl));have j2:IsIt k2 (zE s.heap k1 k2 l1 l2) (zA s.heap k1 l1).objs.size l2 0:=(rl k2 (zA s.heap k1 l1) l2).at fun o e=>pu (pu (pu e))
 have j1:IsIt k1 (zE s.heap k1 k2 l1 l2) s.heap.objs.size l1 0:=(rl k1 s.heap l1).at fun o e=>pu (pu (pu (pu e)))
 show _/\_;rw[nB,nC,nD]at gz;rw[nA,nB]at gi;rw[nC]at go;rw[nA]at j2;rw[nD];exact⟨⟨_,gz,rfl⟩,q _ ⟨gz,gi,⟨_,_,go⟩,j1,j2⟩ fun c o x=>pu (pu (pu (pu (pu x))))⟩
noncomputable def Sr(K:W.Frag)(k1 k2:Bool)(a b:Addr):It:=
 ⟨fun i H=>∃xs ys x y,(if k1 then SqL K H a xs else SqT K H a xs)/\(if k2 then SqL K H b ys else SqT K H b ys)/\xs[i]?=some x/\ys[i]?=some y,
  fun i H v H'=>∃T,H T=none/\v=.ref T/\∀xs ys x y,(if k1 then SqL K H a xs else SqT K H a xs)->(if k2 then SqL K H b ys else SqT K H b ys)->xs[i]?=some x->ys[i]?=some y->H'=upd H T (.tup [x,y]),
  fun i H=>∃xs ys,(if k1 then SqL K H a xs else SqT K H a xs)/\(if k2 then SqL K H b ys else SqT K H b ys)/\i=min xs.length ys.length⟩
section
variable{X:Cx}{pi:List (Addr×Obj)}{σ:L2.St}{H:Hp}{s:Shared}
theorem sX(I:Inv X pi σ H s){k:Bool}{a:Addr}{xs:List V}(h:if k then SqL X.K H a xs else SqT X.K H a xs):∃us:List Value,Vals xs us/\IsSq k s.heap a us.toArray:=by
 cases k with
 |true=>
  obtain⟨us,r,p,_⟩:=I.list (show SqL X.K H a xs from h);exact⟨us,r,p.isList⟩
 |false=>
  obtain⟨us,r,p,_⟩:=I.tuple (show SqT X.K H a xs from h);exact⟨us,r,(show s.heap.IsTuple a us.toArray from p)⟩
theorem yv(I:Inv X pi σ H s){k:Bool}{a:Addr}{xs ys:List V}(h:if k then SqL X.K H a xs else SqT X.K H a xs)(h':if k then SqL X.K H a ys else SqT X.K H a ys):xs=ys:=by
 cases k with
 |true=>exact I.list_inj (show SqL X.K H a xs from h) (show SqL X.K H a ys from h')
 |false=>exact I.tuple_inj (show SqT X.K H a xs from h) (show SqT X.K H a ys from h')
theorem iM(I:Inv X pi σ H s){k:Bool}{a b:Addr}{xs:List V}(h:if k then SqL X.K H a xs else SqT X.K H a xs)(f:tZ X pi H b):a≠b:=by
 rintro rfl;obtain⟨f0,_,_,f3,_⟩:=f;have nb:∀o,X.K.lookup a=some o->False:=fun o hk=>by
  have e:=I.ok.mod.kin a o hk;rcases f3 with z|z
  ·exact I.ok.noex a o e z
  ·exact absurd (UB (Uu e) (Vh I.ok.bsz z)) (VN _)
 cases k with
 |true=>
  rcases(show SqL X.K H a xs from h) with(h|⟨o,h⟩)|⟨o,GU,n,hk,_⟩
  ·rw[f0]at h;cases h
  ·rw[f0]at h;cases h
  ·exact nb o hk
 |false=>
  rcases(show SqT X.K H a xs from h) with(h|⟨o,h⟩)|⟨o,GU,n,hk,_⟩
  ·rw[f0]at h;cases h
  ·rw[f0]at h;cases h
  ·exact nb o hk
end
theorem nx_zip_item{prog:Program}{w:World}{A:Around}{E:Value->Shared->Prop}{s:Shared}{k1 k2:Bool}{z TI TO i1 i2 l1 l2:Addr}{i:Nat}{xs ys:Array Value}{x y:Value}{Q:Option Value->Shared->Prop}(D:ZipApart z TI TO i1 i2 l1 l2)(st:ZS k1 k2 z TI TO i1 i2 l1 l2 i s.heap)
  (g1:IsSq k1 s.heap l1 xs) (g2:IsSq k2 s.heap l2 ys) (hx:xs[i]?=some x) (hy:ys[i]?=some y)
  (q:∀h',IsZip h' z TI TO (rawInt s.heap.objs.size)->IsPair h' TO x y->IsIt k1 h' i1 l1 (i+1)->IsIt k2 h' i2 l2 (i+1)->IsPair h' s.heap.objs.size x y->
   (∀c o,c≠z->c≠TO->c≠i1->c≠i2->s.heap.get? c=some o->h'.get? c=some o)->Q (some (.ref s.heap.objs.size)) {s with heap:=h'}):wpAny (model prog w) A (pyNext (.ref z)) Q E s:=by
 obtain⟨hz,Lw,⟨a,b,Mi⟩,h1,h2⟩:=st;have ty:s.TypeIs (.ref z) "zip":=⟨_,hz,rfl⟩
 unfold pyNext;exact Uk (Xf (wpAny_callSpecial?_slot (name:=Str.ofString "__next__") ty Xk (Vj Xk ty F.entry_zip_next (zy D hz Lw Mi h1 h2 g1 g2 hx hy fun h' a1 a2 a3 a4 a5 a6=>Ul (q h' a1 a2 a3 a4 a5 a6)) (F.args_zip_next_1 _))))
theorem sY{prog:Program}{w:World}{A:Around}{E:Value->Shared->Prop}{s:Shared}{k1 k2:Bool}{z TI TO i1 i2 l1 l2:Addr}{i:Nat}{xs ys:Array Value}{Q:Option Value->Shared->Prop}(hh:A.handled=none)(D:ZipApart z TI TO i1 i2 l1 l2)(st:ZS k1 k2 z TI TO i1 i2 l1 l2 i s.heap)
  (g1:IsSq k1 s.heap l1 xs) (g2:IsSq k2 s.heap l2 ys) (he:xs[i]?=none\/ys[i]?=none) (q:∀h',(∀c o,c≠z->c≠TO->c≠i1->c≠i2->s.heap.get? c=some o->h'.get? c=some o)->Q none {s with heap:=h'}):wpAny (model prog w) A (pyNext (.ref z)) Q E s:=by
 obtain⟨hz,Lw,⟨a,b,Mi⟩,h1,h2⟩:=st;have ty:s.TypeIs (.ref z) "zip":=⟨_,hz,rfl⟩
 unfold pyNext;refine Uk (Xf (wpAny_callSpecial?_slot (name:=Str.ofString "__next__") ty Xk (Vj Xk ty F.entry_zip_next (Ce hh D hz Lw Mi h1 h2 g1 g2 he fun h' e kk ⟨o,ho,oc⟩=>?_) (F.args_zip_next_1 _))));exact Uk (wpAny_isInstance (T:="StopIteration") (b:=true) ⟨o,ho,oc⟩ isSubtype_stop (Ul (q _ kk)))
theorem xm{P:Program}{w:World}{K:W.Frag}{es:List Expr}{kt:Nat}{pt:Pos}(k1 k2:Bool)(a b z TI TO i1 i2:Addr)(ne:z≠TI/\z≠TO/\z≠i1/\z≠i2/\TI≠TO/\TI≠i1/\TI≠i2/\TO≠i1/\TO≠i2/\i1≠i2):
  Turn P w K (.Tuple es kt pt) (Sr K k1 k2 a b) [z,TI,TO,i1,i2] z (ZS k1 k2 z TI TO i1 i2 a b) where
 mem:=by simp
 obj:=fun i h st c hc=>by
  obtain⟨hz,Lw,⟨x,y,Mi⟩,h1,h2⟩:=st;simp only[Ux,U9,Zo]at hc;rcases hc with rfl|rfl|rfl|rfl|rfl
  ·exact⟨_,hz,fun v q=>by cases q⟩
  ·exact⟨_,Lw,fun v q=>by cases q⟩
  ·exact⟨_,Mi,fun v q=>by cases q⟩
  ·exact h1.obj
  ·exact h2.obj
 keep:=fun i h h' st k=>by
  obtain⟨hz,Lw,⟨x,y,Mi⟩,h1,h2⟩:=st;exact⟨k z (by simp) _ hz,k TI (by simp) _ Lw,⟨x,y,k TO (by simp) _ Mi⟩,h1.at fun o e=>k i1 (by simp) o e,h2.at fun o e=>k i2 (by simp) o e⟩
 item:=by
  intro X hP hw hK hc i pi s σ H E I hf st hg;subst hP hw hK;obtain⟨xs,ys,x,y,s1,s2,hx,hy⟩:=hg;obtain⟨us,r1,q1⟩:=sX I s1;obtain⟨ws,r2,q2⟩:=sX I s2;obtain⟨u,hu,ru⟩:=r1.get hx;obtain⟨v,hv,rv⟩:=r2.get hy;obtain⟨n1,n2,n3,n4,n5,n6,n7,n8,n9,Ss⟩:=ne;have f:=fun c hc=>hf c hc
  have D:ZipApart z TI TO i1 i2 a b:=⟨n1.symm,n2.symm,n3.symm,n4.symm,n5,n6,n7,n8,n9,Ss,iM I s1 (f z (by simp)),iM I s1 (f TO (by simp)),iM I s1 (f i1 (by simp)),iM I s1 (f i2 (by simp)),
   iM I s2 (f z (by simp)),iM I s2 (f TO (by simp)),iM I s2 (f i1 (by simp)),iM I s2 (f i2 (by simp))⟩
  have Lw:=st.2.1;refine nx_zip_item D st q1 q2 (by simpa using hu) (by simpa using hv) fun h' z1 t1 j1 j2 tp kk=>⟨_,rfl,?_⟩
  refine wpAny_letOwnedTupleGo_zip z1 fun h2 z2 sb=>?_
  have nT:H s.heap.objs.size=none:=I.hok.fresh (Ur _);have tT:s.heap.objs.size≠z:=Y2 (Uu st.1);have all:∀c o,c≠z->c≠TO->c≠i1->c≠i2->s.heap.get? c=some o->h2.get? c=some o:=fun c o c1 c2 c3 c4 e=>(sb.2 c c1).trans (kk c o c1 c2 c3 c4 e)
  have fz:=f z (by simp);have fo:=f TO (by simp);have f1:=f i1 (by simp);have f2:=f i2 (by simp);have OX:∀c ob,H c=some ob->c≠z/\c≠TO/\c≠i1/\c≠i2:=fun c ob e=>⟨(fun q=>by rw[q,fz.1]at e;cases e),(fun q=>by rw[q,fo.1]at e;cases e),(fun q=>by rw[q,f1.1]at e;cases e),(fun q=>by rw[q,f2.1]at e;cases e)⟩
  refine⟨.ref s.heap.objs.size,upd H s.heap.objs.size (.tup [x,y]),?_,rfl,⟨_,nT,rfl,fun Je ys' x' y' a1 a2 a3 a4=>?_⟩,⟨z2,?_,⟨u,v,(sb.2 TO n2.symm).trans t1⟩,j1.at fun o e=>(sb.2 i1 n3.symm).trans e,j2.at fun o e=>(sb.2 i2 n4.symm).trans e⟩,fun c hc=>?_⟩
  ·have tup2:h2.get? s.heap.objs.size=some {cls:=.type "tuple",data:=.seq #[u,v]}:=(sb.2 _ tT).trans tp;have S0:Inv X pi σ (upd H s.heap.objs.size (.tup [x,y])) {s with heap:=h2,gens:=s.gens,drawn:=s.drawn,toks:=s.toks}:=by
    refine I.step (ch:=[z,TO,i1,i2]) (fun c hc=>?_) (fun c o _ _ nc e _=>all c o (fun q=>nc (by simp[q])) (fun q=>nc (by simp[q])) (fun q=>nc (by simp[q])) (fun q=>nc (by simp[q])) e)
     (fun c o _ _ nc e _=>⟨o.slots,all c o (fun q=>nc (by simp[q])) (fun q=>nc (by simp[q])) (fun q=>nc (by simp[q])) (fun q=>nc (by simp[q])) e⟩) (fun c o _ e n=>by rw[aS (UK (Uu e))];exact n)
     (fun c o nc e=>⟨o,all c o (fun q=>nc (by simp[q])) (fun q=>nc (by simp[q])) (fun q=>nc (by simp[q])) (fun q=>nc (by simp[q])) e⟩) (fun c l e=>by rw[aS (bz e nT)];exact e) (fun c o u' e=>by rw[aS (bz e nT)];exact e)
     (fun c ps e=>⟨#[],by rw[aS (bz e nT),e];simp⟩) (fun m hm=>?_) (fun c ob e=>?_) I.bare
    ·simp only[Ux,U9,Zo]at hc;rcases hc with rfl|rfl|rfl|rfl
     ·exact⟨fz.2.2.2.1,fz.2.1,fz.2.2.2.2.1,fz.2.2.2.2.2⟩
     ·exact⟨fo.2.2.2.1,fo.2.1,fo.2.2.2.2.1,fo.2.2.2.2.2⟩
     ·exact⟨f1.2.2.2.1,f1.2.1,f1.2.2.2.2.1,f1.2.2.2.2.2⟩
     ·exact⟨f2.2.2.2.1,f2.2.1,f2.2.2.2.2.1,f2.2.2.2.2.2⟩
    ·obtain⟨o,es,ep,ho,r⟩:=hm;exact⟨o,es,ep,all _ o (VB fz.2.1) (VB fo.2.1) (VB f1.2.1) (VB f2.2.1) ho,r⟩
    ·by_cases ec:c=s.heap.objs.size
     ·subst ec;rw[bU]at e;cases e;exact⟨by simp only[UI,VR];rw[Vr];decide,[u,v],.cons ru (.cons rv .nil),⟨_,tup2,rfl,⟨0,rfl⟩,rfl⟩⟩
     ·rw[aS ec]at e;refine(I.hok c ob e).stay (fun d w' hd q=>?_) (fun d q=>by rw[aS (bz q nT)];exact q) fun d l q=>by rw[aS (bz q nT)];exact q
      have OO:∃oo,H d=some oo:=by
       rcases hd with rfl|hd
       ·exact⟨_,e⟩
       ·exact⟨_,hd⟩
      obtain⟨oo,Su⟩:=OO;obtain⟨m1,m2,m3,m4⟩:=OX d oo Su;exact all d w' m1 m2 m3 m4 q
   exact S0
  ·have e1:=yv I a1 s1;have e2:=yv I a2 s2;subst e1 e2;rw[hx]at a3;rw[hy]at a4;cases a3;cases a4;rfl
  ·exact(sb.2 TI n1.symm).trans (kk TI _ n1.symm n5 n6 n7 Lw)
  ·have Sv:=(f c hc).1;have cs:c≠s.heap.objs.size:=by
    have:=(fun i h st=>by
     exact(by
      obtain⟨hz,Lw,⟨x,y,Mi⟩,h1,h2⟩:=st;simp only[Ux,U9,Zo]at hc;rcases hc with rfl|rfl|rfl|rfl|rfl
      ·exact⟨_,hz⟩
      ·exact⟨_,Lw⟩
      ·exact⟨_,Mi⟩
      ·obtain⟨o,e,_⟩:=h1.obj;exact⟨o,e⟩
      ·obtain⟨o,e,_⟩:=h2.obj;exact⟨o,e⟩:∃o,h.get? c=some o):∀i h,ZS k1 k2 z TI TO i1 i2 a b i h->∃o,h.get? c=some o) i s.heap st
    obtain⟨o,e⟩:=this;exact UK (Uu e)
   rw[aS cs];exact Sv
 done:=by
  intro X hP hw hK hc i pi s σ H E I hf st hg;subst hP hw hK;obtain⟨xs,ys,s1,s2,hi⟩:=hg;obtain⟨us,r1,q1⟩:=sX I s1;obtain⟨ws,r2,q2⟩:=sX I s2;have l1:=r1.length;have l2:=r2.length;obtain⟨n1,n2,n3,n4,n5,n6,n7,n8,n9,Ss⟩:=ne;have f:=fun c hc=>hf c hc
  have D:ZipApart z TI TO i1 i2 a b:=⟨n1.symm,n2.symm,n3.symm,n4.symm,n5,n6,n7,n8,n9,Ss,iM I s1 (f z (by simp)),iM I s1 (f TO (by simp)),iM I s1 (f i1 (by simp)),iM I s1 (f i2 (by simp)),
   iM I s2 (f z (by simp)),iM I s2 (f TO (by simp)),iM I s2 (f i1 (by simp)),iM I s2 (f i2 (by simp))⟩
  have fz:=f z (by simp);have fo:=f TO (by simp);have f1:=f i1 (by simp);have f2:=f i2 (by simp);refine sY (I.ok.hd hc) D st q1 q2 (by
   rcases Nat.le_total us.length ws.length with q|q
   ·exact .inl (by simp;lia)
   ·exact .inr (by simp;lia)) fun h' kk=>⟨rfl,?_⟩
  have OX:∀c ob,H c=some ob->c≠z/\c≠TO/\c≠i1/\c≠i2:=fun c ob e=>⟨(fun q=>by rw[q,fz.1]at e;cases e),(fun q=>by rw[q,fo.1]at e;cases e),(fun q=>by rw[q,f1.1]at e;cases e),(fun q=>by rw[q,f2.1]at e;cases e)⟩
  have S0:Inv X pi σ H {s with heap:=h',gens:=s.gens,drawn:=s.drawn,toks:=s.toks}:=by
   refine I.step (ch:=[z,TO,i1,i2]) (fun c hc=>?_) (fun c o _ _ nc e _=>kk c o (fun q=>nc (by simp[q])) (fun q=>nc (by simp[q])) (fun q=>nc (by simp[q])) (fun q=>nc (by simp[q])) e)
    (fun c o _ _ nc e _=>⟨o.slots,kk c o (fun q=>nc (by simp[q])) (fun q=>nc (by simp[q])) (fun q=>nc (by simp[q])) (fun q=>nc (by simp[q])) e⟩) (fun c o _ e n=>n)
    (fun c o nc e=>⟨o,kk c o (fun q=>nc (by simp[q])) (fun q=>nc (by simp[q])) (fun q=>nc (by simp[q])) (fun q=>nc (by simp[q])) e⟩) (fun c l e=>e) (fun c o u' e=>e)
    (fun c ps e=>⟨#[],by rw[e];simp⟩) (fun m hm=>?_) (fun c ob e=>?_) I.bare
   ·simp only[Ux,U9,Zo]at hc;rcases hc with rfl|rfl|rfl|rfl
    ·exact⟨fz.2.2.2.1,fz.2.1,fz.2.2.2.2.1,fz.2.2.2.2.2⟩
    ·exact⟨fo.2.2.2.1,fo.2.1,fo.2.2.2.2.1,fo.2.2.2.2.2⟩
    ·exact⟨f1.2.2.2.1,f1.2.1,f1.2.2.2.2.1,f1.2.2.2.2.2⟩
    ·exact⟨f2.2.2.2.1,f2.2.1,f2.2.2.2.2.1,f2.2.2.2.2.2⟩
   ·obtain⟨o,es,ep,ho,r⟩:=hm;exact⟨o,es,ep,kk _ o (VB fz.2.1) (VB fo.2.1) (VB f1.2.1) (VB f2.2.1) ho,r⟩
   ·refine(I.hok c ob e).stay (fun d w' hd q=>?_) (fun d q=>q) fun d l q=>q
    have OO:∃oo,H d=some oo:=by
     rcases hd with rfl|hd
     ·exact⟨_,e⟩
     ·exact⟨_,hd⟩
    obtain⟨oo,Su⟩:=OO;obtain⟨m1,m2,m3,m4⟩:=OX d oo Su;exact kk d w' m1 m2 m3 m4 q
  exact S0
 self:=fun _ _ _ _ _ st h=>wpAny_pyIter_zip st.1 h
section
variable{X:Cx}{es:List Expr}{kt:Nat}{pt:Pos}
def Gm(K:W.Frag)(k1 k2:Bool)(ta:TA):TI:=fun σ H R=>ta σ H fun vs H1=>∃a b xs ys,vs=[.ref a,.ref b]/\(if k1 then SqL K H1 a xs else SqT K H1 a xs)/\(if k2 then SqL K H1 b ys else SqT K H1 b ys)/\R (Sr K k1 k2 a b) H1
theorem Cg(k1 k2:Bool){e1 e2:Expr}{ta:TA}{p pos:Pos}(hg:Gl X "zip")(hm:X.mg "zip" = none)(ha:PA X [e1,e2] ta)(he:starEach [e1,e2] X.env=(false,eval e1 X.env)::starEach [e2] X.env:=by rfl)(HU:(backTo pos (starEach [e2] X.env)).any (·.1)=false:=by rfl):
  PI X (.Tuple es kt pt) (.Call (.Name "zip" p) [e1,e2] [] pos) (Gm X.K k1 k2 ta):=by
 intro pi s σ H R I h;refine VT (kh I hg hm (by decide +kernel:bootBuiltins "zip" = some (.type "zip")) ?_ (by decide) (by decide));refine V0 (Hk (ha pos pi s σ H _ I h) fun us s1 ⟨vs,H1,I1,r1,a,b,xs,ys,e,s1',s2',q⟩=>?_) he HU;subst e;obtain⟨u,w',rfl,ra,rb⟩:=qk r1;cases ra;cases rb;obtain⟨us,v1,q1⟩:=sX I1 s1';obtain⟨ws,v2,q2⟩:=sX I1 s2';refine zH q1 q2 fun h' st kk=>?_
 refine wpAny_pyIter_zip st.1 ?_;have fr:∀j,tZ X pi H1 (s1.heap.objs.size+j):=fun j=>I1.fpOk (Nat.le_add_right _ _) (I1.hok.fresh (Nat.le_add_right _ _))
 have nn:∀i j:Nat,i≠j->s1.heap.objs.size+i≠s1.heap.objs.size+j:=fun i j h z=>h (Nat.add_left_cancel z)
 refine⟨_,_,_,_,H1,rfl,I1.kept (t':=s1.toks) kk,xm k1 k2 a b (s1.heap.objs.size+4) (s1.heap.objs.size+2) (s1.heap.objs.size+3) (s1.heap.objs.size+0) (s1.heap.objs.size+1)
  ⟨nn 4 2 (by decide),nn 4 3 (by decide),nn 4 0 (by decide),nn 4 1 (by decide),nn 2 3 (by decide),nn 2 0 (by decide),nn 2 1 (by decide),nn 3 0 (by decide),nn 3 1 (by decide),nn 0 1 (by decide)⟩,st,fun c hc=>?_,q⟩
 simp only[Ux,U9,Zo]at hc;rcases hc with rfl|rfl|rfl|rfl|rfl
 ·exact fr 4
 ·exact fr 2
 ·exact fr 3
 ·exact fr 0
 ·exact fr 1
end
end NX
namespace NX
open PySem PySem.W PyProof.Rows
section
variable{n:Nat}{O:KeyOrd}{κ:Nat->O.α}{cmp:Nat->Nat->(Bool->Shared->Prop)->Shared->Prop}{Good:Shared->Prop}
def kk(κ:Nat->O.α)(p:Array Nat)(i:Nat):O.α:=κ (p.getD i 0)
structure POk(n:Nat)(p:Array Nat):Prop where
 perm:p.toList.Perm (List.range n)
theorem POk.size{p:Array Nat}(h:POk n p):p.size=n:=by
 have:=h.perm.length_eq;simpa using this
theorem POk.lt{p:Array Nat}(h:POk n p){i:Nat}(hi:i<n):p.getD i 0<n:=by
 have hs:=h.size;have Np:i<p.size:=by lia
 have e:p.getD i 0=p[i]:=by simp[Array.getD,Np]
 rw[e];exact UR.mp (h.perm.mem_iff.mp (Array.getElem_mem_toList Np))
theorem POk.of{p q:Array Nat}(h:POk n p)(hq:q.Perm p):POk n q:=⟨(Array.perm_iff_toList_perm.mp hq).trans h.perm⟩
def bI(κ:Nat->O.α)(p:Array Nat)(m:Nat):Prop:=∀i j,i<=j->j<m->O.kle (kk κ p i) (kk κ p j)
def gf(κ:Nat->O.α)(p:Array Nat)(m:Nat):Prop:=∀i j,i<=j->j<m->O.kle (kk κ p j) (kk κ p i)
theorem fP{p q:Array Nat}{i j:Nat}(h:p[i]?=q[j]?):p.getD i 0=q.getD j 0:=by
 rw[Xl,Xl,h]
theorem rp{p:Array Nat}{i j:Nat}(hj:j<=p.size)(k:Nat):kk κ (kas_rev p i j) k=if i<=k/\k<j then kk κ p (i+j-1-k) else kk κ p k:=by
 have e:=getElem?_mirror_all (i:=i) hj k;unfold kk kas_rev;split
 ·rename_i h;rw[Ut h]at e;rw[fP e]
 ·rename_i h;rw[UD h]at e;rw[fP e]
theorem yw{p:Array Nat}{src d:Nat}(hs:src<p.size)(hd:d<=src)(k:Nat):kk κ (bubble p src d) k=if k=src-d then kk κ p src else if src-d<k/\k<=src then kk κ p (k-1) else kk κ p k:=by
 have e:=getElem?_bubble hs d hd k;by_cases h:k=src-d
 ·rw[Ut h]at e ⊢;exact VC κ (fP e)
 ·rw[UD h]at e ⊢;by_cases h2:src-d<k/\k<=src
  ·rw[Ut h2]at e ⊢;exact VC κ (fP e)
  ·rw[UD h2]at e ⊢;exact VC κ (fP e)
theorem POk.rev{p:Array Nat}(h:POk n p)(i j:Nat):POk n (kas_rev p i j):=h.of (mirror_perm _ _ _ _)
theorem POk.bub{p:Array Nat}(h:POk n p)(i j:Nat):POk n (bubble p i j):=h.of (bubble_perm _ _ _)
theorem sZ(p:Array Nat):bI κ p 1:=fun i j a b=>by
 have e:i=j:=by lia
 rw[e];exact V3 _
theorem qm{p:Array Nat}{m:Nat}(h1:1<=m)(h:bI κ p m)(hm:O.kle (kk κ p (m-1)) (kk κ p m)):bI κ p (m+1):=by
 intro i j Mu hj;by_cases e:j=m
 ·subst e;by_cases e2:i=j
  ·subst e2;exact V3 _
  ·exact W6 (h i (j-1) (by lia) (by lia)) hm
 ·exact h i j Mu (by lia)
theorem fQ{p:Array Nat}{m:Nat}(h1:1<=m)(h:gf κ p m)(hm:O.kle (kk κ p m) (kk κ p (m-1))):gf κ p (m+1):=by
 intro i j Mu hj;by_cases e:j=m
 ·subst e;by_cases e2:i=j
  ·subst e2;exact V3 _
  ·exact W6 hm (h i (j-1) (by lia) (by lia))
 ·exact h i j Mu (by lia)
variable(hc:∀i j,i<n->j<n->∀(Q:Bool->Shared->Prop) s,Good s->(∀s',Good s'->Q (O.blt (κ i) (κ j)) s')->cmp i j Q s)
include hc
theorem uW{p:Array Nat}(hp:POk n p){HE:Nat}(hn:HE<=n){Q:Nat->Shared->Prop}:∀(f m:Nat) (s:Shared),Good s->1<=m->m+f=HE->bI κ p m->
  (∀r s',Good s'->m<=r->r<=HE->bI κ p r->(r<HE->O.klt (kk κ p r) (kk κ p (r-1)))->Q r s')->(kas_asc p f m).kasWp cmp Q s
 | 0,m,s,g,h1,hf,hs,k=>k m s g (Ur _) (by lia) hs (fun z=>by lia)
 |f+1,m,s,g,h1,hf,hs,k=>by
  show cmp (p.getD m 0) (p.getD (m-1) 0) _ s;refine hc _ _ (hp.lt (by lia)) (hp.lt (by lia)) _ s g fun s' g'=>?_
  cases e:O.blt (κ (p.getD m 0)) (κ (p.getD (m-1) 0)) with
  |true=>
   (try dsimp only)
   rw[Ut rfl];exact k m s' g' (Ur _) (by lia) hs fun _=>e
  |false=>
   (try dsimp only)
   rw[UD Up];exact uW hp hn f (m+1) s' g' (by lia) (by lia) (qm h1 hs e) fun r s2 g2 a b c d=>k r s2 g2 (by lia) b c d
def zI(κ:Nat->O.α)(p:Array Nat)(m q:Nat):Prop:=∀k,m-(q+1)<=k->k<m->kk κ p k=kk κ p (m-1)
omit hc in
theorem o8{p:Array Nat}{m q:Nat}(hm:m<=p.size)(h:zI κ p m q)(k:Nat):kk κ (kas_rev p (m-(q+1)) m) k=kk κ p k:=by
 rw[rp hm];split
 ·rename_i hk;rw[h _ (by lia) (by lia),h k hk.1 hk.2]
 ·rfl
omit hc in
theorem jX{p p':Array Nat}{m:Nat}(e:∀k,kk κ p' k=kk κ p k)(h:gf κ p m):gf κ p' m:=fun i j a b=>by rw[e,e];exact h i j a b
theorem nG{HE:Nat}(hn:HE<=n){Q:Array Nat×Nat×Nat->Shared->Prop}:∀(f:Nat) (p:Array Nat) (m q:Nat) (s:Shared),POk n p->Good s->1<=m->q+1<=m->m+f=HE->gf κ p m->zI κ p m q->
  (∀p' m' q' s',POk n p'->Good s'->m<=m'->m'<=HE->q'+1<=m'->gf κ p' m'->zI κ p' m' q'->Q (p',m',q') s')->(kas_desc f p m q).kasWp cmp Q s
 | 0,p,m,q,s,hp,g,h1,hq,hf,hs,ha,k=>k p m q s hp g (Ur _) (by lia) hq hs ha
 |f+1,p,m,q,s,hp,g,h1,hq,hf,hs,ha,k=>by
  show cmp (p.getD m 0) (p.getD (m-1) 0) _ s;refine hc _ _ (hp.lt (by lia)) (hp.lt (by lia)) _ s g fun s' g'=>?_
  have hsz:=hp.size;cases e:O.blt (κ (p.getD m 0)) (κ (p.getD (m-1) 0)) with
  |true=>
   (try dsimp only)
   rw[Ut rfl];have le:O.kle (kk κ p m) (kk κ p (m-1)):=WY e;by_cases h0:q>0
   ·rw[Ut h0];have same:=o8 (κ:=κ) (p:=p) (m:=m) (q:=q) (by lia) ha;refine nG hn f _ (m+1) 0 s' (hp.rev _ _) g' (by lia) (by lia) (by lia) (fQ h1 (jX same hs) (by rw[same,same];exact le)) ?_ fun p' m' q' s2 a b c d e' f' g2=>k p' m' q' s2 a b (by lia) d e' f' g2
    intro k' a b;have:k'=m:=by lia
    rw[this];rfl
   ·rw[UD h0];refine nG hn f p (m+1) 0 s' hp g' (by lia) (by lia) (by lia) (fQ h1 hs le) ?_ fun p' m' q' s2 a b c d e' f' g2=>k p' m' q' s2 a b (by lia) d e' f' g2
    intro k' a b;have:k'=m:=by lia
    rw[this];rfl
  |false=>
   (try dsimp only)
   rw[UD Up];show cmp (p.getD (m-1) 0) (p.getD m 0) _ s';refine hc _ _ (hp.lt (by lia)) (hp.lt (by lia)) _ s' g' fun s2 g2=>?_
   cases e2:O.blt (κ (p.getD (m-1) 0)) (κ (p.getD m 0)) with
   |true=>
    (try dsimp only)
    rw[Ut rfl];exact k p m q s2 hp g2 (Ur _) (by lia) hq hs ha
   |false=>
    (try dsimp only)
    rw[UD Up];have eq:kk κ p (m-1)=kk κ p m:=KeyOrd.kle_antisymm (O:=O) e e2;refine nG hn f p (m+1) (q+1) s2 hp g2 (by lia) (by lia) (by lia) (fQ h1 hs (by rw[eq];exact V3 _)) ?_ fun p' m' q' s3 a b c d e' f' g3=>k p' m' q' s3 a b (by lia) d e' f' g3
    intro k' a b;show kk κ p k'=kk κ p m;by_cases z:k'=m
    ·rw[z]
    ·rw[ha k' (by lia) (by lia),eq]
omit hc in
theorem tf{p:Array Nat}{m:Nat}(hm:m<=p.size)(h:gf κ p m):bI κ (kas_rev p 0 m) m:=by
 intro i j a b;rw[rp hm,rp hm,Ut (by lia),Ut (by lia)];exact h _ _ (by lia) (by lia)
theorem uX{p:Array Nat}(hp:POk n p){m HE:Nat}(hn:HE<=n)(h1:1<=m)(hm:m<=HE)(hs:gf κ p m){Q:Nat×Array Nat->Shared->Prop}{s:Shared}(g:Good s)
  (k:∀r p' s',POk n p'->Good s'->1<=r->r<=HE->bI κ p' r->Q (r,p') s'):(kas_tail3 m HE p).kasWp cmp Q s:=by
 unfold kas_tail3;rw[KasT.kasWp_bind];have hsz:=hp.size;refine uW hc (hp.rev 0 m) hn (HE-m) m s g h1 (by lia) (tf (by lia) hs) fun r s' g' a b c _=>?_
 exact k r _ s' (hp.rev 0 m) g' (by lia) b c
theorem lj{p:Array Nat}(hp:POk n p){m HE:Nat}(hn:HE<=n)(h1:1<=m)(hm:m+1<=HE)(hs:gf κ p (m+1)){Q:Nat×Array Nat->Shared->Prop}{s:Shared}(g:Good s)
  (k:∀r p' s',POk n p'->Good s'->1<=r->r<=HE->bI κ p' r->Q (r,p') s'):(kas_descPart m HE p).kasWp cmp Q s:=by
 unfold kas_descPart;rw[KasT.kasWp_bind];refine nG hc hn (HE-(m+1)) p (m+1) 0 s hp g (by lia) (by lia) (by lia) hs ?_ fun p' m' q' s' a b c d e f g2=>?_
 ·intro k' a b;have:k'=m:=by lia
  rw[this];rfl
 ·have hsz:=a.size;dsimp only;split
  ·have same:=o8 (κ:=κ) (p:=p') (m:=m') (q:=q') (by lia) g2;exact uX hc (a.rev _ _) hn (by lia) d (jX same f) b k
  ·exact uX hc a hn (by lia) d f b k
theorem xn{p:Array Nat}(hp:POk n p){HE:Nat}(hn:HE<=n)(h1:1<=HE){Q:Nat×Array Nat->Shared->Prop}{s:Shared}(g:Good s)
  (k:∀r p' s',POk n p'->Good s'->1<=r->r<=HE->bI κ p' r->Q (r,p') s'):(kas_count HE p).kasWp cmp Q s:=by
 unfold kas_count;rw[KasT.kasWp_bind];have hsz:=hp.size;refine uW hc hp hn (HE-1) 1 s g (Ur _) (by lia) (sZ p) fun m s' g' a b c d=>?_
 by_cases e:m=HE
 ·rw[Ut (by simpa using e)];exact k m p s' hp g' (by lia) (by lia) c
 ·rw[UD (by simpa using e)];have dd:=d (by lia);by_cases h2:m>1
  ·rw[Ut h2];show cmp (p.getD 0 0) (p.getD (m-1) 0) _ s';refine hc _ _ (hp.lt (by lia)) (hp.lt (by lia)) _ s' g' fun s2 g2=>?_
   cases e2:O.blt (κ (p.getD 0 0)) (κ (p.getD (m-1) 0)) with
   |true=>
    (try dsimp only)
    rw[Ut rfl];exact k m p s2 hp g2 (by lia) b c
   |false=>
    (try dsimp only)
    rw[UD Up];have eq:∀i,i<m->kk κ p i=kk κ p 0:=fun i hi=>by
     have x1:=c 0 i (by lia) hi;have x2:=c i (m-1) (by lia) (by lia);exact KeyOrd.kle_antisymm (O:=O) (W6 x2 e2) x1
    have same:∀i,kk κ (kas_rev p 0 m) i=kk κ p i:=fun i=>by
     rw[rp (by lia)];split
     ·rw[eq _ (by lia),eq i (by lia)]
     ·rfl
    refine lj hc (hp.rev 0 m) hn (by lia) (by lia) ?_ g2 k;refine jX same (fQ (by lia) (fun i j x y=>?_) (WY dd));rw[eq i (by lia),eq j y];exact V3 _
  ·rw[UD h2];refine lj hc hp hn (by lia) (by lia) (fQ (by lia) (fun i j x y=>?_) (WY dd)) g' k;have:i=j:=by lia
   rw[this];exact V3 _
theorem nH{p:Array Nat}(hp:POk n p){t:Nat}(ht:t<n)(hs:bI κ p t){Q:Nat->Shared->Prop}:∀(f l r:Nat) (s:Shared),Good s->l<=r->r<=t->r-l<=f->(∀i,i<l->O.kle (kk κ p i) (kk κ p t))->(∀i,r<=i->i<t->O.klt (kk κ p t) (kk κ p i))->
  (∀x s',Good s'->x<=t->(∀i,i<x->O.kle (kk κ p i) (kk κ p t))->(∀i,x<=i->i<t->O.klt (kk κ p t) (kk κ p i))->Q x s')->(kas_place p t f l r).kasWp cmp Q s
 | 0,l,r,s,g,h1,h2,h3,lo,hi,k=>k l s g (by lia) lo fun i a b=>hi i (by lia) b
 |f+1,l,r,s,g,h1,h2,h3,lo,hi,k=>by
  unfold kas_place;by_cases e:l>=r
  ·rw[Ut e];exact k l s g (by lia) lo fun i a b=>hi i (by lia) b
  ·rw[UD e];show cmp (p.getD t 0) (p.getD ((l+r) / 2) 0) _ s;refine hc _ _ (hp.lt ht) (hp.lt (by lia)) _ s g fun s' g'=>?_
   cases e2:O.blt (κ (p.getD t 0)) (κ (p.getD ((l+r) / 2) 0)) with
   |true=>
    (try dsimp only)
    rw[Ut rfl];refine nH hp ht hs f l ((l+r) / 2) s' g' (by lia) (by lia) (by lia) lo (fun i a b=>?_) k;exact KeyOrd.klt_of_klt_of_kle (O:=O) e2 (hs _ i a b)
   |false=>
    (try dsimp only)
    rw[UD Up];refine nH hp ht hs f ((l+r) / 2+1) r s' g' (by lia) (by lia) (by lia) (fun i a=>?_) hi k;exact W6 (O:=O) (hs i ((l+r) / 2) (by lia) (by lia)) e2
theorem yx{Q:Array Nat->Shared->Prop}:∀(f:Nat) (p:Array Nat) (t:Nat) (s:Shared),POk n p->Good s->t+f=n->bI κ p t->(∀p' s',POk n p'->Good s'->bI κ p' n->Q p' s')->(kas_bin f p t).kasWp cmp Q s
 | 0,p,t,s,hp,g,hf,hs,k=>k p s hp g (by rw[show n=t by lia];exact hs)
 |f+1,p,t,s,hp,g,hf,hs,k=>by
  unfold kas_bin;rw[KasT.kasWp_bind];have hsz:=hp.size;refine nH hc hp (by lia) hs t 0 t s g (U6 _) (Ur _) (by lia) (fun i a=>by lia) (fun i a b=>by lia) fun x s' g' hx lo hi=>?_
  refine yx f _ (t+1) s' (hp.bub _ _) g' (by lia) ?_ k;have ex:t-(t-x)=x:=by lia
  intro i j a b;rw[yw (by lia) (by lia),yw (by lia) (by lia),ex];have lo':=lo;by_cases i1:i=x
  ·by_cases j1:j=x
   ·rw[Ut i1,Ut j1];exact V3 _
   ·rw[Ut i1,UD j1,Ut (by lia)];exact WY (hi (j-1) (by lia) (by lia))
  ·rw[UD i1];by_cases i2:x<i/\i<=t
   ·rw[Ut i2,UD (by lia),Ut (by lia)];exact hs (i-1) (j-1) (by lia) (by lia)
   ·rw[UD i2];by_cases j1:j=x
    ·rw[Ut j1];exact lo i (by lia)
    ·rw[UD j1];by_cases j2:x<j/\j<=t
     ·rw[Ut j2];exact hs i (j-1) (by lia) (by lia)
     ·rw[UD j2];exact hs i j a (by lia)
theorem zJ(h1:1<=n){Q:Array Nat->Shared->Prop}{s:Shared}(g:Good s)(k:∀p s',POk n p->Good s'->bI κ p n->Q p s'):(kas_sort n).kasWp cmp Q s:=by
 unfold kas_sort;rw[KasT.kasWp_bind];refine xn hc (p:=List.toArray (List.range n)) ⟨by simp⟩ (Ur _) h1 g fun r p' s' hp g' a b c=>?_
 dsimp only;split
 ·have e:max r 1=r:=by lia
  rw[e];exact yx hc (n-r) p' r s' hp g' (by lia) c k
 ·exact k p' s' hp g' (by rw[show n=r by lia];exact c)
end
end NX
namespace NX
open PySem PySem.W PySem.Spec PyProof.Rows L2
section
variable{prog:Program}{w:World}{A:Around}{E:Value->Shared->Prop}{s:Shared}
theorem rq(n:Nat):POk n (List.toArray (List.range n)):=⟨by simp⟩
theorem jr{O:KeyOrd}{key:Nat->O.α}{kd:SortKind}{a:Addr}{vs:List Value}{n:Nat}{P:PySem.Fin->Shared->Prop}(ho:s.heap.get? a=some (seqObj "list" vs.toArray n))(Mj:vs.length<64)
  (JS:2<=vs.length->∀(h':Heap),(∀b o,b≠a->s.heap.get? b=some o->h'.get? b=some o)->∀Q:SortKind->Shared->Prop,Q kd {s with heap:=h'}->wpAny (model prog w) A (keyKind' vs.toArray) Q E {s with heap:=h'})
  (ML:∀i j,i<vs.length->j<vs.length->∀(h':Heap),(∀b o,b≠a->s.heap.get? b=some o->h'.get? b=some o)->∀C:Bool->Shared->Prop,C (O.blt (key i) (key j)) {s with heap:=h'}->kas_ask prog w A kd vs i j C {s with heap:=h'})
  (h:∀p h',POk vs.length p->bI key p vs.length->(∃e,h'.get? a=some (seqObj "list" (List.toArray (p.toList.map fun i=>vs.getD i .none)) e))->(∀b o,b≠a->s.heap.get? b=some o->h'.get? b=some o)->P (.done (.ret .none)) {s with heap:=h'}):
  wpAny (model prog w) A (Builtin.«list.sort» ⟨[.ref a],[]⟩) P E s:=by
 rw[list_sort_plain];have la:a<s.heap.objs.size:=Uu ho;have zs:vs.toArray.size=vs.length:=by simp
 refine Uk (listItems_at ho rfl (Uk (listUpdate_at ho rfl ?_ (by rw[zs,Vr];lia) (U6 _))));obtain⟨e1,h1⟩:∃e1,(s.heap.update a (Obj.mapSeq fun _=>#[])).get? a=some (seqObj "list" #[] e1):=⟨_,get?_update_seq ho (fun _=>#[])⟩
 refine Uk (seqEpoch_at h1 rfl (Uk (wpAny_newTuple (Uk (YM (VO ?_))) (by simp only[WD];rw[Vr];lia))));generalize e6:((s.heap.update a (Obj.mapSeq fun _=>#[])).push {cls:=.type "tuple",data:=.seq vs.toArray.toList.toArray}).push {cls:=.type "list",data:=.seq ([]:List Value).toArray}=h6;have k6:∀b o,b≠a->s.heap.get? b=some o->h6.get? b=some o:=fun b o nb e=>by
  rw[<-e6];exact Heap.get?_push_of_some _ (Heap.get?_push_of_some _ ((Heap.get?_update_other _ _ (VB nb)).trans e))
 have Qt:h6.get? a=some (seqObj "list" #[] e1):=by
  rw[<-e6];exact Heap.get?_push_of_some _ (Heap.get?_push_of_some _ h1)
 dsimp only;have fin:∀(p:Array Nat),POk vs.length p->bI key p vs.length->∀out:Array Value,out=List.toArray (p.toList.map fun i=>vs.getD i .none)->
   P (.done (.ret .none)) {s with heap:=h6.update a (Obj.mapSeq fun _=>out)}:=fun p hp hs out eo=>by
  subst eo;exact h p _ hp hs ⟨_,get?_update_seq Qt _⟩ fun b o nb e=>(Heap.get?_update_other _ _ (VB nb)).trans (k6 b o nb e)
 have fits:∀{out:Array Value}{p:Array Nat},POk vs.length p->out=List.toArray (p.toList.map fun i=>vs.getD i .none)->out.size<=sizeLine+1:=fun{out p} hp e=>by
  rw[e,Uo,Um,hp.perm.length_eq,UM,Vr];lia
 by_cases h2:vs.toArray.size<2
 ·rw[Ut h2,Ut h2];refine Uk (Ul ?_);rw[StateT.run_pure];refine Uk (Ul ?_);dsimp only;have eo:(arrOf (SortSt.mk' general' (vs.toArray.zip vs.toArray) #[] 7 none)).map (·.2)=List.toArray ((List.toArray (List.range vs.length)).toList.map fun i=>vs.getD i .none):=by
   show(vs.toArray.zip vs.toArray).map (·.2)=_;apply Array.toList_inj.mp;simp only[Array.toList_map,Array.toList_zip,WD];have a1:(vs.zip vs).map (·.2)=vs:=by
    rw[List.map_snd_zip];exact Ur _
   rw[a1];apply WZ;intro i;by_cases hi:i<vs.length
   ·simp[hi]
   ·simp[hi]
  refine Uk (seqEpoch_at Qt rfl (Uk (listUpdate_at Qt rfl ?_ (U6 _) (fits (rq _) eo))));simp only[Xx,VE,W4];refine Ul (fin _ (rq _) ?_ _ eo);intro i j x y;have:i=j:=by lia
  rw[this];exact V3 _
 ·rw[UD h2,UD h2];have Sw:2<=vs.length:=by lia
  refine Uk (JS Sw h6 k6 _ ?_);refine Uk (Vc (kat_run (ks:=vs) (vs:=vs) (Q:=fun Jr s'=>∃p,POk vs.length p/\bI key p vs.length/\arrOf Jr=p.map (kas_item (vs.toArray.zip vs.toArray))/\failedOf Jr=none/\s'={s with heap:=h6})
   (G:=fun p s'=>POk vs.length p/\bI key p vs.length/\s'={s with heap:=h6}) rfl Sw Mj (fun p Jr s' hz OY hf hg=>⟨p,hg.1,hg.2.1,OY,hf,hg.2.2⟩)
   (zJ (n:=vs.length) (O:=O) (κ:=key) (Good:=fun s'=>s'={s with heap:=h6}) (fun i j hi hj Q s' g k=>?_) (by lia) rfl fun p s' hp g hs=>⟨hp,hs,g⟩)) (fun r s' hq=>?_) fun _ _ e=>e)
  ·subst g;exact ML i j hi hj h6 k6 Q (k _ rfl)
  ·obtain⟨p,hp,hs,OY,hf,rfl⟩:=hq;have eo:=kat_snds (ks:=vs) (vs:=vs) rfl OY;refine Uk (seqEpoch_at Qt rfl (Uk (listUpdate_at Qt rfl ?_ (U6 _) (fits hp eo))));rw[hf];simp only[Xx,VE,W4];exact Ul (fin p hp hs _ eo)
theorem jY{O:KeyOrd}{key:Nat->O.α}{kd:SortKind}{l:Addr}{vs:List Value}{Q:Value->Shared->Prop}(hl:s.heap.IsList l vs.toArray)(Mj:vs.length<64)
  (JS:2<=vs.length->∀(A':Around) (E':Value->Shared->Prop) (h':Heap),(∀b o,s.heap.get? b=some o->h'.get? b=some o)->∀Q:SortKind->Shared->Prop,Q kd {s with heap:=h'}->wpAny (model prog w) A' (keyKind' vs.toArray) Q E' {s with heap:=h'})
  (ML:∀i j,i<vs.length->j<vs.length->∀(h':Heap),(∀b o,s.heap.get? b=some o->h'.get? b=some o)->∀C:Bool->Shared->Prop,C (O.blt (key i) (key j)) {s with heap:=h'}->kas_ask prog w A.in1.in1 kd vs i j C {s with heap:=h'})
  (h:∀p h' e,POk vs.length p->bI key p vs.length->h'.get? (s.heap.objs.size+1)=some (seqObj "list" (List.toArray (p.toList.map fun i=>vs.getD i .none)) e)->(∀b o,s.heap.get? b=some o->h'.get? b=some o)->Q (.ref (s.heap.objs.size+1)) {s with heap:=h'}):
  wpAny (model prog w) A (call (.builtin "sorted") [.ref l]) Q E s:=by
 refine WC kind_sorted plain_sorted entry_sorted (args_sorted1 _) ?_;unfold Builtin.«sorted»;refine Uk (m:=checkCount "sorted" 1 1 _) (Ul (Uk (collect_list hl (Uk (YM ?_ (by rw[Vr];lia))) (by rw[Vr];lia))));have zz:((s.heap.push (seqObj "list" #[] 0)).update s.heap.objs.size (Obj.mapSeq (·++vs.toArray))).objs.size=s.heap.objs.size+1:=by rw[Heap.size_update,size_push']
 generalize e5:(s.heap.push (seqObj "list" #[] 0)).update s.heap.objs.size (Obj.mapSeq (·++vs.toArray))=h5 at zz ⊢;have k5:∀b o,s.heap.get? b=some o->(h5.push (seqObj "list" vs.toArray 0)).get? b=some o:=fun b o e=>by
  rw[<-e5];exact Heap.get?_push_of_some _ ((Heap.get?_update_other _ _ (VB (UK (Uu e)))).trans (Heap.get?_push_of_some _ e))
 have hL:(h5.push (seqObj "list" vs.toArray 0)).get? (s.heap.objs.size+1)=some (seqObj "list" vs.toArray 0):=by
  rw[<-zz];exact Heap.get?_push_size _ rfl
 have ne:∀b o,s.heap.get? b=some o->b≠s.heap.objs.size+1:=fun b o e=>UK (Xz (Uu e))
 show wpAny _ _ _ _ _ {s with heap:=h5.push (seqObj "list" vs.toArray 0)};rw[zz];refine Uk (VO (Vj slot_list_sort ⟨_,hL,rfl⟩ entry_list_sort (jr (key:=key) (kd:=kd) hL Mj (fun h2 h' kk Q' q=>JS h2 _ _ h' (fun b o e=>kk b o (ne b o e) (k5 b o e)) Q' q)
  (fun i j hi hj h' kk C q=>ML i j hi hj h' (fun b o e=>kk b o (ne b o e) (k5 b o e)) C q) fun p h' hp hs ⟨e,he⟩ kk=>⟨_,rfl,?_⟩) (args_list_sort _)))
 exact Ul ⟨_,rfl,h p h' e hp hs he fun b o q=>kk b o (ne b o q) (k5 b o q)⟩
end
def intO:KeyOrd where
 α:=Int
 blt a b:=decide (a<b)
 irrefl a:=by simp
 trans a b c h1 h2:=by simp only[UL] at *;lia
 negTrans a b c h:=by simp only[UL] at *;lia
 total a b h1 h2:=by simp only[Vp] at *;lia
abbrev FJ:KeyOrd:=strKind.toKeyOrd
noncomputable def rA:KeyOrd where
 α:=Key
 blt a b:=match a,b with
  | .inl i,.inl j=>decide (i<j)
  | .inr x,.inr y=>decide (x.cps.toList<y.cps.toList)
  | .inl _,.inr _=>true
  | .inr _,.inl _=>false
 irrefl a:=by
  cases a with
  |inl i=>simp
  |inr x=>simpa using List.lt_irrefl x.cps.toList
 trans a b c h1 h2:=by
  cases a <;> cases b <;> cases c <;> simp_all
  ·lia
  ·exact List.lt_trans h1 h2
 negTrans a b c h:=by
  cases a <;> cases b <;> cases c <;> simp_all
  ·lia
  ·rename_i x y z;by_cases q:x.cps.toList<y.cps.toList
   ·exact .inl q
   ·exact .inr (List.lt_of_le_of_lt (XJ.mp q) h)
 total a b h1 h2:=by
  cases a <;> cases b <;> simp_all
  ·lia
  ·rename_i x y;have e:x.cps.toList=y.cps.toList:=List.le_antisymm (by first|exact h2|exact XJ.mp h2) (by first|exact h1|exact XJ.mp h1);rw[<-oZ x,<-oZ y,e]
def fE:List Key->List Key->Bool
 |[],[]=>false
 |[],_::_=>true
 |_::_,[]=>false
 |a::r,b::t=>if a=b then fE r t else rA.blt a b
theorem iY:∀a:List Key,fE a a=false
 |[]=>rfl
 |a::r=>by
  show(if a=a then fE r r else _)=false;rw[Ut rfl];exact iY r
theorem zL{a b:Key}(h:rA.blt a b=true):a≠b:=by
 rintro rfl;have:=rA.irrefl a;rw[h]at this;cases this
theorem iE:∀a b c:List Key,fE a b=true->fE b c=true->fE a c=true
 |[],[],_,h,_=>by cases h
 |[],_::_,[],_,h=>by cases h
 |[],_::_,_::_,_,_=>rfl
 |_::_,[],_,h,_=>by cases h
 |_::_,_::_,[],_,h=>by cases h
 |a::r,b::t,c::u,h1,h2=>by
  have h1:(if a=b then fE r t else rA.blt a b)=true:=h1;have h2:(if b=c then fE t u else rA.blt b c)=true:=h2;show(if a=c then fE r u else rA.blt a c)=true;by_cases e1:a=b
  ·by_cases e2:b=c
   ·rw[Ut e1]at h1;rw[Ut e2]at h2;rw[Ut (e1.trans e2)];exact iE r t u h1 h2
   ·rw[UD e2]at h2;rw[e1,UD e2];exact h2
  ·rw[UD e1]at h1;by_cases e2:b=c
   ·rw[<-e2,UD e1];exact h1
   ·rw[UD e2]at h2;have h3:=rA.trans a b c h1 h2;rw[UD (zL h3)];exact h3
theorem iF:∀a b:List Key,fE a b=false->fE b a=false->a=b
 |[],[],_,_=>rfl
 |[],_::_,h,_=>by cases h
 |_::_,[],_,h=>by cases h
 |a::r,b::t,h1,h2=>by
  have h1:(if a=b then fE r t else rA.blt a b)=false:=h1;have h2:(if b=a then fE t r else rA.blt b a)=false:=h2;by_cases e:a=b
  ·rw[Ut e]at h1;rw[Ut e.symm]at h2;rw[e,iF r t h1 h2]
  ·rw[UD e]at h1;rw[UD (VB e)]at h2;exact absurd (rA.total a b h1 h2) e
theorem xo(a b c:List Key)(h:fE a c=true):fE a b=true\/fE b c=true:=by
 cases e:fE a b with
 |true=>exact .inl rfl
 |false=>
  refine .inr ?_;cases e2:fE b a with
  |true=>exact iE b a c e2 h
  |false=>
   rw[<-iF a b e e2];exact h
def Ea:KeyOrd where
 α:=List Key
 blt:=fE
 irrefl:=iY
 trans:=iE
 negTrans:=xo
 total:=iF
section
variable{O:KeyOrd}
def tj(p:Array Nat)(xs:List V):List V:=p.toList.map fun i=>xs.getD i .non
theorem mx{α:Type}(xs:List α)(d:α):((List.range xs.length).map fun i=>xs.getD i d)=xs:=by
 apply WZ;intro i;by_cases hi:i<xs.length
 ·simp[hi]
 ·simp[hi]
theorem kP{α:Type}{p:Array Nat}{xs:List α}(d:α)(hp:POk xs.length p):(p.toList.map fun i=>xs.getD i d).Perm xs:=by
 have:=hp.perm.map (fun i=>xs.getD i d)
 rwa [mx]at this
theorem iG{α:Type}{p:Array Nat}{xs:List α}(d:α)(key:α->O.α)(hp:POk xs.length p)(hs:bI (O:=O) (fun i=>key (xs.getD i d)) p xs.length):(p.toList.map fun i=>xs.getD i d).Pairwise fun a b=>O.kle (key a) (key b):=by
 rw[List.pairwise_iff_getElem];intro i j hi hj Mu;have hsz:=hp.size;have Np:i<p.size:=by simpa using hi
 have OZ:j<p.size:=by simpa using hj
 have h:=hs i j (X6 Mu) (by lia);unfold kk at h;simp only[List.getElem_map,Array.getElem_toList];have e1:p.getD i 0=p[i]:=by simp[Array.getD,Np]
 have e2:p.getD j 0=p[j]:=by simp[Array.getD,OZ]
 rw[e1,e2]at h;exact h
theorem vals_pick{xs:List V}{us:List Value}(r:Vals xs us):∀l:List Nat,(∀i∈l,i<xs.length)->Vals (l.map fun i=>xs.getD i .non) (l.map fun i=>us.getD i .none)
 |[],_=>.nil
 |i::l,h=>by
  refine .cons ?_ (vals_pick r l fun j hj=>h j (Uy _ hj));have hi:=h i Uq;have e1:xs[i]?=some (xs.getD i .non):=by rw[bA _ _ _ hi];exact List.getElem?_eq_getElem hi
  obtain⟨u,hu,ru⟩:=r.get e1;have e2:us.getD i .none=u:=by rw[List.getD_eq_getElem?_getD,hu];rfl
  show L2.RelV (xs.getD i .non) (us.getD i .none);rw[e2];exact ru
theorem kQ{xs:List V}{us:List Value}{p:Array Nat}(r:Vals xs us)(hp:POk xs.length p):Vals (tj p xs) (p.toList.map fun i=>us.getD i .none):=
 vals_pick r _ fun i hi=>UR.mp (hp.perm.mem_iff.mp hi)
end
section
variable{X:Cx}
theorem jt{pi:List (Addr×Obj)}{s:Shared}{σ:L2.St}{H:Hp}{h':Heap}{ys:List V}{us:List Value}{e:Nat}{D:Addr}(I:Inv X pi σ H s)(kk:∀b o,s.heap.get? b=some o->h'.get? b=some o)(hD:s.heap.objs.size<=D)
  (ho:h'.get? D=some (seqObj "list" (List.toArray us) e)) (r:Vals ys us) (hz:ys.length<=sizeLine):Inv X pi σ (upd H D (.lst ys)) {s with heap:=h'}:=
 I.laid (t':=s.toks) kk hD ⟨hz,us,e,r,ho⟩
theorem kH(hc:X.calm=true):cX X (.builtin "sorted") (fun vs H Q=>∃(p:Addr) (ns:List Int),vs=[.ref p]/\SqL X.K H p (ns.map V.int)/\ns.length<64/\∀(D:Addr) (ms:List Int),H D=none->ms.Perm ns->ms.Pairwise (·<=·)->Q (.ref D) (upd H D (.lst (ms.map V.int)))):=by
 intro pi s σ H vs us Q I r h;obtain⟨p,ns,rfl,hp,Mj,q⟩:=h;obtain⟨u,rfl,r1⟩:=eF r;cases r1;obtain⟨ws,rv,pl,hz⟩:=I.list hp;have hl:=rv.length;rw[Um]at hl;have isI:∀v∈ws,∃n t,v=.int n t:=fun v hv=>by
  obtain⟨i,hi⟩:=U0.mp hv;obtain⟨t,e⟩:=eG rv hi;exact⟨_,t,e⟩
 refine jY (O:=intO) (key:=fun i=>ns.getD i 0) (kd:=oneType') pl.isList (by lia) (fun h2 A' E' h' kk Q' q'=>?_) (fun i j hi hj h' kk C q'=>?_) fun pp h' e Js hs he kk=>?_
 ·refine kas_kind h2 (T:=.type "int") (fun v hv=>?_) (by decide) (by decide) q';obtain⟨n,t,rfl⟩:=isI v hv;exact fun A Q E s _ q=>WH (Yo s n t) q
 ·unfold kas_ask;have e1:ws[i]?=some (ws.getD i .none):=by rw[bA _ _ _ hi];exact List.getElem?_eq_getElem hi
  have e2:ws[j]?=some (ws.getD j .none):=by rw[bA _ _ _ hj];exact List.getElem?_eq_getElem hj
  obtain⟨t,Sy⟩:=eG rv e1;obtain⟨t',Sz⟩:=eG rv e2;rw[Sy,Sz];exact kat_lt_int q'
 ·rw[<-hl]at Js hs;have O0:POk (ns.map V.int).length pp:=by rw[Um];exact Js
  have eo:tj pp (ns.map V.int)=(pp.toList.map fun i=>ns.getD i 0).map V.int:=by
   unfold tj;rw[UC];refine Vv fun i hi=>?_
   have hi:=UR.mp (Js.perm.mem_iff.mp hi);show(ns.map V.int).getD i .non=V.int (ns.getD i 0);rw[bA _ _ _ (by rw[Um];exact hi),bA _ _ _ hi];simp
  have hn:H (s.heap.objs.size+1)=none:=I.hok.fresh (Wy _);refine⟨.ref (s.heap.objs.size+1),_,jt I kk (Wy _) he (kQ rv O0) ?_,rfl,?_⟩
  ·show(tj pp (ns.map V.int)).length<=sizeLine;rw[eo,Um,Um,Js.perm.length_eq,UM,Vr];lia
  ·rw[eo];refine q _ _ hn (kP 0 Js) ?_;have:=iG (O:=intO) 0 (fun i:Int=>i) Js hs;refine this.imp fun{a b} O3=>?_
   have O3:decide (b<a)=false:=O3;have:=YN O3;lia
theorem qo{ls:List (List Nat)}{us:List Value}(r:Vals (ls.map fun l=>V.str (S l)) us){i:Nat}{v:Value}(h:us[i]?=some v):∃t,v=.str (S (ls.getD i [])) t:=by
 have hl:=r.length;rw[Um]at hl;obtain⟨hi,_⟩:=List.getElem?_eq_some_iff.mp h;have e1:(ls.map fun l=>V.str (S l))[i]?=some (.str (S (ls.getD i []))):=by
  rw[List.getElem?_map,List.getElem?_eq_getElem (by lia),bA _ _ _ (by lia)];rfl
 obtain⟨u,hu,t,rfl⟩:=r.get e1;rw[h]at hu;exact⟨t,UU hu⟩
theorem kI(hc:X.calm=true):cX X (.builtin "sorted") (fun vs H Q=>∃(p:Addr) (ls:List (List Nat)),vs=[.ref p]/\SqL X.K H p (ls.map fun l=>V.str (S l))/\ls.length<64/\∀(D:Addr) (ms:List (List Nat)),H D=none->ms.Perm ls->ms.Pairwise (fun a b=>¬ b<a)->Q (.ref D) (upd H D (.lst (ms.map fun l=>V.str (S l))))):=by
 intro pi s σ H vs us Q I r h;obtain⟨p,ls,rfl,hp,Mj,q⟩:=h;obtain⟨u,rfl,r1⟩:=eF r;cases r1;obtain⟨ws,rv,pl,hz⟩:=I.list hp;have hl:=rv.length;rw[Um]at hl;refine jY (O:=FJ) (key:=fun i=>ls.getD i []) (kd:=oneType') pl.isList (by lia) (fun h2 A' E' h' kk Q' q'=>?_) (fun i j hi hj h' kk C q'=>?_) fun pp h' e Js hs he kk=>?_
 ·refine kas_kind h2 (T:=.type "str") (fun v hv=>?_) (by decide) (by decide) q';obtain⟨i,hi⟩:=U0.mp hv;obtain⟨t,rfl⟩:=qo rv hi;exact fun A Q E s _ q=>WH (Yn s _ t) q
 ·unfold kas_ask;have e1:ws[i]?=some (ws.getD i .none):=by rw[bA _ _ _ hi];exact List.getElem?_eq_getElem hi
  have e2:ws[j]?=some (ws.getD j .none):=by rw[bA _ _ _ hj];exact List.getElem?_eq_getElem hj
  obtain⟨t,Sy⟩:=qo rv e1;obtain⟨t',Sz⟩:=qo rv e2;rw[Sy,Sz];refine kas_lt_str ?_;rw[fe,fe];exact q'
 ·rw[<-hl]at Js hs;have O0:POk (ls.map fun l=>V.str (S l)).length pp:=by rw[Um];exact Js
  have eo:tj pp (ls.map fun l=>V.str (S l))=(pp.toList.map fun i=>ls.getD i []).map fun l=>V.str (S l):=by
   unfold tj;rw[UC];refine Vv fun i hi=>?_
   have hi:=UR.mp (Js.perm.mem_iff.mp hi);show(ls.map fun l=>V.str (S l)).getD i .non=V.str (S (ls.getD i []));rw[bA _ _ _ (by rw[Um];exact hi),bA _ _ _ hi];simp
  have hn:H (s.heap.objs.size+1)=none:=I.hok.fresh (Wy _);refine⟨.ref (s.heap.objs.size+1),_,jt I kk (Wy _) he (kQ rv O0) ?_,rfl,?_⟩
  ·show(tj pp (ls.map fun l=>V.str (S l))).length<=sizeLine;rw[eo,Um,Um,Js.perm.length_eq,UM,Vr];lia
  ·rw[eo];refine q _ _ hn (kP [] Js) ?_;have:=iG (O:=FJ) [] (fun l:List Nat=>l) Js hs;refine this.imp fun{a b} O3=>?_
   have O3:decide (b<a)=false:=O3;exact YN O3
end
def kinds(k:List Key):List Bool:=k.map fun x=>x.isLeft
section
variable{prog:Program}{w:World}{A:Around}{s:Shared}
theorem uY(a b:Key):Sf (kV a) (kV b)=decide (a=b):=by
 cases a <;> cases b <;> (rw[UP];simp[kV,Sf])
theorem kR(a:Key):xc (kV a)=true:=by cases a <;> rfl
theorem Ci{a b:Key}{u v:Value}{top:Bool}{Q:Bool->Shared->Prop}(ra:L2.RelV (kV a) u)(rb:L2.RelV (kV b) v)(hk:a.isLeft=b.isLeft)(q:Q (rA.blt a b) s):wpAny (model prog w) A (oneLt' top u v) Q (fun _ _=>False) s:=by
 cases a with
 |inl i=>
  cases b with
  |inr _=>cases hk
  |inl j=>
   obtain⟨t,rfl⟩:=ra;obtain⟨t',rfl⟩:=rb;cases top with
   |true=>exact kat_lt_int (E:=fun _ _=>False) q
   |false=>exact kat_one _ _ (lt_int q)
 |inr x=>
  cases b with
  |inl _=>cases hk
  |inr y=>
   obtain⟨t,rfl⟩:=ra;obtain⟨t',rfl⟩:=rb;cases top with
   |true=>exact oneLt_str q
   |false=>exact kat_one _ _ (lt_str q)
theorem ll{Q:Bool->Shared->Prop}:∀(k1 k2:List Key) (us ws:List Value) (i:Nat),Vals (k1.map kV) us->Vals (k2.map kV) ws->kinds k1=kinds k2->Q (fE k1 k2) s->KatLex prog w A true false Q (us.zip ws) i s
 |[],[],_,_,_,.nil,.nil,_,q=>q
 |[],_::_,_,_,_,_,_,h,_=>by cases h
 |_::_,[],_,_,_,_,_,h,_=>by cases h
 |a::r,b::t,u::us,v::ws,i,.cons ru rus,.cons rv rvs,h,q=>by
  have h1:a.isLeft=b.isLeft:=(WQ h).1;have h2:kinds r=kinds t:=(WQ h).2;have q:Q (if a=b then fE r t else rA.blt a b) s:=q;refine kat_cons (yo (A:=A) (s:=s) ru rv (kR a) (kR b) prog w _ _ ?_);rw[uY];by_cases e:a=b
  ·rw[Ut e]at q;rw[UW e];exact kat_yes (ll r t us ws (i+1) rus rvs h2 q)
  ·rw[UD e]at q;rw[UO e];exact kat_no (Ci ru rv h1 q)
end
section
variable{X:Cx}{pi:List (Addr×Obj)}{σ:L2.St}{H:Hp}{s:Shared}
theorem o9(I:Inv X pi σ H s){a:Addr}{xs:List V}(h:SqT X.K H a xs):∃(us:List Value) (o:Obj) (n:Nat),Vals xs us/\s.heap.get? a=some o/\o.cls=.type "tuple"/\o.data=.seq us.toArray n:=by
 obtain⟨us,r,pl,_⟩:=I.tuple h;obtain⟨o,ho,oc,n,od⟩:=pl;exact⟨us,o,n,r,ho,oc,od⟩
theorem nI{al:List (Addr×List Key)}{us:List Value}(r:Vals (al.map fun a=>V.ref a.1) us){i:Nat}(h:i<al.length):us.getD i .none=.ref (al.getD i (0,[])).1:=by
 have e1:(al.map fun a=>V.ref a.1)[i]?=some (.ref (al.getD i (0,[])).1):=by
  rw[List.getElem?_map,List.getElem?_eq_getElem h,bA _ _ _ h];rfl
 obtain⟨u,hu,ru⟩:=r.get e1;rw[List.getD_eq_getElem?_getD,hu];exact ru
theorem rB{al:List (Addr×List Key)}{us:List Value}{h':Heap}(I:Inv X pi σ H s)(kk:∀b o,s.heap.get? b=some o->h'.get? b=some o)(top:Bool):
  (r:Vals (al.map fun a=>V.ref a.1) us)->(∀a∈al,SqT X.K H a.1 (a.2.map kV)/\∃t,kinds a.2=top::t)->∃fs:List Value,KatTups h' us fs/\fs.length=al.length/\∀v∈fs,∀M:Model,Looks M h' (typeOf v) (.type (if top then "int" else "str")):=by
 induction al generalizing us with
 |nil=>
  intro r _;cases r;exact⟨[],trivial,rfl,fun v hv=>by cases hv⟩
 |cons a al ih=>
  intro r h;cases r with
  |cons ra rs=>
   cases ra;obtain⟨fs,t1,t2,t3⟩:=ih rs fun b hb=>h b (Uy _ hb)
   obtain⟨ha,kt,hk⟩:=h a Uq;obtain⟨ws,o,n,rv,ho,oc,od⟩:=o9 I ha;cases e2:a.2 with
   |nil=>rw[e2]at hk;cases hk
   |cons k ks=>
    rw[e2]at rv hk;have TB:k.isLeft=top:=(WQ hk).1;cases rv with
    | @cons _ f _ fr rf rfs=>
     refine⟨f::fs,KatTups.cons (kk _ _ ho) oc od (by simp) t1,by simp[t2],fun v hv M=>?_⟩;rcases Ux.mp hv with rfl|hv
     ·cases k with
      |inl i=>
       obtain⟨t,rfl⟩:=rf;have:top=true:=TB.symm;subst this;exact fun A Q E s _ q=>WH (Yo s _ t) q
      |inr x=>
       obtain⟨t,rfl⟩:=rf;have:top=false:=TB.symm;subst this;exact fun A Q E s _ q=>WH (Yn s _ t) q
     ·exact t3 v hv M
end
section
variable{X:Cx}
theorem kJ(hc:X.calm=true):cX X (.builtin "sorted") (fun vs H Q=>∃(p:Addr) (al:List (Addr×List Key)) (top:Bool) (t:List Bool),vs=[.ref p]/\SqL X.K H p (al.map fun a=>V.ref a.1)/\(∀a∈al,SqT X.K H a.1 (a.2.map kV)/\kinds a.2=top::t)/\al.length<64/\
  ∀(D:Addr) (ms:List (Addr×List Key)),H D=none->ms.Perm al->ms.Pairwise (fun a b=>fE b.2 a.2=false)->Q (.ref D) (upd H D (.lst (ms.map fun a=>V.ref a.1)))):=by
 intro pi s σ H vs us Q I r h;obtain⟨p,al,top,kt,rfl,hp,Ka,Mj,q⟩:=h;obtain⟨u,rfl,r1⟩:=eF r;cases r1;obtain⟨ws,rv,pl,hz⟩:=I.list hp;have hl:=rv.length;rw[Um]at hl;refine jY (O:=Ea) (key:=fun i=>(al.getD i (0,[])).2) (kd:=tuples' true) pl.isList (by lia) (fun h2 A' E' h' kk Q' q'=>?_) (fun i j hi hj h' kk C q'=>?_) fun pp h' e Js hs he kk=>?_
 ·obtain⟨fs,t1,t2,t3⟩:=rB I kk top rv fun a ha=>⟨(Ka a ha).1,kt,(Ka a ha).2⟩
  refine kat_kind (T:=.type (if top then "int" else "str")) t1 (by lia) (fun v hv=>t3 v hv _) (by simp) ?_;have:((Value.type (if top then "int" else "str")) != Value.type "tuple")=true:=by cases top <;> decide
  rw[this];exact q'
 ·unfold kas_ask;have Np:i<al.length:=by lia
  have OZ:j<al.length:=by lia
  rw[nI rv Np,nI rv OZ];have mi:al.getD i (0,[])∈al:=by rw[bA _ _ _ Np];exact Vt _
  have mj:al.getD j (0,[])∈al:=by rw[bA _ _ _ OZ];exact Vt _
  obtain⟨u1,o1,n1,r1,g1,_,d1⟩:=o9 I (Ka _ mi).1;obtain⟨u2,o2,n2,r2,g2,_,d2⟩:=o9 I (Ka _ mj).1;have ek:kinds (al.getD i (0,[])).2=kinds (al.getD j (0,[])).2:=by rw[(Ka _ mi).2,(Ka _ mj).2]
  have el:u1.length=u2.length:=by
   have a1:=r1.length;have a2:=r2.length;have a3:=VC List.length ek;simp only[kinds,Um]at a1 a2 a3;lia
  refine kat_lt (kk _ _ g1) d1 (kk _ _ g2) d2 ?_;have ef:decide (u1.toArray.size<u2.toArray.size)=false:=by simp[el]
  rw[ef];exact ll _ _ _ _ 0 r1 r2 ek q'
 ·rw[<-hl]at Js hs;have O0:POk (al.map fun a=>V.ref a.1).length pp:=by rw[Um];exact Js
  have eo:tj pp (al.map fun a=>V.ref a.1)=(pp.toList.map fun i=>al.getD i (0,[])).map fun a=>V.ref a.1:=by
   unfold tj;rw[UC];refine Vv fun i hi=>?_
   have hi:=UR.mp (Js.perm.mem_iff.mp hi);show(al.map fun a=>V.ref a.1).getD i .non=V.ref (al.getD i (0,[])).1;rw[bA _ _ _ (by rw[Um];exact hi),bA _ _ _ hi];simp
  have hn:H (s.heap.objs.size+1)=none:=I.hok.fresh (Wy _);refine⟨.ref (s.heap.objs.size+1),_,jt I kk (Wy _) he (kQ rv O0) ?_,rfl,?_⟩
  ·show(tj pp (al.map fun a=>V.ref a.1)).length<=sizeLine;rw[eo,Um,Um,Js.perm.length_eq,UM,Vr];lia
  ·rw[eo];refine q _ _ hn (kP (0,[]) Js) ?_;exact iG (O:=Ea) (0,[]) (fun a:Addr×List Key=>a.2) Js hs
end
end NX
namespace L2
open PySem PySem.Spec PyProof.Rows
section
variable{κ:Type}[DecidableEq κ]
def pb(GV:List (κ×V))(k:κ):Option V:=(GV.find? fun kv=>decide (kv.1=k)).map (·.2)
def kK(GV:List (κ×V))(k:κ)(v:V):List (κ×V):=
 if(GV.any fun kv=>decide (kv.1=k))=true then GV.map (fun kv=>if kv.1=k then(kv.1,v) else kv) else GV++[(k,v)]
theorem nJ{p:κ×V}{r:List (κ×V)}{k:κ}(e:p.1=k):pb (p::r) k=some p.2:=by simp[pb,List.find?_cons,e]
theorem nK{p:κ×V}{r:List (κ×V)}{k:κ}(e:¬ p.1=k):pb (p::r) k=pb r k:=by simp[pb,List.find?_cons,e]
theorem rD(k:κ):∀GV:List (κ×V),(GV.any fun kv=>decide (kv.1=k))=(pb GV k).isSome
 |[]=>rfl
 |p::r=>by
  rw[YO];by_cases e:p.1=k
  ·simp only[nJ e,UW e,Xp,Option.isSome_some]
  ·rw[nK e,UO e,XH];exact rD k r
theorem iZ(GV:List (κ×V))(k:κ)(v:V):(kK GV k v).length<=GV.length+1:=by
 unfold kK;split
 ·rw[Um];lia
 ·rw[Vb,UI,VR];lia
theorem RelO.isSome_eq{o:Option V}{u:Option Value}(r:RelO o u):o.isSome=u.isSome:=by
 cases o with
 |none=>cases u with
  |none=>rfl
  |some _=>exact(show False from r).elim
 |some _=>cases u with
  |none=>exact(show False from r).elim
  |some _=>rfl
theorem KV.val{GV:List (κ×V)}{vs:List (κ×Value)}(r:KV GV vs)(k:κ):RelO (pb GV k) (valueAt vs k):=by
 unfold KV at r;induction r with
 |nil=>exact True.intro
 | @cons p q ps qs h t ih=>
  obtain⟨h1,h2⟩:=h;by_cases e:p.1=k
  ·have e':q.1=k:=h1.symm.trans e;have b:valueAt (q::qs) k=some q.2:=by simp[valueAt,List.find?_cons,e']
   rw[nJ e,b];exact h2
  ·have e':¬ q.1=k:=fun z=>e (h1.trans z)
   have b:valueAt (q::qs) k=valueAt qs k:=by simp[valueAt,List.find?_cons,e']
   rw[nK e,b];exact ih
theorem KV.any{GV:List (κ×V)}{vs:List (κ×Value)}(r:KV GV vs)(k:κ):(GV.any fun kv=>decide (kv.1=k))=vs.any fun kv=>decide (kv.1=k):=by
 unfold KV at r;induction r with
 |nil=>rfl
 |cons h t ih=>rw[YO,YO,ih,h.1]
theorem KV.repl{GV:List (κ×V)}{vs:List (κ×Value)}(r:KV GV vs)(k:κ){y:V}{u:Value}(ry:RelV y u):
  KV (GV.map fun kv=>if kv.1=k then(kv.1,y) else kv) (vs.map fun kv=>if kv.1=k then(kv.1,u) else kv):=by
 unfold KV at r ⊢;induction r with
 |nil=>exact .nil
 | @cons p q ps qs h t ih=>
  rw[UH,UH];refine .cons ?_ ih;obtain⟨h1,h2⟩:=h;by_cases e:p.1=k
  ·rw[Ut e,Ut (h1.symm.trans e)];exact⟨h1,ry⟩
  ·rw[UD e,UD (fun z=>e (h1.trans z))];exact⟨h1,h2⟩
theorem KV.put{GV:List (κ×V)}{vs:List (κ×Value)}(r:KV GV vs)(k:κ){y:V}{u:Value}(ry:RelV y u):KV (kK GV k y) (stored vs k u):=by
 unfold kK stored;rw[r.any k];by_cases e:(vs.any fun kv=>decide (kv.1=k))=true
 ·rw[Ut e,Ut e];exact r.repl k ry
 ·rw[UD e,UD e];exact Paired.snoc r ⟨rfl,ry⟩
theorem KV.length{GV:List (κ×V)}{vs:List (κ×Value)}(r:KV GV vs):GV.length=vs.length:=Xd r
end
theorem kV_is{P:Program}{w:World}{k:Key}{u:Value}(r:RelV (kV k) u):(mixKind P w).is k u=true:=by
 cases k with
 |inl i=>obtain⟨t,e⟩:=(show ∃t,u=Value.int i t from r);subst e;exact qh P w i t
 |inr x=>obtain⟨t,e⟩:=(show ∃t,u=Value.str x t from r);subst e;exact qi P w x t
theorem pd{P:Program}{w:World}:∀{ks:List Key}{us:List Value},Vals (ks.map kV) us->ItemsAre (mixKind P w) ks us
 |[],_,r=>by rw[U1]at r;cases r;exact .nil
 |k::ks,_,r=>by
  rw[UH]at r;cases r with
  |cons h t=>exact .cons (kV_is h) (pd t)
abbrev KT(H:Hp):List (List Key×V)->List (List Key×Addr×Value)->Prop:=Paired fun p q=>p.1=q.1/\H q.2.1=some (.tup (p.1.map kV))/\RelV p.2 q.2.2
theorem KT.val{H:Hp}{GV:List (List Key×V)}{xs:List (List Key×Addr×Value)}(r:KT H GV xs)(k:List Key):RelO (pb GV k) ((atKey xs k).map (·.2)):=by
 induction r with
 |nil=>exact True.intro
 | @cons p q ps qs h t ih=>
  obtain⟨h1,_,h2⟩:=h;by_cases e:p.1=k
  ·have e':q.1=k:=h1.symm.trans e;have b:atKey (q::qs) k=some q.2:=by simp[atKey,List.find?_cons,e']
   rw[nJ e,b];exact h2
  ·have e':¬ q.1=k:=fun z=>e (h1.trans z)
   have b:atKey (q::qs) k=atKey qs k:=by simp[atKey,List.find?_cons,e']
   rw[nK e,b];exact ih
theorem KT.repl{H:Hp}{GV:List (List Key×V)}{xs:List (List Key×Addr×Value)}(r:KT H GV xs)(k:List Key){y:V}{u:Value}(ry:RelV y u):
  KT H (GV.map fun kv=>if kv.1=k then(kv.1,y) else kv) (xs.map (putAt k u)):=by
 induction r with
 |nil=>exact .nil
 | @cons p q ps qs h t ih=>
  rw[UH,UH];refine .cons ?_ ih;obtain⟨h1,h2,h3⟩:=h;unfold putAt;by_cases e:p.1=k
  ·rw[Ut e,Ut (h1.symm.trans e)];exact⟨h1,h2,ry⟩
  ·rw[UD e,UD (fun z=>e (h1.trans z))];exact⟨h1,h2,h3⟩
theorem KT.put{H:Hp}{GV:List (List Key×V)}{xs:List (List Key×Addr×Value)}(r:KT H GV xs)(k:List Key){b:Addr}{y:V}{u:Value}(hb:H b=some (.tup (k.map kV)))(ry:RelV y u):
  KT H (kK GV k y) (storedH xs k b u):=by
 have e:(GV.any fun kv=>decide (kv.1=k))=(atKey xs k).isSome:=by
  rw[rD,(r.val k).isSome_eq,XC]
 unfold kK storedH;rw[e];by_cases q:(atKey xs k).isSome=true
 ·rw[Ut q,Ut q];exact r.repl k ry
 ·rw[UD q,UD q];exact Paired.snoc r ⟨rfl,hb,ry⟩
theorem KT.keeps{H H':Hp}{GV:List (List Key×V)}{xs:List (List Key×Addr×Value)}(r:KT H GV xs)(ht:∀b ys,H b=some (.tup ys)->H' b=some (.tup ys)):KT H' GV xs:=
 Paired.mapP r fun _ _ z=>⟨z.1,ht _ _ z.2.1,z.2.2⟩
section
variable{P:Program}{w:World}{H:Hp}{h:Heap}{a:Addr}
theorem Cj{u:HO}(ok:HOk P w H h)(e:Rd H a u):ObjOk P w H h a u:=e.ok ok
theorem u9{GV:List (Key×V)}(ok:HOk P w H h)(e:Rd H a (.dK GV)):GV.length<=sizeLine/\(a==sysModules)=false/\∃vs,KV GV vs/\h.DictOf (mixKind P w) a vs:=
 show ObjOk P w H h a (.dK GV) from Cj ok e
theorem Cm{GV:List (Key×V)}(ok:HOk P w H h)(e:H a=some (.dK GV)):GV.length<=sizeLine/\(a==sysModules)=false/\∃vs,KV GV vs/\h.DictOf (mixKind P w) a vs:=u9 ok (.inl e)
theorem pe{ks:List Key}(ok:HOk P w H h)(e:H a=some (.tup (ks.map kV))):(tupleKind (mixKind P w)).is h ks a:=by
 obtain⟨_,GU,r,o,h1,h2,⟨n,h3⟩,_⟩:=(show ObjOk P w H h a (.tup (ks.map kV)) from ok a _ e)
 exact⟨o,GU.toArray,n,h1,h2,h3,by simpa using pd r⟩
theorem ve{GV:List (List Key×V)}(ok:HOk P w H h)(e:Rd H a (.dT GV)):GV.length<=sizeLine/\(a==sysModules)=false/\
  ∃xs,KT H GV xs/\h.DictOfH (tupleKind (mixKind P w)) a xs:=by
 obtain⟨z,y,xs,r,o,es,ep,h1,h2,h3,h4,h5⟩:=(show ObjOk P w H h a (.dT GV) from Cj ok e)
 refine⟨z,y,xs,r,o,es,ep,h1,h2,h3,h4,fun x hx=>?_,h5⟩;have all:∀{l:List (List Key×V)}{m:List (List Key×Addr×Value)},KT H l m->∀x∈m,(tupleKind (mixKind P w)).is h x.1 x.2.1:=by
  intro l m q;induction q with
  |nil=>intro x hx;exact nomatch hx
  | @cons p q ps qs hq t ih=>
   intro x hx;rcases Ux.mp hx with e|hx
   ·subst e;exact pe ok (by rw[<-hq.1];exact hq.2.1)
   ·exact ih x hx
 exact all r x hx
theorem EJ{GV:List (List Key×V)}(ok:HOk P w H h)(e:H a=some (.dT GV)):GV.length<=sizeLine/\(a==sysModules)=false/\
  ∃xs,KT H GV xs/\h.DictOfH (tupleKind (mixKind P w)) a xs:=ve ok (.inl e)
end
def DGet(H:Hp)(a:Addr)(y:V)(r:Option V):Prop:=
 (∃GV k,Rd H a (.dK GV)/\y=kV k/\r=pb GV k)\/∃GV k b,Rd H a (.dT GV)/\y=.ref b/\H b=some (.tup (k.map kV))/\r=pb GV k
def DPut(H:Hp)(a:Addr)(y v:V)(H':Hp):Prop:=
 (∃GV k,H a=some (.dK GV)/\y=kV k/\GV.length<sizeLine/\H'=upd H a (.dK (kK GV k v)))\/
 ∃GV k b,H a=some (.dT GV)/\y=.ref b/\H b=some (.tup (k.map kV))/\GV.length<sizeLine/\H'=upd H a (.dT (kK GV k v))
theorem DGet.k{H:Hp}{a:Addr}{GV:List (Key×V)}{k:Key}(e:H a=some (.dK GV)):DGet H a (kV k) (pb GV k):=.inl ⟨GV,k,.inl e,rfl,rfl⟩
theorem DGet.t{H:Hp}{a b:Addr}{GV:List (List Key×V)}{k:List Key}(e:H a=some (.dT GV))(eb:H b=some (.tup (k.map kV))):DGet H a (.ref b) (pb GV k):=.inr ⟨GV,k,b,.inl e,rfl,eb,rfl⟩
theorem DPut.k{H:Hp}{a:Addr}{GV:List (Key×V)}{k:Key}{v:V}(e:H a=some (.dK GV))(hl:GV.length<sizeLine):DPut H a (kV k) v (upd H a (.dK (kK GV k v))):=.inl ⟨GV,k,e,rfl,hl,rfl⟩
theorem DPut.t{H:Hp}{a b:Addr}{GV:List (List Key×V)}{k:List Key}{v:V}(e:H a=some (.dT GV))(eb:H b=some (.tup (k.map kV)))(hl:GV.length<sizeLine):
  DPut H a (.ref b) v (upd H a (.dT (kK GV k v))):=.inr ⟨GV,k,b,e,rfl,eb,hl,rfl⟩
section
variable{X:Cx}{pi:List (Addr×Obj)}{σ:St}{H:Hp}{s:Shared}{a:Addr}{y v:V}{u r:Value}{o:Option V}{A:Around}{E:Value->Shared->Prop}
theorem Inv.big(I:Inv X pi σ H s):sysModules<s.heap.objs.size:=by
 have h:mainGlobals<s.heap.objs.size:=(I.mod.glob.keeps I.bk).lt;exact Nat.lt_trans (by decide) h
theorem vf{Q:Value->Shared->Prop}(hu:A.units+1<cLine)(I:Inv X pi σ H s)(g:DGet H a y (some v))(ry:RelV y u)(h:∀w' s',Inv X pi σ H s'->RelV v w'->Q w' s'):
  wpAny (model X.prog X.w) A (getItem (.ref a) u) Q E s:=by
 rcases g with⟨GV,k,e,ey,l⟩|⟨GV,k,b,e,ey,eb,l⟩
 ·subst ey;obtain⟨z,hd,vs,rel,dd⟩:=u9 I.hok e;obtain⟨w',hw,KU⟩:=RelO.some_of (v:=v) (o:=valueAt vs k) (by rw[l];exact rel.val k);exact wpAny_getItem_of (kV_is ry) dd.mapOf hw (h w' _ (I.tok _) KU)
 ·subst ey;cases(show u=Value.ref b from ry);obtain⟨z,hd,xs,rel,dd⟩:=ve I.hok e;obtain⟨w',hw,KU⟩:=RelO.some_of (v:=v) (o:=(atKey xs k).map (·.2)) (by rw[l];exact rel.val k);obtain⟨p,hp,O4⟩:=UX.mp hw;refine wpAny_getItem_heap (WR hu) (pe I.hok eb) dd hp ?_;rw[O4];exact h w' _ (I.tok _) KU
theorem Gn{Q:Value->Shared->Prop}(hu:A.units+1<cLine)(I:Inv X pi σ H s)(g:DGet H a y o)(ry:RelV y u)(h:∀s',Inv X pi σ H s'->Q (.bool o.isSome) s'):
  wpAny (model X.prog X.w) A (compareOp .In u (.ref a)) Q E s:=by
 rcases g with⟨GV,k,e,ey,l⟩|⟨GV,k,b,e,ey,eb,l⟩
 ·subst ey;obtain⟨z,hd,vs,rel,dd⟩:=u9 I.hok e;refine wpAny_in_of (kV_is ry) hd dd.mapOf ?_;rw[<-(rel.val k).isSome_eq,<-l];exact h _ (I.tok _)
 ·subst ey;cases(show u=Value.ref b from ry);obtain⟨z,hd,xs,rel,dd⟩:=ve I.hok e;refine wpAny_in_heap (WR hu) (pe I.hok eb) hd dd ?_;have q:=(rel.val k).isSome_eq;rw[XC]at q;rw[<-q,<-l];exact h _ (I.tok _)
theorem zM{Q:Value->Shared->Prop}(hu:A.units+1<cLine)(I:Inv X pi σ H s)(g:DGet H a y o)(ry:RelV y u)(h:∀s',Inv X pi σ H s'->Q (.bool (!o.isSome)) s'):
  wpAny (model X.prog X.w) A (compareOp .NotIn u (.ref a)) Q E s:=by
 rcases g with⟨GV,k,e,ey,l⟩|⟨GV,k,b,e,ey,eb,l⟩
 ·subst ey;obtain⟨z,hd,vs,rel,dd⟩:=u9 I.hok e;refine wpAny_notIn_of (kV_is ry) hd dd.mapOf ?_;rw[<-(rel.val k).isSome_eq,<-l];exact h _ (I.tok _)
 ·subst ey;cases(show u=Value.ref b from ry);obtain⟨z,hd,xs,rel,dd⟩:=ve I.hok e;refine wpAny_notIn_heap (WR hu) (pe I.hok eb) hd dd ?_;have q:=(rel.val k).isSome_eq;rw[XC]at q;rw[<-q,<-l];exact h _ (I.tok _)
theorem qp{h':Heap}{t':Nat}{ob:HO}(I:Inv X pi σ H s)(mu:Qe (H a))(hs:Heap.SameBut a s.heap h')(he:∃q,h'.get? a=some q)(new:ObjOk X.prog X.w (upd H a ob) h' a ob):
  Inv X pi σ (upd H a ob) {s with heap:=h',toks:=t'}:=
 I.write (x:=a) (e:=a) mu (.inl rfl) (fun b q hb z=>(hs.2 b hb).trans z) he new
theorem yy{P:Program}{w:World}{H':Hp}{h':Heap}{GV:List (Key×V)}{vs:List (Key×Value)}(z:GV.length<=sizeLine)(hd:(a==sysModules)=false)(rel:KV GV vs)(dd:h'.DictOf (mixKind P w) a vs):
  ObjOk P w H' h' a (.dK GV):=⟨z,hd,vs,rel,dd⟩
theorem vg{H':Hp}{Q:Unit->Shared->Prop}(hu:A.units+1<cLine)(I:Inv X pi σ H s)(g:DPut H a y v H')(ry:RelV y u)(rv:RelV v r)(h:∀s',Inv X pi σ H' s'->Q () s'):
  wpAny (model X.prog X.w) A (setItem (.ref a) u r) Q E s:=by
 rcases g with⟨GV,k,e,ey,l,eH⟩|⟨GV,k,b,e,ey,eb,l,eH⟩
 ·subst ey eH;obtain⟨z,hd,vs,rel,dd⟩:=Cm I.hok e;have hz:vs.length<=sizeLine:=by rw[<-rel.length];exact z
  have hl:(kK GV k v).length<=sizeLine:=by have:=iZ GV k v;lia
  refine wpAny_setItem_pairs (hsz:=hz) (kV_is ry) dd fun h' NI hs=>h _ ?_
  have he:∃q,h'.get? a=some q:=let⟨q,_,_,hq,_⟩:=NI;⟨q,hq⟩
  exact qp I (by rw[e];exact True.intro) hs he (yy hl hd (rel.put k rv) NI)
 ·subst ey eH;cases(show u=Value.ref b from ry);obtain⟨z,hd,xs,rel,dd⟩:=EJ I.hok e;have hz:xs.length<=sizeLine:=by rw[<-Xd rel];exact z
  have hl:(kK GV k v).length<=sizeLine:=by have:=iZ GV k v;lia
  refine wpAny_setItem_heap (hsz:=hz) (WR hu) (pe I.hok eb) dd fun h' NI hs=>h _ ?_
  obtain⟨q,es,ep,hq,h2,h3,h4,_,h5⟩:=NI;refine qp I (by rw[e];exact True.intro) hs ⟨q,hq⟩ ⟨hl,hd,_,(rel.put k eb rv).keeps fun c ys ec=>?_,q,es,ep,hq,h2,h3,h4,h5⟩;rw[aS (Ef ec e (fun z=>nomatch z))];exact ec
end
section
variable{X:Cx}{pi:List (Addr×Obj)}{σ:St}{H:Hp}{s:Shared}{a:Addr}{GV:List (Key×V)}{k:Key}{u:Value}{A:Around}{E:Value->Shared->Prop}
end
def NoSl(i:Expr):Prop:=∀ov iv,subscripted i false ov iv=operate [ov,iv] (getItem ov iv)
theorem zN{prog:Program}{w:World}{A:Around}{E:Value->Shared->Prop}{s:Shared}{env:Env}{value slice:Expr}{pos:Pos}{T id:String}{Q:Value->Shared->Prop}
  (hl:typeLookup (.type T) "__getitem__" = pure (some (.builtin id))) (hs:NoSl slice)
  (h:wpAny (model prog w) A (eval value env) (fun o s₁=>wpAny (model prog w) A (eval slice env) (fun i s₂=>s₂.TypeIs o T/\wpAny (model prog w) A (getItem o i) Q E s₂) E s₁) E s):
  wpAny (model prog w) A (eval (.Subscript value slice pos) env) Q E s:=by
 refine Subscript_ (Vc h (fun o s₁ h₁=>Vc h₁ (fun i s₂ h₂=>?_) fun _ _ x=>x) fun _ _ x=>x);obtain⟨hT,h₂⟩:=h₂;unfold subscriptTail;refine Uk ?_;rw[getitemInPython_of_ne hT.not_modules];refine Uk (wpAny_specialOf hT hl ?_);have fin:wpAny (model prog w) A (subscripted slice false o i) (fun r s₃=>wpAny (model prog w) A (letTemporaryGo value o r >>= fun _=>pure r) Q E s₃) E s₂:=by
  rw[hs o i];exact wpAny_operating (Vc h₂ (fun r s₃ h₃=>Uk (wpAny_letTemporaryGo (Ul h₃))) fun _ _ x=>x)
 first
  |exact Ul (Uk fin)
  |exact Uk (Ul (Uk fin))
  |exact Uk fin
theorem qq{X:Cx}{pi:List (Addr×Obj)}{σ:St}{H:Hp}{s:Shared}{a:Addr}{y:V}{o:Option V}(I:Inv X pi σ H s)(g:DGet H a y o):s.TypeIs (.ref a) "dict":=by
 rcases g with⟨GV,k,e,_,_⟩|⟨GV,k,b,e,_,_,_⟩
 ·obtain⟨_,_,vs,_,dd⟩:=u9 I.hok e;exact dd.typeIs
 ·obtain⟨_,_,xs,_,dd⟩:=ve I.hok e;exact dd.typeIs
def EK(td ty:TE):TE:=fun σ H Q=>td σ H fun x H1=>ty σ H1 fun y H2=>∃a v,x=.ref a/\DGet H2 a y (some v)/\Q v H2
def EL(td ty tv:TE):TS:=fun D σ H=>tv σ H fun v H1=>td σ H1 fun x H2=>ty σ H2 fun y H3=>∃a H4,x=.ref a/\DPut H3 a y v H4/\D.nx σ H4
section
variable{X:Cx}{o i e value:Expr}{pos pos' Jq:Pos}{td ty tv:TE}
theorem zO(hu:X.A.units+1<cLine)(ho:PE X o td)(hi:PE X i ty)(hs:NoSl i):PE X (.Subscript o i pos) (EK td ty):=by
 intro pi s σ H Q I h;refine zN PySem.F.slot_dict_getitem.lookup hs (Hk (ho pi s σ H _ I h) fun u s1 ⟨x,H1,I1,rx,q1⟩=>Hk (hi pi s1 σ H1 _ I1 q1) fun iv s2 Hm=>?_);obtain⟨y,H2,I2,ry,a,v,ex,g,q2⟩:=Hm;subst ex;obtain rfl:u=Value.ref a:=rx;exact⟨qq I2 g,vf hu I2 g ry fun w' s3 I3 KU=>⟨v,H2,I3,KU,q2⟩⟩
theorem zP(hu:X.A.units+1<cLine)(ho:PE X o td)(hi:PE X i ty)(hv:PE X value tv)(hs:swapsWith value (some (.Subscript o i pos')) pos.line X.env=pure false):
  PS X (.Assign [.Subscript o i pos'] value pos) (EL td ty tv):=by
 intro pi s σ H D I h;refine wpAny_Assign_Subscript (Hk (hv pi s σ H _ I h) fun r s1 ⟨v,H1,I1,rv,q1⟩=>Hk (ho pi s1 σ H1 _ I1 q1) fun u s2 ⟨x,H2,I2,rx,q2⟩=>Hk (hi pi s2 σ H2 _ I2 q2) fun iv s3 ⟨y,H3,I3,ry,a,H4,ex,g,q3⟩=>?_) hs;subst ex;obtain rfl:u=Value.ref a:=rx;exact vg hu I3 g ry rv fun s4 I4=>⟨σ,H4,I4,q3⟩
end
theorem dk_empty{P:Program}{w:World}{H:Hp}(h:Heap)(hb:sysModules<h.objs.size):ObjOk P w H (h.push {cls:=.type "dict",data:=.dict #[]}) h.objs.size (.dK []):=
 ⟨U6 _,U7.mpr (VB (UK hb)),[],.nil,Heap.DictOf.new h⟩
section
variable{X:Cx}{pos:Pos}
end
def tPairs:List (TE×TE)->St->Hp->(List (V×V)->Hp->Prop)->Prop
 |[],_,H,Q=>Q [] H
 |(tk,tv)::r,σ,H,Q=>tk σ H fun x H1=>tv σ H1 fun y H2=>tPairs r σ H2 fun ps H3=>Q ((x,y)::ps) H3
abbrev VV:List (V×V)->List (Value×Value)->Prop:=Paired fun p q=>RelV p.1 q.1/\RelV p.2 q.2
def RC(X:Cx)(pos:Pos)(keys:List (Option Expr))(values:List Expr)(NJ:List (TE×TE)):Prop:=
 ∀(pi:List (Addr×Obj)) (s:Shared) (σ:St) (H:Hp) (Q:List (V×V)->Hp->Prop),Inv X pi σ H s->tPairs NJ σ H Q->
  wpAny (model X.prog X.w) X.A (evalPairs (pairTrees keys values X.env pos)) (fun vs s'=>∃ps H',Inv X pi σ H' s'/\VV ps vs/\Q ps H') X.xe s
theorem zQ{X:Cx}{pos:Pos}:RC X pos [] [] []:=fun pi s σ H Q I h=>pairTrees_nil_walk ⟨[],H,I,.nil,h⟩
theorem xp{X:Cx}{pos:Pos}{k v:Expr}{ks:List (Option Expr)}{vs:List Expr}{tk tv:TE}{NJ:List (TE×TE)}(hk:PE X k tk)(hv:PE X v tv)(hr:RC X pos ks vs NJ):
  RC X pos (some k::ks) (v::vs) ((tk,tv)::NJ):=fun pi s σ H Q I h=>
 pairTrees_cons_walk (Hk (hk pi s σ H _ I h) fun u s1 ⟨x,H1,I1,rx,q1⟩=>Hk (hv pi s1 σ H1 _ I1 q1) fun w2 s2 ⟨y,H2,I2,ry,q2⟩=>
  Hk (hr pi s2 σ H2 _ I2 q2) fun ws s3 ⟨ps,H3,I3,rel,q3⟩=>⟨(x,y)::ps,H3,I3,.cons ⟨rx,ry⟩ rel,q3⟩)
def pf(GV more:List (Key×V)):List (Key×V):=more.foldl (fun acc kv=>kK acc kv.1 kv.2) GV
theorem KV.merge:∀{more:List (Key×V)}{rs:List (Key×Value)}{GV:List (Key×V)}{vs:List (Key×Value)},KV more rs->KV GV vs->KV (pf GV more) (merged vs rs):=by
 intro more rs GV vs r;unfold KV at r;induction r generalizing GV vs with
 |nil=>intro q;exact q
 | @cons p q ps qs h t ih=>
  intro r0;have e:KV (kK GV p.1 p.2) (stored vs q.1 q.2):=by
   have:=r0.put p.1 h.2;rw[<-h.1];exact this
  exact ih e
theorem ju:∀(more GV:List (Key×V)),(pf GV more).length<=GV.length+more.length
 |[],GV=>by show GV.length<=GV.length+0;lia
 |p::r,GV=>by
  have h1:=ju r (kK GV p.1 p.2);have h2:=iZ GV p.1 p.2;show(pf (kK GV p.1 p.2) r).length<=_;rw[UI];lia
theorem mO{P:Program}{w:World}:∀{GV:List (Key×V)}{ws:List (Value×Value)},VV (GV.map fun kv=>(kV kv.1,kv.2)) ws->∃rs,Carries (mixKind P w) ws rs/\KV GV rs
 |[],_,r=>by rw[U1]at r;cases r;exact⟨[],True.intro,.nil⟩
 |p::GV,_,r=>by
  rw[UH]at r;cases r with
  | @cons a b as bs h t=>
   obtain⟨rs,c,q⟩:=mO (P:=P) (w:=w) t;obtain⟨b1,b2⟩:=b;exact⟨(p.1,b2)::rs,⟨kV_is h.1,rfl,c⟩,.cons ⟨rfl,h.2⟩ q⟩
def EM(NJ:List (TE×TE)):TE:=fun σ H Q=>∀p,H p=none->tPairs NJ σ (upd H p (.dK [])) fun ps H2=>H2 p=some (.dK [])/\∃GV:List (Key×V),ps=GV.map (fun kv=>(kV kv.1,kv.2))/\GV.length<=15/\Q (.ref p) (upd H2 p (.dK (pf [] GV)))
theorem zR{X:Cx}{pos:Pos}{keys:List (Option Expr)}{values:List Expr}{NJ:List (TE×TE)}(h:RC X pos keys values NJ)(Jd:keys.all (·.isSome)=true)(hl:keys.length=values.length)(h0:keys≠[])
  (h15:keys.length<=15):PE X (.Dict keys values pos) (EM NJ):=by
 intro pi s σ H Q I q;have hn:=I.hok.fresh (Ur s.heap.objs.size);have I1:=I.laid (a:=s.heap.objs.size) (o:=.dK []) (h':=s.heap.push {cls:=.type "dict",data:=.dict #[]}) (t':=s.toks) (fun _ _ q=>Heap.get?_push_of_some _ q) (Ur _) (dk_empty s.heap I.big);refine wpAny_Dict_walk (knd:=mixKind X.prog X.w) Jd hl h0 h15 (Hk (h pi _ σ _ _ I1 (q _ hn)) fun ws s2 Hm=>?_);obtain⟨ps,H2,I2,rel,e,GV,ep,lk,q2⟩:=Hm;subst ep;obtain⟨rs,c,rk⟩:=mO (P:=X.prog) (w:=X.w) rel;obtain⟨z,hd,vs0,r0,dd⟩:=Cm I2.hok e;cases r0;refine⟨rs,c,dd,fun h' NI hs=>⟨.ref s.heap.objs.size,_,?_,rfl,q2⟩⟩;have hz:(pf [] GV).length<=sizeLine:=by
  have h1:=ju GV [];rw[VR]at h1;rw[Vr];lia
 have he:∃q,h'.get? s.heap.objs.size=some q:=let⟨q,_,_,hq,_⟩:=NI;⟨q,hq⟩
 exact qp I2 (by rw[e];exact True.intro) hs he (yy hz hd (rk.merge .nil) NI)
section
variable{X:Cx}{pi:List (Addr×Obj)}{σ:St}{H:Hp}{s:Shared}{a:Addr}{y d:V}{u r:Value}{o:Option V}{A:Around}{E:Value->Shared->Prop}
end
section
variable{X:Cx}{o e f:Expr}{apos Hj:Pos}{td ty tx:TE}
end
section
variable{X:Cx}{pi:List (Addr×Obj)}{σ:St}{H:Hp}{s:Shared}{a:Addr}{GV:List (Key×V)}{A:Around}{E:Value->Shared->Prop}
end
section
variable{X:Cx}{pi:List (Addr×Obj)}{σ:St}{H:Hp}{s:Shared}{a:Addr}{y:V}{u:Value}{A:Around}{E:Value->Shared->Prop}
end
section
variable{κ:Type}[DecidableEq κ]
end
end L2
namespace NX
open PySem PySem.Spec PyProof.Rows L2
def RawD(h:Heap)(d:Addr)(es:Array DictEntry)(ep:Nat):Prop:=∃o,h.get? d=some o/\o.ExactDict/\o.data=.dict es ep
theorem RawD.at{h h':Heap}{d:Addr}{es:Array DictEntry}{ep:Nat}(x:RawD h d es ep)(e:∀o,h.get? d=some o->h'.get? d=some o):RawD h' d es ep:=by
 obtain⟨o,g,r⟩:=x;exact⟨o,e o g,r⟩
section
variable{prog:Program}{w:World}{A:Around}{E:Value->Shared->Prop}{s:Shared}{d it:Addr}{es:Array DictEntry}{ep i:Nat}
theorem kS(x:RawD s.heap d es ep):s.TypeIs (.ref d) "dict":=by
 obtain⟨o,g,ex,_⟩:=x;exact⟨o,g,ex.1⟩
theorem xq{Q:Value->Shared->Prop}(nm:(d==sysModules)=false)(x:RawD s.heap d es ep)
  (q:Q (.ref s.heap.objs.size) {s with heap:=s.heap.push {cls:=.type "dict_keyiterator",data:=.fields #[.ref d,.int 0 0,.int es.size 0,.int ep 0]}}):wpAny (model prog w) A (pyIter (.ref d)) Q E s:=by
 have ty:=kS x;obtain⟨o,g,ex,dat⟩:=x;refine wpAny_pyIter_slot ty F.slot_dict_iter (Vj F.slot_dict_iter ty F.entry_dict_iter (Uk ?_) (F.args_dict_iter_1 _));refine Uk (wpAny_notOrdered_dict ty (Ul ?_));show wpAny _ _ (Builtin.Dict.showsAll d >>= fun _=>_) _ _ s;have ns:Builtin.Dict.showsAll d=pure ():=by
  unfold Builtin.Dict.showsAll;rw[nm];rfl
 rw[ns];refine Uk (Ul (Uk (W0 g dat (Uk (Yd g dat (Uk (Va (Ul ⟨_,rfl,"dict_keyiterator",_,⟨_,Heap.get?_push_size _ rfl,rfl⟩,F.slot_dict_keyiterator_next.lookup,?_⟩))))))));exact q
theorem xr{Q:Option Value->Shared->Prop}{e:DictEntry}(hit:s.heap.IsKeyIter it d i es.size ep)(x:RawD s.heap d es ep)(hx:es[i]?=some e)
  (q:∀h',h'.IsKeyIter it d (i+1) es.size ep->Heap.SameBut it s.heap h'->Q (some e.key) {s with heap:=h'}):wpAny (model prog w) A (pyNext (.ref it)) Q E s:=by
 have ti:=hit.typeIs;obtain⟨o,g,oc,od⟩:=hit;obtain⟨ob,gd,_,dat⟩:=x;have HN:i<es.size:=(Array.getElem?_eq_some_iff.mp hx).1;unfold pyNext;refine Uk (Xf (wpAny_callSpecial?_slot (name:=Str.ofString "__next__") ti VX (Vj VX ti W7
  (Uk (Ul (Uk (Uk ?_)))) (W5 _))))
 refine Uk (VU ti (Ul (Uk (wpAny_fieldsOf g od ?_))));have Me:Builtin.Dict_items.ownsTuple "dict_keyiterator" = false:=by decide
 simp only[Me,VE,W4];show wpAny _ _ (if(Value.ref d==Value.none)=true then _ else _) _ _ s;have nz:¬ ((Value.ref d==Value.none)=true):=Up;rw[UD nz];refine Uk (Ul (Uk (W0 gd dat ?_)));rw[UD (by simp)];refine Uk (Ul (Uk (Yd gd dat ?_)));rw[UD (by simp)];refine Ul ?_;simp only[UD (show ¬ ((i:Int)<0) by lia),U2,hx];refine Uk (Uk (VU ti (Ul (Uk (wpAny_isOneOf_keyiter ti ?_)))));show wpAny _ _ (setField (.ref it) 1 (rawInt ((i:Int)+1)) >>= fun _=>_) _ _ s;refine Uk (Xr g od (by simp) ?_);have nx:(s.heap.update it (Obj.mapFields fun y=>y.setIfInBounds 1 (rawInt ((i:Int)+1)))).IsKeyIter it d (i+1) es.size ep:=
  ⟨_,Heap.get?_update_self _ g (Obj.isFreed_of_fields (WO od _)),(Obj.cls_mapFields ..).trans oc,(WO od _).trans (by simp[rawInt])⟩
 refine Uk (VO (Uk (wpAny_isOneOf_keyiter (s:={s with heap:=s.heap.update it (Obj.mapFields fun y=>y.setIfInBounds 1 (rawInt ((i:Int)+1)))}) nx.typeIs ?_)));show wpAny _ _ (pure e.key) _ _ _;exact Ul (Ul ⟨_,rfl,Ul (q _ nx (WE ..))⟩)
theorem zS{Q:Option Value->Shared->Prop}(hh:A.handled=none)(hit:s.heap.IsKeyIter it d i es.size ep)(x:RawD s.heap d es ep)(hx:es[i]?=none)
  (q:∀h',Heap.ExtBut it s.heap h'->Q none {s with heap:=h'}):wpAny (model prog w) A (pyNext (.ref it)) Q E s:=by
 have ti:=hit.typeIs;obtain⟨o,g,oc,od⟩:=hit;obtain⟨ob,gd,_,dat⟩:=x;unfold pyNext;refine Uk (Xf (wpAny_callSpecial?_slot (name:=Str.ofString "__next__") ti VX (Vj VX ti W7
  (Uk (Ul (Uk (Uk ?_)))) (W5 _))))
 refine Uk (VU ti (Ul (Uk (wpAny_fieldsOf g od ?_))));have Me:Builtin.Dict_items.ownsTuple "dict_keyiterator" = false:=by decide
 simp only[Me,VE,W4];show wpAny _ _ (if(Value.ref d==Value.none)=true then _ else _) _ _ s;have nz:¬ ((Value.ref d==Value.none)=true):=Up;rw[UD nz];refine Uk (Ul (Uk (W0 gd dat ?_)));rw[UD (by simp)];refine Uk (Ul (Uk (Yd gd dat ?_)));rw[UD (by simp)];refine Ul ?_;simp only[UD (show ¬ ((i:Int)<0) by lia),U2,hx];refine Uk (Uk (VU ti (Ul ?_)));show wpAny _ _ (setField (.ref it) 0 .none >>= fun _=>_) _ _ s;refine Uk (Xr g od (by simp) ?_);show wpAny _ _ (newExc (.type "StopIteration") [] >>= fun _=>_) _ _ _;refine Uk ?_;simp only[newExc,newTuple];refine Uk (Va (Uk (m:=firstArgMember _ _) (Yx (a:=Value.none) (by first|rfl|(simp only[firstArgMember];rfl)) (Va ?_ (by size_fits)))) (by size_fits));simp only[raiseNew];refine Uk (wpAny_handled ?_);rw[show A.in1.handled=none from hh];refine Uk (Ul (wpAny_throw ?_));refine Uk (wpAny_isInstance (b:=true) (T:="StopIteration") ⟨_,Heap.get?_push_size _ rfl,rfl⟩ isSubtype_stop ?_);exact Ul (q _ (((WE ..).extBut.push _).push _))
theorem vh(hh:A.handled=none)(I:Addr)(ne:d≠I):Walks prog w A I [I,d] [I] es.size (fun i v=>∃e,es[i]?=some e/\v=e.key) (fun i h=>h.IsKeyIter I d i es.size ep/\RawD h d es ep) where
 sub:=fun b hb=>by
  rw[UJ]at hb;rw[hb];exact Uq
 frame:=fun _ _ _ st hk=>⟨st.1.at fun o e=>hk I Uq o e,st.2.at fun o e=>hk d (Uy _ Uq) o e⟩
 item:=fun i s Q E hi st hQ=>by
  refine xr st.1 st.2 (Array.getElem?_eq_getElem hi) fun h' it' sb=>?_
  exact hQ _ h' s.toks ⟨_,Array.getElem?_eq_getElem hi,rfl⟩ ⟨it',st.2.at fun o e=>sb.extBut d o ne e⟩ fun b o hb e=>sb.extBut b o (fun z=>hb (by rw[z];exact Uq)) e
 done:=fun s Q E st hQ=>zS hh st.1 st.2 (Array.getElem?_eq_none (Ur _)) fun h' ext=>hQ h' s.toks fun b o hb e=>ext b o (fun z=>hb (by rw[z];exact Uq)) e
 self:=fun _ _ _ _ st hQ=>wpAny_pyIter_keyiter st.1 hQ
theorem zT(nm:(d==sysModules)=false):PySem.W.KdlSrc prog w "dict" d d es.size (fun i v=>∃e,es[i]?=some e/\v=e.key) (fun h=>RawD h d es ep) where
 type:=fun _ x=>kS x
 there:=fun _ x=>by
  obtain⟨o,g,_⟩:=x;exact⟨Uu g,Uu g⟩
 keep:=fun _ _ x hk=>x.at fun o e=>hk d (.inl rfl) o e
 notList:=by decide
 notTuple:=by decide
 hint:=fun _ _ _ _ x q=>PySem.W.kdl_hint_dict (kS x) q
 iter:=fun _ s hh x=>⟨_,_,(fun _ _ q=>xq nm x q),vh hh _ (by obtain⟨o,g,_⟩:=x;exact UK (Uu g)),⟨⟨_,Heap.get?_push_size _ rfl,rfl,rfl⟩,x.at fun o e=>Heap.get?_push_of_some _ e⟩⟩
end
end NX
namespace NX
open PySem PySem.W PySem.Spec PyProof.Rows L2
section
variable{prog:Program}{w:World}{A:Around}{E:Value->Shared->Prop}{s:Shared}
theorem tm{O:KeyOrd}{key:Nat->O.α}{kd:SortKind}{l:Addr}{vs:List Value}{Q:Value->Shared->Prop}
  (hcol:∀Q':List Value->Shared->Prop,(∀h' tk,(∀b o,s.heap.get? b=some o->h'.get? b=some o)->Q' vs {s with heap:=h',toks:=tk})->wpAny (model prog w) A.in1 (collect (.ref l)) Q' E s) (Mj:vs.length<64)
  (JS:2<=vs.length->∀(A':Around) (E':Value->Shared->Prop) (s':Shared),(∀b o,s.heap.get? b=some o->s'.heap.get? b=some o)->∀Q:SortKind->Shared->Prop,Q kd s'->wpAny (model prog w) A' (keyKind' vs.toArray) Q E' s')
  (ML:∀i j,i<vs.length->j<vs.length->∀s':Shared,(∀b o,s.heap.get? b=some o->s'.heap.get? b=some o)->∀C:Bool->Shared->Prop,C (O.blt (key i) (key j)) s'->kas_ask prog w A.in1.in1 kd vs i j C s')
  (h:∀(p:Array Nat) (h5 h':Heap) (tk e:Nat),POk vs.length p->bI key p vs.length->(∀b o,s.heap.get? b=some o->h5.get? b=some o)->(∀b o,h5.get? b=some o->h'.get? b=some o)->h'.get? h5.objs.size=some (seqObj "list" (List.toArray (p.toList.map fun i=>vs.getD i .none)) e)->Q (.ref h5.objs.size) {s with heap:=h',toks:=tk}):
  wpAny (model prog w) A (call (.builtin "sorted") [.ref l]) Q E s:=by
 refine WC kind_sorted plain_sorted entry_sorted (args_sorted1 _) ?_;unfold Builtin.«sorted»;refine Uk (m:=checkCount "sorted" 1 1 _) (Ul (Uk (hcol _ fun h5 tk k5=>?_)));refine Uk (YM ?_ (by rw[Vr];lia));have k6:∀b o,s.heap.get? b=some o->(h5.push (seqObj "list" vs.toArray 0)).get? b=some o:=fun b o e=>Heap.get?_push_of_some _ (k5 b o e)
 have hL:(h5.push (seqObj "list" vs.toArray 0)).get? h5.objs.size=some (seqObj "list" vs.toArray 0):=Heap.get?_push_size _ rfl;have TC:∀b o,s.heap.get? b=some o->b<h5.objs.size:=fun b o e=>Uu (k5 b o e)
 show wpAny _ _ _ _ _ {s with heap:=h5.push (seqObj "list" vs.toArray 0),toks:=tk};refine Uk (VO (Vj slot_list_sort ⟨_,hL,rfl⟩ entry_list_sort (jr (key:=key) (kd:=kd) hL Mj (fun h2 h' kk Q' q=>JS h2 _ _ _ (fun b o e=>kk b o (UK (TC b o e)) (k6 b o e)) Q' q)
  (fun i j hi hj h' kk C q=>ML i j hi hj _ (fun b o e=>kk b o (UK (TC b o e)) (k6 b o e)) C q) fun p h' hp hs ⟨e,he⟩ kk=>⟨_,rfl,?_⟩) (args_list_sort _)))
 exact Ul ⟨_,rfl,h p h5 h' tk e hp hs k5 (fun b o q=>kk b o (UK (Uu q)) (Heap.get?_push_of_some _ q)) he⟩
end
section
variable{X:Cx}{pi:List (Addr×Obj)}{σ:L2.St}{H:Hp}{s:Shared}
theorem zU{H:Hp}{GV:List (List Key×V)}{xs:List (List Key×Addr×Value)}(r:KT H GV xs):xs.map (·.1)=GV.map (·.1):=by
 induction r with
 |nil=>rfl
 |cons hq _ ih=>rw[UH,UH,ih,hq.1]
theorem EO{H:Hp}{GV:List (List Key×V)}{xs:List (List Key×Addr×Value)}(r:KT H GV xs):∀y∈xs,H y.2.1=some (.tup (y.1.map kV)):=by
 induction r with
 |nil=>exact fun y hy=>nomatch hy
 |cons hq _ ih=>
  intro y hy;rcases Ux.mp hy with rfl|hy
  ·rw[<-hq.1];exact hq.2.1
  ·exact ih y hy
theorem zV(I:Inv X pi σ H s){a:Addr}{GV:List (List Key×V)}(h:Rd H a (.dT GV)):(a==sysModules)=false/\∃(al:List (Addr×List Key)) (es:Array DictEntry) (ep:Nat),
  RawD s.heap a es ep/\es.toList.map (·.key)=al.map (fun x=>Value.ref x.1)/\al.map (·.2)=GV.map (·.1)/\∀x∈al,H x.1=some (.tup (x.2.map kV)):=by
 obtain⟨_,nm,xs,r,o,es,ep,h1,h2,h3,h4,_⟩:=h.ok I.hok;refine⟨nm,xs.map fun x=>(x.2.1,x.1),es,ep,⟨o,h1,h2,h3⟩,?_,?_,?_⟩
 ·rw[h4,UC,UC];rfl
 ·rw[UC];exact zU r
 ·intro x hx;obtain⟨y,hy,rfl⟩:=UY.mp hx;exact EO r y hy
theorem my(hc:X.calm=true):cX X (.builtin "sorted") (fun vs H Q=>∃(p:Addr) (GV:List (List Key×V)) (top:Bool) (t:List Bool),vs=[.ref p]/\Rd H p (.dT GV)/\(∀kv∈GV,kinds kv.1=top::t)/\GV.length<64/\
  ∀(D:Addr) (ms:List (Addr×List Key)),H D=none->(∀a∈ms,H a.1=some (.tup (a.2.map kV)))->(ms.map (·.2)).Perm (GV.map (·.1))->ms.Pairwise (fun a b=>fE b.2 a.2=false)->Q (.ref D) (upd H D (.lst (ms.map fun a=>V.ref a.1)))):=by
 intro pi s σ H vs us Q I r h;obtain⟨p,GV,top,kt,rfl,hp,hk,Mj,q⟩:=h;obtain⟨u,rfl,r1⟩:=eF r;cases r1;obtain⟨nm,al,es,ep,raw,MM,RE,O5⟩:=zV I hp;have Jd:al.length=GV.length:=by
  have:=VC List.length RE;simpa using this
 have Ka:∀a∈al,SqT X.K H a.1 (a.2.map kV)/\kinds a.2=top::kt:=fun a ha=>by
  refine⟨SqT.of (O5 a ha),?_⟩;have:a.2∈GV.map (·.1):=by rw[<-RE];exact UY.mpr ⟨a,ha,rfl⟩
  obtain⟨kv,KZ,e⟩:=UY.mp this;rw[<-e];exact hk kv KZ
 have rv:Vals (al.map fun a=>V.ref a.1) (al.map fun a=>Value.ref a.1):=by
  clear MM RE O5 Jd Ka;induction al with
  |nil=>exact .nil
  |cons a al ih=>exact .cons rfl ih
 have hl:(al.map fun a=>Value.ref a.1).length=al.length:=Um ..;refine tm (O:=Ea) (key:=fun i=>(al.getD i (0,[])).2) (kd:=tuples' true) (vs:=al.map fun a=>Value.ref a.1) (fun Q' hq=>?_) (by lia) (fun h2 A' E' s' kk Q' q'=>?_) (fun i j hi hj s' kk C q'=>?_) fun pp h5 h' tk e Js hs k5 k' he=>?_
 ·refine kdu_collect (zT nm) (I.ok.hd hc) raw (by have:=VC List.length MM;simp only[Um,VJ]at this;rw[Vr];lia) fun h' tk acc kk NF=>?_
  have ea:acc.toList=al.map fun a=>Value.ref a.1:=by
   rw[<-MM];apply WZ;intro j;rw[List.getElem?_map,Array.getElem?_toList,Array.getElem?_toList];cases hj:acc[j]? with
   |none=>
    have:es[j]?=none:=by
     rw[Array.getElem?_eq_none_iff]at hj ⊢;rw[<-NF.1];exact hj
    rw[this];rfl
   |some v=>
    obtain⟨en,h1,h2⟩:=NF.2 j v hj;rw[h1,h2];rfl
  have:=hq h' tk kk;rw[<-ea]at this;exact this
 ·obtain⟨fs,t1,t2,t3⟩:=rB (h':=s'.heap) I kk top rv fun a ha=>⟨(Ka a ha).1,kt,(Ka a ha).2⟩
  refine kat_kind (T:=.type (if top then "int" else "str")) t1 (by lia) (fun v hv=>t3 v hv _) (by simp) ?_;have:((Value.type (if top then "int" else "str")) != Value.type "tuple")=true:=by cases top <;> decide
  rw[this];exact q'
 ·unfold kas_ask;have Np:i<al.length:=by lia
  have OZ:j<al.length:=by lia
  rw[nI rv Np,nI rv OZ];have mi:al.getD i (0,[])∈al:=by rw[bA _ _ _ Np];exact Vt _
  have mj:al.getD j (0,[])∈al:=by rw[bA _ _ _ OZ];exact Vt _
  obtain⟨u1,o1,n1,r1,g1,_,d1⟩:=o9 I (Ka _ mi).1;obtain⟨u2,o2,n2,r2,g2,_,d2⟩:=o9 I (Ka _ mj).1;have ek:kinds (al.getD i (0,[])).2=kinds (al.getD j (0,[])).2:=by rw[(Ka _ mi).2,(Ka _ mj).2]
  have el:u1.length=u2.length:=by
   have a1:=r1.length;have a2:=r2.length;have a3:=VC List.length ek;simp only[kinds,Um]at a1 a2 a3;lia
  refine kat_lt (kk _ _ g1) d1 (kk _ _ g2) d2 ?_;have ef:decide (u1.toArray.size<u2.toArray.size)=false:=by simp[el]
  rw[ef];exact ll _ _ _ _ 0 r1 r2 ek q'
 ·rw[hl]at Js hs;have O0:POk (al.map fun a=>V.ref a.1).length pp:=by rw[Um];exact Js
  have eo:tj pp (al.map fun a=>V.ref a.1)=(pp.toList.map fun i=>al.getD i (0,[])).map fun a=>V.ref a.1:=by
   unfold tj;rw[UC];refine Vv fun i hi=>?_
   have hi:=UR.mp (Js.perm.mem_iff.mp hi);show(al.map fun a=>V.ref a.1).getD i .non=V.ref (al.getD i (0,[])).1;rw[bA _ _ _ (by rw[Um];exact hi),bA _ _ _ hi];simp
  have I5:Inv X pi σ H {s with heap:=h5,toks:=tk}:=I.kept k5;have hn:H h5.objs.size=none:=I5.hok.fresh (Ur _);refine⟨.ref h5.objs.size,_,jt (s:={s with heap:=h5,toks:=tk}) I5 k' (Ur _) he (kQ rv O0) ?_,rfl,?_⟩
  ·show(tj pp (al.map fun a=>V.ref a.1)).length<=sizeLine;rw[eo,Um,Um,Js.perm.length_eq,UM,Vr];lia
  ·rw[eo];have pm:=kP (0,[]) Js;refine q _ _ hn (fun a ha=>O5 a (pm.mem_iff.mp ha)) ?_ ?_
   ·rw[<-RE];exact pm.map _
   ·exact iG (O:=Ea) (0,[]) (fun a:Addr×List Key=>a.2) Js hs
end
end NX
namespace NX
open PySem PySem.Spec PyProof.Rows L2
section
open PySem.SeqAt
open PySem.AutoSeq1 (wpAny_loadPart')
open PySem.MeetsSeq PySem.MeetsSeq2 PySem.MeetsSeq3
theorem xt{A:Around}{s:Shared}{a c:Key}{u v:Value}(ra:RelV (kV a) u)(rc:RelV (kV c) v):EqAt A s u v (decide (a=c)):=by
 have h:=yo (A:=A) (s:=s) ra rc (kR a) (kR c);rw[uY]at h;exact h
theorem xu{prog:Program}{w:World}{A:Around}{E:Value->Shared->Prop}{s:Shared}{Q:Value->Shared->Prop}{a c:Key}{u v:Value}(ra:RelV (kV a) u)(rc:RelV (kV c) v)(hk:a.isLeft=c.isLeft)(h:Q (.bool (rA.blt a c)) s):
  wpAny (model prog w) A (richCompare .Lt u v) Q E s:=by
 cases a with
 |inl i=>
  cases c with
  |inr _=>cases hk
  |inl j=>
   obtain⟨t,rfl⟩:=ra;obtain⟨t',rfl⟩:=rc;exact(PyProof.Rows.lt_int h:wpAny (model prog w) A (compareOp .Lt (.int i t) (.int j t')) Q E s)
 |inr x=>
  cases c with
  |inl _=>cases hk
  |inr y=>
   obtain⟨t,rfl⟩:=ra;obtain⟨t',rfl⟩:=rc;exact(PyProof.Rows.lt_str h:wpAny (model prog w) A (compareOp .Lt (.str x t) (.str y t')) Q E s)
theorem vk(a c:Key)(r t:List Key):fE (a::r) (c::t)=if a=c then fE r t else rA.blt a c:=rfl
theorem nL(l b:Addr)(items JU:Array Value)(n n2:Nat)(dd Nm:Option Addr)(sl Nn:Array (Option Value))(ks js:List Key)(hi:Vals (ks.map kV) items.toList)(hj:Vals (js.map kV) JU.toList)(hk:kinds ks=kinds js):
  Meets (Builtin.«tuple.__lt__» ⟨[.ref l,.ref b],[]⟩)
   (fun _ R s=>s.heap.get? l=some {cls:=.type "tuple",dict:=dd,data:=.seq items n,slots:=sl}/\s.heap.get? b=some {cls:=.type "tuple",dict:=Nm,data:=.seq JU n2,slots:=Nn}/\R (.ok (.ret (.bool (fE ks js)))) s):=
 .of_wp fun prog w A R s h=>by
  obtain⟨hp,g,d,tk,os⟩:=s;obtain⟨hl,hb,h⟩:=h;have f2:=AutoSeq1.sub_tuple_tuple;have z1:items.size=ks.length:=by have:=hi.length;simp at this;lia
  have z2:JU.size=js.length:=by have:=hj.length;simp at this;lia
  have z3:ks.length=js.length:=by have:=VC List.length hk;simpa[kinds] using this
  wp_walk using wpAny_loadPart' hl,wpAny_loadPart' hb,wpAny_forIn_list _ (fun cH b s'=>b.1=none/\s'=⟨hp,g,d,tk,os⟩/\∃(vs ws:List Value) (Lo Mk:List Key),cH=vs.zip ws/\
   Vals (Lo.map kV) vs/\Vals (Mk.map kV) ws/\kinds Lo=kinds Mk/\R (.ok (.ret (.bool (fE Lo Mk)))) ⟨hp,g,d,tk,os⟩) _
  case turn=>
   rintro⟨y,x⟩ cH b s' ⟨SA,rfl,vs,ws,Lo,Mk,hz,RF,SD,OD,hR⟩;cases Lo with
   |nil=>
    cases RF;rw[List.zip_nil_left]at hz;cases hz
   |cons a Lo=>
    cases Mk with
    |nil=>cases OD
    |cons c Mk=>
     cases RF with
     | @cons _ va _ Qu ra hvi'=>
      cases SD with
      | @cons _ vc _ Qv rc hwi'=>
       rw[VF]at hz;injection hz with hyx hrest;injection hyx with hy hx;subst hy hx;have hk1:a.isLeft=c.isLeft:=(WQ OD).1;have O6:kinds Lo=kinds Mk:=(WQ OD).2;rw[vk]at hR;have he:=xt (A:=A.in1) (s:=⟨hp,g,d,tk,os⟩) ra rc;refine Uk (he prog w _ _ ?_);by_cases hac:a=c
       ·rw[Ut hac]at hR;rw[UW hac]
        wp_walk
        exact⟨rfl,rfl,_,_,_,_,hrest,hvi',hwi',O6,hR⟩
       ·rw[UD hac]at hR;rw[UO hac];have hri:=fun E Q=>xu (prog:=prog) (w:=w) (A:=A.in1) (E:=E) (s:=⟨hp,g,d,tk,os⟩) (Q:=Q) ra rc hk1
        wp_walk using hri
        exact⟨_,rfl,by simpa using hR⟩
  case fin=>
   rintro⟨b1,b2⟩ s' ⟨SA,rfl,vs,ws,Lo,Mk,hz,RF,SD,OD,hR⟩;simp only at SA;subst SA;have hv:fE Lo Mk=decide (items.size<JU.size):=by
    cases Lo with
    |nil=>
     cases Mk with
     |nil=>exact(UO (by lia)).symm
     |cons c Mk=>cases OD
    |cons a Lo=>
     cases Mk with
     |nil=>cases OD
     |cons c Mk=>
      cases RF;cases SD;rw[VF]at hz;cases hz
   rw[hv]at hR
   wp_walk
   exact⟨_,rfl,by simpa[Builtin.Tuple.tupleCompareSizes] using hR⟩
  case h=>
   exact⟨rfl,rfl,items.toList,JU.toList,ks,js,rfl,hi,hj,hk,h⟩
end
section
variable{X:Cx}
def Gp(K:W.Frag)(neg:Bool):R2:=fun x y H Q=>∃a b ks js,x=.ref a/\y=.ref b/\SqT K H a (ks.map kV)/\SqT K H b (js.map kV)/\kinds ks=kinds js/\Q (.bl (if neg then !fE ks js else fE ks js)) H
theorem Cn(hu:X.A.units<cLine):HS X (compareOp .Lt) (Gp X.K false):=by
 intro pi s σ H x y v u Q I rx ry h;obtain⟨a,b,ks,js,rfl,rfl,ha,hb,hk,q⟩:=h;cases rx;cases ry;obtain⟨GU,r1,p1,_⟩:=I.tuple ha;obtain⟨Mh,r2,p2,_⟩:=I.tuple hb;obtain⟨⟨cls,dd,data,sl⟩,ho,hc,n,hd⟩:=id p1;obtain⟨⟨OS,Nm,data2,Nn⟩,Jc,JA,n2,hd2⟩:=id p2;simp only at hc hd JA hd2;subst hc hd JA hd2;exact richCompare_meets_room (op:=.Lt) ⟨_,ho,rfl⟩ ⟨_,Jc,rfl⟩ PySem.F.slot_tuple_lt PySem.F.entry_tuple_lt (PySem.F.args_tuple_lt_2 _ _) (nL a b _ _ n n2 dd Nm sl Nn ks js (by simpa using r1) (by simpa using r2) hk)
  ⟨ho,Jc,show Value.bool (fE ks js)≠Value.notImplemented/\EP X pi σ Q (.bool (fE ks js)) s from⟨(fun x=>nomatch x),⟨.bl (fE ks js),H,I,rfl,q⟩⟩⟩ hu
end
section
variable{prog:Program}{w:World}{A:Around}{E:Value->Shared->Prop}{s:Shared}
end
section
variable{X:Cx}{pi:List (Addr×Obj)}{σ:L2.St}{H:Hp}{s:Shared}{scope:Scope}{N:List Str}{ix:List (Option Nat)}{fp:List Addr}
end
section
variable{X:Cx}{scope:Scope}{N:List Str}{ix:List (Option Nat)}{tg iter elt:Expr}{ifs:List Expr}{pos:Pos}{wi:TI}{g:TG}{tc:TT}{te:TE}
end
theorem ook_get{P:Program}{w:World}{H:Hp}{h:Heap}{a:Addr}{o:HO}(x:ObjOk P w H h a o):∃u,h.get? a=some u:=by
 cases o with
 |lst xs=>obtain⟨_,_,_,_,e⟩:=x;exact⟨_,e⟩
 |tup xs=>obtain⟨_,_,_,_,e,_⟩:=x;exact⟨_,e⟩
 |dK GV=>obtain⟨_,_,_,_,_,_,_,e,_⟩:=x;exact⟨_,e⟩
 |dT GV=>obtain⟨_,_,_,_,_,_,_,e,_⟩:=x;exact⟨_,e⟩
 |set S n=>obtain⟨_,_,_,_,e,_⟩:=x;exact⟨_,e⟩
 |ins C dx fs=>obtain⟨_,_,_,e,_⟩:=x;exact⟨_,e⟩
 |own y=>exact x
 |xd fs=>obtain⟨_,⟨_,_,_,e,_⟩,_⟩:=x;exact⟨_,e⟩
 |rng lo hi=>obtain⟨_,_,_,e⟩:=x;exact⟨_,e⟩
 |frz ob u=>obtain⟨e,_⟩:=x;exact⟨_,e⟩
 |tbl ps=>exact⟨_,x⟩
 |met f y=>exact⟨_,x⟩
 |ext φ=>obtain⟨_,e,_⟩:=x;exact e
def O7(mg:Str->Option Value)(base:Heap)(x:Str)(C:Addr):Prop:=∃B newId initId bm,ExcBaseFacts B newId initId bm/\OwnCls x C bm newId mg base
theorem Co{K:W.Frag}{h:Heap}{mg:Str->Option Value}{x:Str}{C:Addr}{mB:List Value}{nw:String}(X:K.In h)(G:h.Ns mainGlobals mg)(e:PySem.W.nsIn K mainGlobals x=some (some (.ref C)))(q:PySem.W.excIn K C mB nw=true):OwnCls x C mB nw mg h:=by
 refine⟨VG X G e,?_⟩;unfold PySem.W.excIn at q;split at q
 ·rename_i zd cd sl ho;split at q
  ·rename_i C' mro z0 z1 z2 z3 z4 z5 hm hs;rw[Uz,Uz,Uz,Uz,Uz]at q;obtain⟨⟨⟨⟨⟨q1,q2⟩,q3⟩,q4⟩,q5⟩,q6⟩:=q;have d1:=UQ.mp q1;have d2:=UQ.mp q2;have d6:=UQ.mp q6;have d3:cd.hasDel=false:=by revert q3;cases cd.hasDel <;> decide
   clear q1 q2 q3 q6;subst d1;subst d2;cases cd;dsimp only at hm d3 q5 d6;subst hm;subst d3;have ez:sl = #[z0,z1,z2,z3,some (.builtin z4),z5]:=by
    cases sl;dsimp only at hs;rw[hs]
   subst ez;exact⟨_,_,_,_,_,_,_,_,_,_,_,_,_,_,_,_,_,X _ _ ho,.of_isNs (PySem.W.isNs_of_in X q5),PySem.W.nsMap_none_of_in X q5 d6,PySem.W.tail_of_in X q4⟩
  ·cases q
 ·cases q
noncomputable def OE(P:Program)(w:World)(base:Heap)(C:Addr):Mg:=fun outer H s E e s'=>
 ∃(a t:Addr) (B:Heap) (H':Hp),e=.ref a/\s'.os=s.os/\AllBare s'.gens/\Un (HY outer) [] H H' s.heap s'.heap/\HOk P w H' s'.heap/\Heap.FlyingW B outer a (.ref C) (.ref t) s'.heap/\
  (∀b u,s'.heap.get? b=some u->(H' b≠none\/∃o,s.heap.get? b=some o)->b∉HY outer->B.get? b=some u)/\E (.ref C) none H'
def Acc(X:Cx)(C:Addr)(Ww:Hp->Prop):Prop:=∀(pi:List (Addr×Obj)) (σ:L2.St) (H:Hp) (s:Shared) (h':Heap) (a:Addr) (args:List Value),Inv X pi σ H s->Ww H->Heap.MadeExcOf s.heap h' a (.ref C) args->X.xe (.ref a) {s with heap:=h'}
theorem Cp{P:Program}{w:World}{K:W.Frag}{mg:Str->Option Value}{base:Heap}{N:List Str}{qual:Str}{scope:Scope}{f C:Addr}{cd:Value}{A:Around}{outer:List Env}{s:Shared}{H:Hp}{E:XK}:
  Acc (sT (OE P w base C) P w K mg base N qual scope f cd A outer s H E) C (fun H'=>E (.ref C) none H'):=by
 intro pi σ H1 s1 h' a args I hW hm;have SE:∀b,b∈HY (envOfC qual scope s.heap.objs.size f cd::outer)->b∈s.heap.objs.size::HY outer:=I.stkSub;have nl:∀b o,s.heap.get? b=some o->b∉HY outer->b∉HY (envOfC qual scope s.heap.objs.size f cd::outer):=fun b o e n z=>by
  rcases Ux.mp (SE b z) with r|r
  ·exact absurd (Uu e) (by rw[r];exact VN _)
  ·exact n r
 have nt:∀b,H1 b≠none->b∉HY (envOfC qual scope s.heap.objs.size f cd::outer):=fun b n z=>n (I.stkFree b z)
 refine wpAny_leaves_madeW (base:=PySem.W.hideAll s1.heap (HY (envOfC qual scope s.heap.objs.size f cd::outer))) (L:=s.heap.objs.size) I.ok.frames rfl (fun b o q=>YE _ q) (PySem.W.funFrames_hide I.stack fun env he b hb=>Wa.mpr ⟨env,he,hb⟩) hm fun h2 t MN _ _ sm=>?_
 have k:∀b u,s1.heap.get? b=some u->b∉HY (envOfC qual scope s.heap.objs.size f cd::outer)->h2.get? b=some u:=fun b u q n=>MN.1 b u (Xh _ q n)
 have sl:∀b u,s1.heap.get? b=some u->b∈HY outer->∃z,h2.get? b=some {u with slots:=z}:=fun b u q n=>by
  obtain⟨_,o,ho,hd⟩:=I.funs.mem n;rw[q]at ho;cases ho;exact sm b u (hm.keeps b u q) hd
 have there:∀b o,s.heap.get? b=some o->∃o',s1.heap.get? b=some o':=fun b o q=>I.base.there b o q (fun z=>nomatch z)
 refine⟨a,t,_,H1,rfl,I.os,I.bare,⟨fun b o q n hb hx=>k b o (I.base.keep b o q n hb hx) (nl b o q hb),fun b o q n hb hx=>?_,I.base.free,fun b o q hx=>?_,I.base.tups,I.base.frzs,I.base.tbls⟩,fun b o e=>?_,MN,fun b u q hb n=>?_,hW⟩
 ·obtain⟨z,e⟩:=I.base.slot b o q n hb hx;obtain⟨z',e'⟩:=sl b _ e hb;exact⟨z',e'⟩
 ·obtain⟨o',e⟩:=there b o q;by_cases hb:b∈HY outer
  ·obtain⟨z,e'⟩:=sl b o' e hb;exact⟨_,e'⟩
  ·exact⟨o',k b o' e (nl b o q hb)⟩
 ·refine(I.hok b o e).stay (fun c u hc q=>k c u q (nt c ?_)) (fun _ q=>q) fun _ _ q=>q
  rcases hc with rfl|hc
  ·rw[e];exact fun z=>nomatch z
  ·rw[hc];exact fun z=>nomatch z
 ·have h1:∃u0,s1.heap.get? b=some u0/\b∉HY (envOfC qual scope s.heap.objs.size f cd::outer):=by
   rcases hb with hb|⟨o,ho⟩
   ·cases hq:H1 b with
    |none=>exact absurd hq hb
    |some ho=>
     obtain⟨u0,e0⟩:=ook_get (I.hok b ho hq);exact⟨u0,e0,nt b hb⟩
   ·obtain⟨o',e⟩:=there b o ho;exact⟨o',e,nl b o ho n⟩
  obtain⟨u0,e0,n0⟩:=h1;have:=k b u0 e0 n0;rw[show h2.get? b=some u from q]at this;cases this;exact Xh _ e0 n0
def PX(X:Cx)(st:List Stmt)(t:L2.St->Hp->Prop):Prop:=
 ∀(pi:List (Addr×Obj)) (s:Shared) (σ:L2.St) (H:Hp),Inv X pi σ H s->t σ H->wpAny (model X.prog X.w) X.A (execs st X.env) (fun _ _=>False) X.xe s
section
variable{X:Cx}{st:Stmt}{cH:List Stmt}{t:TS}{u u':L2.St->Hp->Prop}{e:Expr}{es:List Expr}{x:Str}{C:Addr}{Ww:Hp->Prop}{np Hj pos:Pos}
theorem xv{ta:TA}(O:O7 X.mg X.base x C)(acc:Acc X C Ww)(hc:X.calm=true)(hg:Gl X x)(ha:PA X (e::es) ta)(HZ:(x==("__debug__" : Str))=false:=by decide)
  (he:starEach (e::es) X.env=(false,eval e X.env)::starEach es X.env:=by rfl) (HU:(backTo Hj (starEach es X.env)).any (·.1)=false:=by rfl):
  PX X (.Raise (some (.Call (.Name x np) (e::es) [] Hj)) none pos::cH) (fun σ H=>ta σ H fun vs H1=>vs.length<=sizeLine/\Ww H1):=by
 intro pi s σ H I h;obtain⟨B,nw,ini,bm,FB,O⟩:=O;obtain⟨tl,N,nm,q,bs,hdct,sn,sub,ab,col,dd,k0,k1,k2,k3,k5,mN,hC,hN,KR,T⟩:=O.obj;refine V6 (wpAny_Raise_call_subT (C:=C) (nm:=nm) (q:=q) (N:=N) (bs:=bs) (bm:=tl) (hdct:=hdct) (sn:=sn) (sub:=sub) (ab:=ab) (col:=col) (dd:=dd) (k0:=k0) (k1:=k1) (k2:=k2) (k3:=k3) (k5:=k5) FB (mN:=mN) (T.hasType FB.hasBase) (I.ok.hd hc) (by rw[he];show(false||(backTo Hj (starEach es X.env)).any (·.1))=false;rw[HU];rfl) KR (k7 I hg O.bound ⟨rfl,?_⟩ HZ));have z:=ha Hj pi s σ H _ I h;rw[he]at z ⊢;exact W8 (Vc z (fun us s2 ⟨vs,H1,I1,r,hl,hw⟩=>⟨rfl,by rw[<-r.length];exact hl,I1.bk _ _ hC,hN.keeps I1.bk,T.keeps I1.bk,fun h' a hm=>acc pi σ H1 s2 h' a us I1 hw hm⟩) fun _ _ y=>y)
theorem ER{c:Expr}{a b:List Stmt}{tc:TT}(hc:PT X c tc)(ha:PX X a u):PX X (.If c a b pos::cH) (fun σ H=>tc σ H fun bb H1=>bb=true/\u σ H1):=by
 intro pi s σ H I h;refine V6 (wpAny_If (Hk (hc pi s σ H _ I h) fun d s1 Hm=>?_));obtain⟨H1,I1,e,q⟩:=Hm;subst e;exact Vc (ha pi s1 σ H1 I1 q) (fun _ _ z=>z.elim) fun _ _ z=>z
theorem yz(h:PX X cH u)(k:∀σ H,u' σ H->u σ H):PX X cH u':=fun pi s σ H I z=>h pi s σ H I (k σ H z)
theorem Cq(h:PX X cH u):PSs X cH (fun _ σ H=>u σ H):=fun pi s σ H _ I z=>Vc (h pi s σ H I z) (fun _ _ z=>z.elim) fun _ _ z=>z
theorem Cr{t:TA}(h:PA X.nox es t):PA X es t:=fun p pi s σ H Q I hw=>Vc (h p pi s σ H Q (I.wish _) hw) (fun _ _ ⟨v,H',I',r,q⟩=>⟨v,H',I'.unwish,r,q⟩) fun _ _ z=>False.elim z
end
def CtX(P:Program)(w:World)(K:W.Frag)(mg:Str->Option Value)(base:Heap)(x:Str)(k:Nat)(C:Addr)(sp:Sp):Prop:=
 ∃f fd ps,FnOk P w K mg base (OE P w base C) k f fd ps sp/\mg x=some (.ref f)/\PySem.W.keepIn K (.ref f)=true/\Binds K fd ps []
theorem zW{P:Program}{w:World}{K:W.Frag}{mg:Str->Option Value}{base:Heap}{x qual:Str}{st:Stmt}{f C:Addr}{fd:FuncData}{N ps:List Str}{k:Nat}{sp:Sp}(F:Fun K x qual st f fd)(S:FnScope N ps (defScope st))(len:∀vs H Q E,sp vs H Q E->vs.length=ps.length)
  (KS:∀(Hs:Value) (A:Around) (outer:List Env) (s:Shared) (H:Hp) (vs:List V) (Q:VK) (E:XK),Room k (A.deeper (envOfC qual (defScope st) s.heap.objs.size f Hs))->sp vs H Q E->
   ∃t,PX (sT (OE P w base C) P w K mg base N qual (defScope st) f Hs A outer s H E) (dE st) t/\t (start N vs) H):FnOk P w K mg base (OE P w base C) (k+1) f fd ps sp:=by
 obtain⟨oc,od,kV,doc,pm,an,Hs,ct,ME,rfl,lk,Mf⟩:=F.ex;refine B3 lk Mf S len fun A outer s H vs Q E hr Lr=>?_
 obtain⟨t,h,q⟩:=KS Hs A outer s H vs Q E hr Lr;exact⟨_,Cq h,q⟩
def XP(X:Cx)(pi:List (Addr×Obj))(σ:L2.St)(C:Addr)(Ww:Hp->Prop)(e:Value)(s':Shared):Prop:=∃(s1:Shared) (H1:Hp),Inv X pi σ H1 s1/\OE X.prog X.w X.base C X.stack H1 s1 (fun _ _ H'=>Ww H') e s'
abbrev TX:=L2.St->Hp->(Hp->Prop)->Prop
def SF(X:Cx)(e:Expr)(C:Addr)(t:TX):Prop:=∀(pi:List (Addr×Obj)) (s:Shared) (σ:L2.St) (H:Hp) (Ww:Hp->Prop),Inv X pi σ H s->t σ H Ww->wpAny (model X.prog X.w) X.A (eval e X.env) (fun _ _=>False) (XP X pi σ C Ww) s
def P6(X:Cx)(st:List Stmt)(C:Addr)(t:TX):Prop:=∀(pi:List (Addr×Obj)) (s:Shared) (σ:L2.St) (H:Hp) (Ww:Hp->Prop),Inv X pi σ H s->t σ H Ww->wpAny (model X.prog X.w) X.A (execs st X.env) (fun _ _=>False) (XP X pi σ C Ww) s
section
variable{X:Cx}{st:Stmt}{cH:List Stmt}{tx:TX}{e a b:Expr}{es:List Expr}{x:Str}{C:Addr}{k:Nat}{sp:Sp}{p pos:Pos}
theorem rE{t:TA}(c:CtX X.prog X.w X.K X.mg X.base x k C sp)(hr:Room k X.A)(hg:Gl X x)(ha:PA X.nox (e::es) t)(HZ:(x==("__debug__" : Str))=false:=by decide)
  (he:starEach (e::es) X.env=(false,eval e X.env)::starEach es X.env:=by rfl) (HU:(backTo pos (starEach es X.env)).any (·.1)=false:=by rfl):
  SF X (.Call (.Name x p) (e::es) [] pos) C (fun σ H Ww=>t σ H fun vs H1=>sp vs H1 (fun _ _=>False) fun _ _ H'=>Ww H'):=by
 intro pi s σ H Ww I h;obtain⟨f,fd,ps,F,m,kp,b⟩:=c;refine VT (k7 I hg m ?_ HZ);refine YG (h₀:=X.base) I.ok.mod.kin kp (Vc (ha pos pi s σ H _ (I.wish _) h) (fun us s1 ⟨vs,H1,I1,r,q⟩=>⟨I1.kIn,?_⟩) fun _ _ z=>z.elim) he HU;have I1:=I1.unwish;have hl:us.length=ps.length:=by rw[<-r.length];exact F.len _ _ _ _ q
 have hb:BindsTo s1 fd ⟨us,[]⟩ (ps.zip us):=by
  have:=b s1 us I1.kIn (by rw[Vd];exact hl);rw[Vd]at this;exact this
 refine wpAny_call (X8 (F.run X.A X.stack s1 H1 ⟨us,[]⟩ us vs _ _ hr I1.env0 hb r q) fun r s' hq=>?_);cases r with
 |error e=>exact⟨s1,H1,I1,hq⟩
 |ok fl=>
  cases fl with
  |ret u=>obtain⟨_,_,_,_,_,_,_,z⟩:=hq;exact z.elim
  |next=>exact False.elim hq
  |brk=>exact False.elim hq
  |cont=>exact False.elim hq
theorem xw(h:SF X e C tx)(hs:swapsWith e none pos.line X.env=pure false:=by rfl):P6 X (.Expr e pos::cH) C tx:=fun pi s σ H Ww I z=>
 V6 (wpAny_Expr_any (Vc (h pi s σ H Ww I z) (fun _ _ z=>z.elim) fun _ _ z=>z) I.quiet hs)
end
abbrev handX(X:Cx)(a:Addr):Cx:={X with A:=X.A.mark (some (.ref a)),calm:=false,xe:=fun _ _=>False}
theorem xx{X:Cx}{pi:List (Addr×Obj)}{σ:L2.St}{H:Hp}{s:Shared}(I:Inv X pi σ H s)(a:Addr):Inv (handX X a) pi σ H s:=
 ⟨⟨I.ok.mod,I.ok.kind,I.ok.glob,I.ok.blt,I.ok.above,I.ok.inj,I.ok.has,I.ok.cab,(fun z=>nomatch z),I.ok.frames,I.ok.stk,I.ok.exf,I.ok.bs,I.ok.bsz,I.ok.noex,I.ok.exfs,I.ok.funs,I.ok.frf⟩,I.os,I.bare,I.base,I.loc,I.cell,I.free,I.freeC,I.pin,I.hok,I.len⟩
open PySem.Builtin.ObjectAttr PySem.Builtin.Getset_descriptor
def ExAt(x D:Addr)(h:Heap):Prop:=∃o vs,h.get? x=some o/\o.cls=.ref D/\o.data=.fields vs
structure Asks(K:W.Frag)(D:Addr):Prop where
 ga:PySem.W.findIn K (.ref D) "__getattribute__" = some (some (.builtin "BaseException.__getattribute__"))
 gn:PySem.W.findIn K (.ref D) "__getattr__" = some none
 hc:PySem.W.hasDictIn K D=true
 fi:PySem.W.findIn K (.ref D) "__class__" = some (some (.builtin "object.__class__"))
 sp:PySem.W.specialIn K (.builtin "object.__class__") "__get__" = some (some (.builtin "getset_descriptor.__get__"))
 tk:PySem.W.takesIn K (.builtin "object.__class__")=some true
 mo:PySem.W.mroIn K D (.type "object")=some true
 mb:PySem.W.mroIn K D (.type "BaseException")=some true
theorem Asks.cls{K:W.Frag}{D:Addr}(k:Asks K D):∃cd,PySem.W.clsIn K D=some cd:=by
 obtain⟨cd,e,_⟩:=PySem.W.any_some k.hc;exact⟨cd,e⟩
section
variable{prog:Program}{w:World}{A:Around}{E:Value->Shared->Prop}{s:Shared}{K:W.Frag}{x D:Addr}
theorem ExAt.ty{M:Model}{h:Heap}(I:ExAt x D h):PySem.W.Looks M h (typeOf (.ref x)) (.ref D):=by
 obtain⟨o,vs,e,c,_⟩:=I;exact c▸(PySem.W.Looks.ld e).andThen .now
theorem xy{M:Model}{h:Heap}(k:Asks K D)(X:K.In h):PySem.W.Looks M h (find (.ref x) (.ref D) "__class__") (.bind (.builtin "getset_descriptor.__get__") (.builtin "object.__class__")):=by
 have T:=PySem.W.looks_takesIn (M:=M) X k.tk;have T':PySem.W.Looks M h (dataDescriptor? (some (.builtin "object.__class__")) (some (.builtin "getset_descriptor.__get__"))) (some (.builtin "getset_descriptor.__get__",.builtin "object.__class__")):=T.andThen .now;exact(Xb X k.fi).andThen ((show PySem.W.Looks M h (getOf (some (.builtin "object.__class__"))) (some (.builtin "getset_descriptor.__get__")) from PySem.W.looks_specialIn X k.sp).andThen (T'.andThen (PySem.W.Looks.tag .now)))
theorem zX{R:Result->Shared->Prop}{tp:Value}(k:Asks K D)(X:K.In s.heap)(I:ExAt x D s.heap)(h:R (.ok (.ret (.ref D))) s):
  codeAny (model prog w) A (.call (.builtin "getset_descriptor.__get__") ⟨[.builtin "object.__class__",.ref x,tp],[]⟩) R s:=by
 obtain⟨hp,gs,dr,tt,oo⟩:=s;have Ty:=I.ty (M:=model prog w);have Mo:=Yz (M:=model prog w) X k.mo;refine W9 PySem.W.KF.slot_gs.plain PySem.W.KF.entry_gs (PySem.W.KF.slot_gs.check _ _ _ _ _ _ _ _ PySem.W.KF.type_class (PySem.W.KF.args_gs _ _ _) ?_);unfold Builtin.«getset_descriptor.__get__» descrGet;rw[PySem.W.dga_obj];refine Uk (Ul ?_);unfold descrGetter descrCheckInstance descrNameAndClass isInstance;simp only[PySem.W.KF.owner_class];repeat lk
 refine⟨Code.quiet_builtin _ (by decide +kernel),Wf PySem.W.KF.entry_class ?_⟩;unfold Builtin.«object.__class__» shownTypeOf;repeat lk
 exact h
theorem vm{tk:Tok}{Q:PySem.Fin->Shared->Prop}(k:Asks K D)(X:K.In s.heap)(I:ExAt x D s.heap)(h:Q (.done (.ret (.ref D))) s):
  wpAny (model prog w) A (Builtin.«object.__getattribute__» ⟨[.ref x,.str "__class__" tk],[]⟩) Q E s:=by
 obtain⟨hp,gs,dr,tt,oo⟩:=s;have Ty:=I.ty (M:=model prog w);have Fd:=xy (M:=model prog w) (x:=x) k X;unfold Builtin.«object.__getattribute__»;repeat (any_goals (first|assumption|with_reducible refine Ty.at ?_|with_reducible refine Fd.at ?_|wp_step))
 refine zX k X I ?_;repeat (any_goals (first|assumption|wp_step))
theorem vn{M:Model}{nv:Value}{Q:Unit->Shared->Prop}(k:Asks K D)(X:K.In s.heap)(I:ExAt x D s.heap)(h:Q () s):wpAny M A (checkBuiltinCall "BaseException.__getattribute__" ⟨[.ref x,nv],[]⟩) Q E s:=by
 obtain⟨hp,gs,dr,tt,oo⟩:=s;have z1:builtinKind "BaseException.__getattribute__" = some .slot:=by decide +kernel
 have z2:splitId "BaseException.__getattribute__" = some ("BaseException","__getattribute__"):=by decide +kernel
 have z3:=F.args_bexc_ga (.ref x) nv;have Ty:=I.ty (M:=M);have Mb:=Yz (M:=M) X k.mb;simp only[checkBuiltinCall,z1,z2];refine Uk ?_;unfold isInstance;repeat (any_goals (first|assumption|with_reducible refine Ty.at ?_|with_reducible refine Mb.at ?_|wp_step))
theorem Cs{tk:Tok}{fill ex:Bool}{Q:Value->Shared->Prop}(k:Asks K D)(X:K.In s.heap)(I:ExAt x D s.heap)(h:Q (.ref D) s):wpAny (model prog w) A (getAttrBy (.ref x) (.str "__class__" tk) fill ex) Q E s:=by
 obtain⟨hp,gs,dr,tt,oo⟩:=s;have Ty:=I.ty (M:=model prog w);have G1:=Xb (M:=model prog w) X k.ga;have G2:=Xb (M:=model prog w) X k.gn;have z0:(ex&&onTheHeap (Value.builtin "BaseException.__getattribute__"))=false:=by cases ex <;> rfl
 have z2:(Value.builtin "BaseException.__getattribute__" == Value.builtin "object.__getattribute__")=false:=by decide +kernel
 have z1:(onTheHeap (Value.ref D)&&Value.builtin "BaseException.__getattribute__" == Value.builtin "object.__getattribute__")=false:=by rw[z2];rfl
 have z3:=F.attr_ValueError.ga.bind (.ref x);repeat (any_goals (first|assumption|with_reducible refine Ty.at ?_|with_reducible refine G1.at ?_|with_reducible refine G2.at ?_|wp_step))
 refine W9 F.attr_ValueError.ga.plain F.entry_bexc_ga (vn k X I (vm k X I ?_));repeat (any_goals (first|assumption|wp_step))
theorem vo(k:Asks K D)(X:K.In s.heap)(I:ExAt x D s.heap){Q:Option Value->Shared->Prop}(h:Q (some (.ref D)) {s with toks:=s.toks+1}):wpAny (model prog w) A (getAttr? (.ref x) "__class__") Q E s:=by
 unfold getAttr? getAttrBy?;refine Uk (wpAny_mkText (Uk (Xf (Cs (s:={s with toks:=s.toks+1}) k X I (Ul h)))))
theorem qr(k:Asks K D):PySem.W.KitX K (.ref x) (.ref D) (ExAt x D) where
 ty:=fun _ _ _ I=>I.ty
 it:=fun M h X _=>by
  obtain⟨cd,e⟩:=k.cls;unfold PySem.W.clsIn at e;split at e
  ·rename_i ho;intro A' Q' E' s' kk q;unfold isType loadHead;exact Uk (wpAny_loadPart (kk _ _ (X _ _ ho)) (Ul q))
  ·cases e
 ne:=fun h tp dd GU n sl X SG=>by
  obtain⟨cd,e⟩:=k.cls;refine Wg.mpr fun q=>?_
  cases Value.ref.inj (UQ.mp q);unfold PySem.W.clsIn at e;split at e
  ·rename_i ho;cases(X _ _ ho).symm.trans SG
  ·cases e
 ca:=fun X I h=>vo k X I h
end
abbrev asX(X:Cx)(a:Addr)(o:Obj):Cx:={X with A:=X.A.mark (some (.ref a)),calm:=false,xe:=fun _ _=>False,pn:=(a,o)::X.pn}
section
variable{X:Cx}{pi:List (Addr×Obj)}{σ:L2.St}{H:Hp}{s:Shared}{a:Addr}{o:Obj}
theorem Cu(I:Inv X pi σ H s)(h1:s.heap.get? a=some o)(h2:H a=none)(h3:a≠X.env.locals)(h4:a∉X.fs)(h5:∀v,o.data≠.cell v):Inv (asX X a o) pi σ H s:=
 ⟨⟨I.ok.mod,I.ok.kind,I.ok.glob,I.ok.blt,I.ok.above,I.ok.inj,I.ok.has,I.ok.cab,(fun z=>nomatch z),I.ok.frames,I.ok.stk,I.ok.exf,I.ok.bs,I.ok.bsz,I.ok.noex,I.ok.exfs,I.ok.funs,I.ok.frf⟩,I.os,I.bare,I.base,I.loc,I.cell,I.free,I.freeC,fun p hp=>by
  rcases Ux.mp (show p∈(a,o)::(X.pn++pi) from hp) with rfl|hp
  ·exact⟨h1,h2,h3,h4,h5⟩
  ·exact I.pin p hp,I.hok,I.len⟩
theorem xA(ok:X.Ok)(I:Inv (asX X a o) pi σ H s):Inv X pi σ H s:=⟨ok,I.os,I.bare,I.base,I.loc,I.cell,I.free,I.freeC,fun p hp=>I.pin p (Uy _ hp),I.hok,I.len⟩
theorem xB{i:Nat}{x:Str}{m:Str->Option Value}{v:Option Value}{h':Heap}{t':Nat}(I:Inv X pi σ H s)(hN:X.N.Nodup)(hi:X.N[i]?=some x)(hm:s.heap.Ns X.env.locals m)
  (hn:h'.Ns X.env.locals (fun y=>if y=x then v else m y)) (hs:Heap.SameBut X.env.locals s.heap h'):Inv X pi (σ.set i none) H {s with heap:=h',toks:=t'}:=by
 have SH:∀b o,X.s₀.heap.get? b=some o->b≠X.env.locals:=fun b o e=>UK (UB (Uu e) I.ok.above)
 have hl:i<σ.length:=by rw[I.len];exact(List.getElem?_eq_some_iff.mp hi).1
 refine⟨I.ok,I.os,I.bare,⟨fun b o e n hb hx=>?_,fun b o e n hb hx=>?_,I.base.free,fun b o e hx=>?_,I.base.tups,I.base.frzs,I.base.tbls⟩,⟨_,hn,fun j y v' e1 e2 e3=>?_⟩,fun y c e=>?_,I.free,I.freeC,fun p hp=>?_,fun b ob e=>?_,by rw[VQ];exact I.len⟩
 ·rw[hs.2 b (SH b o e)];exact I.base.keep b o e n hb hx
 ·rw[hs.2 b (SH b o e)];exact I.base.slot b o e n hb hx
 ·rw[hs.2 b (SH b o e)];exact I.base.there b o e hx
 ·have hj:j≠i:=fun z=>by
   subst z;rw[List.getElem?_set_self hl]at e2;cases e2
  rw[List.getElem?_set_ne (VB hj)]at e2;obtain⟨m',hm',P7⟩:=I.loc;obtain⟨u',r',q⟩:=P7 j y v' e1 e2 e3;refine⟨u',r',?_⟩;rcases q with⟨kk,e⟩|⟨kk,c,e,z⟩
  ·refine .inl ⟨kk,?_⟩;have ne:y≠x:=fun e=>hj (m9 hN e1 (e▸hi))
   dsimp only;rw[UD ne];obtain⟨o1,SI,TF,a1,b1,c1,d1⟩:=hm;obtain⟨o2,P8,Qw,a2,b2,c2,d2⟩:=hm';rw[a1]at a2;cases a2;rw[b1]at b2;cases b2;rw[<-d1 y,d2 y];exact e
  ·exact .inr ⟨kk,c,e,z.sameBut hs (I.cne y c e)⟩
 ·obtain⟨w',z⟩:=I.cell y c e;exact⟨w',z.sameBut hs (I.cne y c e)⟩
 ·obtain⟨e,n,ne,nf,d⟩:=I.pin p hp;exact⟨(hs.2 p.1 ne).trans e,n,ne,nf,d⟩
 ·refine(I.hok b ob e).stay (fun c w' hc q=>(hs.2 c ?_).trans q) (fun _ q=>q) fun _ _ q=>q
  rintro rfl;rcases hc with rfl|hc
  ·rw[I.free]at e;cases e
  ·rw[I.free]at hc;cases hc
end
def goneE(i:Nat)(D:Ends):Ends:={nx:=fun σ H=>D.nx (σ.set i none) H,rt:=D.rt,bk:=fun σ H=>D.bk (σ.set i none) H,ct:=fun σ H=>D.ct (σ.set i none) H}
theorem xC{X:Cx}{body K0:List Stmt}{b0:Stmt}{x n:Str}{i:Nat}{C:Addr}{np MO pos:Pos}{t:TS}{th:Addr->TS}{tx:TX}(O:O7 X.mg X.base x C)(hg:Gl X x)(hn:PSs X.nox body t)(hx:P6 X body C tx)
  (hh:∀a o vs,o.cls=.ref C->o.data=.fields vs->PSs (asX X a o) (b0::K0) (th a)) (hN:X.N.Nodup) (hi:X.N[i]?=some n) (hl:X.env.kindOf n=some .local) (RG:X.env.scope.names.lookup n=some .local)
  (hs:X.stack=X.env::X.outer:=by rfl) (hf:X.env.frame=some X.env.locals:=by rfl) (HZ:(x==("__debug__" : Str))=false:=by decide):
  PS X (.Try body [.ExceptHandler (some (.Name x np)) (some n) (b0::K0) MO] [] [] pos) (fun D σ H=>t D σ H\/tx σ H fun H'=>∀a,th a (goneE i D) (σ.set i (some (.ref a))) H'):=by
 intro pi s σ H D I h;rcases h with h|h
 ·refine wpAny_Try_except (Vc (hn pi s σ H D (I.wish _) h) (fun f s1 q=>?_) fun _ _ z=>z.elim);have q:=q.unwish;cases f with
  |next=>exact WK q
  |ret v=>exact q
  |brk=>exact q
  |cont=>exact q
 refine wpAny_Try_except (Vc (hx pi s σ H _ I h) (fun _ _ z=>z.elim) fun e s1 z=>?_);obtain⟨s0,H1,I1,a,tt,B,H',rfl,Ny,hgen,un,hok,MN,RH,hW⟩:=z;have nt:∀b,H' b≠none->b∉HY X.stack:=fun b n z=>by
  obtain⟨_,o,ho,_⟩:=I1.stack.mem z;exact n (un.free b o ho (I1.stkFree b z) fun z=>nomatch z)
 have key:∀h6:Heap,Heap.FlyingW B X.stack a (.ref C) (.ref tt) h6->s1.heap.UpToSlots h6->Inv X pi σ H' {s1 with heap:=h6}:=fun h6 f6 sm=>by
  have sl:∀b u,s1.heap.get? b=some u->b∈HY X.stack->∃z,h6.get? b=some {u with slots:=z}:=fun b u q n=>by
   obtain⟨_,o,ho,hd⟩:=MN.2.2.1.mem n;rw[q]at ho;cases ho;exact sm b u q hd
  refine I1.call' (ch:=[]) Ny ⟨fun b o q n hb hx=>?_,fun b o q n hb hx=>?_,un.free,fun b o q hx=>?_,un.tups,un.frzs,un.tbls⟩ (fun b o e=>?_) hgen fun b z=>nomatch z
  ·have:=un.keep b o q n hb hx;exact f6.1 b o (RH b o this (.inr ⟨o,q⟩) hb)
  ·obtain⟨z,e⟩:=un.slot b o q n hb hx;obtain⟨z',e'⟩:=sl b _ e hb;exact⟨z',e'⟩
  ·obtain⟨o',e⟩:=un.there b o q hx;by_cases hb:b∈HY X.stack
   ·obtain⟨z,e'⟩:=sl b o' e hb;exact⟨_,e'⟩
   ·exact⟨o',f6.1 b o' (RH b o' e (.inr ⟨o,q⟩) hb)⟩
  ·refine(hok b o e).stay (fun c u hc q=>?_) (fun _ q=>q) fun _ _ q=>q
   have hc:H' c≠none:=by
    rcases hc with rfl|hc
    ·rw[e];exact fun z=>nomatch z
    ·rw[hc];exact fun z=>nomatch z
   exact f6.1 c u (RH c u q (.inl hc) (nt c hc))
 have SJ:a∉HY X.stack:=fun z=>by
  obtain⟨_,o,ho,hd⟩:=MN.2.2.1.mem z;obtain⟨_,_,_,oe,vs,T,oT,ts,he,_,hv,_⟩:=MN;rw[he]at ho;cases ho;exact hd vs hv
 have naH:H' a=none:=by
  cases hq:H' a with
  |none=>rfl
  |some u=>
   exfalso;obtain⟨ob,e⟩:=ook_get (hok a u hq);have:=RH a ob e (.inl (by rw[hq];exact fun z=>nomatch z)) SJ;rw[MN.2.1]at this;cases this
 have naL:a≠X.env.locals:=fun z=>SJ (by
  unfold HY;rw[hs,Wl,hf,z];exact Uq)
 have naF:a∉X.fs:=fun z=>SJ (by
  have z:a∈X.outer.filterMap (·.frame):=z;unfold HY;rw[hs,Wl,hf];exact Uy _ z)
 have fl:Heap.FlyingW B (X.env::X.outer) a (.ref C) (.ref tt) s1.heap:=by rw[<-hs];exact MN
 refine wpAny_looks_onW (by rw[<-hs];exact I1.ok.frames) hf fl fun h4 Qx sm4=>?_
 refine wpAny_landsW Qx fun h5 O8 sm5=>?_
 have Qy:=sm4.trans sm5;have I5:=xx (key h5 (by rw[hs];exact O8) Qy) a;obtain⟨ob,NK,hobc⟩:=O8.there;refine wpAny_handleBy_cons (codeAny_handlers_test (k7 I5 hg (show(handX X a).mg x=some (.ref C) from by obtain⟨_,_,_,_,_,O⟩:=O;exact O.bound) ?_ HZ)) (by intro q;cases q);obtain⟨_,_,_,bm,FB,O⟩:=O;obtain⟨tl,N,nm,q,bs,hdct,sn,sub,ab,col,dd,k0,k1,k2,k3,k5,mN,hC,hNN,KR,T⟩:=O.obj;refine wpAny_excMatches_sub_self (I5.bk _ _ hC) NK hobc (T.hasType FB.hasBase) (codeAny_handlers_suite_as ?_);refine lands_againW O8 fun h6 Qz sm6=>?_
 have I6:=key h6 (by rw[hs];exact Qz) (Qy.trans sm6);obtain⟨_,_,_,oe,vs,_,_,_,he,L0,hv,_⟩:=id Qz;have I7:=Cu (a:=a) (o:=oe) I6 he naH naL naF fun v z=>by rw[hv]at z;cases z
 refine ng (X:=asX X a oe) (x:=n) (i:=i) (v:=.ref a) I7 hN hi (.inl RG) rfl (fun s2 I2=>?_) (.inr RG);refine Vc (hh a oe vs L0.1 hv pi s2 _ H' (goneE i D) I2 (hW a)) (fun f s3 q=>?_) fun _ _ z=>z.elim
 have go:∀{σ':L2.St}{O9:Hp},Inv (asX X a oe) pi σ' O9 s3->∀{Q:Unit->Shared->Prop}{A':Around}{E':Value->Shared->Prop},(∀s4,Inv X pi (σ'.set i none) O9 s4->Q () s4)->wpAny (model X.prog X.w) A' (do bindName X.env n .none;unbindBehindTheSuite X.env n MO) Q E' s3:=fun{σ' O9} I8 {Q A' E'} kk=>by
  have I9:=xA I6.ok I8;obtain⟨m,hm,_⟩:=id I9.loc;exact wpAny_nameGoes_keeps hl hm (by rw[I9.ok.kind];rfl) fun h' v R7 sb=>kk _ (xB I9 hN hi hm R7 sb)
 cases f with
 |next=>obtain⟨σ',O9,I8,q⟩:=q;exact go I8 fun s4 I9=>⟨_,_,I9,q⟩
 |brk=>obtain⟨σ',O9,I8,q⟩:=q;exact go I8 fun s4 I9=>⟨_,_,I9,q⟩
 |cont=>obtain⟨σ',O9,I8,q⟩:=q;exact go I8 fun s4 I9=>⟨_,_,I9,q⟩
 |ret u=>obtain⟨v,σ',O9,I8,r,q⟩:=q;exact go I8 fun s4 I9=>⟨v,_,_,I9,r,q⟩
end NX
namespace NX
open PySem PySem.W PySem.Spec PyProof.Rows L2
section
variable{prog:Program}{w:World}{A:Around}{E:Value->Shared->Prop}{s:Shared}
end
section
variable{X:Cx}
end
end NX
namespace NX
open PySem PySem.Spec PyProof.Rows L2
section
variable{X:Cx}{es:List Expr}{kt:Nat}{pt:Pos}
end
end NX
namespace PV
open PySem L2 NX
inductive D where
 |non|bl (b:Bool)|int (i:Int)|str (l:List Nat)|tup (ds:List D)|lst (ds:List D)|dct (tk:Bool) (ks vs:List D)
inductive O where
 |f|l (c:O)|t (cs:List O)|d|pin (p:Addr) (c:O)
abbrev R:=O×D
abbrev Env:=List (Option R)
inductive Res(α:Type) where
 |ok (a:α)|exc (c:List Nat)|bad
def kD:Key->D
 | .inl i=>.int i
 | .inr x=>.str x.cps.toList
def isM:HO->Bool
 | .lst _=>true
 | .dK _=>true
 | .dT _=>true
 |_=>false
def isT:HO->Bool
 | .tup _=>true
 | .frz _ (.tup _)=>true
 |_=>false
def yA:Key->Prop
 | .inl _=>True
 | .inr x=>x.cps.toList.length<=sizeLine
def DictO(o:HO)(tk:Bool)(ks:List D)(xs:List V):Prop:=match tk with
 |true=>∃GV:List (List Key×V),o=.dT GV/\ks=GV.map (fun kv=>D.tup (kv.1.map kD))/\xs=GV.map (·.2)/\∀kv∈GV,∀k∈kv.1,yA k
 |false=>∃GV:List (Key×V),o=.dK GV/\ks=GV.map (fun kv=>kD kv.1)/\xs=GV.map (·.2)/\∀kv∈GV,yA kv.1
mutual
noncomputable def Rep(K:W.Frag)(G:Hp):D->V->Prop
 | .non,v=>v=.non
 | .bl b,v=>v=.bl b
 | .int i,v=>v=.int i
 | .str l,v=>v=.str (S l)/\l.length<=sizeLine
 | .tup ds,v=>∃p xs,v=.ref p/\G p=some (.tup xs)/\Reps K G ds xs
 | .lst ds,v=>∃p xs,v=.ref p/\SqL K G p xs/\Reps K G ds xs
 | .dct tk ks vs,v=>∃p xs o,v=.ref p/\Rd G p o/\DictO o tk ks xs/\Reps K G vs xs
noncomputable def Reps(K:W.Frag)(G:Hp):List D->List V->Prop
 |[],xs=>xs=[]
 |d::ds,xs=>∃y ys,xs=y::ys/\Rep K G d y/\Reps K G ds ys
end
def AllO(P:D->V->List Addr->Prop):List D->List V->List Addr->Prop
 |[],xs,fp=>xs=[]/\fp=[]
 |d::ds,xs,fp=>∃y ys a b,xs=y::ys/\fp=a++b/\P d y a/\AllO P ds ys b
mutual
noncomputable def RepO(K:W.Frag)(G H:Hp):O->D->V->List Addr->Prop
 | .f,d,v,fp=>Rep K G d v/\fp=[]
 | .l c,.lst ds,v,fp=>∃p xs G9,v=.ref p/\H p=some (.lst xs)/\fp=p::G9/\AllO (RepO K G H c) ds xs G9
 | .t cs,.tup ds,v,fp=>∃p xs,v=.ref p/\G p=some (.tup xs)/\RepT K G H cs ds xs fp
 | .d,.dct tk ks vs,v,fp=>∃p xs o,v=.ref p/\H p=some o/\DictO o tk ks xs/\fp=[p]/\Reps K G vs xs
 | .pin p c,d,v,fp=>v=.ref p/\RepO K G H c d v fp
 |_,_,_,_=>False
noncomputable def RepT(K:W.Frag)(G H:Hp):List O->List D->List V->List Addr->Prop
 |[],[],xs,fp=>xs=[]/\fp=[]
 |c::cs,d::ds,xs,fp=>∃y ys a b,xs=y::ys/\fp=a++b/\RepO K G H c d y a/\RepT K G H cs ds ys b
 |_,_,_,_=>False
end
section
variable{K:W.Frag}{G G' H H':Hp}
theorem Rd.mono{p:Addr}{u:HO}(h:Same G G')(r:Rd G p u):Rd G' p u:=by
 rcases r with r|⟨o,r⟩
 ·exact .inl (h _ _ r)
 ·exact .inr ⟨o,h _ _ r⟩
theorem iH{p:Addr}{xs:List V}(h:Same G G')(r:SqL K G p xs):SqL K G' p xs:=r.elim (fun r=>.inl (Rd.mono h r)) .inr
theorem b5{p:Addr}{xs:List V}(h:Same G G')(r:SqT K G p xs):SqT K G' p xs:=r.elim (fun r=>.inl (Rd.mono h r)) .inr
mutual
theorem Rep.mono(h:Same G G'):∀{d:D}{v:V},Rep K G d v->Rep K G' d v
 | .non,_,r=>by simpa only[Rep] using r
 | .bl _,_,r=>by simpa only[Rep] using r
 | .int _,_,r=>by simpa only[Rep] using r
 | .str _,_,r=>by simpa only[Rep] using r
 | .tup ds,_,r=>by
  simp only[Rep]at r ⊢;obtain⟨p,xs,e,q,rs⟩:=r;exact⟨p,xs,e,h _ _ q,Reps.mono h rs⟩
 | .lst ds,_,r=>by
  simp only[Rep]at r ⊢;obtain⟨p,xs,e,q,rs⟩:=r;exact⟨p,xs,e,iH h q,Reps.mono h rs⟩
 | .dct tk ks vs,_,r=>by
  simp only[Rep]at r ⊢;obtain⟨p,xs,o,e,q,dd,rs⟩:=r;exact⟨p,xs,o,e,Rd.mono h q,dd,Reps.mono h rs⟩
theorem Reps.mono(h:Same G G'):∀{ds:List D}{xs:List V},Reps K G ds xs->Reps K G' ds xs
 |[],_,r=>by simpa only[Reps] using r
 |d::ds,_,r=>by
  simp only[Reps]at r ⊢;obtain⟨y,ys,e,r1,r2⟩:=r;exact⟨y,ys,e,Rep.mono h r1,Reps.mono h r2⟩
end
theorem AllO.imp{P P':D->V->List Addr->Prop}:∀{ds:List D}{xs:List V}{fp:List Addr},(∀d v a,(∀p∈a,p∈fp)->P d v a->P' d v a)->AllO P ds xs fp->AllO P' ds xs fp
 |[],_,_,_,r=>r
 |d::ds,xs,fp,h,r=>by
  obtain⟨y,ys,a,b,e1,e2,p,q⟩:=r;subst e2;exact⟨y,ys,a,b,e1,rfl,h _ _ _ (fun p hp=>UA _ hp) p,AllO.imp (fun d v c hc=>h d v c fun p hp=>Us _ (hc p hp)) q⟩
mutual
theorem RepO.step(h:Same G G'):∀{o:O}{d:D}{v:V}{fp:List Addr},(∀p∈fp,H' p=H p)->RepO K G H o d v fp->RepO K G' H' o d v fp
 | .f,d,v,fp,hk,r=>by
  simp only[RepO]at r ⊢;exact⟨Rep.mono h r.1,r.2⟩
 | .pin p c,d,v,fp,hk,r=>by
  simp only[RepO]at r ⊢;exact⟨r.1,RepO.step h hk r.2⟩
 | .l c,.lst ds,v,fp,hk,r=>by
  simp only[RepO]at r ⊢;obtain⟨p,xs,G9,e,q,e2,a⟩:=r;subst e2;exact⟨p,xs,G9,e,(hk p Uq).trans q,rfl,AllO.imp (fun d v c hc=>RepO.step h fun z hz=>hk z (Uy _ (hc z hz))) a⟩
 | .t cs,.tup ds,v,fp,hk,r=>by
  simp only[RepO]at r ⊢;obtain⟨p,xs,e,q,a⟩:=r;exact⟨p,xs,e,h _ _ q,RepT.step h hk a⟩
 | .d,.dct tk ks vs,v,fp,hk,r=>by
  simp only[RepO]at r ⊢;obtain⟨p,xs,o,e,q,dd,e2,rs⟩:=r;subst e2;exact⟨p,xs,o,e,(hk p Uq).trans q,dd,rfl,Reps.mono h rs⟩
 | .l _,.non,_,_,_,r | .l _,.bl _,_,_,_,r | .l _,.int _,_,_,_,r | .l _,.str _,_,_,_,r | .l _,.tup _,_,_,_,r | .l _,.dct _ _ _,_,_,_,r=>by simp only[RepO]at r
 | .t _,.non,_,_,_,r | .t _,.bl _,_,_,_,r | .t _,.int _,_,_,_,r | .t _,.str _,_,_,_,r | .t _,.lst _,_,_,_,r | .t _,.dct _ _ _,_,_,_,r=>by simp only[RepO]at r
 | .d,.non,_,_,_,r | .d,.bl _,_,_,_,r | .d,.int _,_,_,_,r | .d,.str _,_,_,_,r | .d,.tup _,_,_,_,r | .d,.lst _,_,_,_,r=>by simp only[RepO]at r
theorem RepT.step(h:Same G G'):∀{cs:List O}{ds:List D}{xs:List V}{fp:List Addr},(∀p∈fp,H' p=H p)->RepT K G H cs ds xs fp->RepT K G' H' cs ds xs fp
 |[],[],_,_,_,r=>by simpa only[RepT] using r
 |c::cs,d::ds,xs,fp,hk,r=>by
  simp only[RepT]at r ⊢;obtain⟨y,ys,a,b,e1,e2,r1,r2⟩:=r;subst e2;exact⟨y,ys,a,b,e1,rfl,RepO.step h (fun p hp=>hk p (UA _ hp)) r1,RepT.step h (fun p hp=>hk p (Us _ hp)) r2⟩
 |[],_::_,_,_,_,r=>by simp only[RepT]at r
 |_::_,[],_,_,_,r=>by simp only[RepT]at r
end
theorem AllO.frozen{P:D->V->List Addr->Prop}:∀{ds:List D}{xs:List V}{fp:List Addr},(∀d v a,(∀p∈a,p∈fp)->P d v a->Rep K G' d v)->AllO P ds xs fp->Reps K G' ds xs
 |[],_,_,_,r=>by simp only[Reps];exact r.1
 |d::ds,xs,fp,h,r=>by
  obtain⟨y,ys,a,b,e1,e2,p,q⟩:=r;subst e2;simp only[Reps];exact⟨y,ys,e1,h _ _ _ (fun p hp=>UA _ hp) p,AllO.frozen (fun d v c hc=>h d v c fun p hp=>Us _ (hc p hp)) q⟩
mutual
theorem RepO.frozen(h:Same G G'):∀{o:O}{d:D}{v:V}{fp:List Addr},(∀p∈fp,∀u,H p=some u->G' p=some u)->RepO K G H o d v fp->Rep K G' d v
 | .f,d,v,fp,hk,r=>by
  simp only[RepO]at r;exact Rep.mono h r.1
 | .pin p c,d,v,fp,hk,r=>by
  simp only[RepO]at r;exact RepO.frozen h hk r.2
 | .l c,.lst ds,v,fp,hk,r=>by
  simp only[RepO]at r;simp only[Rep];obtain⟨p,xs,G9,e,q,e2,a⟩:=r;subst e2;exact⟨p,xs,e,SqL.of (hk p Uq _ q),AllO.frozen (fun d v c hc=>RepO.frozen h fun z hz=>hk z (Uy _ (hc z hz))) a⟩
 | .t cs,.tup ds,v,fp,hk,r=>by
  simp only[RepO]at r;simp only[Rep];obtain⟨p,xs,e,q,a⟩:=r;exact⟨p,xs,e,h _ _ q,RepT.frozen h hk a⟩
 | .d,.dct tk ks vs,v,fp,hk,r=>by
  simp only[RepO]at r;simp only[Rep];obtain⟨p,xs,o,e,q,dd,e2,rs⟩:=r;subst e2;exact⟨p,xs,o,e,.inl (hk p Uq _ q),dd,Reps.mono h rs⟩
 | .l _,.non,_,_,_,r | .l _,.bl _,_,_,_,r | .l _,.int _,_,_,_,r | .l _,.str _,_,_,_,r | .l _,.tup _,_,_,_,r | .l _,.dct _ _ _,_,_,_,r=>by simp only[RepO]at r
 | .t _,.non,_,_,_,r | .t _,.bl _,_,_,_,r | .t _,.int _,_,_,_,r | .t _,.str _,_,_,_,r | .t _,.lst _,_,_,_,r | .t _,.dct _ _ _,_,_,_,r=>by simp only[RepO]at r
 | .d,.non,_,_,_,r | .d,.bl _,_,_,_,r | .d,.int _,_,_,_,r | .d,.str _,_,_,_,r | .d,.tup _,_,_,_,r | .d,.lst _,_,_,_,r=>by simp only[RepO]at r
theorem RepT.frozen(h:Same G G'):∀{cs:List O}{ds:List D}{xs:List V}{fp:List Addr},(∀p∈fp,∀u,H p=some u->G' p=some u)->RepT K G H cs ds xs fp->Reps K G' ds xs
 |[],[],_,_,_,r=>by simp only[RepT]at r;simp only[Reps];exact r.1
 |c::cs,d::ds,xs,fp,hk,r=>by
  simp only[RepT]at r;simp only[Reps];obtain⟨y,ys,a,b,e1,e2,r1,r2⟩:=r;subst e2;exact⟨y,ys,e1,RepO.frozen h (fun p hp=>hk p (UA _ hp)) r1,RepT.frozen h (fun p hp=>hk p (Us _ hp)) r2⟩
 |[],_::_,_,_,_,r=>by simp only[RepT]at r
 |_::_,[],_,_,_,r=>by simp only[RepT]at r
end
theorem AllO.live{P:D->V->List Addr->Prop}:∀{ds:List D}{xs:List V}{fp:List Addr},(∀d v a,P d v a->∀p∈a,∃u,H p=some u)->AllO P ds xs fp->∀p∈fp,∃u,H p=some u
 |[],_,_,_,r=>by rw[r.2];intro p hp;cases hp
 |d::ds,xs,fp,h,r=>by
  obtain⟨y,ys,a,b,e1,e2,p,q⟩:=r;subst e2;intro z hz;rcases U5.mp hz with hz|hz
  ·exact h _ _ _ p z hz
  ·exact AllO.live h q z hz
mutual
theorem RepO.live:∀{o:O}{d:D}{v:V}{fp:List Addr},RepO K G H o d v fp->∀p∈fp,∃u,H p=some u
 | .f,d,v,fp,r=>by
  simp only[RepO]at r;rw[r.2];intro p hp;cases hp
 | .pin p c,d,v,fp,r=>by
  simp only[RepO]at r;exact RepO.live r.2
 | .l c,.lst ds,v,fp,r=>by
  simp only[RepO]at r;obtain⟨p,xs,G9,e,q,e2,a⟩:=r;subst e2;intro z hz;rcases Ux.mp hz with rfl|hz
  ·exact⟨_,q⟩
  ·exact AllO.live (fun d v a=>RepO.live) a z hz
 | .t cs,.tup ds,v,fp,r=>by
  simp only[RepO]at r;obtain⟨p,xs,e,q,a⟩:=r;exact RepT.live a
 | .d,.dct tk ks vs,v,fp,r=>by
  simp only[RepO]at r;obtain⟨p,xs,o,e,q,dd,e2,rs⟩:=r;subst e2;intro z hz;rw[UJ]at hz;exact⟨_,hz▸q⟩
 | .l _,.non,_,_,r | .l _,.bl _,_,_,r | .l _,.int _,_,_,r | .l _,.str _,_,_,r | .l _,.tup _,_,_,r | .l _,.dct _ _ _,_,_,r=>by simp only[RepO]at r
 | .t _,.non,_,_,r | .t _,.bl _,_,_,r | .t _,.int _,_,_,r | .t _,.str _,_,_,r | .t _,.lst _,_,_,r | .t _,.dct _ _ _,_,_,r=>by simp only[RepO]at r
 | .d,.non,_,_,r | .d,.bl _,_,_,r | .d,.int _,_,_,r | .d,.str _,_,_,r | .d,.tup _,_,_,r | .d,.lst _,_,_,r=>by simp only[RepO]at r
theorem RepT.live:∀{cs:List O}{ds:List D}{xs:List V}{fp:List Addr},RepT K G H cs ds xs fp->∀p∈fp,∃u,H p=some u
 |[],[],_,_,r=>by
  simp only[RepT]at r;rw[r.2];intro p hp;cases hp
 |c::cs,d::ds,xs,fp,r=>by
  simp only[RepT]at r;obtain⟨y,ys,a,b,e1,e2,r1,r2⟩:=r;subst e2;intro z hz;rcases U5.mp hz with hz|hz
  ·exact RepO.live r1 z hz
  ·exact RepT.live r2 z hz
 |[],_::_,_,_,r=>by simp only[RepT]at r
 |_::_,[],_,_,r=>by simp only[RepT]at r
end
theorem DictO.isM{o:HO}{tk:Bool}{ks:List D}{xs:List V}(h:DictO o tk ks xs):PV.isM o=true:=by
 cases tk with
 |true=>
  obtain⟨GV,e,_⟩:=h;rw[e];rfl
 |false=>
  obtain⟨GV,e,_⟩:=h;rw[e];rfl
theorem AllO.mut{P:D->V->List Addr->Prop}:∀{ds:List D}{xs:List V}{fp:List Addr},(∀d v a,P d v a->∀p∈a,∃u,H p=some u/\isM u=true)->AllO P ds xs fp->∀p∈fp,∃u,H p=some u/\isM u=true
 |[],_,_,_,r=>by rw[r.2];intro p hp;cases hp
 |d::ds,xs,fp,h,r=>by
  obtain⟨y,ys,a,b,e1,e2,p,q⟩:=r;subst e2;intro z hz;rcases U5.mp hz with hz|hz
  ·exact h _ _ _ p z hz
  ·exact AllO.mut h q z hz
mutual
theorem RepO.mut:∀{o:O}{d:D}{v:V}{fp:List Addr},RepO K G H o d v fp->∀p∈fp,∃u,H p=some u/\isM u=true
 | .f,d,v,fp,r=>by
  simp only[RepO]at r;rw[r.2];intro p hp;cases hp
 | .pin p c,d,v,fp,r=>by
  simp only[RepO]at r;exact RepO.mut r.2
 | .l c,.lst ds,v,fp,r=>by
  simp only[RepO]at r;obtain⟨p,xs,G9,e,q,e2,a⟩:=r;subst e2;intro z hz;rcases Ux.mp hz with rfl|hz
  ·exact⟨_,q,rfl⟩
  ·exact AllO.mut (fun d v a=>RepO.mut) a z hz
 | .t cs,.tup ds,v,fp,r=>by
  simp only[RepO]at r;obtain⟨p,xs,e,q,a⟩:=r;exact RepT.mut a
 | .d,.dct tk ks vs,v,fp,r=>by
  simp only[RepO]at r;obtain⟨p,xs,o,e,q,dd,e2,rs⟩:=r;subst e2;intro z hz;rw[UJ]at hz;exact⟨_,hz▸q,dd.isM⟩
 | .l _,.non,_,_,r | .l _,.bl _,_,_,r | .l _,.int _,_,_,r | .l _,.str _,_,_,r | .l _,.tup _,_,_,r | .l _,.dct _ _ _,_,_,r=>by simp only[RepO]at r
 | .t _,.non,_,_,r | .t _,.bl _,_,_,r | .t _,.int _,_,_,r | .t _,.str _,_,_,r | .t _,.lst _,_,_,r | .t _,.dct _ _ _,_,_,r=>by simp only[RepO]at r
 | .d,.non,_,_,r | .d,.bl _,_,_,r | .d,.int _,_,_,r | .d,.str _,_,_,r | .d,.tup _,_,_,r | .d,.lst _,_,_,r=>by simp only[RepO]at r
theorem RepT.mut:∀{cs:List O}{ds:List D}{xs:List V}{fp:List Addr},RepT K G H cs ds xs fp->∀p∈fp,∃u,H p=some u/\isM u=true
 |[],[],_,_,r=>by
  simp only[RepT]at r;rw[r.2];intro p hp;cases hp
 |c::cs,d::ds,xs,fp,r=>by
  simp only[RepT]at r;obtain⟨y,ys,a,b,e1,e2,r1,r2⟩:=r;subst e2;intro z hz;rcases U5.mp hz with hz|hz
  ·exact RepO.mut r1 z hz
  ·exact RepT.mut r2 z hz
 |[],_::_,_,_,r=>by simp only[RepT]at r
 |_::_,[],_,_,r=>by simp only[RepT]at r
end
noncomputable def RepE(K:W.Frag)(G H:Hp):Env->List (Option V)->List Addr->Prop
 |[],vs,fp=>vs=[]/\fp=[]
 |e::es,vs,fp=>∃y ys,vs=y::ys/\match e with
  |none=>RepE K G H es ys fp
  |some r=>∃v a b,y=some v/\fp=a++b/\RepO K G H r.1 r.2 v a/\RepE K G H es ys b
theorem RepE.step(h:Same G G'):∀{es:Env}{vs:List (Option V)}{fp:List Addr},(∀p∈fp,H' p=H p)->RepE K G H es vs fp->RepE K G' H' es vs fp
 |[],_,_,_,r=>r
 |none::es,vs,fp,hk,r=>by
  obtain⟨y,ys,e,r⟩:=r;exact⟨y,ys,e,RepE.step h hk r⟩
 |some r::es,vs,fp,hk,q=>by
  obtain⟨y,ys,e,v,a,b,e1,e2,r1,r2⟩:=q;subst e2;exact⟨y,ys,e,v,a,b,e1,rfl,RepO.step h (fun p hp=>hk p (UA _ hp)) r1,RepE.step h (fun p hp=>hk p (Us _ hp)) r2⟩
theorem RepE.live:∀{es:Env}{vs:List (Option V)}{fp:List Addr},RepE K G H es vs fp->∀p∈fp,∃u,H p=some u
 |[],_,_,r=>by
  rw[r.2];intro p hp;cases hp
 |none::es,vs,fp,r=>by
  obtain⟨y,ys,e,r⟩:=r;exact RepE.live r
 |some r::es,vs,fp,q=>by
  obtain⟨y,ys,e,v,a,b,e1,e2,r1,r2⟩:=q;subst e2;intro z hz;rcases U5.mp hz with hz|hz
  ·exact r1.live z hz
  ·exact RepE.live r2 z hz
theorem RepE.mut:∀{es:Env}{vs:List (Option V)}{fp:List Addr},RepE K G H es vs fp->∀p∈fp,∃u,H p=some u/\isM u=true
 |[],_,_,r=>by
  rw[r.2];intro p hp;cases hp
 |none::es,vs,fp,r=>by
  obtain⟨y,ys,e,r⟩:=r;exact RepE.mut r
 |some r::es,vs,fp,q=>by
  obtain⟨y,ys,e,v,a,b,e1,e2,r1,r2⟩:=q;subst e2;intro z hz;rcases U5.mp hz with hz|hz
  ·exact r1.mut z hz
  ·exact RepE.mut r2 z hz
theorem RepE.length:∀{es:Env}{vs:List (Option V)}{fp:List Addr},RepE K G H es vs fp->vs.length=es.length
 |[],_,_,r=>by rw[r.1];rfl
 |none::es,vs,fp,r=>by
  obtain⟨y,ys,e,r⟩:=r;rw[e,UI,UI,RepE.length r]
 |some r::es,vs,fp,q=>by
  obtain⟨y,ys,e,v,a,b,e1,e2,r1,r2⟩:=q;rw[e,UI,UI,RepE.length r2]
theorem RepE.take:∀{es:Env}{vs:List (Option V)}{fp:List Addr}{i:Nat}{r:R},RepE K G H es vs fp->es[i]?=some (some r)->
  ∃v a b,vs[i]?=some (some v)/\RepO K G H r.1 r.2 v a/\RepE K G H (es.set i none) vs b/\fp.Perm (a++b)
 |[],_,_,_,_,_,e=>by simp at e
 |none::es,vs,fp,0,r,q,e=>by simp at e
 |some r'::es,vs,fp,0,r,q,e=>by
  obtain⟨y,ys,e0,v,a,b,e1,e2,r1,r2⟩:=q;simp at e;subst e;subst e0;subst e1;exact⟨v,a,b,rfl,r1,⟨some v,ys,rfl,r2⟩,by rw[e2]⟩
 |none::es,vs,fp,i+1,r,q,e=>by
  obtain⟨y,ys,e0,q⟩:=q;obtain⟨v,a,b,g1,g2,g3,g4⟩:=RepE.take q (i:=i) (r:=r) (by simpa using e);subst e0;exact⟨v,a,b,by simpa using g1,g2,⟨y,ys,rfl,g3⟩,g4⟩
 |some r'::es,vs,fp,i+1,r,q,e=>by
  obtain⟨y,ys,e0,v',a',b',e1,e2,r1,r2⟩:=q;obtain⟨v,a,b,g1,g2,g3,g4⟩:=RepE.take r2 (i:=i) (r:=r) (by simpa using e);subst e0;refine⟨v,a,a'++b,by simpa using g1,g2,⟨y,ys,rfl,v',a',b,e1,rfl,r1,g3⟩,?_⟩;rw[e2];refine(Yf a' g4).trans ?_;rw[<-Vo,<-Vo];exact X3 b Yg
theorem RepE.put:∀{es:Env}{vs:List (Option V)}{b:List Addr}{i:Nat}{r:R}{v:V}{a:List Addr},RepE K G H es vs b->es[i]?=some none->RepO K G H r.1 r.2 v a->
  ∃fp,RepE K G H (es.set i (some r)) (vs.set i (some v)) fp/\fp.Perm (a++b)
 |[],_,_,_,_,_,_,_,e,_=>by simp at e
 |none::es,vs,b,0,r,v,a,q,e,ro=>by
  obtain⟨y,ys,e0,q⟩:=q;subst e0;exact⟨a++b,⟨some v,ys,rfl,v,a,b,rfl,rfl,ro,q⟩,.refl _⟩
 |some r'::es,vs,b,0,r,v,a,q,e,ro=>by simp at e
 |none::es,vs,b,i+1,r,v,a,q,e,ro=>by
  obtain⟨y,ys,e0,q⟩:=q;obtain⟨fp,g1,g2⟩:=RepE.put q (i:=i) (r:=r) (by simpa using e) ro;subst e0;exact⟨fp,⟨y,_,rfl,g1⟩,g2⟩
 |some r'::es,vs,b,i+1,r,v,a,q,e,ro=>by
  obtain⟨y,ys,e0,v',a',b',e1,e2,r1,r2⟩:=q;obtain⟨fp,g1,g2⟩:=RepE.put r2 (i:=i) (r:=r) (by simpa using e) ro;subst e0;refine⟨a'++fp,⟨y,_,rfl,v',a',fp,e1,rfl,r1,g1⟩,?_⟩;rw[e2];refine(Yf a' g2).trans ?_;rw[<-Vo,<-Vo];exact X3 b' Yg
theorem RepE.any:∀{es:Env}{vs:List (Option V)}{fp:List Addr}{i:Nat}{y:Option V},RepE K G H es vs fp->(es[i]?=some none\/es.length<=i)->RepE K G H es (vs.set i y) fp
 |[],_,_,_,_,q,_=>by
  rw[q.1,q.2];exact⟨rfl,rfl⟩
 |none::es,vs,fp,0,y,q,e=>by
  obtain⟨y',ys,e0,q⟩:=q;subst e0;exact⟨y,ys,rfl,q⟩
 |some r'::es,vs,fp,0,y,q,e=>by simp at e
 |none::es,vs,fp,i+1,y,q,e=>by
  obtain⟨y',ys,e0,q⟩:=q;subst e0;exact⟨y',ys.set i y,rfl,RepE.any q (by simpa using e)⟩
 |some r'::es,vs,fp,i+1,y,q,e=>by
  obtain⟨y',ys,e0,v',a',b',e1,e2,r1,r2⟩:=q;subst e0;exact⟨y',ys.set i y,rfl,v',a',b',e1,e2,r1,RepE.any r2 (by simpa using e)⟩
structure Rel(K:W.Frag)(G H:Hp)(es:Env)(vs:List (Option V))(fp:List Addr):Prop where
 rep:RepE K G H es vs fp
 nd:fp.Nodup
 gn:∀p∈fp,G p=none
 gh:Same G H
structure Step(G H:Hp)(fp:List Addr)(G' H':Hp)(G9:List Addr):Prop where
 gg:Same G G'
 keep:∀q u,H q=some u->q∉fp->H' q=some u
 fpn:∀q∈G9,q∈fp\/H q=none
 gnew:∀q u,G' q=some u->G q=some u\/q∈fp\/H q=none\/isT u=true/\H q=some u
 there:∀q u,H q=some u->∃u',H' q=some u'
theorem Step.refl{fp:List Addr}:Step G H fp G H fp:=⟨.refl _,fun _ _ h _=>h,fun _ h=>.inl h,fun _ _ h=>.inl h,fun _ u h=>⟨u,h⟩⟩
theorem Step.trans{G1 H1 G2 H2:Hp}{fp Hn HK:List Addr}(a:Step G H fp G1 H1 Hn)(b:Step G1 H1 Hn G2 H2 HK):Step G H fp G2 H2 HK:=by
 refine⟨a.gg.trans b.gg,fun q u h n=>?_,fun q hq=>?_,fun q u hq=>?_,fun q u h=>?_⟩
 ·refine b.keep q u (a.keep q u h n) fun hq=>?_
  rcases a.fpn q hq with z|z
  ·exact n z
  ·rw[z]at h;cases h
 ·rcases b.fpn q hq with z|z
  ·exact a.fpn q z
  ·cases e:H q with
   |none=>exact .inr rfl
   |some u=>
    obtain⟨u',e'⟩:=a.there q u e;rw[z]at e';cases e'
 ·rcases b.gnew q u hq with z|z|z|⟨t,z⟩
  ·exact a.gnew q u z
  ·exact .inr ((a.fpn q z).imp_right .inl)
  ·cases e:H q with
   |none=>exact .inr (.inr (.inl rfl))
   |some u=>
    obtain⟨u',e'⟩:=a.there q u e;rw[z]at e';cases e'
  ·cases e:H q with
   |none=>exact .inr (.inr (.inl rfl))
   |some u2=>
    by_cases hf:q∈fp
    ·exact .inr (.inl hf)
    ·rw[a.keep q u2 e hf]at z;cases z;exact .inr (.inr (.inr ⟨t,rfl⟩))
 ·obtain⟨u',h'⟩:=a.there q u h;exact b.there q u' h'
theorem Step.wide{fp fq G9 TH:List Addr}(a:Step G H fp G' H' G9)(h:∀q∈fp,q∈fq)(h':∀q∈TH,q∈G9\/q∈fq):Step G H fq G' H' TH:=
 ⟨a.gg,fun q u e n=>a.keep q u e fun z=>n (h q z),fun q hq=>(h' q hq).elim (fun z=>(a.fpn q z).imp_left (h q)) .inl,fun q u e=>(a.gnew q u e).imp_right (Or.imp_left (h q)),a.there⟩
theorem Rel.perm{es:Env}{vs:List (Option V)}{fp fq:List Addr}(r:RepE K G H es vs fq)(nd:fp.Nodup)(gn:∀p∈fp,G p=none)(gh:Same G H)(h:fp.Perm fq):Rel K G H es vs fq:=
 ⟨r,h.nodup_iff.mp nd,fun p hp=>gn p (h.mem_iff.mpr hp),gh⟩
theorem Rel.frame{r:R}{v:V}{es:Env}{vs:List (Option V)}{fp:List Addr}(q:Rel K G H (some r::es) (some v::vs) fp):
  ∃a b,fp=a++b/\RepO K G H r.1 r.2 v a/\Rel K G H es vs b/\∀(G' H':Hp) (OP:Env) (Qu:List (Option V)) (b':List Addr),Step G H b G' H' b'->Rel K G' H' OP Qu b'->
   Rel K G' H' (some r::OP) (some v::Qu) (a++b')/\Step G H (a++b) G' H' (a++b'):=by
 obtain⟨y,ys,e,v',a,b,e1,e2,r1,r2⟩:=q.rep;cases e;cases e1;subst e2;have nd:=U3.mp q.nd;refine⟨a,b,rfl,r1,⟨r2,nd.2.1,fun p hp=>q.gn p (Us _ hp),q.gh⟩,fun G' H' OP Qu b' st k=>?_⟩;have nb:∀p∈a,p∉b:=fun p hp hb=>nd.2.2 p hp p hb rfl
 have same:∀p∈a,H' p=H p:=fun p hp=>by
  obtain⟨u,hu⟩:=r1.live p hp;rw[hu];exact st.keep p u hu (nb p hp)
 refine⟨⟨⟨some v,Qu,rfl,v,a,b',rfl,rfl,r1.step st.gg same,k.rep⟩,?_,fun p hp=>?_,k.gh⟩,st.wide (fun p hp=>Us _ hp) fun p hp=>?_⟩
 ·rw[U3];refine⟨nd.1,k.nd,fun p hp z hz e=>?_⟩;subst e;obtain⟨u,hu⟩:=r1.live p hp;rcases st.fpn p hz with z|z
  ·exact nb p hp z
  ·rw[z]at hu;cases hu
 ·rcases U5.mp hp with hp|hp
  ·cases e:G' p with
   |none=>rfl
   |some u=>
    exfalso;obtain⟨u',hu⟩:=r1.live p hp;rcases st.gnew p u e with z|z|z|⟨t,z⟩
    ·rw[q.gn p (UA _ hp)]at z;cases z
    ·exact nb p hp z
    ·rw[z]at hu;cases hu
    ·obtain⟨u2,h2,hm⟩:=r1.mut p hp;rw[z]at h2;cases h2;cases u with
     |tup _=>cases hm
     |frz _ _=>cases hm
     |_=>cases t
  ·exact k.gn p hp
 ·rcases U5.mp hp with hp|hp
  ·exact .inr (UA _ hp)
  ·exact .inl hp
theorem Rel.freeze{r:R}{v:V}{es:Env}{vs:List (Option V)}{fp:List Addr}(q:Rel K G H (some r::es) (some v::vs) fp):
  ∃G' b,Rep K G' r.2 v/\Rel K G' H es vs b/\Step G H fp G' H b:=by
 obtain⟨y,ys,e,v',a,b,e1,e2,r1,r2⟩:=q.rep;cases e;cases e1;subst e2;have nd:=U3.mp q.nd;have nb:∀p∈a,p∉b:=fun p hp hb=>nd.2.2 p hp p hb rfl
 have hg:Same G (fun p=>if p∈a then H p else G p):=fun p u e=>by
  show(if p∈a then H p else G p)=some u;by_cases hp:p∈a
  ·rw[Ut hp];exact q.gh p u e
  ·rw[UD hp];exact e
 refine⟨fun p=>if p∈a then H p else G p,b,r1.frozen hg fun p hp u e=>?_,⟨r2.step hg fun _ _=>rfl,nd.2.1,fun p hp=>?_,fun p u e=>?_⟩,⟨hg,fun _ _ e _=>e,fun p hp=>.inl (Us _ hp),fun p u e=>?_,fun _ u e=>⟨u,e⟩⟩⟩
 ·show(if p∈a then H p else G p)=some u;rw[Ut hp];exact e
 ·show(if p∈a then H p else G p)=none;rw[UD (fun z=>nb p z hp)];exact q.gn p (Us _ hp)
 ·have e:(if p∈a then H p else G p)=some u:=e;by_cases hp:p∈a
  ·rw[Ut hp]at e;exact e
  ·rw[UD hp]at e;exact q.gh p u e
 ·have e:(if p∈a then H p else G p)=some u:=e;by_cases hp:p∈a
  ·exact .inr (.inl (UA _ hp))
  ·rw[UD hp]at e;exact .inl e
end
section
variable{K:W.Frag}{G G' H H':Hp}{es:Env}{vs:List (Option V)}{fp:List Addr}
theorem rF:∀{ds:List D}{xs:List V}{fp:List Addr},AllO (RepO K G H .f) ds xs fp<->Reps K G ds xs/\fp=[]
 |[],xs,fp=>by simp only[AllO,Reps]
 |d::ds,xs,fp=>by
  simp only[AllO,Reps,RepO];constructor
  ·rintro⟨y,ys,a,b,e1,e2,⟨r,e3⟩,q⟩;obtain⟨q1,q2⟩:=rF.mp q;subst e3;subst q2;exact⟨⟨y,ys,e1,r,q1⟩,e2⟩
  ·rintro⟨⟨y,ys,e1,r,q1⟩,e⟩;exact⟨y,ys,[],[],e1,e,⟨r,rfl⟩,rF.mpr ⟨q1,rfl⟩⟩
theorem kl{d:D}{v:V}{a:List Addr}:RepO K G H .f d v a<->Rep K G d v/\a=[]:=by simp only[RepO]
theorem nM{ds:List D}{v:V}{a:List Addr}:RepO K G H (.l .f) (.lst ds) v a<->∃p xs,v=.ref p/\H p=some (.lst xs)/\a=[p]/\Reps K G ds xs:=by
 rw[RepO];constructor
 ·rintro⟨p,xs,b,e,q,e2,r⟩;obtain⟨r',eb⟩:=rF.mp r;subst eb;exact⟨p,xs,e,q,e2,r'⟩
 ·rintro⟨p,xs,e,q,e2,r⟩;exact⟨p,xs,[],e,q,e2,rF.mpr ⟨r,rfl⟩⟩
theorem Reps.length:∀{ds:List D}{xs:List V},Reps K G ds xs->xs.length=ds.length
 |[],xs,r=>by simp only[Reps]at r;rw[r];rfl
 |d::ds,xs,r=>by
  simp only[Reps]at r;obtain⟨y,ys,e,_,q⟩:=r;rw[e,UI,UI,Reps.length q]
theorem Reps.get:∀{ds:List D}{xs:List V}{i:Nat}{d:D},Reps K G ds xs->ds[i]?=some d->∃v,xs[i]?=some v/\Rep K G d v
 |[],_,_,_,_,e=>by simp at e
 |d'::ds,xs,0,d,r,e=>by
  simp only[Reps]at r;obtain⟨y,ys,e1,q,_⟩:=r;simp at e;subst e;exact⟨y,by rw[e1];rfl,q⟩
 |d'::ds,xs,i+1,d,r,e=>by
  simp only[Reps]at r;obtain⟨y,ys,e1,_,q⟩:=r;obtain⟨v,a,b⟩:=Reps.get q (i:=i) (d:=d) (by simpa using e);exact⟨v,by rw[e1];simpa using a,b⟩
theorem Reps.app:∀{ds es:List D}{xs ys:List V},Reps K G ds xs->Reps K G es ys->Reps K G (ds++es) (xs++ys)
 |[],_,_,_,r,q=>by simp only[Reps]at r;rw[r];exact q
 |d::ds,es,xs,ys,r,q=>by
  simp only[Reps]at r;obtain⟨z,zs,e,r1,r2⟩:=r;rw[e];simp only[XU,Reps];exact⟨z,_,rfl,r1,r2.app q⟩
theorem Reps.one{d:D}{v:V}(r:Rep K G d v):Reps K G [d] [v]:=by
 simp only[Reps];exact⟨v,[],rfl,r,rfl⟩
theorem Reps.nil:Reps K G [] []:=by simp only[Reps]
theorem Reps.cons{d:D}{v:V}{ds:List D}{xs:List V}(r:Rep K G d v)(q:Reps K G ds xs):Reps K G (d::ds) (v::xs):=by
 simp only[Reps];exact⟨v,xs,rfl,r,q⟩
theorem Reps.cons_iff{d:D}{v:V}{ds:List D}{xs:List V}:Reps K G (d::ds) (v::xs)<->Rep K G d v/\Reps K G ds xs:=by
 simp only[Reps];constructor
 ·rintro⟨y,ys,e,r,q⟩;cases e;exact⟨r,q⟩
 ·rintro⟨r,q⟩;exact⟨v,xs,rfl,r,q⟩
theorem Reps.take:∀{ds:List D}{xs:List V}(n:Nat),Reps K G ds xs->Reps K G (ds.take n) (xs.take n)
 |_,_,0,_=>by rw[Wt,Wt];exact Reps.nil
 |[],xs,n+1,r=>by simp only[Reps]at r;rw[r];exact Reps.nil
 |d::ds,xs,n+1,r=>by
  simp only[Reps]at r;obtain⟨y,ys,e,r1,r2⟩:=r;rw[e,YA,YA];exact .cons r1 (r2.take n)
theorem Reps.drop:∀{ds:List D}{xs:List V}(n:Nat),Reps K G ds xs->Reps K G (ds.drop n) (xs.drop n)
 |_,_,0,r=>r
 |[],xs,n+1,r=>by simp only[Reps]at r;rw[r];exact Reps.nil
 |d::ds,xs,n+1,r=>by
  simp only[Reps]at r;obtain⟨y,ys,e,r1,r2⟩:=r;rw[e,YB,YB];exact r2.drop n
theorem Reps.set:∀{ds:List D}{xs:List V}(n:Nat) {d:D}{v:V},Reps K G ds xs->Rep K G d v->Reps K G (ds.set n d) (xs.set n v)
 |[],xs,n,d,v,r,q=>by simp only[Reps]at r;rw[r];exact Reps.nil
 |d'::ds,xs,0,d,v,r,q=>by
  simp only[Reps]at r;obtain⟨y,ys,e,r1,r2⟩:=r;rw[e];exact .cons q r2
 |d'::ds,xs,n+1,d,v,r,q=>by
  simp only[Reps]at r;obtain⟨y,ys,e,r1,r2⟩:=r;rw[e];exact .cons r1 (r2.set n q)
theorem Step.cut{fq:List Addr}(h:∀q∈fq,q∈fp):Step G H fp G H fq:=⟨.refl _,fun _ _ e _=>e,fun q hq=>.inl (h q hq),fun _ _ e=>.inl e,fun _ u e=>⟨u,e⟩⟩
theorem Rel.drop{r:R}{y:Option V}(q:Rel K G H (some r::es) (y::vs) fp):∃b,Rel K G H es vs b/\Step G H fp G H b:=by
 obtain⟨y,ys,e,v',a,b,e1,e2,r1,r2⟩:=q.rep;cases e;cases e1;subst e2;have nd:=U3.mp q.nd;exact⟨b,⟨r2,nd.2.1,fun p hp=>q.gn p (Us _ hp),q.gh⟩,Step.cut fun p hp=>Us _ hp⟩
theorem Rel.top{r:R}{v:V}(q:Rel K G H (some r::es) (some v::vs) fp):Rep K H r.2 v:=by
 obtain⟨y,ys,e,v',a,b,e1,e2,r1,r2⟩:=q.rep;cases e;cases e1;exact r1.frozen q.gh fun p hp u e=>e
theorem Rel.out{i:Nat}{r:R}(q:Rel K G H es vs fp)(e:es[i]?=some (some r)):∃v fq,vs[i]?=some (some v)/\Rel K G H (some r::es.set i none) (some v::vs) fq/\Step G H fp G H fq/\Step G H fq G H fp:=by
 obtain⟨v,a,b,e1,r1,r2,pm⟩:=q.rep.take e;exact⟨v,a++b,e1,Rel.perm ⟨some v,vs,rfl,v,a,b,rfl,rfl,r1,r2⟩ q.nd q.gn q.gh pm,Step.cut fun p hp=>pm.mem_iff.mpr hp,Step.cut fun p hp=>pm.mem_iff.mp hp⟩
theorem Rel.view{i:Nat}{r:R}(q:Rel K G H es vs fp)(e:es[i]?=some (some r)):∃v,vs[i]?=some (some v)/\Rep K H r.2 v:=by
 obtain⟨v,fq,e1,r1,_⟩:=q.out e;exact⟨v,e1,r1.top⟩
theorem nN{α:Type}{l:List α}{i:Nat}{x:α}(h:l[i]?=some x):l.set i x=l:=by
 apply WZ;intro j;by_cases e:i=j
 ·subst e;rw[List.getElem?_set_self (List.getElem?_eq_some_iff.mp h).1,h]
 ·rw[List.getElem?_set_ne e]
theorem Rel.store{i:Nat}{r:R}{v:V}(q:Rel K G H (some r::es) (some v::vs) fp)(hi:i<es.length):∃fq,Rel K G H (es.set i (some r)) (vs.set i (some v)) fq/\Step G H fp G H fq:=by
 obtain⟨y,ys,e,v',a,b,e1,e2,r1,r2⟩:=q.rep;cases e;cases e1;subst e2;obtain⟨c,hc⟩:∃c,es[i]?=some c:=⟨_,List.getElem?_eq_getElem hi⟩
 have nd:=U3.mp q.nd;have key:∃b',RepE K G H (es.set i none) vs b'/\(∀p∈b',p∈b)/\b'.Nodup:=by
  cases c with
  |none=>exact⟨b,by rw[nN hc];exact r2,fun _ h=>h,nd.2.1⟩
  |some r'=>
   obtain⟨v2,a2,b2,_,_,g,pm⟩:=r2.take hc;refine⟨b2,g,fun p hp=>pm.mem_iff.mpr (Us _ hp),?_⟩;exact(U3.mp (pm.nodup_iff.mp nd.2.1)).2.1
 obtain⟨b',g,sub,ndb⟩:=key;obtain⟨fq,g2,pm⟩:=g.put (i:=i) (r:=r) (v:=v) (by rw[List.getElem?_set_self hi]) r1;rw[Yh]at g2;have Pa:(a++b').Nodup:=by
  rw[U3];exact⟨nd.1,ndb,fun p hp z hz=>nd.2.2 p hp z (sub z hz)⟩
 refine⟨fq,Rel.perm g2 Pa (fun p hp=>?_) q.gh pm.symm,Step.cut fun p hp=>?_⟩
 ·refine q.gn p ?_;rcases U5.mp hp with hp|hp
  ·exact UA _ hp
  ·exact Us _ (sub p hp)
 ·rcases U5.mp (pm.mem_iff.mp hp) with hp|hp
  ·exact UA _ hp
  ·exact Us _ (sub p hp)
theorem Rel.back{i:Nat}{r:R}{v:V}(q:Rel K G H (some r::es) (some v::vs) fp)(hi:i<es.length)(hv:vs[i]?=some (some v)):∃fq,Rel K G H (es.set i (some r)) vs fq/\Step G H fp G H fq:=by
 obtain⟨fq,g,st⟩:=q.store hi;rw[nN hv]at g;exact⟨fq,g,st⟩
theorem Rel.any{i:Nat}{y:Option V}(q:Rel K G H es vs fp)(h:es[i]?=some none\/es.length<=i):Rel K G H es (vs.set i y) fp:=⟨q.rep.any h,q.nd,q.gn,q.gh⟩
theorem Rel.freezeAt{i:Nat}{r:R}(q:Rel K G H es vs fp)(e:es[i]?=some (some r)):∃v G' fq,vs[i]?=some (some v)/\Rep K G' r.2 v/\Rel K G' H (es.set i (some (.f,r.2))) vs fq/\Step G H fp G' H fq:=by
 obtain⟨v,fq,ev,g,st,_⟩:=q.out e;obtain⟨G',b,rv,g2,Hd⟩:=g.freeze;have g3:Rel K G' H (some (.f,r.2)::es.set i none) (some v::vs) b:=by
  refine⟨⟨some v,vs,rfl,v,[],b,rfl,rfl,?_,g2.rep⟩,g2.nd,g2.gn,g2.gh⟩;exact kl.mpr ⟨rv,rfl⟩
 obtain⟨fz,g4,Il⟩:=g3.back (i:=i) (by rw[VQ];exact(List.getElem?_eq_some_iff.mp e).1) ev;rw[Yh]at g4;exact⟨v,G',fz,ev,rv,g4,st.trans (Hd.trans Il)⟩
theorem Rel.push{d:D}{v:V}(q:Rel K G H es vs fp)(r:Rep K G d v):Rel K G H (some (.f,d)::es) (some v::vs) fp:=by
 refine⟨⟨some v,vs,rfl,v,[],fp,rfl,rfl,?_,q.rep⟩,q.nd,q.gn,q.gh⟩;exact kl.mpr ⟨r,rfl⟩
theorem Rel.newF{p:Addr}{u:HO}(q:Rel K G H es vs fp)(hp:H p=none):Rel K (upd G p u) (upd H p u) es vs fp/\Step G H fp (upd G p u) (upd H p u) fp:=by
 have gp:G p=none:=by
  cases e:G p with
  |none=>rfl
  |some o=>rw[q.gh p o e]at hp;cases hp
 have np:p∉fp:=fun z=>by
  obtain⟨u,e⟩:=q.rep.live p z;rw[hp]at e;cases e
 have sg:Same G (upd G p u):=fun b o e=>by rw[aS (bz e gp)];exact e
 have sh:Same H (upd H p u):=fun b o e=>by rw[aS (bz e hp)];exact e
 refine⟨⟨q.rep.step sg fun z hz=>aS fun e=>np (e▸hz),q.nd,fun z hz=>?_,fun b o e=>?_⟩,⟨sg,fun b o e _=>sh b o e,fun _ h=>.inl h,fun b o e=>?_,fun b o e=>⟨o,sh b o e⟩⟩⟩
 ·have:z≠p:=fun e=>np (e▸hz)
  rw[aS this];exact q.gn z hz
 ·by_cases hb:b=p
  ·subst hb;rw[bU]at e ⊢;exact e
  ·rw[aS hb]at e ⊢;exact q.gh b o e
 ·by_cases hb:b=p
  ·subst hb;exact .inr (.inr (.inl hp))
  ·rw[aS hb]at e;exact .inl e
theorem Rel.newL{p:Addr}{ds:List D}{xs:List V}(q:Rel K G H es vs fp)(hp:H p=none)(r:Reps K G ds xs):
  Rel K G (upd H p (.lst xs)) (some (.l .f,.lst ds)::es) (some (.ref p)::vs) (p::fp)/\Step G H fp G (upd H p (.lst xs)) (p::fp):=by
 have gp:G p=none:=by
  cases e:G p with
  |none=>rfl
  |some o=>rw[q.gh p o e]at hp;cases hp
 have np:p∉fp:=fun z=>by
  obtain⟨u,e⟩:=q.rep.live p z;rw[hp]at e;cases e
 have sh:Same H (upd H p (.lst xs)):=fun b o e=>by rw[aS (bz e hp)];exact e
 refine⟨⟨⟨some (.ref p),vs,rfl,.ref p,[p],fp,rfl,rfl,nM.mpr ⟨p,xs,rfl,bU,rfl,r⟩,q.rep.step (.refl _) fun z hz=>aS fun e=>np (e▸hz)⟩,US.mpr ⟨np,q.nd⟩,fun z hz=>?_,fun b o e=>?_⟩,
  ⟨.refl _,fun b o e _=>sh b o e,fun b hb=>?_,fun b o e=>.inl e,fun b o e=>⟨o,sh b o e⟩⟩⟩
 ·rcases Ux.mp hz with rfl|hz
  ·exact gp
  ·exact q.gn z hz
 ·exact sh b o (q.gh b o e)
 ·rcases Ux.mp hb with rfl|hb
  ·exact .inr hp
  ·exact .inl hb
theorem Rel.chg{i:Nat}{ds ds':List D}(q:Rel K G H es vs fp)(e:es[i]?=some (some (.l .f,.lst ds))):∃p xs,vs[i]?=some (some (.ref p))/\H p=some (.lst xs)/\Reps K G ds xs/\
  ∀Je,Reps K G ds' Je->∃fq,Rel K G (upd H p (.lst Je)) (es.set i (some (.l .f,.lst ds'))) vs fq/\Step G H fp G (upd H p (.lst Je)) fq:=by
 obtain⟨v,fq,ev,g,st,Jr⟩:=q.out e;obtain⟨y,ys,e0,v',a,b,e1,e2,r1,r2⟩:=g.rep;cases e0;cases e1;obtain⟨p,xs,e3,hp,e4,rs⟩:=nM.mp r1;subst e3;subst e4;subst e2;have nd:=US.mp (show(p::b).Nodup from g.nd);refine⟨p,xs,ev,hp,rs,fun Je JN=>?_⟩;have g2:Rel K G (upd H p (.lst Je)) (some (.l .f,.lst ds')::es.set i none) (some (.ref p)::vs) (p::b):=by
  refine⟨⟨some (.ref p),vs,rfl,.ref p,[p],b,rfl,rfl,nM.mpr ⟨p,Je,rfl,bU,rfl,JN⟩,r2.step (.refl _) fun z hz=>aS fun e=>nd.1 (e▸hz)⟩,g.nd,g.gn,fun z o ez=>?_⟩;have:z≠p:=fun w=>by
   subst w;rw[g.gn z Uq]at ez;cases ez
  rw[aS this];exact g.gh z o ez
 have SK:Step G H (p::b) G (upd H p (.lst Je)) (p::b):=by
  refine⟨.refl _,fun z o ez nz=>?_,fun z hz=>.inl hz,fun z o ez=>.inl ez,fun z o ez=>?_⟩
  ·have:z≠p:=fun w=>nz (by rw[w];exact Uq)
   rw[aS this];exact ez
  ·by_cases w:z=p
   ·subst w;exact⟨_,bU⟩
   ·exact⟨o,by rw[aS w];exact ez⟩
 obtain⟨fz,g3,Hy⟩:=g2.back (i:=i) (by rw[VQ];exact(List.getElem?_eq_some_iff.mp e).1) ev;rw[Yh]at g3;exact⟨fz,g3,st.trans (SK.trans Hy)⟩
end
mutual
noncomputable def cY:D->Bool
 | .tup ds=>flatDs ds
 | .lst _=>false
 | .dct _ _ _=>false
 |_=>true
noncomputable def flatDs:List D->Bool
 |[]=>true
 |d::ds=>cY d&&flatDs ds
end
mutual
noncomputable def cT:O->D->Bool
 | .f,d=>cY d
 | .l c,.lst ds=>ds.all (cT c)
 | .t cs,.tup ds=>pg cs ds
 | .d,.dct _ _ vs=>flatDs vs
 | .pin _ c,d=>cT c d
 |_,_=>false
noncomputable def pg:List O->List D->Bool
 |[],[]=>true
 |c::cs,d::ds=>cT c d&&pg cs ds
 |_,_=>false
end
def frz:Option R->Option R:=Option.map fun r=>(.f,r.2)
theorem bB:∀ds,flatDs ds=ds.all cY
 |[]=>rfl
 |d::ds=>by rw[flatDs,Xg,bB ds]
section
variable{K:W.Frag}{G G' G2 G3 H H' H2:Hp}{es:Env}{vs:List (Option V)}{fp:List Addr}
mutual
theorem Rep.flat(h:∀p u,isT u=true->G2 p=some u->G3 p=some u):∀{d:D}{v:V},cY d=true->Rep K G2 d v->Rep K G3 d v
 | .non,_,_,r=>by simpa only[Rep] using r
 | .bl _,_,_,r=>by simpa only[Rep] using r
 | .int _,_,_,r=>by simpa only[Rep] using r
 | .str _,_,_,r=>by simpa only[Rep] using r
 | .tup ds,_,e,r=>by
  simp only[Rep]at r ⊢;simp only[cY]at e;obtain⟨p,xs,ev,q,rs⟩:=r;exact⟨p,xs,ev,h _ _ rfl q,Reps.flat h e rs⟩
 | .lst ds,_,e,r=>by simp only[cY]at e;cases e
 | .dct _ _ _,_,e,r=>by simp only[cY]at e;cases e
theorem Reps.flat(h:∀p u,isT u=true->G2 p=some u->G3 p=some u):∀{ds:List D}{xs:List V},flatDs ds=true->Reps K G2 ds xs->Reps K G3 ds xs
 |[],_,_,r=>by simpa only[Reps] using r
 |d::ds,_,e,r=>by
  simp only[Reps]at r ⊢;simp only[flatDs,Uz]at e;obtain⟨y,ys,ev,r1,r2⟩:=r;exact⟨y,ys,ev,Rep.flat h e.1 r1,Reps.flat h e.2 r2⟩
end
theorem AllO.clean{P P':D->V->List Addr->Prop}{c:D->Bool}:∀{ds:List D}{xs:List V}{fp:List Addr},(∀d v a,c d=true->P d v a->P' d v a)->ds.all c=true->AllO P ds xs fp->AllO P' ds xs fp
 |[],_,_,_,_,r=>r
 |d::ds,xs,fp,h,e,r=>by
  obtain⟨y,ys,a,b,e1,e2,p,q⟩:=r;rw[Xg,Uz]at e;exact⟨y,ys,a,b,e1,e2,h _ _ _ e.1 p,AllO.clean h e.2 q⟩
mutual
theorem RepO.clean(h:∀p u,isT u=true->G2 p=some u->G3 p=some u):∀{o:O}{d:D}{v:V}{fp:List Addr},cT o d=true->RepO K G2 H o d v fp->RepO K G3 H o d v fp
 | .f,d,v,fp,e,r=>by
  simp only[RepO]at r ⊢;simp only[cT]at e;exact⟨r.1.flat h e,r.2⟩
 | .pin p c,d,v,fp,e,r=>by
  simp only[RepO]at r ⊢;simp only[cT]at e;exact⟨r.1,RepO.clean h e r.2⟩
 | .l c,.lst ds,v,fp,e,r=>by
  rw[RepO]at r ⊢;rw[cT]at e;obtain⟨p,xs,G9,ev,q,e2,a⟩:=r;exact⟨p,xs,G9,ev,q,e2,AllO.clean (fun d v a=>RepO.clean h) e a⟩
 | .t cs,.tup ds,v,fp,e,r=>by
  rw[RepO]at r ⊢;rw[cT]at e;obtain⟨p,xs,ev,q,a⟩:=r;exact⟨p,xs,ev,h _ _ rfl q,RepT.clean h e a⟩
 | .d,.dct tk ks vs,v,fp,e,r=>by
  rw[RepO]at r ⊢;rw[cT]at e;obtain⟨p,xs,o,ev,q,dd,e2,rs⟩:=r;exact⟨p,xs,o,ev,q,dd,e2,rs.flat h e⟩
 | .l _,.non,_,_,_,r | .l _,.bl _,_,_,_,r | .l _,.int _,_,_,_,r | .l _,.str _,_,_,_,r | .l _,.tup _,_,_,_,r | .l _,.dct _ _ _,_,_,_,r=>by simp only[RepO]at r
 | .t _,.non,_,_,_,r | .t _,.bl _,_,_,_,r | .t _,.int _,_,_,_,r | .t _,.str _,_,_,_,r | .t _,.lst _,_,_,_,r | .t _,.dct _ _ _,_,_,_,r=>by simp only[RepO]at r
 | .d,.non,_,_,_,r | .d,.bl _,_,_,_,r | .d,.int _,_,_,_,r | .d,.str _,_,_,_,r | .d,.tup _,_,_,_,r | .d,.lst _,_,_,_,r=>by simp only[RepO]at r
theorem RepT.clean(h:∀p u,isT u=true->G2 p=some u->G3 p=some u):∀{cs:List O}{ds:List D}{xs:List V}{fp:List Addr},pg cs ds=true->RepT K G2 H cs ds xs fp->RepT K G3 H cs ds xs fp
 |[],[],_,_,_,r=>by simpa only[RepT] using r
 |c::cs,d::ds,xs,fp,e,r=>by
  rw[RepT]at r ⊢;rw[pg,Uz]at e;obtain⟨y,ys,a,b,e1,e2,r1,r2⟩:=r;exact⟨y,ys,a,b,e1,e2,RepO.clean h e.1 r1,RepT.clean h e.2 r2⟩
 |[],_::_,_,_,_,r=>by simp only[RepT]at r
 |_::_,[],_,_,_,r=>by simp only[RepT]at r
end
theorem RepE.frz(h:Same G G'):∀{es:Env}{vs:List (Option V)}{fp:List Addr},(∀p∈fp,∀u,H p=some u->G' p=some u)->RepE K G H es vs fp->RepE K G' H' (es.map PV.frz) vs []
 |[],_,_,_,r=>⟨r.1,rfl⟩
 |none::es,vs,fp,hk,r=>by
  obtain⟨y,ys,e,r⟩:=r;exact⟨y,ys,e,RepE.frz h hk r⟩
 |some r::es,vs,fp,hk,q=>by
  obtain⟨y,ys,e,v,a,b,e1,e2,r1,r2⟩:=q;subst e2;exact⟨y,ys,e,v,[],[],e1,rfl,kl.mpr ⟨r1.frozen h (fun p hp=>hk p (UA _ hp)),rfl⟩,RepE.frz h (fun p hp=>hk p (Us _ hp)) r2⟩
theorem RepE.rep(h:Same G G'):∀{es:Env}{vs:List (Option V)}{fp:List Addr}{i:Nat}{r:R}{v:V},(∀p∈fp,∀u,H p=some u->G' p=some u)->RepE K G H es vs fp->es[i]?=some (some r)->vs[i]?=some (some v)->Rep K G' r.2 v:=fun{es vs fp i r v} hk q e ev=>by
 obtain⟨v',a,b,e1,r1,_,pm⟩:=q.take e;rw[ev]at e1;cases e1;exact r1.frozen h fun p hp=>hk p (pm.mem_iff.mpr (UA _ hp))
theorem Rel.lend(q:Rel K G H es vs fp):∃G1,Same G G1/\Same G1 H/\(∀(i:Nat) (r:R) (v:V),es[i]?=some (some r)->vs[i]?=some (some v)->Rep K G1 r.2 v)/\
  RepE K G1 H (es.map PV.frz) vs []/\
  ∀(H2 G2:Hp) (HK:List Addr) (r:R) (v:V),Step G1 H [] G2 H2 HK->Rel K G2 H2 [some r] [some v] HK->
   (cT r.1 r.2=true->∃G3 JB,Step G H fp G3 H2 JB/\Rel K G3 H2 (some r::es) (some v::vs) JB)/\
   ∃G3 JB,Step G H fp G3 H2 JB/\Rel K G3 H2 (some r::es.map PV.frz) (some v::vs) JB:=by
 have hg:Same G (fun p=>if p∈fp then H p else G p):=fun p u e=>by
  show(if p∈fp then H p else G p)=some u;by_cases hp:p∈fp
  ·rw[Ut hp];exact q.gh p u e
  ·rw[UD hp];exact e
 have hh:Same (fun p=>if p∈fp then H p else G p) H:=fun p u e=>by
  have e:(if p∈fp then H p else G p)=some u:=e;by_cases hp:p∈fp
  ·rw[Ut hp]at e;exact e
  ·rw[UD hp]at e;exact q.gh p u e
 have hk:∀p∈fp,∀u,H p=some u->(fun p=>if p∈fp then H p else G p) p=some u:=fun p hp u e=>by
  show(if p∈fp then H p else G p)=some u;rw[Ut hp];exact e
 refine⟨fun p=>if p∈fp then H p else G p,hg,hh,fun i r v e ev=>q.rep.rep hg hk e ev,q.rep.frz hg hk,fun H2 G2 HK r v st k=>?_⟩;obtain⟨y,ys,e0,v',a,b,e1,e2,r1,r2⟩:=k.rep;cases e0;cases e1;obtain⟨_,e3⟩:=r2;subst e3;rw[Vd]at e2;subst e2;have fresh:∀p∈HK,H p=none:=fun p hp=>by
  rcases st.fpn p hp with z|z
  ·cases z
  ·exact z
 have kept:∀p∈fp,H2 p=H p:=fun p hp=>by
  obtain⟨u,hu⟩:=q.rep.live p hp;rw[hu];exact st.keep p u hu (by simp)
 refine⟨fun cl=>?_,⟨G2,HK,⟨hg.trans st.gg,fun p u e n=>st.keep p u e (by simp),fun p hp=>.inr (fresh p hp),fun p u e=>?_,st.there⟩,?_⟩⟩
 ·have apart:∀p∈HK,p∉fp:=fun p hp hf=>by
   obtain⟨u,hu⟩:=q.rep.live p hf;rw[fresh p hp]at hu;cases hu
  have g3:Same G (fun p=>if p∈fp then none else G2 p):=fun p u e=>by
   show(if p∈fp then none else G2 p)=some u;rw[UD (fun z=>by rw[q.gn p z]at e;cases e)];exact st.gg p u (hg p u e)
  refine⟨fun p=>if p∈fp then none else G2 p,HK++fp,⟨g3,fun p u e n=>st.keep p u e (by simp),fun p hp=>?_,fun p u e=>?_,st.there⟩,⟨⟨some v,vs,rfl,v,HK,fp,rfl,rfl,r1.clean (fun p u t e=>?_) cl,q.rep.step g3 kept⟩,?_,fun p hp=>?_,fun p u e=>?_⟩⟩
  ·rcases U5.mp hp with hp|hp
   ·exact .inr (fresh p hp)
   ·exact .inl hp
  ·have e:(if p∈fp then none else G2 p)=some u:=e;by_cases hp:p∈fp
   ·rw[Ut hp]at e;cases e
   ·rw[UD hp]at e;rcases st.gnew p u e with z|z|z
    ·have z:(if p∈fp then H p else G p)=some u:=z;rw[UD hp]at z;exact .inl z
    ·cases z
    ·exact .inr (.inr z)
  ·show(if p∈fp then none else G2 p)=some u;by_cases hp:p∈fp
   ·exfalso;obtain⟨u',hu,hm⟩:=q.rep.mut p hp;have:=st.gg p u' (hk p hp u' hu);rw[e]at this;cases this;cases u with
    |lst _=>cases t
    |dK _=>cases t
    |dT _=>cases t
    |_=>cases hm
   ·rw[UD hp];exact e
  ·rw[U3];exact⟨k.nd,q.nd,fun p hp z hz e=>apart p hp (e▸hz)⟩
  ·show(if p∈fp then none else G2 p)=none;by_cases hf:p∈fp
   ·rw[Ut hf]
   ·rw[UD hf];rcases U5.mp hp with hp|hp
    ·exact k.gn p hp
    ·exact absurd hp hf
  ·have e:(if p∈fp then none else G2 p)=some u:=e;by_cases hp:p∈fp
   ·rw[Ut hp]at e;cases e
   ·rw[UD hp]at e;exact k.gh p u e
 ·rcases st.gnew p u e with z|z|z
  ·have z:(if p∈fp then H p else G p)=some u:=z;by_cases hp:p∈fp
   ·exact .inr (.inl hp)
   ·rw[UD hp]at z;exact .inl z
  ·cases z
  ·exact .inr (.inr z)
 ·refine⟨⟨some v,vs,rfl,v,HK,[],rfl,(Vd _).symm,r1,q.rep.frz (hg.trans st.gg) fun p hp u e=>st.gg p u (hk p hp u e)⟩,k.nd,k.gn,k.gh⟩
end
end PV
namespace PV
open PySem PySem.Spec PyProof.Rows L2 NX
def Res.bind{α β:Type}:Res α->(α->Res β)->Res β
 | .ok a,f=>f a
 | .exc c,_=>.exc c
 | .bad,_=>.bad
inductive BindOk{α β:Type}(x:Res α)(f:α->Res β)(b:β):Prop
 |mk (a:α) (h:x=.ok a) (k:f a=.ok b):BindOk x f b
theorem ar{α β:Type}{x:Res α}{f:α->Res β}{b:β}(h:x.bind f=.ok b):BindOk x f b:=by
 cases x with
 |ok a=>exact⟨a,rfl,h⟩
 |exc c=>cases h
 |bad=>cases h
inductive Opd where
 |val (d:D)|var (i:Nat)
def OpdOk(K:W.Frag)(G:Hp)(σ:L2.St):Opd->V->Prop
 | .val d,v=>Rep K G d v
 | .var i,v=>σ[i]?=some (some v)
theorem OpdOk.mono{K:W.Frag}{G G':Hp}{σ:L2.St}{o:Opd}{v:V}(h:Same G G')(r:OpdOk K G σ o v):OpdOk K G' σ o v:=by
 cases o with
 |val d=>exact Rep.mono h r
 |var i=>exact r
def ph(K:W.Frag)(G:Hp)(σ:L2.St):List Opd->List V->Prop
 |[],vs=>vs=[]
 |o::os,vs=>∃y ys,vs=y::ys/\OpdOk K G σ o y/\ph K G σ os ys
def xD:O->Bool
 | .f=>true
 | .l .f=>true
 | .d=>true
 | .pin _ .f=>true
 | .pin _ (.l .f)=>true
 | .pin _ .d=>true
 |_=>false
def Iq(env:PV.Env):Opd->Res D
 | .val d=>.ok d
 | .var i=>match env[i]? with
  |some (some r)=>if xD r.1 then .ok r.2 else .bad
  |_=>.bad
def tq(env:PV.Env):Opd->Res D
 | .val d=>.ok d
 | .var i=>match env[i]? with
  |some (some r)=>.ok r.2
  |_=>.bad
def pj(env:PV.Env):List Opd->Res (List D)
 |[]=>.ok []
 |o::os=>(Iq env o).bind fun d=>(pj env os).bind fun ds=>.ok (d::ds)
def jv(env:PV.Env):List Opd->Res (List D)
 |[]=>.ok []
 |o::os=>(tq env o).bind fun d=>(jv env os).bind fun ds=>.ok (d::ds)
def Vw(K:W.Frag)(G H:Hp):D->V->Prop
 | .lst ds,v=>∃p xs,v=.ref p/\SqL K H p xs/\Reps K G ds xs
 | .dct tk ks vs,v=>∃p xs o,v=.ref p/\Rd H p o/\DictO o tk ks xs/\Reps K G vs xs
 |d,v=>Rep K G d v
def OF(K:W.Frag)(G H:Hp):List D->List V->Prop
 |[],vs=>vs=[]
 |d::ds,vs=>∃y ys,vs=y::ys/\Vw K G H d y/\OF K G H ds ys
section
variable{K:W.Frag}{G G' H H':Hp}{es:PV.Env}{σ:L2.St}{fp:List Addr}
theorem Vw.of{d:D}{v:V}(gh:Same G H)(r:Rep K G d v):Vw K G H d v:=by
 cases d with
 |lst ds=>
  rw[Rep]at r;obtain⟨p,xs,e,q,rs⟩:=r;exact⟨p,xs,e,iH gh q,rs⟩
 |dct tk ks vs=>
  rw[Rep]at r;obtain⟨p,xs,o,e,q,dd,rs⟩:=r;exact⟨p,xs,o,e,PV.Rd.mono gh q,dd,rs⟩
 |_=>exact r
theorem Vw.rep{d:D}{v:V}(gh:Same G H)(r:Vw K G H d v):Rep K H d v:=by
 cases d with
 |lst ds=>
  obtain⟨p,xs,e,q,rs⟩:=r;rw[Rep];exact⟨p,xs,e,q,rs.mono gh⟩
 |dct tk ks vs=>
  obtain⟨p,xs,o,e,q,dd,rs⟩:=r;rw[Rep];exact⟨p,xs,o,e,q,dd,rs.mono gh⟩
 |non=>exact Rep.mono gh r
 |bl b=>exact Rep.mono gh r
 |int i=>exact Rep.mono gh r
 |str l=>exact Rep.mono gh r
 |tup ds=>exact Rep.mono gh r
theorem RepO.vw0{o:O}{d:D}{v:V}{a:List Addr}(gh:Same G H)(hs:o=.f\/o=.l .f\/o=.d)(r:RepO K G H o d v a):Vw K G H d v:=by
 rcases hs with rfl|rfl|rfl
 ·exact Vw.of gh (kl.mp r).1
 ·cases d with
  |lst ds=>
   obtain⟨p,xs,e,q,_,rs⟩:=nM.mp r;exact⟨p,xs,e,SqL.of q,rs⟩
  |_=>simp only[RepO]at r
 ·cases d with
  |dct tk ks vs=>
   rw[RepO]at r;obtain⟨p,xs,o,e,q,dd,_,rs⟩:=r;exact⟨p,xs,o,e,.inl q,dd,rs⟩
  |_=>simp only[RepO]at r
theorem RepO.vw{o:O}{d:D}{v:V}{a:List Addr}(gh:Same G H)(hs:xD o=true)(r:RepO K G H o d v a):Vw K G H d v:=by
 unfold xD at hs;split at hs
 ·exact r.vw0 gh (.inl rfl)
 ·exact r.vw0 gh (.inr (.inl rfl))
 ·exact r.vw0 gh (.inr (.inr rfl))
 ·rw[RepO]at r;exact r.2.vw0 gh (.inl rfl)
 ·rw[RepO]at r;exact r.2.vw0 gh (.inr (.inl rfl))
 ·rw[RepO]at r;exact r.2.vw0 gh (.inr (.inr rfl))
 ·cases hs
theorem Rel.vw{o:Opd}{v:V}{d:D}(q:Rel K G H es σ fp)(k:OpdOk K G σ o v)(e:Iq es o=.ok d):Vw K G H d v:=by
 cases o with
 |val d'=>
  cases e;exact Vw.of q.gh k
 |var i=>
  unfold Iq at e;dsimp only at e;split at e
  ·rename_i r hr;split at e
   ·rename_i hs;cases e;obtain⟨v',a,b,ev,r1,_⟩:=q.rep.take hr;have k:σ[i]?=some (some v):=k;rw[k]at ev;cases ev;exact r1.vw q.gh hs
   ·cases e
  ·cases e
theorem Rel.vwA{o:Opd}{v:V}{d:D}(q:Rel K G H es σ fp)(k:OpdOk K G σ o v)(e:tq es o=.ok d):Rep K H d v:=by
 cases o with
 |val d'=>
  cases e;exact Rep.mono q.gh k
 |var i=>
  unfold tq at e;dsimp only at e;split at e
  ·rename_i r hr;cases e;obtain⟨v',ev,r1⟩:=q.view hr;have k:σ[i]?=some (some v):=k;rw[k]at ev;cases ev;exact r1
  ·cases e
theorem Rel.vws(q:Rel K G H es σ fp):∀{os:List Opd}{vs:List V}{ds:List D},ph K G σ os vs->pj es os=.ok ds->OF K G H ds vs
 |[],_,_,k,e=>by
  cases e;exact k
 |o::os,_,_,⟨y,ys,e0,k1,k2⟩,e=>by
  unfold pj at e;obtain⟨d,e1,e⟩:=ar e;obtain⟨ds,e2,e⟩:=ar e;cases e;exact⟨y,ys,e0,q.vw k1 e1,Rel.vws q k2 e2⟩
theorem jw{G1:Hp}(gg:Same G G1)(ht:∀(i:Nat) (r:R) (v:V),es[i]?=some (some r)->σ[i]?=some (some v)->Rep K G1 r.2 v):∀{os:List Opd}{vs:List V}{ds:List D},ph K G σ os vs->jv es os=.ok ds->Reps K G1 ds vs
 |[],_,_,k,e=>by
  cases e;have k:_=_:=k;rw[k];exact Reps.nil
 |o::os,_,_,⟨y,ys,e0,k1,k2⟩,e=>by
  unfold jv at e;obtain⟨d,e1,e⟩:=ar e;obtain⟨ds,e2,e⟩:=ar e;cases e;rw[e0];refine .cons ?_ (jw gg ht k2 e2);cases o with
  |val d'=>
   cases e1;exact Rep.mono gg k1
  |var i=>
   unfold tq at e1;dsimp only at e1;split at e1
   ·rename_i r hr;cases e1;exact ht i r y hr k1
   ·cases e1
end
abbrev FX:=PV.Env->Res (R×PV.Env)
abbrev FO:=PV.Env->Res (Opd×PV.Env)
abbrev Ih:=PV.Env->Res (List Opd×PV.Env)
abbrev FT:=PV.Env->Res (Bool×PV.Env)
inductive Out where
 |nx (env:PV.Env)|rt (r:R)|bk (env:PV.Env)|ct (env:PV.Env)
abbrev FS:=PV.Env->Res Out
inductive tQ(K:W.Frag)(f:FX)(σ:L2.St)(H:Hp)(Q:VK):Prop
 |mk:∀G env fp r env',Rel K G H env σ fp->f env=.ok (r,env')->(∀v H' G' G9,Step G H fp G' H' G9->Rel K G' H' (some r::env') (some v::σ) G9->Q v H')->tQ K f σ H Q
inductive tO(K:W.Frag)(f:FO)(σ:L2.St)(H:Hp)(Q:VK):Prop
 |mk:∀G env fp o env',Rel K G H env σ fp->f env=.ok (o,env')->(∀v H' G' G9,Step G H fp G' H' G9->Rel K G' H' env' σ G9->OpdOk K G' σ o v->Q v H')->tO K f σ H Q
inductive tOs(K:W.Frag)(f:Ih)(σ:L2.St)(H:Hp)(Q:List V->Hp->Prop):Prop
 |mk:∀G env fp o env',Rel K G H env σ fp->f env=.ok (o,env')->(∀v H' G' G9,Step G H fp G' H' G9->Rel K G' H' env' σ G9->ph K G' σ o v->Q v H')->tOs K f σ H Q
inductive tQT(K:W.Frag)(f:FT)(σ:L2.St)(H:Hp)(Q:Bool->Hp->Prop):Prop
 |mk:∀G env fp b env',Rel K G H env σ fp->f env=.ok (b,env')->(∀H' G' G9,Step G H fp G' H' G9->Rel K G' H' env' σ G9->Q b H')->tQT K f σ H Q
inductive Mode where
 |plain|mut
def Gq(md:Mode)(K:W.Frag)(G H:Hp)(r:R)(v:V)(fp:List Addr):Prop:=match md with
 | .plain=>Rel K G H [some r] [some v] fp
 | .mut=>∃o d p c d0,r=(.t [o,.pin p c],.tup [d,d0])/\Rel K G H [some (o,d),some (.pin p c,d0)] [some v,some (.ref p)] fp
noncomputable def OutOk{md:Mode}(K:W.Frag)(G H:Hp)(fp:List Addr)(Dd:Ends):Res Out->Prop
 | .ok (.nx env')=>∀σ' H' G' G9,Step G H fp G' H' G9->Rel K G' H' env' σ' G9->Dd.nx σ' H'
 | .ok (.bk env')=>∀σ' H' G' G9,Step G H fp G' H' G9->Rel K G' H' env' σ' G9->Dd.bk σ' H'
 | .ok (.ct env')=>∀σ' H' G' G9,Step G H fp G' H' G9->Rel K G' H' env' σ' G9->Dd.ct σ' H'
 | .ok (.rt r)=>∀v H' G' G9,Step G H fp G' H' G9->Gq md K G' H' r v G9->Dd.rt v H'
 |_=>False
inductive tQS{md:Mode}(K:W.Frag)(g:FS)(Dd:Ends)(σ:L2.St)(H:Hp):Prop
 |mk:∀G env fp,Rel K G H env σ fp->OutOk (md:=md) K G H fp Dd (g env)->tQS (md:=md) K g Dd σ H
def QE(X:Cx)(e:Expr)(f:FX):Prop:=PE X e (tQ X.K f)
def QO(X:Cx)(e:Expr)(f:FO):Prop:=PE X e (tO X.K f)
def Lx(X:Cx)(es:List Expr)(f:Ih):Prop:=PA X es (tOs X.K f)
def QT(X:Cx)(e:Expr)(f:FT):Prop:=PT X e (tQT X.K f)
def QW(X:Cx)(e:Expr)(f:FT):Prop:=PW X e (tQT X.K f)
def QS{md:Mode}(X:Cx)(st:Stmt)(g:FS):Prop:=PS X st (tQS (md:=md) X.K g)
def MP{md:Mode}(X:Cx)(st:List Stmt)(g:FS):Prop:=PSs X st (tQS (md:=md) X.K g)
theorem bN{X:Cx}{e:Expr}{t t':TE}(h:PE X e t)(k:∀σ H Q,t' σ H Q->t σ H Q):PE X e t':=fun pi s σ H Q I w=>h pi s σ H Q I (k σ H Q w)
theorem rH{X:Cx}{e:Expr}{t t':TT}(h:PT X e t)(k:∀σ H Q,t' σ H Q->t σ H Q):PT X e t':=fun pi s σ H Q I w=>h pi s σ H Q I (k σ H Q w)
theorem yB{X:Cx}{e:Expr}{t t':TT}(h:PW X e t)(k:∀σ H Q,t' σ H Q->t σ H Q):PW X e t':=fun wh pi s σ H Q I w=>h wh pi s σ H Q I (k σ H Q w)
theorem mP{X:Cx}{e:List Expr}{t t':TA}(h:PA X e t)(k:∀σ H Q,t' σ H Q->t σ H Q):PA X e t':=fun pos pi s σ H Q I w=>h pos pi s σ H Q I (k σ H Q w)
theorem fR{X:Cx}{e:Stmt}{t t':TS}(h:PS X e t)(k:∀D σ H,t' D σ H->t D σ H):PS X e t':=fun pi s σ H D I w=>h pi s σ H D I (k D σ H w)
theorem vp{X:Cx}{e:List Stmt}{t t':TS}(h:PSs X e t)(k:∀D σ H,t' D σ H->t D σ H):PSs X e t':=fun pi s σ H D I w=>h pi s σ H D I (k D σ H w)
theorem OutOk.imp{md:Mode}{K:W.Frag}{G H G1 H1:Hp}{fp Hn:List Addr}{Dd QA:Ends}{r:Res Out}(st:Step G H fp G1 H1 Hn)(h:OutOk (md:=md) K G H fp Dd r)(n:∀σ H,Dd.nx σ H->QA.nx σ H)(b:∀σ H,Dd.bk σ H->QA.bk σ H)(c:∀σ H,Dd.ct σ H->QA.ct σ H)(t:∀v H,Dd.rt v H->QA.rt v H):OutOk (md:=md) K G1 H1 Hn QA r:=by
 match r,h with
 | .ok (.nx env'),h=>exact fun σ' H' G' G9 s q=>n _ _ (h σ' H' G' G9 (st.trans s) q)
 | .ok (.bk env'),h=>exact fun σ' H' G' G9 s q=>b _ _ (h σ' H' G' G9 (st.trans s) q)
 | .ok (.ct env'),h=>exact fun σ' H' G' G9 s q=>c _ _ (h σ' H' G' G9 (st.trans s) q)
 | .ok (.rt r),h=>exact fun v H' G' G9 s q=>t _ _ (h v H' G' G9 (st.trans s) q)
theorem OutOk.after{md:Mode}{K:W.Frag}{G H G1 H1:Hp}{fp Hn:List Addr}{Dd:Ends}{r:Res Out}(st:Step G H fp G1 H1 Hn)(h:OutOk (md:=md) K G H fp Dd r):OutOk (md:=md) K G1 H1 Hn Dd r:=h.imp st (fun _ _ z=>z) (fun _ _ z=>z) (fun _ _ z=>z) fun _ _ z=>z
def aH(d:D):FX:=fun env=>.ok ((.f,d),env)
def fz:O->O
 | .pin p .f=>.pin p .f
 |_=>.f
def aN(i:Nat):FX:=fun env=>match env[i]? with
 |some (some r)=>.ok ((.f,r.2),env.set i (some (fz r.1,r.2)))
 |_=>.bad
def mz(i:Nat):FX:=fun env=>match env[i]? with
 |some (some r)=>.ok (r,env.set i none)
 |_=>.bad
def aj(f:FX):FO:=fun env=>(f env).bind fun p=>.ok (.val p.1.2,p.2)
def ao(i:Nat):FO:=fun env=>match env[i]? with
 |some (some _)=>.ok (.var i,env)
 |_=>.bad
def aA:Ih:=fun env=>.ok ([],env)
def ag(f:FO)(g:Ih):Ih:=fun env=>(f env).bind fun p=>(g p.2).bind fun q=>.ok (p.1::q.1,q.2)
section
variable{X:Cx}
theorem rJ{e:Expr}{v:V}{d:D}(h:PE X e (tC v))(r:∀G,Rep X.K G d v):QE X e (aH d):=bN h fun σ H Q Hg=>by
 obtain⟨G,env,fp,rr,env',rel,e,k⟩:=Hg;cases e;exact k v H G fp .refl (rel.push (r G))
theorem ai{i j pos}:QE X (.Constant (.int i) j pos) (aH (.int i)):=rJ BC fun G=>by rw[Rep]
theorem qu{i j pos}:QE X (.Constant (.bool i) j pos) (aH (.bl i)):=rJ Eg fun G=>by rw[Rep]
theorem lp{j pos}:QE X (.Constant .none j pos) (aH .non):=rJ BD fun G=>by rw[Rep]
theorem pk{x j pos}{l:List Nat}(h:x=S l)(hl:l.length<=1000):QE X (.Constant (.str x) j pos) (aH (.str l)):=rJ BF fun G=>by
 rw[Rep,h];exact⟨rfl,by rw[line_eq];lia⟩
theorem aE{i:Nat}{e:Expr}(h:PE X e (qj i)):QE X e (aN i):=bN h fun σ H Q Hg=>by
 obtain⟨G,env,fp,rr,env',rel,e,k⟩:=Hg;unfold aN at e;split at e
 ·rename_i r hr;cases e;by_cases hf:fz r.1=.f
  ·obtain⟨v,G',fq,ev,rv,Ho,st⟩:=rel.freezeAt hr;rw[hf]at k;exact⟨v,ev,k v H G' fq st (Ho.push rv)⟩
  ·have hp:∃p,r.1=.pin p .f:=by
    unfold fz at hf;split at hf
    ·rename_i p hp;exact⟨p,hp⟩
    ·exact absurd rfl hf
   obtain⟨p,hp⟩:=hp;obtain⟨v,a,b,ev,r1,_,_⟩:=rel.rep.take hr;rw[hp,RepO]at r1;have es:env.set i (some (fz r.1,r.2))=env:=by
    refine nN ?_;rw[hr,hp];show some (some r)=some (some (.pin p .f,r.2));rw[<-hp]
   rw[es]at k;exact⟨v,ev,k v H G fp .refl (rel.push (kl.mp r1.2).1)⟩
 ·cases e
theorem i4{i:Nat}{e:Expr}(h:PE X e (qj i)):QE X e (mz i):=bN h fun σ H Q Hg=>by
 obtain⟨G,env,fp,rr,env',rel,e,k⟩:=Hg;unfold mz at e;split at e
 ·rename_i r hr;cases e;obtain⟨v,fq,ev,Ho,st,_⟩:=rel.out hr;exact⟨v,ev,k v H G fq st Ho⟩
 ·cases e
theorem aa{e:Expr}{f:FX}(h:QE X e f):QO X e (aj f):=bN h fun σ H Q Hg=>by
 obtain⟨G,env,fp,o,env',rel,e,k⟩:=Hg;obtain⟨⟨r,GQ⟩,e1,e⟩:=ar e;cases e;refine⟨G,env,fp,r,GQ,rel,e1,fun v H' G' G9 st Ho=>?_⟩;obtain⟨G2,b,rv,GS,Hd⟩:=Ho.freeze;exact k v H' G2 b (st.trans Hd) GS rv
theorem ae{i:Nat}{e:Expr}(h:PE X e (qj i)):QO X e (ao i):=bN h fun σ H Q Hg=>by
 obtain⟨G,env,fp,o,env',rel,e,k⟩:=Hg;unfold ao at e;split at e
 ·rename_i r hr;cases e;obtain⟨v,ev,_⟩:=rel.view hr;exact⟨v,ev,k v H G fp .refl rel ev⟩
 ·cases e
theorem aq:Lx X [] aA:=mP gU fun σ H Q Hg=>by
 obtain⟨G,env,fp,o,env',rel,e,k⟩:=Hg;cases e;exact k [] H G fp .refl rel rfl
theorem af{e:Expr}{es:List Expr}{f:FO}{g:Ih}(h:QO X e f)(hs:Lx X es g)(Lp:starEach (e::es) X.env=(false,eval e X.env)::starEach es X.env:=by rfl):Lx X (e::es) (ag f g):=
 mP (cI h hs Lp) fun σ H Q Hg=>by
  obtain⟨G,env,fp,o,env',rel,e,k⟩:=Hg;obtain⟨⟨o1,GQ⟩,e1,e⟩:=ar e;obtain⟨⟨os,Ha⟩,e2,e⟩:=ar e;cases e;exact⟨G,env,fp,o1,GQ,rel,e1,fun v H1 G1 Hn Hi GW Io=>⟨G1,GQ,Hn,os,Ha,GW,e2,fun vs H2 G2 HK Hd GS Ml=>k _ H2 G2 HK (Hi.trans Hd) GS ⟨v,vs,rfl,Io.mono Hd.gg,Ml⟩⟩⟩
def aB(g:D->D->Res R)(fa fb:FO):FX:=fun env=>(fa env).bind fun p=>(fb p.2).bind fun q=>(Iq q.2 p.1).bind fun a=>(Iq q.2 q.1).bind fun b=>(g a b).bind fun r=>.ok (r,q.2)
def bE(g:D->D->Res R)(fa fb:FO):FX:=fun env=>(fa env).bind fun p=>(fb p.2).bind fun q=>(tq q.2 p.1).bind fun a=>(tq q.2 q.1).bind fun b=>(g a b).bind fun r=>.ok (r,q.2)
structure Goes(K:W.Frag)(H:Hp)(G:Hp)(fp:List Addr)(es:PV.Env)(vs:L2.St)(r:R)(Q:VK):Prop where
 rel:Rel K G H es vs fp
 goes:∀v H' G' G9,Step G H fp G' H' G9->Rel K G' H' (some r::es) (some v::vs) G9->Q v H'
inductive rG(K:W.Frag)(g:D->D->Res R)(x:V)(y:V)(H:Hp)(Q:VK):Prop
 |mk:∀G fp es vs a b r,Goes K H G fp es vs r Q->Vw K G H a x->Vw K G H b y->g a b=.ok r->rG K g x y H Q
inductive rGA(K:W.Frag)(g:D->D->Res R)(x:V)(y:V)(H:Hp)(Q:VK):Prop
 |mk:∀G fp es vs a b r,Goes K H G fp es vs r Q->Rep K H a x->Rep K H b y->g a b=.ok r->rGA K g x y H Q
variable{a b c:Expr}{fa fb fc:FO}{pos:Pos}{g g':D->D->Res R}
theorem vq{σ:L2.St}{H:Hp}{Q:VK}(h:tQ X.K (aB g fa fb) σ H Q):PZ (rG X.K g) (tO X.K fa) (tO X.K fb) σ H Q:=by
 obtain⟨G,env,fp,r,env',rel,e,k⟩:=h;obtain⟨⟨oa,e1⟩,ha,e⟩:=ar e;obtain⟨⟨ob,e2⟩,hb,e⟩:=ar e;obtain⟨da,NL,e⟩:=ar e;obtain⟨db,HZ,e⟩:=ar e;obtain⟨r',hr,e⟩:=ar e;cases e;exact⟨G,env,fp,oa,e1,rel,ha,fun x H1 G1 Hn Hi GW Io=>⟨G1,e1,Hn,ob,e2,GW,hb,fun y H2 G2 HK Hd GS Ml=>
  ⟨G2,HK,e2,σ,da,db,r,⟨GS,fun v H' G' G9 st Ho=>k v H' G' G9 (Hi.trans (Hd.trans st)) Ho⟩,GS.vw (Io.mono Hd.gg) NL,GS.vw Ml HZ,hr⟩⟩⟩
theorem vy{σ:L2.St}{H:Hp}{Q:VK}(h:tQ X.K (bE g fa fb) σ H Q):PZ (rGA X.K g) (tO X.K fa) (tO X.K fb) σ H Q:=by
 obtain⟨G,env,fp,r,env',rel,e,k⟩:=h;obtain⟨⟨oa,e1⟩,ha,e⟩:=ar e;obtain⟨⟨ob,e2⟩,hb,e⟩:=ar e;obtain⟨da,NL,e⟩:=ar e;obtain⟨db,HZ,e⟩:=ar e;obtain⟨r',hr,e⟩:=ar e;cases e;exact⟨G,env,fp,oa,e1,rel,ha,fun x H1 G1 Hn Hi GW Io=>⟨G1,e1,Hn,ob,e2,GW,hb,fun y H2 G2 HK Hd GS Ml=>
  ⟨G2,HK,e2,σ,da,db,r,⟨GS,fun v H' G' G9 st Ho=>k v H' G' G9 (Hi.trans (Hd.trans st)) Ho⟩,GS.vwA (Io.mono Hd.gg) NL,GS.vwA Ml HZ,hr⟩⟩⟩
theorem aF{op:Operator}(ho:HS X (binaryOp op) (rG X.K g))(ha:QO X a fa)(hb:QO X b fb):QE X (.BinOp a op b pos) (aB g fa fb):=bN (BW ho ha hb) fun _ _ _=>vq
theorem i5{op:CmpOp}(ho:HS X (compareOp op) (rGA X.K g))(ha:QO X a fa)(hb:QO X b fb)(hm:behindInMarks op b=false):QE X (.Compare a [op] [b] pos) (bE g fa fb):=bN (za ho ha hb hm) fun _ _ _=>vy
def HD(f:FX):FT:=fun env=>(f env).bind fun p=>match p.1.2 with
 | .bl k=>.ok (k,p.2)
 |_=>.bad
theorem zY{f:FX}{σ:L2.St}{H:Hp}{Q:Bool->Hp->Prop}(h:tQT X.K (HD f) σ H Q):tQ X.K f σ H fun x H'=>∃k,x=.bl k/\Q k H':=by
 obtain⟨G,env,fp,k,env',rel,e,q⟩:=h;obtain⟨⟨⟨o,d⟩,GQ⟩,e1,e⟩:=ar e;dsimp only at e;split at e
 ·cases e;refine⟨G,env,fp,_,_,rel,e1,fun v H' G' G9 st Ho=>?_⟩;have hv:=Ho.top;rw[show((o,D.bl k):R).2=D.bl k from rfl,Rep]at hv;obtain⟨b,GS,Hd⟩:=Ho.drop;exact⟨k,hv,q H' G' b (st.trans Hd) GS⟩
 ·cases e
theorem lq{e:Expr}{f:FX}(h:QE X e f)(he:∀whole,isTrue e X.env whole=(do let v <-whole;standAt e.pos;holding [v] (truthy v)):=by intro _;rfl):QT X e (HD f):=rH (BG h he) fun _ _ _=>zY
theorem mQ{op:CmpOp}(ho:HS X (compareOp op) (rG X.K g))(ha:QO X a fa)(hb:QO X b fb)(hm:behindInMarks op b=false):QT X (.Compare a [op] [b] pos) (HD (aB g fa fb)):=
 rH (uz ho ha hb hm) fun _ _ _ h=>vq (zY h)
theorem a9{op:CmpOp}(ho:HS X (compareOp op) (rGA X.K g))(ha:QO X a fa)(hb:QO X b fb)(hm:behindInMarks op b=false):QT X (.Compare a [op] [b] pos) (HD (bE g fa fb)):=
 rH (uz ho ha hb hm) fun _ _ _ h=>vy (zY h)
def zZ(f g:FT):FT:=fun env=>(f env).bind fun p=>if p.1 then g p.2 else .ok (false,p.2)
def QB(f g:FT):FT:=fun env=>(f env).bind fun p=>if p.1 then .ok (true,p.2) else g p.2
def yC(f:FT):FT:=fun env=>(f env).bind fun p=>.ok (!p.1,p.2)
variable{ga gb:FT}{cH:List Expr}
theorem lr(h:QT X a ga):QW X (.BoolOp .And [a] pos) ga:=y0 h
theorem vz(h:QT X a ga):QW X (.BoolOp .Or [a] pos) ga:=BH h
theorem pq(h:QT X a ga)(h2:QW X (.BoolOp .And (b::cH) pos) gb):QW X (.BoolOp .And (a::b::cH) pos) (zZ ga gb):=yB (BI h h2) fun σ H Q Hg=>by
 obtain⟨G,env,fp,k,env',rel,e,q⟩:=Hg;obtain⟨⟨k1,GQ⟩,e1,e⟩:=ar e;refine⟨G,env,fp,k1,GQ,rel,e1,fun H1 G1 Hn Hi GW=>?_⟩;dsimp only at e;cases k1 with
 |true=>exact⟨G1,GQ,Hn,k,env',GW,e,fun H2 G2 HK Hd GS=>q H2 G2 HK (Hi.trans Hd) GS⟩
 |false=>
  cases e;exact q H1 G1 Hn Hi GW
theorem z6(h:QT X a ga)(h2:QW X (.BoolOp .Or (b::cH) pos) gb):QW X (.BoolOp .Or (a::b::cH) pos) (QB ga gb):=yB (Eh h h2) fun σ H Q Hg=>by
 obtain⟨G,env,fp,k,env',rel,e,q⟩:=Hg;obtain⟨⟨k1,GQ⟩,e1,e⟩:=ar e;refine⟨G,env,fp,k1,GQ,rel,e1,fun H1 G1 Hn Hi GW=>?_⟩;dsimp only at e;cases k1 with
 |false=>exact⟨G1,GQ,Hn,k,env',GW,e,fun H2 G2 HK Hd GS=>q H2 G2 HK (Hi.trans Hd) GS⟩
 |true=>
  cases e;exact q H1 G1 Hn Hi GW
theorem QW.qt{e:Expr}{f:FT}(h:QW X e f):QT X e f:=h.pt
theorem pw(h:QT X a ga):QT X (.UnaryOp .Not a pos) (yC ga):=rH (BJ h) fun σ H Q Hg=>by
 obtain⟨G,env,fp,k,env',rel,e,q⟩:=Hg;obtain⟨⟨k1,GQ⟩,e1,e⟩:=ar e;cases e;exact⟨G,env,fp,k1,GQ,rel,e1,fun H1 G1 Hn Hi GW=>q H1 G1 Hn Hi GW⟩
def GJ(f g:FX):FX:=fun env=>(f env).bind fun p=>match p.1.2 with
 | .bl true=>g p.2
 | .bl false=>.ok ((.f,.bl false),p.2)
 |_=>.bad
def QC(f g:FX):FX:=fun env=>(f env).bind fun p=>match p.1.2 with
 | .bl true=>.ok ((.f,.bl true),p.2)
 | .bl false=>g p.2
 |_=>.bad
def GK(f:FX):FX:=fun env=>(f env).bind fun p=>match p.1.2 with
 | .bl k=>.ok ((.f,.bl (!k)),p.2)
 |_=>.bad
def eIf(c:FT)(f g:FX):FX:=fun env=>(c env).bind fun p=>if p.1 then f p.2 else g p.2
variable{ea eb:FX}
theorem Cv{op}(h:QE X a ea):QE X (.BoolOp op [a] pos) ea:=yj h
theorem dq{K:W.Frag}{G:Hp}(k:Bool):Rep K G (.bl k) (.bl k):=by rw[Rep]
theorem bh{K:W.Frag}{G:Hp}(k:Int):Rep K G (.int k) (.int k):=by rw[Rep]
theorem lu{K:W.Frag}{G:Hp}:Rep K G .non .non:=by rw[Rep]
theorem i6{K:W.Frag}{G:Hp}{l:List Nat}(h:l.length<=sizeLine):Rep K G (.str l) (.str (S l)):=by
 rw[Rep];exact⟨rfl,h⟩
theorem dC{K:W.Frag}{G:Hp}{k:Bool}{v:V}(h:Rep K G (.bl k) v):v=.bl k:=by rw[Rep]at h;exact h
theorem bG{K:W.Frag}{G:Hp}{k:Int}{v:V}(h:Rep K G (.int k) v):v=.int k:=by rw[Rep]at h;exact h
theorem cD{K:W.Frag}{G:Hp}{v:V}(h:Rep K G .non v):v=.non:=by rw[Rep]at h;exact h
theorem bO{K:W.Frag}{G:Hp}{l:List Nat}{v:V}(h:Rep K G (.str l) v):v=.str (S l)/\l.length<=sizeLine:=by rw[Rep]at h;exact h
inductive OfT(K:W.Frag)(G:Hp)(l:List D)(v:V):Prop
 |mk (p:Addr) (xs:List V) (e:v=.ref p) (q:SqT K G p xs) (r:Reps K G l xs):OfT K G l v
inductive OfL(K:W.Frag)(G:Hp)(l:List D)(v:V):Prop
 |mk (p:Addr) (xs:List V) (e:v=.ref p) (q:SqL K G p xs) (r:Reps K G l xs):OfL K G l v
theorem bJ{K:W.Frag}{G:Hp}{l:List D}{v:V}(h:Rep K G (.tup l) v):OfT K G l v:=by
 rw[Rep]at h;obtain⟨p,xs,e,q,r⟩:=h;exact⟨p,xs,e,SqT.of q,r⟩
theorem vA{K:W.Frag}{G:Hp}{l:List D}{v:V}(h:Rep K G (.tup l) v):∃p xs,v=.ref p/\G p=some (.tup xs)/\Reps K G l xs:=by rw[Rep]at h;exact h
theorem bR{K:W.Frag}{G:Hp}{l:List D}{v:V}(h:Rep K G (.lst l) v):OfL K G l v:=by
 rw[Rep]at h;obtain⟨p,xs,e,q,r⟩:=h;exact⟨p,xs,e,q,r⟩
theorem ES{K:W.Frag}{G H:Hp}{k:Bool}{v:V}(h:Vw K G H (.bl k) v):v=.bl k:=dC (K:=K) (G:=G) h
theorem bS{K:W.Frag}{G H:Hp}{k:Int}{v:V}(h:Vw K G H (.int k) v):v=.int k:=bG (K:=K) (G:=G) h
theorem gW{K:W.Frag}{G H:Hp}{l:List Nat}{v:V}(h:Vw K G H (.str l) v):v=.str (S l)/\l.length<=sizeLine:=bO (K:=K) (G:=G) h
theorem iQ{K:W.Frag}{G H:Hp}{l:List D}{v:V}(h:Vw K G H (.tup l) v):OfT K G l v:=bJ (K:=K) (G:=G) h
theorem ET(h:QE X a ea)(h2:QE X (.BoolOp .Or (b::cH) pos) eb):QE X (.BoolOp .Or (a::b::cH) pos) (QC ea eb):=bN (Ek h h2) fun σ H Q Hg=>by
 obtain⟨G,env,fp,r,env',rel,e,q⟩:=Hg;obtain⟨⟨⟨o,d⟩,GQ⟩,e1,e⟩:=ar e;refine⟨G,env,fp,_,GQ,rel,e1,fun v H1 G1 Hn Hi GW=>?_⟩;have hv:=GW.top;obtain⟨b',GS,Hd⟩:=GW.drop;dsimp only at e hv;split at e
 ·cases e;exact⟨true,dC hv,Bs (q _ H1 G1 b' (Hi.trans Hd) (GS.push (dq _)))⟩
 ·exact⟨false,dC hv,iteF ⟨G1,GQ,b',r,env',GS,e,fun v H2 G2 HK Hy Ht=>q v H2 G2 HK (Hi.trans (Hd.trans Hy)) Ht⟩⟩
 ·cases e
noncomputable def FK(g g':D->D->Res R)(fa fb fc:FO):FX:=fun env=>(fa env).bind fun p=>(fb p.2).bind fun q=>(Iq q.2 p.1).bind fun a=>(Iq q.2 q.1).bind fun b=>(g a b).bind fun r=>match r with
 |(.f,.bl true)=>(fc q.2).bind fun t=>(Iq t.2 q.1).bind fun b=>(Iq t.2 t.1).bind fun c=>(g' b c).bind fun r=>.ok (r,t.2)
 |(.f,.bl false)=>.ok ((.f,.bl false),q.2)
 |_=>.bad
inductive rC(K:W.Frag)(g:List D->Res R)(xs:List V)(H:Hp)(Q:VK):Prop
 |mk:∀G fp es vs ds r,Goes K H G fp es vs r Q->OF K G H ds xs->g ds=.ok r->rC K g xs H Q
def aV(g:List D->Res R)(fs:Ih):FX:=fun env=>(fs env).bind fun p=>(pj p.2 p.1).bind fun ds=>(g ds).bind fun r=>.ok (r,p.2)
theorem vB{gg:List D->Res R}{fs:Ih}{σ:L2.St}{H:Hp}{Q:VK}(h:tQ X.K (aV gg fs) σ H Q):Sd (rC X.K gg) (tOs X.K fs) σ H Q:=by
 obtain⟨G,env,fp,r,env',rel,e,k⟩:=h;obtain⟨⟨os,e1⟩,ha,e⟩:=ar e;obtain⟨ds,hd,e⟩:=ar e;obtain⟨r',hr,e⟩:=ar e;cases e;exact⟨G,env,fp,os,e1,rel,ha,fun vs H1 G1 Hn Hi GW Io=>⟨G1,Hn,e1,σ,ds,r,⟨GW,fun v H' G' G9 st Ho=>k v H' G' G9 (Hi.trans st) Ho⟩,GW.vws Io hd,hr⟩⟩
variable{x:Str}{p:Pos}{e:Expr}{es:List Expr}{gg:List D->Res R}{fs:Ih}{id T:String}
theorem aP(hc:cX X (.builtin id) (rC X.K gg))(hg:Gl X x)(hm:X.mg x=none)(hv:bootBuiltins x=some (.builtin id))(ha:Lx X (e::es) fs)(hn:x≠"__name__":=by decide)(HZ:(x==("__debug__" : Str))=false:=by decide)
  (he:starEach (e::es) X.env=(false,eval e X.env)::starEach es X.env:=by rfl) (HU:(backTo pos (starEach es X.env)).any (·.1)=false:=by rfl):QE X (.Call (.Name x p) (e::es) [] pos) (aV gg fs):=
 bN (jm hc hg hm hv ha hn HZ he HU) fun _ _ _=>vB
theorem bx(hc:cX X (.type T) (rC X.K gg))(hg:Gl X x)(hm:X.mg x=none)(hv:bootBuiltins x=some (.type T))(ha:Lx X (e::es) fs)(hn:x≠"__name__":=by decide)(HZ:(x==("__debug__" : Str))=false:=by decide)
  (he:starEach (e::es) X.env=(false,eval e X.env)::starEach es X.env:=by rfl) (HU:(backTo pos (starEach es X.env)).any (·.1)=false:=by rfl):QE X (.Call (.Name x p) (e::es) [] pos) (aV gg fs):=
 bN (oS hc hg hm hv ha hn HZ he HU) fun _ _ _=>vB
inductive spF(K:W.Frag)(F:List D->Res R)(vs:List V)(H:Hp)(Q:VK)(zz:XK):Prop
 |mk:∀G ds r,Same G H->Reps K G ds vs->F ds=.ok r->(∀v H' G' G9,Step G H [] G' H' G9->Rel K G' H' [some r] [some v] G9->Q v H')->spF K F vs H Q zz
def cG(F:List D->Res R)(fs:Ih):FX:=fun env=>(fs env).bind fun p=>(jv p.2 p.1).bind fun ds=>(F ds).bind fun r=>.ok (r,if cT r.1 r.2 then p.2 else p.2.map frz)
theorem aO{F:List D->Res R}{k:Nat}(C:Ct X.prog X.w X.K X.mg X.base x k (spF X.K F))(hr:Room k X.A)(hg:Gl X x)(ha:Lx X (e::es) fs)(HZ:(x==("__debug__" : Str))=false:=by decide)
  (he:starEach (e::es) X.env=(false,eval e X.env)::starEach es X.env:=by rfl) (HU:(backTo pos (starEach es X.env)).any (·.1)=false:=by rfl):QE X (.Call (.Name x p) (e::es) [] pos) (cG F fs):=
 bN (EG C hr hg ha HZ he HU) fun σ H Q Hg=>by
  obtain⟨G,env,fp,r,env',rel,e,k⟩:=Hg;obtain⟨⟨os,e1⟩,ha,e⟩:=ar e;obtain⟨ds,hd,e⟩:=ar e;obtain⟨r',hr,e⟩:=ar e;refine⟨G,env,fp,os,e1,rel,ha,fun vs H1 G1 Hn Hi GW Io=>?_⟩;show spF X.K F (vs++[]) H1 Q _;rw[Vd];obtain⟨G2,Pb,Pc,JO,_,JV⟩:=GW.lend;refine⟨G2,ds,r',Pc,jw Pb JO Io hd,hr,fun v H' G' G9 st Ho=>?_⟩;obtain⟨k1,k2⟩:=JV H' G' G9 r' v st Ho;by_cases hc:cT r'.1 r'.2=true
  ·rw[Ut hc]at e;cases e;obtain⟨G3,JB,Hy,Ht⟩:=k1 hc;exact k v H' G3 JB (Hi.trans Hy) Ht
  ·rw[UD hc]at e;cases e;obtain⟨G3,JB,Hy,Ht⟩:=k2;exact k v H' G3 JB (Hi.trans Hy) Ht
end
def sSeq(g1 g2:FS):FS:=fun env=>(g1 env).bind fun o=>match o with
 | .nx e=>g2 e
 |o=>.ok o
def dh:FS:=fun env=>.ok (.nx env)
def yD:FS:=fun _=>.bad
def bQ(i:Nat)(f:FX):FS:=fun env=>(f env).bind fun p=>if i<p.2.length then .ok (.nx (p.2.set i (some p.1))) else .bad
def fI(f:FX):FS:=fun env=>(f env).bind fun p=>.ok (.nx p.2)
def eI(f:FX):FS:=fun env=>(f env).bind fun p=>.ok (.rt p.1)
def II(c:FT)(g h:FS):FS:=fun env=>(c env).bind fun p=>if p.1 then g p.2 else h p.2
section
variable{md:Mode}{X:Cx}{st:Stmt}{QD:List Stmt}{g h:FS}{f:FX}{c:FT}{pos:Pos}{e:Expr}
theorem br:MP (md:=md) X [] dh:=vp uk fun D σ H ⟨G,env,fp,rel,k⟩=>k σ H G fp .refl rel
theorem aw(a:QS (md:=md) X st g):MP (md:=md) X [st] g:=y3 a
theorem ah(a:QS (md:=md) X st g)(b:MP (md:=md) X QD h):MP (md:=md) X (st::QD) (sSeq g h):=vp (nh a b) fun D σ H Hg=>by
 obtain⟨G,env,fp,rel,k⟩:=Hg;refine⟨G,env,fp,rel,?_⟩;have k:OutOk X.K G H fp D ((g env).bind fun o=>match o with | .nx e=>h e|o=>.ok o):=k;match q:g env,k with
 | .ok (.nx GQ),k=>exact fun σ1 H1 G1 Hn Hi GW=>⟨G1,GQ,Hn,GW,OutOk.after Hi k⟩
 | .ok (.bk GQ),k=>exact k
 | .ok (.ct GQ),k=>exact k
 | .ok (.rt r),k=>exact k
theorem xE:QS (md:=md) X st yD:=fR w4 fun D σ H ⟨G,env,fp,rel,k⟩=>k
theorem vC{K:W.Frag}{G H:Hp}{fp:List Addr}{D:Ends}{i:Nat}{env:PV.Env}{σ:L2.St}(rel:Rel K G H env σ fp)(k:OutOk (md:=md) K G H fp D (bQ i f env)):tQ K f σ H fun v H'=>D.nx (σ.set i (some v)) H':=by
 unfold bQ at k;match q:f env,k with
 | .ok (r,GQ),k=>
  have k:OutOk K G H fp D (if i<GQ.length then .ok (.nx (GQ.set i (some r))) else .bad):=k;by_cases hi:i<GQ.length
  ·rw[Ut hi]at k;refine⟨G,env,fp,r,GQ,rel,q,fun v H1 G1 Hn Hi GW=>?_⟩;obtain⟨fq,GS,Hd⟩:=GW.store hi;exact k _ H1 G1 fq (Hi.trans Hd) GS
  ·rw[UD hi]at k;exact k.elim
theorem aI{i:Nat}{x:Str}{pos':Pos}(hN:X.N.Nodup)(hi:X.N[i]?=some x)(hx:Loc X.env.scope x)(he:QE X e f)(hs:swapsWith e (some (.Name x pos')) pos.line X.env=pure false:=by rfl)(hf:X.fn x=true\/X.env.scope.names.lookup x=some .local:=by first|exact .inl rfl|exact .inr rfl|assumption):
  QS (md:=md) X (.Assign [.Name x pos'] e pos) (bQ i f):=fR (um (i:=i) hN hi hx he hs hf) fun D σ H ⟨G,env,fp,rel,k⟩=>vC rel k
theorem cB(he:QE X e f)(hs:swapsWith e none pos.line X.env=pure false:=by rfl):QS (md:=md) X (.Expr e pos) (fI f):=fR (y4 he hs) fun D σ H Hg=>by
 obtain⟨G,env,fp,rel,k⟩:=Hg;unfold fI at k;match q:f env,k with
 | .ok (r,GQ),k=>
  refine⟨G,env,fp,r,GQ,rel,q,fun v H1 G1 Hn Hi GW=>?_⟩;obtain⟨b,GS,Hd⟩:=GW.drop;exact k _ H1 G1 b (Hi.trans Hd) GS
theorem Rel.only{K:W.Frag}{G H:Hp}{r:R}{v:V}{es:PV.Env}{vs:L2.St}{fp:List Addr}(q:Rel K G H (some r::es) (some v::vs) fp):∃a,Rel K G H [some r] [some v] a/\Step G H fp G H a:=by
 obtain⟨y,ys,e,v',a,b,e1,e2,r1,r2⟩:=q.rep;cases e;cases e1;subst e2;have nd:=U3.mp q.nd;exact⟨a,⟨⟨some v,[],rfl,v,a,[],rfl,(Vd _).symm,r1,rfl,rfl⟩,nd.1,fun p hp=>q.gn p (UA _ hp),q.gh⟩,Step.cut fun p hp=>UA _ hp⟩
theorem aZ(he:QE X e f):QS (md:=.plain) X (.Return (some e) pos) (eI f):=fR (BM he) fun D σ H Hg=>by
 obtain⟨G,env,fp,rel,k⟩:=Hg;unfold eI at k;match q:f env,k with
 | .ok (r,GQ),k=>
  refine⟨G,env,fp,r,GQ,rel,q,fun v H1 G1 Hn Hi GW=>?_⟩;obtain⟨b,GS,Hd⟩:=GW.only;exact k _ H1 G1 b (Hi.trans Hd) GS
theorem Rel.nilF{K:W.Frag}{G H:Hp}{es:PV.Env}{vs:L2.St}{fp:List Addr}(q:Rel K G H es vs fp):Rel K G H [] [] []:=⟨⟨rfl,rfl⟩,Vm,(fun _ h=>nomatch h),q.gh⟩
theorem dF{a b:List Stmt}{ct:Expr}(hc:QT X ct c)(ha:MP (md:=md) X a g)(hb:MP (md:=md) X b h):QS (md:=md) X (.If ct a b pos) (II c g h):=fR (En hc ha hb) fun D σ H Hg=>by
 obtain⟨G,env,fp,rel,k⟩:=Hg;unfold II at k;match q:c env,k with
 | .ok (true,GQ),k=>exact⟨G,env,fp,true,GQ,rel,q,fun H1 G1 Hn Hi GW=>Bs ⟨G1,GQ,Hn,GW,OutOk.after Hi k⟩⟩
 | .ok (false,GQ),k=>exact⟨G,env,fp,false,GQ,rel,q,fun H1 G1 Hn Hi GW=>iteF ⟨G1,GQ,Hn,GW,OutOk.after Hi k⟩⟩
def cZ(c:FT)(g:FS):Nat->FS
 | 0,_=>.bad
 |n+1,env=>(c env).bind fun p=>if p.1 then(g p.2).bind fun o=>match o with
  | .nx e=>cZ c g n e
  | .ct e=>cZ c g n e
  | .bk e=>.ok (.nx e)
  | .rt r=>.ok (.rt r)
  else .ok (.nx p.2)
theorem kU{ct:Expr}{body:List Stmt}(n:Nat)(hp:PassesOwn (model X.prog X.w) X.A X.env X.xe)(hc:QT X ct c)(hb:MP (md:=md) X body g):QS (md:=md) X (.While ct body [] pos) (cZ c g n):=
 fR (w6 hp hc hb) fun D σ H Hg=>by
  obtain⟨G,env,fp,rel,k⟩:=Hg;refine⟨fun m σ' H'=>∃G' env' G9,Rel X.K G' H' env' σ' G9/\OutOk X.K G' H' G9 D (cZ c g m env'),⟨n,G,env,fp,rel,k⟩,?_⟩;rintro m σ1 H1 ⟨G1,GQ,Hn,GW,k1⟩;cases m with
  |zero=>exact k1.elim
  |succ m=>
   unfold cZ at k1;match q:c GQ,k1 with
   | .ok (false,Ha),k1=>exact⟨G1,GQ,Hn,false,Ha,GW,q,fun H2 G2 HK Hd GS=>iteF (k1 _ H2 G2 HK Hd GS)⟩
   | .ok (true,Ha),k1=>
    refine⟨G1,GQ,Hn,true,Ha,GW,q,fun H2 G2 HK Hd GS=>Bs ?_⟩;refine⟨fun σ' H'=>∃G' env' G9,Rel X.K G' H' env' σ' G9/\OutOk X.K G' H' G9 D (cZ c g m env'),fun σ' H' z=>⟨m,Wr _,z⟩,G2,Ha,HK,GS,?_⟩;have k2:OutOk X.K G1 H1 Hn D ((g Ha).bind fun o=>match o with | .nx e=>cZ c g m e | .ct e=>cZ c g m e | .bk e=>.ok (.nx e) | .rt r=>.ok (.rt r)):=k1;match q2:g Ha,k2 with
    | .ok (.nx e),k2=>exact fun σ' H' G' G9 st rel=>⟨G',e,G9,rel,OutOk.after (Hd.trans st) k2⟩
    | .ok (.ct e),k2=>exact fun σ' H' G' G9 st rel=>⟨G',e,G9,rel,OutOk.after (Hd.trans st) k2⟩
    | .ok (.bk e),k2=>exact fun σ' H' G' G9 st rel=>k2 σ' H' G' G9 (Hd.trans st) rel
    | .ok (.rt r),k2=>exact fun v H' G' G9 st rel=>k2 v H' G' G9 (Hd.trans st) rel
def Walk(K:W.Frag)(G:Hp)(J:It)(ds:List D):Prop:=∀G' H' es vs fp,Same G G'->Rel K G' H' es vs fp->∀i:Nat,
 (∀d,ds[i]?=some d->J.go i H'/\∀x H2,J.yld i H' x H2->∃G2,Rep K G2 d x/\Rel K G2 H2 es vs fp/\Step G' H' fp G2 H2 fp)/\(i=ds.length->J.stop i H')
abbrev FI:=PV.Env->Res (List D×PV.Env)
inductive tQI(K:W.Frag)(f:FI)(σ:L2.St)(H:Hp)(R:It->Hp->Prop):Prop
 |mk:∀G env fp ds env',Rel K G H env σ fp->f env=.ok (ds,env')->(∀J H' G' G9,Step G H fp G' H' G9->Rel K G' H' env' σ G9->Walk K G' J ds->R J H')->tQI K f σ H R
def QI(X:Cx)(tg e:Expr)(f:FI):Prop:=PI X tg e (tQI X.K f)
theorem km{X:Cx}{tg e:Expr}{t t':TI}(h:PI X tg e t)(k:∀σ H R,t' σ H R->t σ H R):PI X tg e t':=fun pi s σ H R I w=>h pi s σ H R I (k σ H R w)
abbrev FG:=D->PV.Env->Res PV.Env
inductive tQG(K:W.Frag)(a:FG)(v:V)(σ:L2.St)(H:Hp)(Q:L2.St->Hp->Prop):Prop
 |mk:∀G env fp d env',Rel K G H env σ fp->Rep K G d v->a d env=.ok env'->(∀σ' G' G9,Step G H fp G' H G9->Rel K G' H env' σ' G9->Q σ' H)->tQG K a v σ H Q
def QG(X:Cx)(tg:Expr)(a:FG):Prop:=PG X tg (tQG X.K a)
def ay(i:Nat):FG:=fun d env=>if i<env.length then .ok (env.set i (some (.f,d))) else .bad
theorem yE{X:Cx}{tg:Expr}{t t':TG}(h:PG X tg t)(k:∀v σ H Q,t' v σ H Q->t v σ H Q):PG X tg t':=fun pi s σ H v u Q I r w=>h pi s σ H v u Q I r (k v σ H Q w)
theorem vD{X:Cx}{tg:List Expr}{t t':OA}(h:OQ X tg t)(k:∀v σ H Q,t' v σ H Q->t v σ H Q):OQ X tg t':=fun pi s σ H v u Q I r w=>h pi s σ H v u Q I r (k v σ H Q w)
theorem az{i:Nat}{x:Str}(hN:X.N.Nodup)(hi:X.N[i]?=some x)(hx:Loc X.env.scope x)(hf:X.fn x=true\/X.env.scope.names.lookup x=some .local:=by first|exact .inl rfl|exact .inr rfl|assumption):QG X (.Name x pos) (ay i):=
 yE (y6 (i:=i) hN hi hx hf) fun v σ H Q Hg=>by
  obtain⟨G,env,fp,d,env',rel,r,e,k⟩:=Hg;unfold ay at e;split at e
  ·rename_i hl;cases e;obtain⟨fq,GS,Hd⟩:=(rel.push r).store hl;exact k _ G fq Hd GS
  ·cases e
abbrev NM:=List D->PV.Env->Res PV.Env
inductive tQGs(K:W.Frag)(a:NM)(vs:List V)(σ:L2.St)(H:Hp)(Q:L2.St->Hp->Prop):Prop
 |mk:∀G env fp ds env',Rel K G H env σ fp->Reps K G ds vs->a ds env=.ok env'->(∀σ' G' G9,Step G H fp G' H G9->Rel K G' H env' σ' G9->Q σ' H)->tQGs K a vs σ H Q
def RI(X:Cx)(tg:List Expr)(a:NM):Prop:=OQ X tg (tQGs X.K a)
def b7:NM:=fun ds env=>match ds with
 |[]=>.ok env
 |_=>.bad
def aD(a:FG)(b:NM):NM:=fun ds env=>match ds with
 |d::ds=>(a d env).bind fun e=>b ds e
 |_=>.bad
theorem cj:RI X [] b7:=vD y7 fun vs σ H Q Hg=>by
 obtain⟨G,env,fp,ds,env',rel,r,e,k⟩:=Hg;cases ds with
 |nil=>
  cases e;rw[Reps]at r;exact⟨r,k σ G fp .refl rel⟩
 |cons d ds=>cases e
theorem aG{tg:Expr}{Mm:List Expr}{a:FG}{b:NM}(h1:QG X tg a)(h2:RI X Mm b)(hs:(assignEach (tg::Mm) X.env).map (·.2)=assign tg X.env::(assignEach Mm X.env).map (·.2):=by rfl):RI X (tg::Mm) (aD a b):=
 vD (w5 h1 h2 hs) fun vs σ H Q Hg=>by
  obtain⟨G,env,fp,ds,env',rel,r,e,k⟩:=Hg;cases ds with
  |nil=>cases e
  |cons d ds=>
   rw[Reps]at r;obtain⟨y,ys,ev,r1,r2⟩:=r;obtain⟨GQ,e1,e2⟩:=ar e;exact⟨y,ys,ev,G,env,fp,d,GQ,rel,r1,e1,fun σ1 G1 Hn Hi GW=>⟨G1,GQ,Hn,ds,env',GW,r2.mono Hi.gg,e2,fun σ2 G2 HK Hd GS=>k σ2 G2 HK (Hi.trans Hd) GS⟩⟩
def fS(n:Nat)(a:NM):FG:=fun d env=>match d with
 | .tup ds=>if ds.length=n then a ds env else .bad
 |_=>.bad
theorem dG{Mm:List Expr}{k n:Nat}{a:NM}(hc:X.calm=true)(h:RI X Mm a)(hn:(assignEach Mm X.env).length=n:=by rfl)(Lp:(assignEach Mm X.env).findIdx? (·.1)=none:=by rfl):QG X (.Tuple Mm k pos) (fS n a):=
 yE (BP hc h hn Lp) fun v σ H Q Hg=>by
  obtain⟨G,env,fp,d,env',rel,r,e,k⟩:=Hg;unfold fS at e;split at e
  ·rename_i ds;split at e
   ·rename_i hl;obtain⟨p,xs,ev,sq,rs⟩:=bJ r;exact⟨p,xs,ev,b5 rel.gh sq,rs.length.trans hl,G,env,fp,ds,env',rel,rs,e,k⟩
   ·cases e
  ·cases e
def kM(a:FG)(g:FS):List D->FS
 |[],env=>.ok (.nx env)
 |d::ds,env=>(a d env).bind fun e=>(g e).bind fun o=>match o with
  | .nx e=>kM a g ds e
  | .ct e=>kM a g ds e
  | .bk e=>.ok (.nx e)
  | .rt r=>.ok (.rt r)
def mC(f:FI)(a:FG)(g:FS):FS:=fun env=>(f env).bind fun p=>kM a g p.1 p.2
theorem dP{tg iter:Expr}{body:List Stmt}{fi:FI}{a:FG}(hp:PassesOwn (model X.prog X.w) X.A X.env X.xe)(hc:X.calm=true)(hi:QI X tg iter fi)(hg:QG X tg a)(hb:MP (md:=md) X body g)(hs:∀x,foldedSetIterable iter X.env x=pure x:=by intro _;rfl):QS (md:=md) X (.For tg iter body [] pos) (mC fi a g):=
 fR (BV hp hc hi hg hb hs) fun D σ H Hg=>by
  obtain⟨G,env,fp,rel,k⟩:=Hg;unfold mC at k;match q:fi env,k with
  | .ok (ds,GQ),k=>
   refine⟨G,env,fp,ds,GQ,rel,q,fun J H1 G1 Hn Hi GW wk=>?_⟩;have k:OutOk X.K G H fp D (kM a g ds GQ):=k;refine⟨fun i m σ' H'=>m=ds.length-i/\i<=ds.length/\∃G' env' G9,Same G1 G'/\Rel X.K G' H' env' σ' G9/\OutOk X.K G' H' G9 D (kM a g (ds.drop i) env'),⟨_,rfl,U6 _,G1,GQ,Hn,.refl _,GW,OutOk.after Hi k⟩,?_⟩;rintro i m σ2 H2 ⟨rfl,hi,G2,Ha,HK,gg,GS,k2⟩;obtain⟨w1,w2⟩:=wk G2 H2 _ _ _ gg GS i;by_cases HN:i<ds.length
   ·have hd:ds[i]?=some ds[i]:=List.getElem?_eq_getElem HN;obtain⟨go,yl⟩:=w1 _ hd;rw[Xs HN]at k2;refine .inr ⟨go,fun σ' H'=>∃G' env' G9,Same G1 G'/\Rel X.K G' H' env' σ' G9/\OutOk X.K G' H' G9 D (kM a g (ds.drop (i+1)) env'),fun σ' H' z=>⟨ds.length-(i+1),by lia,rfl,HN,z⟩,fun x H3 y=>?_⟩;obtain⟨G3,rx,Ht,Hy⟩:=yl x H3 y;unfold kM at k2;match q3:a ds[i] Ha,k2 with
    | .ok Iw,k2=>
     refine⟨G3,Ha,HK,ds[i],Iw,Ht,rx,q3,fun σ4 G4 QF Il Hz=>⟨G4,Iw,QF,Hz,?_⟩⟩;have k3:OutOk X.K G2 H2 HK D ((g Iw).bind fun o=>match o with | .nx e=>kM a g (ds.drop (i+1)) e | .ct e=>kM a g (ds.drop (i+1)) e | .bk e=>.ok (.nx e) | .rt r=>.ok (.rt r)):=k2;match q4:g Iw,k3 with
     | .ok (.nx e),k3=>exact fun σ' H' G' G9 st rel=>⟨G',e,G9,gg.trans (Hy.gg.trans (Il.gg.trans st.gg)),rel,OutOk.after (Hy.trans (Il.trans st)) k3⟩
     | .ok (.ct e),k3=>exact fun σ' H' G' G9 st rel=>⟨G',e,G9,gg.trans (Hy.gg.trans (Il.gg.trans st.gg)),rel,OutOk.after (Hy.trans (Il.trans st)) k3⟩
     | .ok (.bk e),k3=>exact fun σ' H' G' G9 st rel=>k3 σ' H' G' G9 (Hy.trans (Il.trans st)) rel
     | .ok (.rt r),k3=>exact fun v H' G' G9 st rel=>k3 v H' G' G9 (Hy.trans (Il.trans st)) rel
   ·have e:i=ds.length:=by lia
    subst e;rw[List.drop_length]at k2;exact .inl ⟨w2 rfl,k2 σ2 H2 G2 HK .refl GS⟩
def Cw(f:FX):FI:=fun env=>(f env).bind fun p=>match p.1.2 with
 | .lst ds=>.ok (ds,p.2)
 |_=>.bad
def gQ(f:FX):FI:=fun env=>(f env).bind fun p=>match p.1.2 with
 | .tup ds=>.ok (ds,p.2)
 |_=>.bad
variable{tg l:Expr}
theorem px{K:W.Frag}{G:Hp}{a:Addr}{xs:List V}{ds:List D}(sq:SqL K G a xs)(rs:Reps K G ds xs):Walk K G (PY K a) ds:=by
 intro G' H' es vs fp gg rel i;have IJ:SqL K H' a xs:=iH rel.gh (iH gg sq);refine⟨fun d hd=>?_,fun e=>⟨xs,IJ,by rw[rs.length];lia⟩⟩;obtain⟨x,hx,rx⟩:=rs.get hd;refine⟨⟨xs,x,IJ,hx⟩,fun y H2 ⟨e,hy⟩=>?_⟩;subst e;have:=hy xs IJ;rw[hx]at this;cases this;exact⟨G',Rep.mono gg rx,rel,.refl⟩
theorem xF{K:W.Frag}{G:Hp}{a:Addr}{xs:List V}{ds:List D}(sq:SqT K G a xs)(rs:Reps K G ds xs):Walk K G (R8 K a) ds:=by
 intro G' H' es vs fp gg rel i;have IJ:SqT K H' a xs:=b5 rel.gh (b5 gg sq);refine⟨fun d hd=>?_,fun e=>⟨xs,IJ,by rw[rs.length];lia⟩⟩;obtain⟨x,hx,rx⟩:=rs.get hd;refine⟨⟨xs,x,IJ,hx⟩,fun y H2 ⟨e,hy⟩=>?_⟩;subst e;have:=hy xs IJ;rw[hx]at this;cases this;exact⟨G',Rep.mono gg rx,rel,.refl⟩
theorem z7(h:QE X l f):QI X tg l (Cw f):=km (uq h) fun σ H R Hg=>by
 obtain⟨G,env,fp,ds,env',rel,e,k⟩:=Hg;obtain⟨⟨⟨o,d⟩,GQ⟩,e1,e⟩:=ar e;dsimp only at e;split at e
 ·cases e;refine⟨G,env,fp,_,_,rel,e1,fun v H1 G1 Hn Hi GW=>?_⟩;obtain⟨G2,b,rv,GS,Hd⟩:=GW.freeze;obtain⟨p,xs,ev,sq,rs⟩:=bR rv;exact⟨p,ev,⟨xs,iH GS.gh sq⟩,k _ H1 G2 b (Hi.trans Hd) GS (px sq rs)⟩
 ·cases e
theorem gX(h:QE X l f):QI X tg l (gQ f):=km (BU h) fun σ H R Hg=>by
 obtain⟨G,env,fp,ds,env',rel,e,k⟩:=Hg;obtain⟨⟨⟨o,d⟩,GQ⟩,e1,e⟩:=ar e;dsimp only at e;split at e
 ·cases e;refine⟨G,env,fp,_,_,rel,e1,fun v H1 G1 Hn Hi GW=>?_⟩;obtain⟨G2,b,rv,GS,Hd⟩:=GW.freeze;obtain⟨p,xs,ev,sq,rs⟩:=bJ rv;exact⟨p,ev,⟨xs,b5 GS.gh sq⟩,k _ H1 G2 b (Hi.trans Hd) GS (xF sq rs)⟩
 ·cases e
def gR(f:FX):FI:=fun env=>(f env).bind fun p=>match p.1.2 with
 | .str l=>.ok (l.map fun c=>.str [c],p.2)
 |_=>.bad
theorem gY(h:QE X l f):QI X tg l (gR f):=km (Cd h) fun σ H R Hg=>by
 obtain⟨G,env,fp,ds,env',rel,e,k⟩:=Hg;obtain⟨⟨⟨o,d⟩,GQ⟩,e1,e⟩:=ar e;dsimp only at e;split at e
 ·rename_i cs;cases e;refine⟨G,env,fp,_,_,rel,e1,fun v H1 G1 Hn Hi GW=>?_⟩;obtain⟨G2,b,rv,GS,Hd⟩:=GW.freeze;obtain⟨ev,hl⟩:=bO rv;refine⟨cs,ev,k _ H1 G2 b (Hi.trans Hd) GS fun G' H' es vs G9 gg Ho i=>⟨fun d hd=>?_,fun e=>?_⟩⟩
  ·rw[List.getElem?_map]at hd;cases hc:cs[i]? with
   |none=>rw[hc]at hd;cases hd
   |some c=>
    rw[hc]at hd;cases hd;refine⟨(List.getElem?_eq_some_iff.mp hc).1,fun x H2 ⟨e1,e2⟩=>?_⟩;subst e1;refine⟨G',?_,Ho,.refl⟩;rw[e2];show Rep X.K G' (.str [c]) (.str (S [cs.getD i 0]));rw[List.getD_eq_getElem?_getD,hc];exact i6 (by rw[line_eq];simp)
  ·rw[Um]at e;exact e
 ·cases e
def bL(f:FO):FI:=fun env=>(f env).bind fun p=>(Iq p.2 p.1).bind fun d=>match d with
 | .int j=>if -4611686018427387904<=j/\j<4611686018427387904 then .ok ((List.range j.toNat).map fun(k:Nat)=>D.int (k:Int),p.2) else .bad
 |_=>.bad
theorem mR{K:W.Frag}{G:Hp}(lo:Int)(n:Nat):Walk K G (Qh lo n) ((List.range n).map fun(k:Nat)=>D.int (lo+(k:Int))):=by
 intro G' H' es vs fp gg rel i;refine⟨fun d hd=>?_,fun e=>?_⟩
 ·rw[List.getElem?_map]at hd;cases hc:(List.range n)[i]? with
  |none=>rw[hc]at hd;cases hd
  |some c=>
   rw[hc]at hd;cases hd;obtain⟨h1,h2⟩:=List.getElem?_eq_some_iff.mp hc;rw[UM]at h1;rw[YQ]at h2;subst h2;refine⟨h1,fun x H2 ⟨e1,e2⟩=>?_⟩;subst e1;exact⟨G',by rw[e2];exact bh _,rel,.refl⟩
 ·rw[Um,UM]at e;exact Ya e.symm
theorem b6{a:Expr}{fa:FO}{p pos:Pos}(hg:Gl X "range")(hm:X.mg "range" = none)(ha:QO X a fa)(hs:starEach [a] X.env=[(false,eval a X.env)]:=by rfl):QI X tg (.Call (.Name "range" p) [a] [] pos) (bL fa):=
 km (ur hg hm (af ha aq hs) hs) fun σ H R Hg=>by
  obtain⟨G,env,fp,ds,env',rel,e,k⟩:=Hg;obtain⟨⟨o,GQ⟩,e1,e⟩:=ar e;obtain⟨d,e2,e⟩:=ar e;dsimp only at e;split at e
  ·rename_i j;split at e
   ·rename_i hj;cases e;refine⟨G,env,fp,[o],_,rel,by show(fa env).bind _=_;rw[e1];rfl,fun vs H1 G1 Hn Hi GW Io=>?_⟩;obtain⟨y,ys,ev,k1,k2⟩:=Io;have k2:ys=[]:=k2;subst k2;have hv:=bS (GW.vw k1 e2);subst hv;refine⟨j,ev,by lia,by lia,k _ H1 G1 Hn Hi GW ?_⟩;have w:=mR (K:=X.K) (G:=G1) 0 j.toNat
    simpa using w
   ·cases e
  ·cases e
noncomputable def qv(fs:Ih):FI:=fun env=>(fs env).bind fun p=>(pj p.2 p.1).bind fun d=>match d with
 |[.int i,.int j]=>if(-4611686018427387904<=i/\i<4611686018427387904)/\-4611686018427387904<=j/\j<4611686018427387904 then .ok ((List.range (j-i).toNat).map fun(k:Nat)=>D.int (i+(k:Int)),p.2) else .bad
 |_=>.bad
theorem vE{a b:Expr}{fs:Ih}{p pos:Pos}(hg:Gl X "range")(hm:X.mg "range" = none)(ha:Lx X [a,b] fs)(hs:starEach [a,b] X.env=[(false,eval a X.env),(false,eval b X.env)]:=by rfl)(Ln:starEach [b] X.env=[(false,eval b X.env)]:=by rfl):
  QI X tg (.Call (.Name "range" p) [a,b] [] pos) (qv fs):=
 km (uu hg hm ha hs Ln) fun σ H R Hg=>by
  obtain⟨G,env,fp,ds,env',rel,e,k⟩:=Hg;obtain⟨⟨o,GQ⟩,e1,e⟩:=ar e;obtain⟨d,e2,e⟩:=ar e;dsimp only at e;split at e
  ·rename_i i j;split at e
   ·rename_i hj;cases e;refine⟨G,env,fp,o,_,rel,e1,fun vs H1 G1 Hn Hi GW Io=>?_⟩;obtain⟨y,ys,ev,v1,z,zs,SM,v2,e3⟩:=GW.vws Io e2;have e3:zs=[]:=e3;subst e3;have h1:=bS v1;have h2:=bS v2;subst h1;subst h2;subst SM;exact⟨i,j,ev,⟨by lia,by lia,by lia,by lia⟩,k _ H1 G1 Hn Hi GW (mR i _)⟩
   ·cases e
  ·cases e
def jZ(k:Bool):D->Res (List D)
 | .lst ds=>if k then .ok ds else .bad
 | .tup ds=>if k then .bad else .ok ds
 |_=>.bad
def tu(k1 k2:Bool)(fs:Ih):FI:=fun env=>(fs env).bind fun p=>match p.1 with
 |[.val d1,.val d2]=>(jZ k1 d1).bind fun a=>(jZ k2 d2).bind fun b=>.ok ((a.zip b).map fun z=>D.tup [z.1,z.2],p.2)
 |_=>.bad
theorem rK{K:W.Frag}{G:Hp}{k:Bool}{d:D}{ds:List D}{v:V}(e:jZ k d=.ok ds)(r:Rep K G d v):∃p xs,v=.ref p/\(if k then SqL K G p xs else SqT K G p xs)/\Reps K G ds xs:=by
 cases d with
 |lst es=>
  cases k with
  |true=>
   cases e;obtain⟨p,xs,e1,q,rs⟩:=bR r;exact⟨p,xs,e1,q,rs⟩
  |false=>cases e
 |tup es=>
  cases k with
  |true=>cases e
  |false=>
   cases e;obtain⟨p,xs,e1,q,rs⟩:=bJ r;exact⟨p,xs,e1,q,rs⟩
 |_=>cases e
theorem nO{K:W.Frag}{G G':Hp}{k:Bool}{p:Addr}{xs:List V}(h:Same G G')(r:if k then SqL K G p xs else SqT K G p xs):if k then SqL K G' p xs else SqT K G' p xs:=by
 cases k with
 |true=>exact iH h r
 |false=>exact b5 h r
theorem xG{K:W.Frag}{G:Hp}{k1 k2:Bool}{p1 p2:Addr}{xs ys:List V}{as bs:List D}(s1:if k1 then SqL K G p1 xs else SqT K G p1 xs)(s2:if k2 then SqL K G p2 ys else SqT K G p2 ys)(r1:Reps K G as xs)(r2:Reps K G bs ys):
  Walk K G (Sr K k1 k2 p1 p2) ((as.zip bs).map fun z=>D.tup [z.1,z.2]):=by
 intro G' H' es vs fp gg rel i;have g1:=nO (gg.trans rel.gh) s1;have g2:=nO (gg.trans rel.gh) s2;refine⟨fun d hd=>?_,fun e=>⟨xs,ys,g1,g2,?_⟩⟩
 ·rw[List.getElem?_map]at hd;cases hz:(as.zip bs)[i]? with
  |none=>rw[hz]at hd;cases hd
  |some z=>
   rw[hz]at hd;cases hd;obtain⟨h1,h2⟩:=List.getElem?_zip_eq_some.mp hz;obtain⟨x,hx,rx⟩:=r1.get h1;obtain⟨y,hy,ry⟩:=r2.get h2;refine⟨⟨xs,ys,x,y,g1,g2,hx,hy⟩,fun v H2 ⟨T,hT,ev,hh⟩=>?_⟩;have e2:=hh xs ys x y g1 g2 hx hy;subst e2;obtain⟨GS,Hd⟩:=rel.newF (u:=.tup [x,y]) hT;refine⟨_,?_,GS,Hd⟩;rw[Rep];exact⟨T,[x,y],ev,bU,.cons (Rep.mono (gg.trans Hd.gg) rx) (.one (Rep.mono (gg.trans Hd.gg) ry))⟩
 ·rw[Um,WS]at e;rw[r1.length,r2.length];exact e
theorem rL(k1 k2:Bool){Mm:List Expr}{kt:Nat}{pt:Pos}{e1 e2:Expr}{fs:Ih}{p pos:Pos}(hg:Gl X "zip")(hm:X.mg "zip" = none)(ha:Lx X [e1,e2] fs)(he:starEach [e1,e2] X.env=(false,eval e1 X.env)::starEach [e2] X.env:=by rfl)(HU:(backTo pos (starEach [e2] X.env)).any (·.1)=false:=by rfl):
  QI X (.Tuple Mm kt pt) (.Call (.Name "zip" p) [e1,e2] [] pos) (tu k1 k2 fs):=
 km (Cg k1 k2 hg hm ha he HU) fun σ H R Hg=>by
  obtain⟨G,env,fp,ds,env',rel,e,k⟩:=Hg;obtain⟨⟨o,GQ⟩,e1,e⟩:=ar e;dsimp only at e;split at e
  ·rename_i d1 d2;obtain⟨a,ea,e⟩:=ar e;obtain⟨b,eb,e⟩:=ar e;cases e;refine⟨G,env,fp,_,_,rel,e1,fun vs H1 G1 Hn Hi GW Io=>?_⟩;obtain⟨y,ys,ev,v1,z,zs,SM,v2,e3⟩:=Io;have e3:zs=[]:=e3;subst e3;obtain⟨p1,xs1,TF,q1,r1⟩:=rK ea v1;obtain⟨p2,OG,Qw,q2,r2⟩:=rK eb v2;subst TF;subst Qw;subst SM;exact⟨p1,p2,xs1,OG,ev,nO GW.gh q1,nO GW.gh q2,k _ H1 G1 Hn Hi GW (xG q1 q2 r1 r2)⟩
  ·cases e
end
def fBody(np nn:Nat)(g:FS):List D->Res R:=fun ds=>if ds.length=np then(g (ds.map (fun d=>some (O.f,d))++List.replicate nn none)).bind fun o=>match o with
 | .rt r=>.ok r
 | .nx _=>.ok (.f,.non)
 |_=>.bad
 else .bad
theorem jx{K:W.Frag}{G H:Hp}(n:Nat):∀{ds:List D}{vs:List V},Reps K G ds vs->RepE K G H (ds.map (fun d=>some (O.f,d))++List.replicate n none) (vs.map some++List.replicate n none) []
 |[],vs,r=>by
  rw[Reps]at r;subst r;show RepE K G H (List.replicate n none) (List.replicate n none) [];induction n with
  |zero=>exact⟨rfl,rfl⟩
  |succ n ih=>exact⟨none,_,rfl,ih⟩
 |d::ds,vs,r=>by
  rw[Reps]at r;obtain⟨y,ys,e,r1,r2⟩:=r;subst e;exact⟨some y,_,rfl,y,[],[],rfl,rfl,kl.mpr ⟨r1,rfl⟩,jx n r2⟩
theorem di{P:Program}{w:World}{K:W.Frag}{mg:Str->Option Value}{base:Heap}{x:Str}{st:Stmt}{N ps:List Str}{k:Nat}{g:FS}(Df:Def K mg x st)(sc:FnScope N ps (defScope st))
  (hb:∀(kV doc pm:Value) (an:Option Addr) (Hs ct:Value) (us:List Value),us.length=ps.length->bindArgs (PySem.W.fnOf x x (f9 st) (dE st) (defScope st) .none kV doc pm an Hs ct) ⟨us,[]⟩=pure (ps.zip us))
  (body:∀(f:Addr) (Hs:Value) (A:Around) (outer:List PySem.Env) (s:Shared) (H:Hp) (E:XK),Room k (A.deeper (envOfC x (defScope st) s.heap.objs.size f Hs))->MP (md:=.plain) (sT MI P w K mg base N x (defScope st) f Hs A outer s H E).nox (dE st) g):
  Ct P w K mg base x (k+1) (spF K (fBody ps.length (N.length-ps.length) g)):=by
 obtain⟨f,fd,F,m⟩:=Df;refine⟨f,fd,ps,F.ok sc (fun vs H Q E h=>?_) (fun Hs A outer s H vs Q E hr h=>?_),m,F.kp,F.binds hb⟩
 ·obtain⟨G,ds,r,_,rs,e,_⟩:=h;unfold fBody at e;split at e
  ·rename_i hl;rw[rs.length,hl]
  ·cases e
 ·obtain⟨G,ds,r,gh,rs,e,q⟩:=h;unfold fBody at e;split at e
  ·rename_i hl;refine⟨_,body f Hs A outer s H E hr,G,ds.map (fun d=>some (O.f,d))++List.replicate (N.length-ps.length) none,[],⟨?_,Vm,(fun _ h=>nomatch h),gh⟩,?_⟩
   ·have:=jx (K:=K) (G:=G) (H:=H) (N.length-ps.length) rs;unfold L2.start;rw[rs.length,hl];exact this
   ·obtain⟨o,eo,e⟩:=ar e;rw[eo];cases o with
    |rt r'=>
     cases e;exact fun v H' G' G9 st rel=>q v H' G' G9 st rel
    |nx env'=>
     cases e;exact fun σ' H' G' G9 st rel=>q .non H' G' [] (st.trans (Step.cut fun _ h=>nomatch h)) (rel.nilF.push lu)
    |bk env'=>cases e
    |ct env'=>cases e
  ·cases e
def fg(ix:List (Option Nat))(env:PV.Env):PV.Env:=ix.map fun j=>j.bind fun j=>match env[j]? with
 |some (some r)=>some (O.f,r.2)
 |_=>none
def dD:FT:=fun env=>.ok (true,env)
def cC(a:FG)(c:FT)(f:FX):List D->PV.Env->Res (List D)
 |[],_=>.ok []
 |d::ds,env=>(a d env).bind fun e=>(c e).bind fun p=>if p.1 then(f p.2).bind fun q=>(cC a c f ds q.2).bind fun rs=>.ok (q.1.2::rs) else cC a c f ds p.2
def cx(fi:FI)(ix:List (Option Nat))(a:FG)(c:FT)(f:FX):FX:=fun env=>(fi env).bind fun p=>(cC a c f p.1 (fg ix p.2)).bind fun ds=>if ds.length<=sizeLine then .ok ((.l .f,.lst ds),if flatDs ds then p.2 else p.2.map frz) else .bad
theorem nP:∀ds,ds.all (cT .f)=flatDs ds
 |[]=>rfl
 |d::ds=>by rw[Xg,flatDs,nP ds,cT]
theorem gZ{K:W.Frag}{G1 H:Hp}{es:PV.Env}{σ:L2.St}(ht:∀(i:Nat) (r:R) (v:V),es[i]?=some (some r)->σ[i]?=some (some v)->Rep K G1 r.2 v)(hv:∀(i:Nat) (r:R),es[i]?=some (some r)->∃v,σ[i]?=some (some v)):
  ∀ix:List (Option Nat),RepE K G1 H (fg ix es) (mL ix σ) []
 |[]=>⟨rfl,rfl⟩
 |none::ix=>⟨none,_,rfl,gZ ht hv ix⟩
 |some j::ix=>by
  show RepE K G1 H ((match es[j]? with|some (some r)=>some (O.f,r.2)|_=>none)::fg ix es) ((σ[j]?).bind id::mL ix σ) [];cases e:es[j]? with
  |none=>exact⟨_,_,rfl,gZ ht hv ix⟩
  |some r=>
   cases r with
   |none=>exact⟨_,_,rfl,gZ ht hv ix⟩
   |some r=>
    obtain⟨v,ev⟩:=hv j r e;refine⟨_,_,rfl,v,[],[],?_,rfl,kl.mpr ⟨ht j r v e ev,rfl⟩,gZ ht hv ix⟩;rw[ev];rfl
section
variable{md:Mode}{X:Cx}{scope:Scope}{N:List Str}{tg iter elt:Expr}{ifs:List Expr}{pos:Pos}{fi:FI}{a:FG}{c:FT}{f:FX}
def RJ(X:Cx)(ifs:List Expr)(c:FT):Prop:=P4 X ifs (tQT X.K c)
theorem ba:RJ X [] dD:=fun pi s σ H Q I Hg=>by
 obtain⟨G,env,fp,b,env',rel,e,k⟩:=Hg;cases e;exact zq pi s σ H Q I (k H G fp .refl rel)
theorem z8{t:Expr}(h:QT X t c):RJ X [t] c:=zt h
end
section
variable{X:Cx}
inductive rCatS(K:W.Frag)(x:V)(y:V)(H:Hp)(Q:VK):Prop
 |mk:∀l b xs zs,x=.ref l->y=.ref b->SqL K H l xs->SqL K H b zs->xs.length+zs.length<=sizeLine->(∀p,H p=none->Q (.ref p) (upd H p (.lst (xs++zs))))->rCatS K x y H Q
theorem z9:HS X (binaryOp .Add) (rCatS X.K):=by
 intro pi s σ H x y v u Q I rx ry h;obtain⟨l,b,xs,zs,rfl,rfl,hH,hB,hz,q⟩:=h;cases rx;cases ry;obtain⟨GU,r1,p1,_⟩:=I.list hH;obtain⟨Mh,r2,p2,_⟩:=I.list hB;have l1:=r1.length;have l2:=r2.length;obtain⟨⟨cls,dd,data,sl⟩,ho,hc,n,hd⟩:=id p1.isList;obtain⟨⟨OS,Nm,data2,Nn⟩,Jc,JA,n2,hd2⟩:=id p2.isList;simp only at hc hd JA hd2;subst hc hd JA hd2;have e:GU.toArray++Mh.toArray=(GU++Mh).toArray:=by simp
 refine X9 ⟨_,ho,rfl⟩ ⟨_,Jc,rfl⟩ noFill_list_add seq_list_add PySem.F.slot_list_add PySem.F.entry_list_add (PySem.F.args_list_add_2 _ _) (list_addW l b GU.toArray Mh.toArray n n2 dd Nm sl Nn (by rw[Uo,Uo];lia)) ⟨ho,Jc,?_⟩;rw[e];exact⟨.ref _,_,I.lnew (t':=s.toks) (r1.append r2) (by rw[Vb];lia),rfl,q _ I.fresh⟩
end
noncomputable def addD:D->D->Res R
 | .int i,.int j=>.ok (.f,.int (i+j))
 | .str a,.str b=>if a.length+b.length<=sizeLine then .ok (.f,.str (a++b)) else .bad
 | .lst a,.lst b=>if a.length+b.length<=sizeLine then .ok (.l .f,.lst (a++b)) else .bad
 | .tup a,.tup b=>if a≠[]/\a.length+b.length<=sizeLine then .ok (.f,.tup (a++b)) else .bad
 |_,_=>.bad
section
variable{X:Cx}
theorem nQ{K:W.Frag}{G H:Hp}{fp:List Addr}{es:PV.Env}{vs:L2.St}{ds:List D}{xs:List V}{p:Addr}(rel:Rel K G H es vs fp)(hp:H p=none)(r:Reps K G ds xs):
  ∃G',Rel K G' (upd H p (.tup xs)) (some (.f,.tup ds)::es) (some (.ref p)::vs) fp/\Step G H fp G' (upd H p (.tup xs)) fp:=by
 obtain⟨GS,Hd⟩:=rel.newF (u:=.tup xs) hp;refine⟨_,GS.push ?_,Hd⟩;rw[Rep];exact⟨p,xs,rfl,bU,r.mono Hd.gg⟩
theorem Cy:HS X (binaryOp .Add) (rG X.K addD):=by
 rintro pi s σ H x y v u Q I rx ry ⟨G,fp,es,vs,a,b,r,⟨rel,k⟩,va,vb,e⟩;unfold addD at e;split at e
 ·rename_i i j;cases e;cases bS va;cases bS vb;exact yk pi s σ H _ _ v u Q I rx ry ⟨i,j,rfl,rfl,k _ H G fp .refl (rel.push (bh _))⟩
 ·rename_i i j;split at e
  ·rename_i hl;cases e;obtain⟨e1,h1⟩:=gW va;obtain⟨e2,h2⟩:=gW vb;subst e1;subst e2;refine sR pi s σ H _ _ v u Q I rx ry ⟨_,_,rfl,rfl,by rw[mw,mw];exact hl,?_⟩;rw[EF];exact k _ H G fp .refl (rel.push (i6 (by rw[Vb];exact hl)))
  ·cases e
 ·rename_i i j;split at e
  ·rename_i hl;cases e;obtain⟨p,xs,e1,h1,r1⟩:=va;obtain⟨p2,OG,e2,h2,r2⟩:=vb;subst e1;subst e2;refine z9 pi s σ H _ _ v u Q I rx ry ⟨p,p2,xs,OG,rfl,rfl,h1,h2,by rw[r1.length,r2.length];exact hl,fun q hq=>?_⟩;obtain⟨GS,Hd⟩:=rel.newL hq (r1.app r2);exact k _ _ G _ Hd GS
  ·cases e
 ·rename_i i j;split at e
  ·rename_i hl;cases e;obtain⟨p,xs,e1,h1,r1⟩:=iQ va;obtain⟨p2,OG,e2,h2,r2⟩:=iQ vb;subst e1;subst e2;have hx:xs≠[]:=fun z=>hl.1 (Vs (by rw[<-r1.length,z];rfl))
   refine zh pi s σ H _ _ v u Q I rx ry ⟨p,p2,xs,OG,rfl,rfl,b5 rel.gh h1,b5 rel.gh h2,hx,by rw[r1.length,r2.length];exact hl.2,fun z=>?_,fun z q hq=>?_⟩
   ·have:j=[]:=Vs (by rw[<-r2.length,z];rfl);subst this;rw[Vd]at k;exact k _ H G fp .refl (rel.push va)
   ·obtain⟨G',GS,Hd⟩:=nQ rel hq (r1.app r2);exact k _ _ G' _ Hd GS
  ·cases e
 ·cases e
def pA:D->D->Res R
 | .int i,.int j=>.ok (.f,.int (i-j))
 |_,_=>.bad
theorem jy:HS X (binaryOp .Sub) (rG X.K pA):=by
 rintro pi s σ H x y v u Q I rx ry ⟨G,fp,es,vs,a,b,r,⟨rel,k⟩,va,vb,e⟩;unfold pA at e;split at e
 ·rename_i i j;cases e;cases bS va;cases bS vb;exact BX pi s σ H _ _ v u Q I rx ry ⟨i,j,rfl,rfl,k _ H G fp .refl (rel.push (bh _))⟩
 ·cases e
def cE(i:Int):Bool:=decide (-(2 ^ 64)<i/\i<2 ^ 64)
def EU:D->D->Res R
 | .int i,.int j=>if cE i||cE j then .ok (.f,.int (i*j)) else .bad
 |_,_=>.bad
theorem Cz:HS X (binaryOp .Mult) (rG X.K EU):=by
 rintro pi s σ H x y v u Q I rx ry ⟨G,fp,es,vs,a,b,r,⟨rel,k⟩,va,vb,e⟩;unfold EU at e;split at e
 ·rename_i i j;split at e
  ·rename_i hc;cases e;cases bS va;cases bS vb;have hc:CMul i j:=by
    rw[Wx]at hc;exact hc.imp VA VA
   exact BY pi s σ H _ _ v u Q I rx ry ⟨i,j,rfl,rfl,hc,k _ H G fp .refl (rel.push (bh _))⟩
  ·cases e
 ·cases e
def dO:D->D->Res R
 | .int i,.int j=>if 0<j/\j<1073741824 then .ok (.f,.int (i / j)) else .bad
 |_,_=>.bad
theorem bY:HS X (binaryOp .FloorDiv) (rG X.K dO):=by
 rintro pi s σ H x y v u Q I rx ry ⟨G,fp,es,vs,a,b,r,⟨rel,k⟩,va,vb,e⟩;unfold dO at e;split at e
 ·rename_i i j;split at e
  ·rename_i hc;cases e;cases bS va;cases bS vb;exact y9 pi s σ H _ _ v u Q I rx ry ⟨i,j,rfl,rfl,hc,k _ H G fp .refl (rel.push (bh _))⟩
  ·cases e
 ·cases e
def eW:D->D->Res R
 | .int i,.int j=>if 0<j then .ok (.f,.int (i%j)) else .bad
 |_,_=>.bad
theorem bD:HS X (binaryOp .Mod) (rG X.K eW):=by
 rintro pi s σ H x y v u Q I rx ry ⟨G,fp,es,vs,a,b,r,⟨rel,k⟩,va,vb,e⟩;unfold eW at e;split at e
 ·rename_i i j;split at e
  ·rename_i hc;cases e;cases bS va;cases bS vb;exact BZ pi s σ H _ _ v u Q I rx ry ⟨i,j,rfl,rfl,hc,k _ H G fp .refl (rel.push (bh _))⟩
  ·cases e
 ·cases e
def qw:D->D->Res R
 | .int i,.int j=>if 0<=j/\j<=1000000/\i.natAbs<2 ^ 64 then .ok (.f,.int (i ^ j.toNat)) else .bad
 |_,_=>.bad
theorem rM:HS X (binaryOp .Pow) (rG X.K qw):=by
 rintro pi s σ H x y v u Q I rx ry ⟨G,fp,es,vs,a,b,r,⟨rel,k⟩,va,vb,e⟩;unfold qw at e;split at e
 ·rename_i i j;split at e
  ·rename_i hc;cases e;cases bS va;cases bS vb;exact B0 pi s σ H _ _ v u Q I rx ry ⟨i,j,rfl,rfl,hc,k _ H G fp .refl (rel.push (bh _))⟩
  ·cases e
 ·cases e
def P5:D->D->Res R
 | .int i,.int j=>.ok (.f,.bl (decide (i<j)))
 | .str a,.str b=>.ok (.f,.bl (decide (a<b)))
 |_,_=>.bad
theorem EV:HS X (compareOp .Lt) (rG X.K P5):=by
 rintro pi s σ H x y v u Q I rx ry ⟨G,fp,es,vs,a,b,r,⟨rel,k⟩,va,vb,e⟩;unfold P5 at e;split at e
 ·rename_i i j;cases e;cases bS va;cases bS vb;exact Ex pi s σ H _ _ v u Q I rx ry ⟨i,j,rfl,rfl,k _ H G fp .refl (rel.push (dq _))⟩
 ·rename_i i j;cases e;obtain⟨e1,h1⟩:=gW va;obtain⟨e2,h2⟩:=gW vb;subst e1;subst e2;refine ux pi s σ H _ _ v u Q I rx ry ⟨_,_,rfl,rfl,?_⟩;rw[fe,fe];exact k _ H G fp .refl (rel.push (dq _))
 ·cases e
def leD:D->D->Res R
 | .int i,.int j=>.ok (.f,.bl (decide (i<=j)))
 | .str a,.str b=>.ok (.f,.bl (!decide (b<a)))
 |_,_=>.bad
def RK:D->D->Res R
 | .int i,.int j=>.ok (.f,.bl (decide (j<i)))
 |_,_=>.bad
theorem EW:HS X (compareOp .Gt) (rG X.K RK):=by
 rintro pi s σ H x y v u Q I rx ry ⟨G,fp,es,vs,a,b,r,⟨rel,k⟩,va,vb,e⟩;unfold RK at e;split at e
 ·rename_i i j;cases e;cases bS va;cases bS vb;exact Ey pi s σ H _ _ v u Q I rx ry ⟨i,j,rfl,rfl,k _ H G fp .refl (rel.push (dq _))⟩
 ·cases e
def geD:D->D->Res R
 | .int i,.int j=>.ok (.f,.bl (decide (j<=i)))
 |_,_=>.bad
end
abbrev FDs:=PV.Env->Res (List D×PV.Env)
inductive tDs(K:W.Frag)(f:FDs)(σ:L2.St)(H:Hp)(Q:List V->Hp->Prop):Prop
 |mk:∀G env fp ds env',Rel K G H env σ fp->f env=.ok (ds,env')->(∀vs H' G' G9,Step G H fp G' H' G9->Rel K G' H' env' σ G9->Reps K G' ds vs->Q vs H')->tDs K f σ H Q
def QH(X:Cx)(es:List Expr)(f:FDs):Prop:=PA X es (tDs X.K f)
def bH:FDs:=fun env=>.ok ([],env)
def aJ(f:FX)(g:FDs):FDs:=fun env=>(f env).bind fun p=>(g p.2).bind fun q=>.ok (p.1.2::q.1,q.2)
section
variable{X:Cx}
theorem aM:QH X [] bH:=mP gU fun σ H Q Hg=>by
 obtain⟨G,env,fp,o,env',rel,e,k⟩:=Hg;cases e;exact k [] H G fp .refl rel .nil
theorem au{e:Expr}{es:List Expr}{f:FX}{g:FDs}(h:QE X e f)(hs:QH X es g)(Lp:starEach (e::es) X.env=(false,eval e X.env)::starEach es X.env:=by rfl):QH X (e::es) (aJ f g):=
 mP (cI h hs Lp) fun σ H Q Hg=>by
  obtain⟨G,env,fp,o,env',rel,e,k⟩:=Hg;obtain⟨⟨r,GQ⟩,e1,e⟩:=ar e;obtain⟨⟨ds,Ha⟩,e2,e⟩:=ar e;cases e;refine⟨G,env,fp,r,GQ,rel,e1,fun v H1 G1 Hn Hi GW=>?_⟩;obtain⟨G2,b,rv,GS,Hd⟩:=GW.freeze;exact⟨G2,GQ,b,ds,Ha,GS,e2,fun vs H3 G3 JB Hy Ht rs=>k _ H3 G3 JB (Hi.trans (Hd.trans Hy)) Ht (.cons (Rep.mono Hy.gg rv) rs)⟩
def jl(fs:FDs):FX:=fun env=>(fs env).bind fun p=>if p.1.length<=1000 then .ok ((.f,.tup p.1),p.2) else .bad
def kW(fs:FDs):FX:=fun env=>(fs env).bind fun p=>if p.1.length<=1000 then .ok ((.l .f,.lst p.1),p.2) else .bad
variable{es:List Expr}{fs:FDs}{pos:Pos}
theorem cF{x1}(h:QH X es fs):QE X (.Tuple es x1 pos) (jl fs):=bN (uB h) fun σ H Q Hg=>by
 obtain⟨G,env,fp,r,env',rel,e,k⟩:=Hg;obtain⟨⟨ds,GQ⟩,e1,e⟩:=ar e;dsimp only at e;split at e
 ·rename_i hl;cases e;refine⟨G,env,fp,ds,env',rel,e1,fun vs H1 G1 Hn Hi GW rs=>⟨by rw[rs.length,line_eq];lia,fun p hp=>?_⟩⟩;obtain⟨G2,GS,Hd⟩:=nQ GW hp rs;exact k _ _ G2 _ (Hi.trans Hd) GS
 ·cases e
theorem cU(h:QH X es fs):QE X (.List es pos) (kW fs):=bN (B1 h) fun σ H Q Hg=>by
 obtain⟨G,env,fp,r,env',rel,e,k⟩:=Hg;obtain⟨⟨ds,GQ⟩,e1,e⟩:=ar e;dsimp only at e;split at e
 ·rename_i hl;cases e;refine⟨G,env,fp,ds,env',rel,e1,fun vs H1 G1 Hn Hi GW rs=>⟨by rw[rs.length,line_eq];lia,fun p hp=>?_⟩⟩;obtain⟨GS,Hd⟩:=GW.newL hp rs;exact k _ _ G1 _ (Hi.trans Hd) GS
 ·cases e
noncomputable def Hf:D->D->Res R
 | .lst ds,.int i=>match Ik ds i with
  |some d=>.ok (.f,d)
  |none=>.bad
 | .tup ds,.int i=>match Ik ds i with
  |some d=>.ok (.f,d)
  |none=>.bad
 | .str l,.int i=>match Ik l i with
  |some c=>.ok (.f,.str [c])
  |none=>.bad
 |_,_=>.bad
theorem nR{K:W.Frag}{G:Hp}{ds:List D}{xs:List V}{i:Int}{d:D}(r:Reps K G ds xs)(e:Ik ds i=some d):∃v,Ik xs i=some v/\Rep K G d v:=by
 unfold Ik at e ⊢;rw[r.length];cases hn:ixN ds.length i with
 |none=>rw[hn]at e;cases e
 |some j=>
  rw[hn]at e;exact r.get e
theorem EX:Ql X (rG X.K Hf):=by
 rintro value slice pi s σ H x y v u Q I rx ry ⟨G,fp,es,vs,a,b,r,⟨rel,k⟩,va,vb,e⟩ hs;unfold Hf at e;split at e
 ·rename_i ds i;split at e
  ·rename_i d hd;cases e;obtain⟨p,xs,ev,sq,rs⟩:=va;subst ev;cases bS vb;obtain⟨w',hw,KU⟩:=nR rs hd;exact zi value slice pi s σ H _ _ v u Q I rx ry ⟨p,xs,i,w',rfl,rfl,sq,hw,k _ H G fp .refl (rel.push KU)⟩ hs
  ·cases e
 ·rename_i ds i;split at e
  ·rename_i d hd;cases e;obtain⟨p,xs,ev,sq,rs⟩:=iQ va;subst ev;cases bS vb;obtain⟨w',hw,KU⟩:=nR rs hd;exact B5 value slice pi s σ H _ _ v u Q I rx ry ⟨p,xs,i,w',rfl,rfl,b5 rel.gh sq,hw,k _ H G fp .refl (rel.push KU)⟩ hs
  ·cases e
 ·rename_i l i;split at e
  ·rename_i c hc;cases e;obtain⟨ev,hl⟩:=gW va;subst ev;cases bS vb;refine B6 value slice pi s σ H _ _ v u Q I rx ry ⟨_,i,c,rfl,rfl,by rw[mw];exact hl,by rw[fe];exact hc,?_⟩ hs;exact k _ H G fp .refl (rel.push (i6 (l:=[c]) (by rw[line_eq];simp)))
  ·cases e
 ·cases e
variable{a b:Expr}{fa fb:FO}
theorem aR(ha:QO X a fa)(hb:QO X b fb)(hs:uI b:=by exact fun _ _=>rfl):QE X (.Subscript a b pos) (aB Hf fa fb):=bN (EC EX ha hb hs) fun _ _ _=>vq
abbrev FP:=PV.Env->Res (Option Int×PV.Env)
inductive tQP(K:W.Frag)(f:FP)(σ:L2.St)(H:Hp)(Q:Option Int->Hp->Prop):Prop
 |mk:∀G env fp i env',Rel K G H env σ fp->f env=.ok (i,env')->(∀H' G' G9,Step G H fp G' H' G9->Rel K G' H' env' σ G9->Q i H')->tQP K f σ H Q
def QP(X:Cx)(e:Option Expr)(f:FP):Prop:=PO X e (tQP X.K f)
def tw:FP:=fun env=>.ok (none,env)
def lx(f:FX):FP:=fun env=>(f env).bind fun p=>match p.1.2 with
 | .int i=>.ok (some i,p.2)
 |_=>.bad
theorem yF{X:Cx}{e:Option Expr}{t t':TO}(h:PO X e t)(k:∀σ H Q,t' σ H Q->t σ H Q):PO X e t':=fun pi s σ H Q I w=>h pi s σ H Q I (k σ H Q w)
theorem nS:QP X none tw:=yF zf fun σ H Q Hg=>by
 obtain⟨G,env,fp,i,env',rel,e,k⟩:=Hg;cases e;exact k H G fp .refl rel
theorem gj{e:Expr}{f:FX}(h:QE X e f):QP X (some e) (lx f):=yF (zg h) fun σ H Q Hg=>by
 obtain⟨G,env,fp,i,env',rel,e,k⟩:=Hg;obtain⟨⟨⟨o,d⟩,GQ⟩,e1,e⟩:=ar e;dsimp only at e;split at e
 ·rename_i j;cases e;refine⟨G,env,fp,_,_,rel,e1,fun v H1 G1 Hn Hi GW=>?_⟩;have hv:=GW.top;obtain⟨b,GS,Hd⟩:=GW.drop;exact⟨j,bG hv,k H1 G1 b (Hi.trans Hd) GS⟩
 ·cases e
def jz{α:Type}(xs:List α)(lo hi:Option Int):List α:=(xs.drop (HT.sIx xs.length 0 lo)).take (HT.sIx xs.length xs.length hi-HT.sIx xs.length 0 lo)
noncomputable def QJ(k:D)(lo hi:Option Int):Res R:=match k with
 | .lst ds=>.ok (.l .f,.lst (jz ds lo hi))
 | .tup ds=>if ¬ (HT.sIx ds.length 0 lo=0/\HT.sIx ds.length ds.length hi=ds.length) then .ok (.f,.tup (jz ds lo hi)) else .bad
 | .str l=>.ok (.f,.str (jz l lo hi))
 |_=>.bad
def eSl(fa:FO)(lo hi:FP):FX:=fun env=>(fa env).bind fun p=>(lo p.2).bind fun q=>(hi q.2).bind fun t=>(Iq t.2 p.1).bind fun d=>(QJ d q.1 t.1).bind fun r=>.ok (r,t.2)
theorem rN{K:W.Frag}{G:Hp}{ds:List D}{xs:List V}{lo hi:Option Int}(r:Reps K G ds xs):Reps K G (jz ds lo hi) (yn xs lo hi):=by
 unfold jz yn;rw[r.length];exact(r.drop _).take _
theorem Aa{α:Type}(xs:List α)(lo hi:Option Int):(jz xs lo hi).length<=xs.length:=by
 unfold jz;rw[U4,Wq];lia
inductive rSl(K:W.Frag)(x:V)(lo:Option Int)(hi:Option Int)(H:Hp)(Q:VK):Prop
 |mk:∀G fp es vs d r,Goes K H G fp es vs r Q->Vw K G H d x->QJ d lo hi=.ok r->rSl K x lo hi H Q
theorem CA:OT X (rSl X.K):=by
 rintro pi s σ H x v vl vu lo hi sl Q I rx hs pl pu ⟨G,fp,es,vs,d,r,⟨rel,k⟩,vd,e⟩;unfold QJ at e;split at e
 ·rename_i ds;cases e;obtain⟨p,xs,ev,sq,rs⟩:=vd;subst ev;refine zj pi s σ H _ v vl vu lo hi sl Q I rx hs pl pu ⟨p,xs,rfl,sq,fun q hq=>?_⟩;obtain⟨GS,Hd⟩:=rel.newL hq (rN (lo:=lo) (hi:=hi) rs);exact k _ _ G _ Hd GS
 ·rename_i ds;split at e
  ·rename_i hw;cases e;obtain⟨p,xs,ev,sq,rs⟩:=iQ vd;subst ev;refine B4 pi s σ H _ v vl vu lo hi sl Q I rx hs pl pu ⟨p,xs,rfl,b5 rel.gh sq,by rw[rs.length];exact hw,fun q hq=>?_⟩;obtain⟨G2,GS,Hd⟩:=nQ rel hq (rN (lo:=lo) (hi:=hi) rs);exact k _ _ G2 _ Hd GS
  ·cases e
 ·rename_i l;cases e;obtain⟨ev,hl⟩:=gW vd;subst ev;exact Cb pi s σ H _ v vl vu lo hi sl Q I rx hs pl pu ⟨l,rfl,hl,k _ H G fp .refl (rel.push (i6 (l:=Ca l lo hi) (Vh (Aa l lo hi) hl)))⟩
 ·cases e
def vF(env:PV.Env)(i:Nat):Bool:=match env[i]? with
 |some (some (_,.lst _))=>true
 |_=>false
theorem xH{K:W.Frag}{G H:Hp}{es:PV.Env}{σ:L2.St}{fp:List Addr}{i:Nat}(rel:Rel K G H es σ fp)(h:vF es i=true):∃v,σ[i]?=some (some v)/\Sg K "list" v H:=by
 unfold vF at h;split at h
 ·rename_i o ds hr;obtain⟨v,ev,rv⟩:=rel.view hr;obtain⟨p,xs,e,sq,_⟩:=bR rv;subst e;exact⟨_,ev,.inl ⟨rfl,xs,sq⟩⟩
 ·cases h
def nU(i:Nat)(f:FX):FX:=fun env=>if vF env i then(f env).bind fun p=>match p.2[i]? with
 |some (some (.l .f,.lst ds))=>if ds.length<sizeLine then .ok ((.f,.non),p.2.set i (some (.l .f,.lst (ds++[p.1.2])))) else .bad
 |_=>.bad
 else .bad
theorem bP{i:Nat}{o e:Expr}{f:FX}{apos Hj:Pos}(ho:PE X o (qj i))(he:QE X e f)
  (Iu:attributeBase o "append" X.env (eval o X.env)=eval o X.env:=by rfl)
  (JT:((backTo Hj (starEach [e] X.env)).all (fun x=>!x.1)&&(backToKw Hj (keywordEach [] X.env)).all (fun x=>x.1.isSome)&&decide ([e].length+([]:List Keyword).length+(if([]:List Keyword).isEmpty then 0 else 1)<30))=true:=by rfl)
  (Iv:(apos.endLine==Hj.line)=true:=by rfl) (hs:starEach [e] X.env=(false,eval e X.env)::starEach [] X.env:=by rfl) (HQ:(backTo Hj (starEach [] X.env)).any (·.1)=false:=by rfl):
  QE X (.Call (.Attribute o "append" apos) [e] [] Hj) (nU i f):=by
 refine bN (zk XM PySem.F.slot_list_append PySem.F.type_list_append oX ho (au he aM hs) Iu JT Iv hs HQ) fun σ H Q Hm=>?_
 obtain⟨G,env,fp,r,env',rel,e,k⟩:=Hm;unfold nU at e;split at e
 ·rename_i TJ;obtain⟨v,ev,ty⟩:=xH rel TJ;obtain⟨⟨r1,GQ⟩,e1,e⟩:=ar e;dsimp only at e;split at e
  ·rename_i ds Nz;split at e
   ·rename_i hl;cases e;refine⟨v,ev,ty,G,env,fp,[r1.2],GQ,rel,by show(f env).bind _=_;rw[e1];rfl,fun vs H1 G1 Hn Hi GW rs=>?_⟩;rw[Reps]at rs;obtain⟨y,ys,eys,ry,rn⟩:=rs;rw[Reps]at rn;subst rn;obtain⟨p,xs,ep,hp,QK,cg⟩:=GW.chg (ds':=ds++[r1.2]) Nz;rw[ev]at ep;cases ep;obtain⟨fq,GS,Hd⟩:=cg (xs++[y]) (QK.app (.one ry));exact⟨p,xs,y,rfl,eys,hp,by rw[QK.length];exact hl,k _ _ G1 fq (Hi.trans Hd) (GS.push lu)⟩
   ·cases e
  ·cases e
 ·cases e
def EY:List D->Res R
 |[.lst ds]=>.ok (.f,.int ds.length)
 |[.tup ds]=>.ok (.f,.int ds.length)
 |[.str l]=>.ok (.f,.int l.length)
 |_=>.bad
theorem ml{K:W.Frag}{G H:Hp}{d:D}{xs:List V}(h:OF K G H [d] xs):∃v,xs=[v]/\Vw K G H d v:=by
 obtain⟨y,ys,e,v1,e2⟩:=h;have e2:ys=[]:=e2;subst e2;exact⟨y,e,v1⟩
theorem FL{K:W.Frag}{G H:Hp}{d d':D}{xs:List V}(h:OF K G H [d,d'] xs):∃v w,xs=[v,w]/\Vw K G H d v/\Vw K G H d' w:=by
 obtain⟨y,ys,e,v1,h2⟩:=h;obtain⟨z,e2,v2⟩:=ml h2;subst e2;exact⟨y,z,e,v1,v2⟩
theorem CB:cX X (.builtin "len") (rC X.K EY):=by
 rintro pi s σ H xs us Q I rx ⟨G,fp,es,vs,ds,r,⟨rel,k⟩,vd,e⟩;unfold EY at e;split at e
 ·rename_i ds;cases e;obtain⟨v,ev,p,ys,ep,sq,rs⟩:=ml vd;subst ev;subst ep;refine ki pi s σ H _ us Q I rx ⟨p,ys,rfl,.inl sq,?_⟩;rw[rs.length];exact k _ H G fp .refl (rel.push (bh _))
 ·rename_i ds;cases e;obtain⟨v,ev,vt⟩:=ml vd;obtain⟨p,ys,ep,sq,rs⟩:=iQ vt;subst ev;subst ep;refine ki pi s σ H _ us Q I rx ⟨p,ys,rfl,.inr (b5 rel.gh sq),?_⟩;rw[rs.length];exact k _ H G fp .refl (rel.push (bh _))
 ·rename_i l;cases e;obtain⟨v,ev,vt⟩:=ml vd;obtain⟨ep,hl⟩:=gW vt;subst ev;subst ep;refine oV pi s σ H _ us Q I rx ⟨S l,rfl,by rw[mw];exact hl,?_⟩;rw[mw];exact k _ H G fp .refl (rel.push (bh _))
 ·cases e
def tF:List D->Res R
 |[.lst ds]=>.ok (.l .f,.lst ds)
 |[.tup ds]=>.ok (.l .f,.lst ds)
 |_=>.bad
theorem vG:cX X (.type "list") (rC X.K tF):=by
 rintro pi s σ H xs us Q I rx ⟨G,fp,es,vs,ds,r,⟨rel,k⟩,vd,e⟩;unfold tF at e;split at e
 ·rename_i ds;cases e;obtain⟨v,ev,p,ys,ep,sq,rs⟩:=ml vd;subst ev;subst ep;refine kj pi s σ H _ us Q I rx ⟨p,ys,rfl,.inl sq,fun q hq=>?_⟩;obtain⟨GS,Hd⟩:=rel.newL hq rs;exact k _ _ G _ Hd GS
 ·rename_i ds;cases e;obtain⟨v,ev,vt⟩:=ml vd;obtain⟨p,ys,ep,sq,rs⟩:=iQ vt;subst ev;subst ep;refine kj pi s σ H _ us Q I rx ⟨p,ys,rfl,.inr (b5 rel.gh sq),fun q hq=>?_⟩;obtain⟨GS,Hd⟩:=rel.newL hq rs;exact k _ _ G _ Hd GS
 ·cases e
def dt:List D->Res R
 |[.lst ds]=>.ok (.f,.tup ds)
 |[.tup ds]=>.ok (.f,.tup ds)
 |_=>.bad
theorem cp:cX X (.type "tuple") (rC X.K dt):=by
 rintro pi s σ H xs us Q I rx ⟨G,fp,es,vs,ds,r,⟨rel,k⟩,vd,e⟩;unfold dt at e;split at e
 ·rename_i ds;cases e;obtain⟨v,ev,p,ys,ep,sq,rs⟩:=ml vd;subst ev;subst ep;refine jo pi s σ H _ us Q I rx ⟨p,ys,rfl,.inl ⟨sq,fun q hq=>?_⟩⟩;obtain⟨G2,GS,Hd⟩:=nQ rel hq rs;exact k _ _ G2 _ Hd GS
 ·rename_i ds;cases e;obtain⟨v,ev,vt⟩:=ml vd;obtain⟨p,ys,ep,sq,rs⟩:=iQ vt;subst ev;subst ep;exact jo pi s σ H _ us Q I rx ⟨p,ys,rfl,.inr ⟨b5 rel.gh sq,k _ H G fp .refl (rel.push vt)⟩⟩
 ·cases e
def mD:List D->Option (List Bool)
 |[]=>some []
 | .bl b::ds=>(mD ds).map (b:: ·)
 |_=>none
def du:List D->Option (List Int)
 |[]=>some []
 | .int b::ds=>(du ds).map (b:: ·)
 |_=>none
theorem j0{K:W.Frag}{G:Hp}:∀{ds:List D}{bs:List Bool}{xs:List V},mD ds=some bs->Reps K G ds xs->xs=bs.map V.bl
 |[],_,_,e,r=>by
  cases e;rw[Reps]at r;exact r
 | .bl b::ds,_,_,e,r=>by
  rw[mD,UX]at e;obtain⟨bs,e1,e2⟩:=e;subst e2;rw[Reps]at r;obtain⟨y,ys,e3,r1,r2⟩:=r;rw[e3,dC r1,j0 e1 r2];rfl
 | .non::_,_,_,e,_ | .int _::_,_,_,e,_ | .str _::_,_,_,e,_ | .tup _::_,_,_,e,_ | .lst _::_,_,_,e,_ | .dct _ _ _::_,_,_,e,_=>by simp[mD]at e
theorem i7{K:W.Frag}{G:Hp}:∀{ds:List D}{bs:List Int}{xs:List V},du ds=some bs->Reps K G ds xs->xs=bs.map V.int
 |[],_,_,e,r=>by
  cases e;rw[Reps]at r;exact r
 | .int b::ds,_,_,e,r=>by
  rw[du,UX]at e;obtain⟨bs,e1,e2⟩:=e;subst e2;rw[Reps]at r;obtain⟨y,ys,e3,r1,r2⟩:=r;rw[e3,bG r1,i7 e1 r2];rfl
 | .non::_,_,_,e,_ | .bl _::_,_,_,e,_ | .str _::_,_,_,e,_ | .tup _::_,_,_,e,_ | .lst _::_,_,_,e,_ | .dct _ _ _::_,_,_,e,_=>by simp[du]at e
theorem mS(ns:List Int):du (ns.map D.int)=some ns:=by
 induction ns with
 |nil=>rfl
 |cons n ns ih=>rw[UH,du,ih];rfl
theorem pB(ns:List Bool):mD (ns.map D.bl)=some ns:=by
 induction ns with
 |nil=>rfl
 |cons n ns ih=>rw[UH,mD,ih];rfl
def mn:D->Option (List D)
 | .lst ds=>some ds
 | .tup ds=>some ds
 |_=>none
theorem qx{K:W.Frag}{G H:Hp}{d:D}{ds:List D}{v:V}(gh:Same G H)(e:mn d=some ds)(h:Vw K G H d v):∃p xs,v=.ref p/\(SqL K H p xs\/SqT K H p xs)/\Reps K G ds xs:=by
 cases d with
 |lst es=>
  cases e;obtain⟨p,xs,ev,sq,rs⟩:=h;exact⟨p,xs,ev,.inl sq,rs⟩
 |tup es=>
  cases e;obtain⟨p,xs,ev,sq,rs⟩:=bJ h;exact⟨p,xs,ev,.inr (b5 gh sq),rs⟩
 |_=>cases e
def CD:List D->Res R
 |[d]=>match(mn d).bind mD with
  |some bs=>.ok (.f,.bl (bs.all id))
  |none=>.bad
 |_=>.bad
def Bt:List D->Res R
 |[d]=>match(mn d).bind mD with
  |some bs=>.ok (.f,.bl (bs.any id))
  |none=>.bad
 |_=>.bad
theorem rO(bs:List Bool):(bs.map V.bl).all D9=true:=by
 rw[Vi,UE];intro b _;rfl
theorem Ab(bs:List Bool):(bs.map V.bl).all yt=bs.all id:=by
 rw[Vi];rfl
theorem Ac(bs:List Bool):(bs.map V.bl).any yt=bs.any id:=by
 rw[VY];rfl
theorem CF(hc:X.calm=true):cX X (.builtin "all") (rC X.K CD):=by
 rintro pi s σ H xs us Q I rx ⟨G,fp,es,vs,ds,r,⟨rel,k⟩,vd,e⟩;unfold CD at e;split at e
 ·rename_i d;split at e
  ·rename_i bs hb;cases e;obtain⟨l,hl,hb⟩:=Vq.mp hb;obtain⟨v,ev,vt⟩:=ml vd;obtain⟨p,ys,ep,sq,rs⟩:=qx rel.gh hl vt;have:=j0 hb rs;subst this;subst ev;subst ep;refine xi hc pi s σ H _ us Q I rx ⟨p,_,rfl,sq,rO bs,?_⟩;rw[Ab];exact k _ H G fp .refl (rel.push (dq _))
  ·cases e
 ·cases e
theorem yG(hc:X.calm=true):cX X (.builtin "any") (rC X.K Bt):=by
 rintro pi s σ H xs us Q I rx ⟨G,fp,es,vs,ds,r,⟨rel,k⟩,vd,e⟩;unfold Bt at e;split at e
 ·rename_i d;split at e
  ·rename_i bs hb;cases e;obtain⟨l,hl,hb⟩:=Vq.mp hb;obtain⟨v,ev,vt⟩:=ml vd;obtain⟨p,ys,ep,sq,rs⟩:=qx rel.gh hl vt;have:=j0 hb rs;subst this;subst ev;subst ep;refine xj hc pi s σ H _ us Q I rx ⟨p,_,rfl,sq,rO bs,?_⟩;rw[Ac];exact k _ H G fp .refl (rel.push (dq _))
  ·cases e
 ·cases e
def CG:List D->Res R
 |[d]=>match(mn d).bind du with
  |some ns=>.ok (.f,.int ns.sum)
  |none=>.bad
 |_=>.bad
def maxD:List D->Res R
 |[d]=>match(mn d).bind du with
  |some (n::ns)=>.ok (.f,.int (fO (n::ns)))
  |_=>.bad
 |[.int i,.int j]=>.ok (.f,.int (if i<j then j else i))
 |_=>.bad
def minD:List D->Res R
 |[d]=>match(mn d).bind du with
  |some (n::ns)=>.ok (.f,.int (uR (n::ns)))
  |_=>.bad
 |_=>.bad
theorem g0{K:W.Frag}{G H:Hp}{d:D}{ns:List Int}{v:V}(gh:Same G H)(hb:(mn d).bind du=some ns)(vt:Vw K G H d v):∃p,v=.ref p/\(SqL K H p (ns.map V.int)\/SqT K H p (ns.map V.int)):=by
 obtain⟨l,hl,hb⟩:=Vq.mp hb;obtain⟨p,ys,ep,sq,rs⟩:=qx gh hl vt;have:=i7 hb rs;subst this;exact⟨p,ep,sq⟩
theorem CH(hc:X.calm=true):cX X (.builtin "sum") (rC X.K CG):=by
 rintro pi s σ H xs us Q I rx ⟨G,fp,es,vs,ds,r,⟨rel,k⟩,vd,e⟩;unfold CG at e;split at e
 ·rename_i d;split at e
  ·rename_i ns hb;cases e;obtain⟨v,ev,vt⟩:=ml vd;obtain⟨p,ep,sq⟩:=g0 rel.gh hb vt;subst ev;subst ep;exact uU hc pi s σ H _ us Q I rx ⟨p,ns,rfl,sq,k _ H G fp .refl (rel.push (bh _))⟩
  ·cases e
 ·cases e
end
mutual
noncomputable def eqD:D->D->Bool
 | .non,.non=>true
 | .bl a,.bl b=>a==b
 | .bl a,.int j=>(if a then 1 else 0)==j
 | .int i,.bl b=>i==(if b then 1 else 0)
 | .int i,.int j=>i==j
 | .str a,.str b=>a==b
 | .tup a,.tup b=>j3 a b
 | .lst a,.lst b=>j3 a b
 |_,_=>false
noncomputable def j3:List D->List D->Bool
 |[],[]=>true
 |a::as,b::bs=>eqD a b&&j3 as bs
 |_,_=>false
end
mutual
noncomputable def plainD:Nat->D->Bool
 |n+1,.tup ds=>plainDs n ds
 |n+1,.lst ds=>plainDs n ds
 | 0,.tup _=>false
 | 0,.lst _=>false
 |_,.dct _ _ _=>false
 |_,_=>true
noncomputable def plainDs:Nat->List D->Bool
 |_,[]=>true
 |n,d::ds=>plainD n d&&plainDs n ds
end
theorem plainDs_mem:∀{n:Nat}{ds:List D},plainDs n ds=true->∀{i:Nat}{d:D},ds[i]?=some d->plainD n d=true
 |_,[],_,_,_,e=>by simp at e
 |n,a::ds,h,0,d,e=>by
  rw[plainDs,Uz]at h;simp at e;rw[<-e];exact h.1
 |n,a::ds,h,i+1,d,e=>by
  rw[plainDs,Uz]at h;exact plainDs_mem h.2 (i:=i) (by simpa using e)
theorem jA:∀{a b:List D},a.length≠b.length->j3 a b=false
 |[],[],h=>absurd rfl h
 |[],_::_,_=>by simp only[j3]
 |_::_,[],_=>by simp only[j3]
 |x::xs,y::ys,h=>by
  rw[j3,jA (fun e=>h (by simp[e])),Xt]
theorem fT:∀{a b:List D},a.length=b.length->(List.range a.length).all (fun j=>eqD (a.getD j .non) (b.getD j .non))=j3 a b
 |[],[],_=>rfl
 |[],_::_,h=>by simp at h
 |_::_,[],h=>by simp at h
 |x::xs,y::ys,h=>by
  rw[j3,<-fT (a:=xs) (b:=ys) (by simpa using h),UI,List.range_succ_eq_map,Xg,Vi];rfl
section
variable{X:Cx}{pi:List (Addr×Obj)}{σ:L2.St}{H:Hp}{s:Shared}
theorem ly(I:Inv X pi σ H s){p:Addr}{xs ys:List V}(h:SqL X.K H p xs)(h':SqT X.K H p ys):False:=by
 obtain⟨us,_,p1,_⟩:=I.list h;obtain⟨ws,_,p2,_⟩:=I.tuple h';exact SeqAt.ne_of_list_tuple p1.isList (show s.heap.IsTuple p ws.toArray from p2) rfl
mutual
theorem lz(I:Inv X pi σ H s):∀(d e:D) (x:V) (n:Nat),plainD n d=true->Rep X.K H d x->Rep X.K H e x->d=e
 | .non,e,x,n,_,r,q=>by
  cases cD r;cases e with
  |non=>rfl
  |bl b=>cases dC q
  |int i=>cases bG q
  |str l=>cases(bO q).1
  |tup l=>obtain⟨p,xs,ev,_⟩:=bJ q;cases ev
  |lst l=>obtain⟨p,xs,ev,_⟩:=bR q;cases ev
  |dct tk ks vs=>rw[Rep]at q;obtain⟨p,xs,o,ev,_⟩:=q;cases ev
 | .bl b,e,x,n,_,r,q=>by
  cases dC r;cases e with
  |non=>cases cD q
  |bl b=>cases dC q;rfl
  |int i=>cases bG q
  |str l=>cases(bO q).1
  |tup l=>obtain⟨p,xs,ev,_⟩:=bJ q;cases ev
  |lst l=>obtain⟨p,xs,ev,_⟩:=bR q;cases ev
  |dct tk ks vs=>rw[Rep]at q;obtain⟨p,xs,o,ev,_⟩:=q;cases ev
 | .int i,e,x,n,_,r,q=>by
  cases bG r;cases e with
  |non=>cases cD q
  |bl b=>cases dC q
  |int i=>cases bG q;rfl
  |str l=>cases(bO q).1
  |tup l=>obtain⟨p,xs,ev,_⟩:=bJ q;cases ev
  |lst l=>obtain⟨p,xs,ev,_⟩:=bR q;cases ev
  |dct tk ks vs=>rw[Rep]at q;obtain⟨p,xs,o,ev,_⟩:=q;cases ev
 | .str l,e,x,n,_,r,q=>by
  have hr:=(bO r).1;subst hr;cases e with
  |non=>cases cD q
  |bl b=>cases dC q
  |int i=>cases bG q
  |str l'=>
   have hq:=(bO q).1;injection hq with hq;rw[S_inj hq]
  |tup l=>obtain⟨p,xs,ev,_⟩:=bJ q;cases ev
  |lst l=>obtain⟨p,xs,ev,_⟩:=bR q;cases ev
  |dct tk ks vs=>rw[Rep]at q;obtain⟨p,xs,o,ev,_⟩:=q;cases ev
 | .tup l,e,x,n,h,r,q=>by
  obtain⟨p,xs,ev,sq,rs⟩:=bJ r;subst ev;cases e with
  |non=>cases cD q
  |bl b=>cases dC q
  |int i=>cases bG q
  |str l=>cases(bO q).1
  |tup l'=>
   obtain⟨p',Je,Jt,IJ,JN⟩:=bJ q;cases Jt;have:=I.tuple_inj sq IJ;subst this;cases n with
   |zero=>simp only[plainD]at h;cases h
   |succ n=>
    simp only[plainD]at h;rw[nV I l l' xs n h rs JN]
  |lst l'=>
   obtain⟨p',Je,Jt,IJ,JN⟩:=bR q;cases Jt;exact(ly I IJ sq).elim
  |dct tk ks vs=>
   exfalso;rw[Rep]at q;obtain⟨p',Je,o,Jt,rd,dd,_⟩:=q;cases Jt;obtain⟨GU,_,ip,_⟩:=I.tuple sq;obtain⟨ob,ho,hc,_⟩:=ip;have NK:=rd.ok I.hok;cases tk with
   |true=>
    obtain⟨GV,eo,_⟩:=dd;subst eo;obtain⟨_,_,_,_,o2,_,_,Jc,ex,_⟩:=NK;rw[ho]at Jc;cases Jc;rw[ex.1]at hc;exact absurd hc (by decide)
   |false=>
    obtain⟨GV,eo,_⟩:=dd;subst eo;obtain⟨_,_,_,_,o2,_,_,Jc,ex,_⟩:=NK;rw[ho]at Jc;cases Jc;rw[ex.1]at hc;exact absurd hc (by decide)
 | .lst l,e,x,n,h,r,q=>by
  obtain⟨p,xs,ev,sq,rs⟩:=bR r;subst ev;cases e with
  |non=>cases cD q
  |bl b=>cases dC q
  |int i=>cases bG q
  |str l=>cases(bO q).1
  |tup l'=>
   obtain⟨p',Je,Jt,IJ,JN⟩:=bJ q;cases Jt;exact(ly I sq IJ).elim
  |lst l'=>
   obtain⟨p',Je,Jt,IJ,JN⟩:=bR q;cases Jt;have:=I.list_inj sq IJ;subst this;cases n with
   |zero=>simp only[plainD]at h;cases h
   |succ n=>
    simp only[plainD]at h;rw[nV I l l' xs n h rs JN]
  |dct tk ks vs=>
   exfalso;rw[Rep]at q;obtain⟨p',Je,o,Jt,rd,dd,_⟩:=q;cases Jt;obtain⟨GU,_,ip,_⟩:=I.list sq;obtain⟨ob,_,ho,hc,_⟩:=ip;have NK:=rd.ok I.hok;cases tk with
   |true=>
    obtain⟨GV,eo,_⟩:=dd;subst eo;obtain⟨_,_,_,_,o2,_,_,Jc,ex,_⟩:=NK;rw[ho]at Jc;cases Jc;rw[ex.1]at hc;exact absurd hc (by decide)
   |false=>
    obtain⟨GV,eo,_⟩:=dd;subst eo;obtain⟨_,_,_,_,o2,_,_,Jc,ex,_⟩:=NK;rw[ho]at Jc;cases Jc;rw[ex.1]at hc;exact absurd hc (by decide)
 | .dct _ _ _,_,_,n,h,_,_=>by cases n <;> (simp only[plainD]at h;cases h)
theorem nV(I:Inv X pi σ H s):∀(ds es:List D) (xs:List V) (n:Nat),plainDs n ds=true->Reps X.K H ds xs->Reps X.K H es xs->ds=es
 |[],es,xs,n,_,r,q=>by
  rw[Reps]at r;subst r;cases es with
  |nil=>rfl
  |cons e es=>
   rw[Reps]at q;obtain⟨y,ys,ev,_⟩:=q;cases ev
 |d::ds,es,xs,n,h,r,q=>by
  rw[Reps]at r;obtain⟨y,ys,ev,r1,r2⟩:=r;subst ev;rw[plainDs,Uz]at h;cases es with
  |nil=>
   rw[Reps]at q;cases q
  |cons e es=>
   rw[Reps]at q;obtain⟨y',ys',ev,q1,q2⟩:=q;cases ev;rw[lz I d e y n h.1 r1 q1,nV I ds es ys n h.2 r2 q2]
end
mutual
theorem jB:∀(d:D) (n:Nat),plainD n d=true->eqD d d=true
 | .non,_,_=>by simp only[eqD]
 | .bl _,_,_=>by simp only[eqD,Ve]
 | .int _,_,_=>by simp only[eqD,Ve]
 | .str _,_,_=>by simp only[eqD,Ve]
 | .tup ds,0,h=>by simp only[plainD]at h;cases h
 | .tup ds,n+1,h=>by simp only[plainD]at h;simp only[eqD];exact lA ds n h
 | .lst ds,0,h=>by simp only[plainD]at h;cases h
 | .lst ds,n+1,h=>by simp only[plainD]at h;simp only[eqD];exact lA ds n h
 | .dct _ _ _,n,h=>by cases n <;> (simp only[plainD]at h;cases h)
theorem lA:∀(ds:List D) (n:Nat),plainDs n ds=true->j3 ds ds=true
 |[],_,_=>by simp only[j3]
 |d::ds,n,h=>by
  rw[plainDs,Uz]at h;rw[j3,jB d n h.1,lA ds n h.2];rfl
end
open PySem.SeqAt
theorem bV{n:Nat}{tk:Bool}{ks vs:List D}(h:plainD n (.dct tk ks vs)=true):False:=by cases n <;> (simp only[plainD]at h;cases h)
mutual
theorem Ad(I:Inv X pi σ H s):∀(d e:D) (x y:V) (v u:Value) (A:Around) (n:Nat),plainD n d=true->plainD n e=true->A.units+n<cLine->Rep X.K H d x->Rep X.K H e y->RelV x v->RelV y u->EqAt A s v u (eqD d e)
 | .non,e,x,y,v,u,A,n,h,h',hu,r,q,rx,ry=>by
  cases cD r;cases rx;cases e with
  |non=>cases cD q;cases ry;simp only[eqD];exact .same _
  |bl b=>cases dC q;cases ry;simp only[eqD];exact .none_bool _
  |int i=>cases bG q;obtain⟨t,rfl⟩:=ry;simp only[eqD];exact .none_int _ _
  |str l=>cases(bO q).1;obtain⟨t,rfl⟩:=ry;simp only[eqD];exact .none_str _ _
  |tup l=>obtain⟨p,xs,rfl,sq,_⟩:=bJ q;cases ry;obtain⟨GU,_,ip,_⟩:=I.tuple sq;simp only[eqD];exact .none_tuple (show s.heap.IsTuple p GU.toArray from ip) (by lia)
  |lst l=>obtain⟨p,xs,rfl,sq,_⟩:=bR q;cases ry;obtain⟨GU,_,ip,_⟩:=I.list sq;simp only[eqD];exact .none_list ip.isList (by lia)
  |dct tk ks vs=>exact(bV h').elim
 | .bl b,e,x,y,v,u,A,n,h,h',hu,r,q,rx,ry=>by
  cases dC r;cases rx;cases e with
  |non=>cases cD q;cases ry;simp only[eqD];exact .bool_none _
  |bl b=>cases dC q;cases ry;simp only[eqD];exact .bool_bool _ _
  |int i=>cases bG q;obtain⟨t,rfl⟩:=ry;simp only[eqD];exact .bool_int _ _ _
  |str l=>cases(bO q).1;obtain⟨t,rfl⟩:=ry;simp only[eqD];exact .bool_str _ _ _
  |tup l=>obtain⟨p,xs,rfl,sq,_⟩:=bJ q;cases ry;obtain⟨GU,_,ip,_⟩:=I.tuple sq;simp only[eqD];exact .bool_tuple _ (show s.heap.IsTuple p GU.toArray from ip) (by lia)
  |lst l=>obtain⟨p,xs,rfl,sq,_⟩:=bR q;cases ry;obtain⟨GU,_,ip,_⟩:=I.list sq;simp only[eqD];exact .bool_list _ ip.isList (by lia)
  |dct tk ks vs=>exact(bV h').elim
 | .int b,e,x,y,v,u,A,n,h,h',hu,r,q,rx,ry=>by
  cases bG r;obtain⟨t0,rfl⟩:=rx;cases e with
  |non=>cases cD q;cases ry;simp only[eqD];exact .int_none _ _
  |bl b=>cases dC q;cases ry;simp only[eqD];exact .int_bool _ _ _
  |int i=>cases bG q;obtain⟨t,rfl⟩:=ry;simp only[eqD];exact .int_int _ _ _ _
  |str l=>cases(bO q).1;obtain⟨t,rfl⟩:=ry;simp only[eqD];exact .int_str _ _ _ _
  |tup l=>obtain⟨p,xs,rfl,sq,_⟩:=bJ q;cases ry;obtain⟨GU,_,ip,_⟩:=I.tuple sq;simp only[eqD];exact .int_tuple _ _ (show s.heap.IsTuple p GU.toArray from ip) (by lia)
  |lst l=>obtain⟨p,xs,rfl,sq,_⟩:=bR q;cases ry;obtain⟨GU,_,ip,_⟩:=I.list sq;simp only[eqD];exact .int_list _ _ ip.isList (by lia)
  |dct tk ks vs=>exact(bV h').elim
 | .str b,e,x,y,v,u,A,n,h,h',hu,r,q,rx,ry=>by
  have hr:=(bO r).1;subst hr;obtain⟨t0,rfl⟩:=rx;cases e with
  |non=>cases cD q;cases ry;simp only[eqD];exact .str_none _ _
  |bl b=>cases dC q;cases ry;simp only[eqD];exact .str_bool _ _ _
  |int i=>cases bG q;obtain⟨t,rfl⟩:=ry;simp only[eqD];exact .str_int _ _ _ _
  |str l=>
   have hq:=(bO q).1;subst hq;obtain⟨t,rfl⟩:=ry;have e1:(b==l)=(S b==S l):=by
    rw[UP,UQ,UQ];exact⟨fun z=>by rw[z],S_inj⟩
   simp only[eqD,e1];exact .str_str _ _ _ _
  |tup l=>obtain⟨p,xs,rfl,sq,_⟩:=bJ q;cases ry;obtain⟨GU,_,ip,_⟩:=I.tuple sq;simp only[eqD];exact .str_tuple _ _ (show s.heap.IsTuple p GU.toArray from ip) (by lia)
  |lst l=>obtain⟨p,xs,rfl,sq,_⟩:=bR q;cases ry;obtain⟨GU,_,ip,_⟩:=I.list sq;simp only[eqD];exact .str_list _ _ ip.isList (by lia)
  |dct tk ks vs=>exact(bV h').elim
 | .tup l,e,x,y,v,u,A,n,h,h',hu,r,q,rx,ry=>by
  have rr:=r;obtain⟨p,xs,ev,sq,rs⟩:=bJ r;subst ev;cases rx;obtain⟨GU,vl,ip,_⟩:=I.tuple sq;have ip:s.heap.IsTuple p GU.toArray:=ip;cases e with
  |non=>cases cD q;cases ry;simp only[eqD];exact .tuple_none ip (by lia)
  |bl b=>cases dC q;cases ry;simp only[eqD];exact .tuple_bool _ ip (by lia)
  |int i=>cases bG q;obtain⟨t,rfl⟩:=ry;simp only[eqD];exact .tuple_int _ _ ip (by lia)
  |str l=>cases(bO q).1;obtain⟨t,rfl⟩:=ry;simp only[eqD];exact .tuple_str _ _ ip (by lia)
  |tup l'=>
   obtain⟨p',Je,Jt,IJ,JN⟩:=bJ q;subst Jt;cases ry;by_cases hp:p=p'
   ·subst hp;have hz:=lz I _ _ _ n h rr q;rw[<-hz,jB _ n h];exact .same _
   ·obtain⟨its',MQ,Jb,_⟩:=I.tuple IJ;have Jb:s.heap.IsTuple p' its'.toArray:=Jb;cases n with
    |zero=>simp only[plainD]at h;cases h
    |succ n=>
     simp only[plainD]at h h';have l1:=vl.length;have l2:=MQ.length;have l3:=rs.length;have l4:=JN.length;have key:=RcAt.tuples (A:=A) (e:=fun j=>eqD (l.getD j .non) (l'.getD j .non)) ip Jb (by lia) fun j h1 h2=>by
      simp only[Uo]at h1 h2;have g1:l[j]?=some (l[j]'(by lia)):=List.getElem?_eq_getElem _;have g2:l'[j]?=some (l'[j]'(by lia)):=List.getElem?_eq_getElem _;obtain⟨w1,Ly,Lz⟩:=rs.get g1;obtain⟨w2,MR,MS⟩:=JN.get g2;obtain⟨u1,JW,LA⟩:=vl.get Ly;obtain⟨u2,K1,MT⟩:=MQ.get MR;have q1:GU.toArray[j]=u1:=by rw[List.getElem?_eq_getElem h1]at JW;simpa using JW
      have q2:its'.toArray[j]=u2:=by rw[List.getElem?_eq_getElem h2]at K1;simpa using K1
      rw[q1,q2,List.getD_eq_getElem?_getD,List.getD_eq_getElem?_getD,g1,g2];exact pC I l j _ g1 _ w1 w2 u1 u2 A.in1 n (plainDs_mem h g1) (plainDs_mem h' g2) (by show A.units+1+n<cLine;lia) Lz MS LA MT
     simp only[eqD];have fin:((List.range (min GU.toArray.size its'.toArray.size)).all (fun j=>eqD (l.getD j .non) (l'.getD j .non))&&GU.toArray.size==its'.toArray.size)=j3 l l':=by
      simp only[Uo];by_cases hl:l.length=l'.length
      ·rw[<-fT hl,show min GU.length its'.length=l.length by lia,show(GU.length==its'.length)=true by rw[UQ];lia,XN]
      ·rw[jA hl,show(GU.length==its'.length)=false by rw[U7];lia,Xt]
     rw[<-fin];exact .of_refs hp key
  |lst l'=>obtain⟨p',Je,Jt,IJ,_⟩:=bR q;subst Jt;cases ry;obtain⟨its',_,Jb,_⟩:=I.list IJ;simp only[eqD];exact .tuple_list ip Jb.isList (by lia)
  |dct tk ks vs=>exact(bV h').elim
 | .lst l,e,x,y,v,u,A,n,h,h',hu,r,q,rx,ry=>by
  have rr:=r;obtain⟨p,xs,ev,sq,rs⟩:=bR r;subst ev;cases rx;obtain⟨GU,vl,ip,_⟩:=I.list sq;have ip:=ip.isList;cases e with
  |non=>cases cD q;cases ry;simp only[eqD];exact .list_none ip (by lia)
  |bl b=>cases dC q;cases ry;simp only[eqD];exact .list_bool _ ip (by lia)
  |int i=>cases bG q;obtain⟨t,rfl⟩:=ry;simp only[eqD];exact .list_int _ _ ip (by lia)
  |str l=>cases(bO q).1;obtain⟨t,rfl⟩:=ry;simp only[eqD];exact .list_str _ _ ip (by lia)
  |lst l'=>
   obtain⟨p',Je,Jt,IJ,JN⟩:=bR q;subst Jt;cases ry;by_cases hp:p=p'
   ·subst hp;have hz:=lz I _ _ _ n h rr q;rw[<-hz,jB _ n h];exact .same _
   ·obtain⟨its',MQ,Jb,_⟩:=I.list IJ;have Jb:=Jb.isList;cases n with
    |zero=>simp only[plainD]at h;cases h
    |succ n=>
     simp only[plainD]at h h';have l1:=vl.length;have l2:=MQ.length;have l3:=rs.length;have l4:=JN.length;simp only[eqD];by_cases hl:l.length=l'.length
     ·have key:=RcAt.lists (A:=A) (e:=fun j=>eqD (l.getD j .non) (l'.getD j .non)) ip Jb (by simp only[Uo];lia) (by lia) fun j h1 h2=>by
       simp only[Uo]at h1 h2;have g1:l[j]?=some (l[j]'(by lia)):=List.getElem?_eq_getElem _;have g2:l'[j]?=some (l'[j]'(by lia)):=List.getElem?_eq_getElem _;obtain⟨w1,Ly,Lz⟩:=rs.get g1;obtain⟨w2,MR,MS⟩:=JN.get g2;obtain⟨u1,JW,LA⟩:=vl.get Ly;obtain⟨u2,K1,MT⟩:=MQ.get MR;have q1:GU.toArray[j]=u1:=by rw[List.getElem?_eq_getElem h1]at JW;simpa using JW
       have q2:its'.toArray[j]=u2:=by rw[List.getElem?_eq_getElem h2]at K1;simpa using K1
       rw[q1,q2,List.getD_eq_getElem?_getD,List.getD_eq_getElem?_getD,g1,g2];exact pC I l j _ g1 _ w1 w2 u1 u2 A.in1 n (plainDs_mem h g1) (plainDs_mem h' g2) (by show A.units+1+n<cLine;lia) Lz MS LA MT
      rw[<-fT hl,show l.length=GU.toArray.size by simp only[Uo];lia];exact .of_refs hp key
     ·rw[jA hl];exact .of_refs hp (RcAt.lists_lengths ip Jb (by simp only[Uo,bne_iff_ne];lia) (by lia))
  |tup l'=>obtain⟨p',Je,Jt,IJ,_⟩:=bJ q;subst Jt;cases ry;obtain⟨its',_,Jb,_⟩:=I.tuple IJ;simp only[eqD];exact .list_tuple ip (show s.heap.IsTuple p' its'.toArray from Jb) (by lia)
  |dct tk ks vs=>exact(bV h').elim
 | .dct _ _ _,_,_,_,_,_,_,n,h,_,_,_,_,_,_=>(bV h).elim
theorem pC(I:Inv X pi σ H s):∀(ds:List D) (j:Nat) (d:D),ds[j]?=some d->∀(e:D) (x y:V) (v u:Value) (A:Around) (n:Nat),plainD n d=true->plainD n e=true->A.units+n<cLine->Rep X.K H d x->Rep X.K H e y->RelV x v->RelV y u->EqAt A s v u (eqD d e)
 |[],_,_,hj=>by simp at hj
 |d'::ds,0,d,hj=>by
  simp at hj;subst hj;exact Ad I d'
 |d'::ds,j+1,d,hj=>pC I ds j d (by simpa using hj)
end
end
section
variable{X:Cx}
def Ir(a b:D):Res R:=if plainD 40 a&&plainD 40 b then .ok (.f,.bl (eqD a b)) else .bad
def Mn(a b:D):Res R:=if plainD 40 a&&plainD 40 b then .ok (.f,.bl (!eqD a b)) else .bad
open PySem.SeqAt in
theorem CI{pi:List (Addr×Obj)}{σ:L2.St}{H:Hp}{s:Shared}(I:Inv X pi σ H s){d e:D}{x y:V}{v u:Value}{A:Around}(h:plainD 40 d=true)(h':plainD 40 e=true)(hu:A.units+64<cLine)(r:Rep X.K H d x)(q:Rep X.K H e y)(rx:RelV x v)(ry:RelV y u):
  RcAt A s v u (eqD d e)/\RcNeAt A s v u (!eqD d e):=by
 cases d with
 |non=>
  cases cD r;cases rx;cases e with
  |non=>cases cD q;cases ry;simp only[eqD];exact⟨.none_none,.none_none⟩
  |bl b=>cases dC q;cases ry;simp only[eqD];exact⟨.none_bool _,.none_bool _⟩
  |int i=>cases bG q;obtain⟨t,rfl⟩:=ry;simp only[eqD];exact⟨.none_int _ _,.none_int _ _⟩
  |str l=>cases(bO q).1;obtain⟨t,rfl⟩:=ry;simp only[eqD];exact⟨.none_str _ _,.none_str _ _⟩
  |tup l=>obtain⟨p,xs,rfl,sq,_⟩:=bJ q;cases ry;obtain⟨GU,_,ip,_⟩:=I.tuple sq;simp only[eqD];exact⟨.none_tuple (show s.heap.IsTuple p GU.toArray from ip) (by lia),.none_tuple (show s.heap.IsTuple p GU.toArray from ip) (by lia)⟩
  |lst l=>obtain⟨p,xs,rfl,sq,_⟩:=bR q;cases ry;obtain⟨GU,_,ip,_⟩:=I.list sq;simp only[eqD];exact⟨.none_list ip.isList (by lia),.none_list ip.isList (by lia)⟩
  |dct tk ks vs=>exact(bV h').elim
 |bl b=>
  cases dC r;cases rx;cases e with
  |non=>cases cD q;cases ry;simp only[eqD];exact⟨.bool_none _,.bool_none _⟩
  |bl b=>cases dC q;cases ry;simp only[eqD];exact⟨.bool_bool _ _,.bool_bool _ _⟩
  |int i=>cases bG q;obtain⟨t,rfl⟩:=ry;simp only[eqD];exact⟨.bool_int _ _ _,.bool_int _ _ _⟩
  |str l=>cases(bO q).1;obtain⟨t,rfl⟩:=ry;simp only[eqD];exact⟨.bool_str _ _ _,.bool_str _ _ _⟩
  |tup l=>obtain⟨p,xs,rfl,sq,_⟩:=bJ q;cases ry;obtain⟨GU,_,ip,_⟩:=I.tuple sq;simp only[eqD];exact⟨.bool_tuple _ (show s.heap.IsTuple p GU.toArray from ip) (by lia),.bool_tuple _ (show s.heap.IsTuple p GU.toArray from ip) (by lia)⟩
  |lst l=>obtain⟨p,xs,rfl,sq,_⟩:=bR q;cases ry;obtain⟨GU,_,ip,_⟩:=I.list sq;simp only[eqD];exact⟨.bool_list _ ip.isList (by lia),.bool_list _ ip.isList (by lia)⟩
  |dct tk ks vs=>exact(bV h').elim
 |int b=>
  cases bG r;obtain⟨t0,rfl⟩:=rx;cases e with
  |non=>cases cD q;cases ry;simp only[eqD];exact⟨.int_none _ _,.int_none _ _⟩
  |bl b=>cases dC q;cases ry;simp only[eqD];exact⟨.int_bool _ _ _,.int_bool _ _ _⟩
  |int i=>cases bG q;obtain⟨t,rfl⟩:=ry;simp only[eqD];exact⟨.int_int _ _ _ _,.int_int _ _ _ _⟩
  |str l=>cases(bO q).1;obtain⟨t,rfl⟩:=ry;simp only[eqD];exact⟨.int_str _ _ _ _,.int_str _ _ _ _⟩
  |tup l=>obtain⟨p,xs,rfl,sq,_⟩:=bJ q;cases ry;obtain⟨GU,_,ip,_⟩:=I.tuple sq;simp only[eqD];exact⟨.int_tuple _ _ (show s.heap.IsTuple p GU.toArray from ip) (by lia),.int_tuple _ _ (show s.heap.IsTuple p GU.toArray from ip) (by lia)⟩
  |lst l=>obtain⟨p,xs,rfl,sq,_⟩:=bR q;cases ry;obtain⟨GU,_,ip,_⟩:=I.list sq;simp only[eqD];exact⟨.int_list _ _ ip.isList (by lia),.int_list _ _ ip.isList (by lia)⟩
  |dct tk ks vs=>exact(bV h').elim
 |str b=>
  have hr:=(bO r).1;subst hr;obtain⟨t0,rfl⟩:=rx;cases e with
  |non=>cases cD q;cases ry;simp only[eqD];exact⟨.str_none _ _,.str_none _ _⟩
  |bl b=>cases dC q;cases ry;simp only[eqD];exact⟨.str_bool _ _ _,.str_bool _ _ _⟩
  |int i=>cases bG q;obtain⟨t,rfl⟩:=ry;simp only[eqD];exact⟨.str_int _ _ _ _,.str_int _ _ _ _⟩
  |str l=>
   have hq:=(bO q).1;subst hq;obtain⟨t,rfl⟩:=ry;have e1:(b==l)=(S b==S l):=by
    rw[UP,UQ,UQ];exact⟨fun z=>by rw[z],S_inj⟩
   simp only[eqD,e1];exact⟨.str_str _ _ _ _,.str_str _ _ _ _⟩
  |tup l=>obtain⟨p,xs,rfl,sq,_⟩:=bJ q;cases ry;obtain⟨GU,_,ip,_⟩:=I.tuple sq;simp only[eqD];exact⟨.str_tuple _ _ (show s.heap.IsTuple p GU.toArray from ip) (by lia),.str_tuple _ _ (show s.heap.IsTuple p GU.toArray from ip) (by lia)⟩
  |lst l=>obtain⟨p,xs,rfl,sq,_⟩:=bR q;cases ry;obtain⟨GU,_,ip,_⟩:=I.list sq;simp only[eqD];exact⟨.str_list _ _ ip.isList (by lia),.str_list _ _ ip.isList (by lia)⟩
  |dct tk ks vs=>exact(bV h').elim
 |tup l=>
  obtain⟨p,xs,ev,sq,rs⟩:=bJ r;subst ev;cases rx;obtain⟨GU,vl,ip,_⟩:=I.tuple sq;have ip:s.heap.IsTuple p GU.toArray:=ip;cases e with
  |non=>cases cD q;cases ry;simp only[eqD];exact⟨.tuple_none ip (by lia),.tuple_none ip (by lia)⟩
  |bl b=>cases dC q;cases ry;simp only[eqD];exact⟨.tuple_bool _ ip (by lia),.tuple_bool _ ip (by lia)⟩
  |int i=>cases bG q;obtain⟨t,rfl⟩:=ry;simp only[eqD];exact⟨.tuple_int _ _ ip (by lia),.tuple_int _ _ ip (by lia)⟩
  |str l=>cases(bO q).1;obtain⟨t,rfl⟩:=ry;simp only[eqD];exact⟨.tuple_str _ _ ip (by lia),.tuple_str _ _ ip (by lia)⟩
  |tup l'=>
   obtain⟨p',Je,Jt,IJ,JN⟩:=bJ q;subst Jt;cases ry;obtain⟨its',MQ,Jb,_⟩:=I.tuple IJ;have Jb:s.heap.IsTuple p' its'.toArray:=Jb;simp only[plainD]at h h';have l1:=vl.length;have l2:=MQ.length;have l3:=rs.length;have l4:=JN.length;have el:∀j (h1:j<GU.toArray.size) (h2:j<its'.toArray.size),EqAt A.in1 s GU.toArray[j] its'.toArray[j] ((fun j=>eqD (l.getD j .non) (l'.getD j .non)) j):=fun j h1 h2=>by
    simp only[Uo]at h1 h2;have g1:l[j]?=some (l[j]'(by lia)):=List.getElem?_eq_getElem _;have g2:l'[j]?=some (l'[j]'(by lia)):=List.getElem?_eq_getElem _;obtain⟨w1,Ly,Lz⟩:=rs.get g1;obtain⟨w2,MR,MS⟩:=JN.get g2;obtain⟨u1,JW,LA⟩:=vl.get Ly;obtain⟨u2,K1,MT⟩:=MQ.get MR;have q1:GU.toArray[j]=u1:=by rw[List.getElem?_eq_getElem h1]at JW;simpa using JW
    have q2:its'.toArray[j]=u2:=by rw[List.getElem?_eq_getElem h2]at K1;simpa using K1
    dsimp only;rw[q1,q2,List.getD_eq_getElem?_getD,List.getD_eq_getElem?_getD,g1,g2];exact pC I l j _ g1 _ w1 w2 u1 u2 A.in1 39 (plainDs_mem h g1) (plainDs_mem h' g2) (by show A.units+1+39<cLine;lia) Lz MS LA MT
   simp only[eqD];have fin:((List.range (min GU.toArray.size its'.toArray.size)).all (fun j=>eqD (l.getD j .non) (l'.getD j .non))&&GU.toArray.size==its'.toArray.size)=j3 l l':=by
    simp only[Uo];by_cases hl:l.length=l'.length
    ·rw[<-fT hl,show min GU.length its'.length=l.length by lia,show(GU.length==its'.length)=true by rw[UQ];lia,XN]
    ·rw[jA hl,show(GU.length==its'.length)=false by rw[U7];lia,Xt]
   rw[<-fin];exact⟨.tuples ip Jb (by lia) el,.tuples ip Jb (by lia) el⟩
  |lst l'=>obtain⟨p',Je,Jt,IJ,_⟩:=bR q;subst Jt;cases ry;obtain⟨its',_,Jb,_⟩:=I.list IJ;simp only[eqD];exact⟨.tuple_list ip Jb.isList (by lia),.tuple_list ip Jb.isList (by lia)⟩
  |dct tk ks vs=>exact(bV h').elim
 |lst l=>
  obtain⟨p,xs,ev,sq,rs⟩:=bR r;subst ev;cases rx;obtain⟨GU,vl,ip,_⟩:=I.list sq;have ip:=ip.isList;cases e with
  |non=>cases cD q;cases ry;simp only[eqD];exact⟨.list_none ip (by lia),.list_none ip (by lia)⟩
  |bl b=>cases dC q;cases ry;simp only[eqD];exact⟨.list_bool _ ip (by lia),.list_bool _ ip (by lia)⟩
  |int i=>cases bG q;obtain⟨t,rfl⟩:=ry;simp only[eqD];exact⟨.list_int _ _ ip (by lia),.list_int _ _ ip (by lia)⟩
  |str l=>cases(bO q).1;obtain⟨t,rfl⟩:=ry;simp only[eqD];exact⟨.list_str _ _ ip (by lia),.list_str _ _ ip (by lia)⟩
  |lst l'=>
   obtain⟨p',Je,Jt,IJ,JN⟩:=bR q;subst Jt;cases ry;obtain⟨its',MQ,Jb,_⟩:=I.list IJ;have Jb:=Jb.isList;simp only[plainD]at h h';have l1:=vl.length;have l2:=MQ.length;have l3:=rs.length;have l4:=JN.length;simp only[eqD];by_cases hl:l.length=l'.length
   ·have el:∀j (h1:j<GU.toArray.size) (h2:j<its'.toArray.size),EqAt A.in1 s GU.toArray[j] its'.toArray[j] ((fun j=>eqD (l.getD j .non) (l'.getD j .non)) j):=fun j h1 h2=>by
     simp only[Uo]at h1 h2;have g1:l[j]?=some (l[j]'(by lia)):=List.getElem?_eq_getElem _;have g2:l'[j]?=some (l'[j]'(by lia)):=List.getElem?_eq_getElem _;obtain⟨w1,Ly,Lz⟩:=rs.get g1;obtain⟨w2,MR,MS⟩:=JN.get g2;obtain⟨u1,JW,LA⟩:=vl.get Ly;obtain⟨u2,K1,MT⟩:=MQ.get MR;have q1:GU.toArray[j]=u1:=by rw[List.getElem?_eq_getElem h1]at JW;simpa using JW
     have q2:its'.toArray[j]=u2:=by rw[List.getElem?_eq_getElem h2]at K1;simpa using K1
     dsimp only;rw[q1,q2,List.getD_eq_getElem?_getD,List.getD_eq_getElem?_getD,g1,g2];exact pC I l j _ g1 _ w1 w2 u1 u2 A.in1 39 (plainDs_mem h g1) (plainDs_mem h' g2) (by show A.units+1+39<cLine;lia) Lz MS LA MT
    rw[<-fT hl,show l.length=GU.toArray.size by simp only[Uo];lia];exact⟨.lists ip Jb (by simp only[Uo];lia) (by lia) el,.lists ip Jb (by simp only[Uo];lia) (by lia) el⟩
   ·rw[jA hl];exact⟨.lists_lengths ip Jb (by simp only[Uo,bne_iff_ne];lia) (by lia),.lists_lengths ip Jb (by simp only[Uo,bne_iff_ne];lia) (by lia)⟩
  |tup l'=>obtain⟨p',Je,Jt,IJ,_⟩:=bJ q;subst Jt;cases ry;obtain⟨its',_,Jb,_⟩:=I.tuple IJ;simp only[eqD];exact⟨.list_tuple ip (show s.heap.IsTuple p' its'.toArray from Jb) (by lia),.list_tuple ip (show s.heap.IsTuple p' its'.toArray from Jb) (by lia)⟩
  |dct tk ks vs=>exact(bV h').elim
 |dct tk ks vs=>exact(bV h).elim
theorem gk(hu:X.A.units+64<cLine):HS X (compareOp .Eq) (rGA X.K Ir):=by
 rintro pi s σ H x y v u Q I rx ry ⟨G,fp,es,vs,a,b,r,⟨rel,k⟩,va,vb,e⟩;unfold Ir at e;split at e
 ·rename_i hp;cases e;rw[Uz]at hp;exact(CI I hp.1 hp.2 hu va vb rx ry).1 _ _ _ _ ⟨.bl _,H,I,rfl,k _ H G fp .refl (rel.push (dq _))⟩
 ·cases e
theorem xI(hu:X.A.units+64<cLine):HS X (compareOp .NotEq) (rGA X.K Mn):=by
 rintro pi s σ H x y v u Q I rx ry ⟨G,fp,es,vs,a,b,r,⟨rel,k⟩,va,vb,e⟩;unfold Mn at e;split at e
 ·rename_i hp;cases e;rw[Uz]at hp;exact(CI I hp.1 hp.2 hu va vb rx ry).2 _ _ _ _ ⟨.bl _,H,I,rfl,k _ H G fp .refl (rel.push (dq _))⟩
 ·cases e
def ua(a:D)(ds:List D):Bool:=ds.any fun d=>eqD d a
noncomputable def Mv(a b:D):Res R:=match b with
 | .lst ds=>if plainD 40 a&&plainDs 40 ds then .ok (.f,.bl (ua a ds)) else .bad
 | .tup ds=>if plainD 40 a&&plainDs 40 ds then .ok (.f,.bl (ua a ds)) else .bad
 | .str l=>match a with
  | .str [c]=>.ok (.f,.bl (decide (c∈l)))
  |_=>.bad
 |_=>.bad
def ub(a b:D):Res R:=(Mv a b).bind fun r=>match r.2 with
 | .bl k=>.ok (.f,.bl (!k))
 |_=>.bad
open PySem.SeqAt in
theorem rP{pi:List (Addr×Obj)}{σ:L2.St}{H:Hp}{s:Shared}(I:Inv X pi σ H s){a:D}{x:V}{v:Value}{A:Around}(h:plainD 40 a=true)(hu:A.units+64<cLine)(r:Rep X.K H a x)(rx:RelV x v):
  ∀(ds:List D) (xs:List V) (us:List Value),plainDs 40 ds=true->Reps X.K H ds xs->Vals xs us->∃e:Value->Bool,us.any e=ua a ds/\∀u∈us,EqAt A s u v (e u):=by
 classical
 intro ds xs us hp rs vl;refine⟨fun u=>decide (∃(j:Nat) (d:D),ds[j]?=some d/\us[j]?=some u/\eqD d a=true),?_,fun u SN=>?_⟩
 ·rw[UP,U8];unfold ua;rw[U8];constructor
  ·rintro⟨u,_,hd⟩;obtain⟨j,d,h1,_,h2⟩:=VA hd;exact⟨d,Uw h1,h2⟩
  ·rintro⟨d,hd,h2⟩;obtain⟨j,hj⟩:=U0.mp hd;obtain⟨w1,Ly,Lz⟩:=rs.get hj;obtain⟨u1,JW,LA⟩:=vl.get Ly;exact⟨u1,Uw JW,UW ⟨j,d,hj,JW,h2⟩⟩
 ·obtain⟨j,hj⟩:=U0.mp SN;have l1:=vl.length;have l2:=rs.length;have RL:=(List.getElem?_eq_some_iff.mp hj).1;have g1:ds[j]?=some (ds[j]'(by lia)):=List.getElem?_eq_getElem _;obtain⟨w1,Ly,Lz⟩:=rs.get g1;obtain⟨u1,JW,LA⟩:=vl.get Ly;rw[hj]at JW;cases JW;have z:=Ad I _ _ w1 x u v A 40 (plainDs_mem hp g1) h (by lia) Lz r LA rx;have e:decide (∃(j:Nat) (d:D),ds[j]?=some d/\us[j]?=some u/\eqD d a=true)=eqD (ds[j]'(by lia)) a:=by
   rw[UP,UL];constructor
   ·rintro⟨j2,d2,k1,k2,k3⟩;obtain⟨w2,MR,MS⟩:=rs.get k1;obtain⟨u2,K1,MT⟩:=vl.get MR;rw[k2]at K1;cases K1;have:=LA.inj MT;subst this;rw[lz I _ _ _ 40 (plainDs_mem hp g1) Lz MS];exact k3
   ·intro k3;exact⟨j,_,g1,hj,k3⟩
  show EqAt A s u v (decide (∃(j:Nat) (d:D),ds[j]?=some d/\us[j]?=some u/\eqD d a=true));rw[e];exact z
theorem pD(l:List Nat)(c:Nat):(!(Builtin.Str.occurrences (S l) (S [c]) 0 (S l).length 1).isEmpty)=decide (c∈l):=by
 have h:=PySem.StrLaws.found_one (S l) c;rw[fe]at h;exact h
theorem nW{e:Value->Bool}(us:List Value):us.toArray.any e=us.any e:=by simp
theorem EZ(hu:X.A.units+65<cLine):HS X (compareOp .In) (rGA X.K Mv):=by
 rintro pi s σ H x y v u Q I rx ry ⟨G,fp,es,vs,a,b,r,⟨rel,k⟩,va,vb,e⟩;unfold Mv at e;split at e
 ·rename_i ds;split at e
  ·rename_i hp;cases e;rw[Uz]at hp;obtain⟨p,xs,ev,sq,rs⟩:=bR vb;subst ev;cases ry;obtain⟨GU,vl,ip,_⟩:=I.list sq;obtain⟨ef,e1,e2⟩:=rP (A:=X.A.in1) I hp.1 (by show X.A.units+1+64<cLine;lia) va rx ds xs GU hp.2 rs vl;refine SeqAt.in_listAt ef ip.isList (fun z hz=>e2 z (by simpa using hz)) ?_;rw[nW,e1];exact⟨.bl _,H,I,rfl,k _ H G fp .refl (rel.push (dq _))⟩
  ·cases e
 ·rename_i ds;split at e
  ·rename_i hp;cases e;rw[Uz]at hp;obtain⟨p,xs,ev,sq,rs⟩:=bJ vb;subst ev;cases ry;obtain⟨GU,vl,ip,_⟩:=I.tuple sq;obtain⟨ef,e1,e2⟩:=rP (A:=X.A.in1) I hp.1 (by show X.A.units+1+64<cLine;lia) va rx ds xs GU hp.2 rs vl;refine SeqAt.in_tupleAt ef (show s.heap.IsTuple p GU.toArray from ip) (fun z hz=>e2 z (by simpa using hz)) ?_;rw[nW,e1];exact⟨.bl _,H,I,rfl,k _ H G fp .refl (rel.push (dq _))⟩
  ·cases e
 ·rename_i l;split at e
  ·rename_i c;cases e;obtain⟨e1,h1⟩:=bO va;obtain⟨e2,h2⟩:=bO vb;subst e1;subst e2;refine uy pi s σ H _ _ v u Q I rx ry ⟨_,_,rfl,rfl,?_⟩;rw[pD];exact k _ H G fp .refl (rel.push (dq _))
  ·cases e
 ·cases e
theorem CJ(hu:X.A.units+65<cLine):HS X (compareOp .NotIn) (rGA X.K ub):=by
 rintro pi s σ H x y v u Q I rx ry ⟨G,fp,es,vs,a,b,r,⟨rel,k⟩,va,vb,e⟩;unfold ub at e;obtain⟨r0,e0,e⟩:=ar e;unfold Mv at e0;split at e0
 ·rename_i ds;split at e0
  ·rename_i hp;cases e0;cases e;rw[Uz]at hp;obtain⟨p,xs,ev,sq,rs⟩:=bR vb;subst ev;cases ry;obtain⟨GU,vl,ip,_⟩:=I.list sq;obtain⟨ef,e1,e2⟩:=rP (A:=X.A.in1) I hp.1 (by show X.A.units+1+64<cLine;lia) va rx ds xs GU hp.2 rs vl;refine SeqAt.notIn_listAt ef ip.isList (fun z hz=>e2 z (by simpa using hz)) ?_;rw[nW,e1];exact⟨.bl _,H,I,rfl,k _ H G fp .refl (rel.push (dq _))⟩
  ·cases e0
 ·rename_i ds;split at e0
  ·rename_i hp;cases e0;cases e;rw[Uz]at hp;obtain⟨p,xs,ev,sq,rs⟩:=bJ vb;subst ev;cases ry;obtain⟨GU,vl,ip,_⟩:=I.tuple sq;obtain⟨ef,e1,e2⟩:=rP (A:=X.A.in1) I hp.1 (by show X.A.units+1+64<cLine;lia) va rx ds xs GU hp.2 rs vl;refine SeqAt.notIn_tupleAt ef (show s.heap.IsTuple p GU.toArray from ip) (fun z hz=>e2 z (by simpa using hz)) ?_;rw[nW,e1];exact⟨.bl _,H,I,rfl,k _ H G fp .refl (rel.push (dq _))⟩
  ·cases e0
 ·rename_i l;split at e0
  ·rename_i c;cases e0;cases e;obtain⟨e1,h1⟩:=bO va;obtain⟨e2,h2⟩:=bO vb;subst e1;subst e2;refine oN pi s σ H _ _ v u Q I rx ry ⟨_,_,rfl,rfl,?_⟩;rw[pD];exact k _ H G fp .refl (rel.push (dq _))
  ·cases e0
 ·cases e0
def SO(a b:D):Res R:=match b with
 | .bl k=>.ok (.f,.bl (match a with | .bl j=>j==k|_=>false))
 | .non=>.ok (.f,.bl (match a with | .non=>true|_=>false))
 |_=>.bad
def isnO(a b:D):Res R:=(SO a b).bind fun r=>match r.2 with
 | .bl k=>.ok (.f,.bl (!k))
 |_=>.bad
theorem xJ{K:W.Frag}{H:Hp}{a b:D}{x y:V}{v u:Value}{r:R}(va:Rep K H a x)(vb:Rep K H b y)(rx:RelV x v)(ry:RelV y u)(e:SO a b=.ok r):plainIs v u=true/\r=(.f,.bl (v==u)):=by
 unfold SO at e;split at e
 ·rename_i k;cases e;cases dC vb;cases ry;cases a with
  |non=>cases cD va;cases rx;exact⟨rfl,rfl⟩
  |bl j=>cases dC va;cases rx;refine⟨rfl,?_⟩;cases j <;> cases k <;> rfl
  |int i=>cases bG va;obtain⟨t,rfl⟩:=rx;exact⟨rfl,rfl⟩
  |str l=>cases(bO va).1;obtain⟨t,rfl⟩:=rx;exact⟨rfl,rfl⟩
  |tup l=>obtain⟨p,xs,rfl,_⟩:=bJ va;cases rx;exact⟨rfl,rfl⟩
  |lst l=>obtain⟨p,xs,rfl,_⟩:=bR va;cases rx;exact⟨rfl,rfl⟩
  |dct tk ks vs=>rw[Rep]at va;obtain⟨p,xs,o,rfl,_⟩:=va;cases rx;exact⟨rfl,rfl⟩
 ·cases e;cases cD vb;cases ry;cases a with
  |non=>cases cD va;cases rx;exact⟨rfl,rfl⟩
  |bl j=>cases dC va;cases rx;exact⟨rfl,rfl⟩
  |int i=>cases bG va;obtain⟨t,rfl⟩:=rx;exact⟨rfl,rfl⟩
  |str l=>cases(bO va).1;obtain⟨t,rfl⟩:=rx;exact⟨rfl,rfl⟩
  |tup l=>obtain⟨p,xs,rfl,_⟩:=bJ va;cases rx;exact⟨rfl,rfl⟩
  |lst l=>obtain⟨p,xs,rfl,_⟩:=bR va;cases rx;exact⟨rfl,rfl⟩
  |dct tk ks vs=>rw[Rep]at va;obtain⟨p,xs,o,rfl,_⟩:=va;cases rx;exact⟨rfl,rfl⟩
 ·cases e
theorem rQ:HS X (compareOp .IsNot) (rGA X.K isnO):=by
 rintro pi s σ H x y v u Q I rx ry ⟨G,fp,es,vs,a,b,r,⟨rel,k⟩,va,vb,e⟩;obtain⟨r0,e0,e⟩:=ar e;obtain⟨h1,h2⟩:=xJ va vb rx ry e0;subst h2;cases e;exact wpAny_isNot_plain h1 ⟨.bl _,H,I,rfl,k _ H G fp .refl (rel.push (dq _))⟩
end
section
variable{X:Cx}
theorem mT(hc:X.calm=true):cX X (.builtin "max") (rC X.K maxD):=by
 rintro pi s σ H xs us Q I rx ⟨G,fp,es,vs,ds,r,⟨rel,k⟩,vd,e⟩;unfold maxD at e;split at e
 ·rename_i d;split at e
  ·rename_i n ns hb;cases e;obtain⟨v,ev,vt⟩:=ml vd;obtain⟨p,ep,sq⟩:=g0 rel.gh hb vt;subst ev;subst ep;exact uS hc pi s σ H _ us Q I rx ⟨p,n::ns,rfl,sq,by simp,k _ H G fp .refl (rel.push (bh _))⟩
  ·cases e
 ·rename_i i j;cases e;obtain⟨v,w',ev,v1,v2⟩:=FL vd;subst ev;cases bS v1;cases bS v2;obtain⟨u,u',rfl,⟨t,rfl⟩,t',rfl⟩:=qk rx;refine max_two_ints (I.ok.hd hc) fun h' tk kk=>?_
  have I2:Inv X pi σ H {s with heap:=h',toks:=tk}:=I.kept kk;refine⟨.int (if i<j then j else i),H,I2,?_,k _ H G fp .refl (rel.push (bh _))⟩;by_cases Mu:i<j
  ·rw[Ut Mu,Ut (show j>i from Mu)];exact⟨_,rfl⟩
  ·rw[UD Mu,UD (show ¬ j>i from Mu)];exact⟨_,rfl⟩
 ·cases e
def Ae(f g:FX):FX:=fun env=>(f env).bind fun p=>(g p.2).bind fun q=>match(mn p.1.2).bind du,q.1.2 with
 |some ns,.int d=>.ok ((.f,.int (NX.maxD ns d)),q.2)
 |_,_=>.bad
theorem Af{e k:Expr}{f g:FX}{p pos Ky:Pos}(hc:X.calm=true)(hg:Gl X "max")(hm:X.mg "max" = none)(he:QE X e f)(hk:QE X k g)(hs:starEach [e] X.env=[(false,eval e X.env)]:=by rfl):
  QE X (.Call (.Name "max" p) [e] [⟨some "default",k,Ky⟩] pos) (Ae f g):=bN (zw hc hg hm he hk hs) fun σ H Q Hg=>by
 obtain⟨G,env,fp,r,env',rel,e,k⟩:=Hg;obtain⟨⟨r1,GQ⟩,e1,e⟩:=ar e;obtain⟨⟨r2,Ha⟩,e2,e⟩:=ar e;dsimp only at e;split at e
 ·rename_i ns d OC hd;cases e;refine⟨G,env,fp,r1,GQ,rel,e1,fun v H1 G1 Hn Hi GW=>?_⟩;obtain⟨G2,b,rv,GS,Hd⟩:=GW.freeze;refine⟨G2,GQ,b,r2,_,GS,e2,fun w' H3 G3 JB Hy Ht=>?_⟩;have hw:=Ht.top;obtain⟨b3,Hz,Il⟩:=Ht.drop;rw[hd]at hw;obtain⟨p',ep,sq⟩:=g0 Hz.gh OC (Vw.of Hz.gh (Rep.mono Hy.gg rv));subst ep;exact⟨p',ns,d,rfl,by rw[bG hw],sq,k _ H3 G3 b3 (Hi.trans (Hd.trans (Hy.trans Il))) (Hz.push (bh _))⟩
 ·cases e
def Bu:List D->Res R
 |[.bl b]=>.ok (.f,.int (if b then 1 else 0))
 |[.int i]=>.ok (.f,.int i)
 |_=>.bad
theorem CK:cX X (.type "int") (rC X.K Bu):=by
 rintro pi s σ H xs us Q I rx ⟨G,fp,es,vs,ds,r,⟨rel,k⟩,vd,e⟩;unfold Bu at e;split at e
 ·rename_i b;cases e;obtain⟨v,ev,v1⟩:=ml vd;subst ev;cases ES v1;obtain⟨u,rfl,ru⟩:=eF rx;cases ru;exact call_int_bool ⟨.int _,H,I.tok _,⟨_,rfl⟩,k _ H G fp .refl (rel.push (bh _))⟩
 ·rename_i i;cases e;obtain⟨v,ev,v1⟩:=ml vd;subst ev;cases bS v1;obtain⟨u,rfl,t,rfl⟩:=eF rx;first
   |exact YR ⟨.int _,H,I.tok _,⟨_,rfl⟩,k _ H G fp .refl (rel.push (bh _))⟩
   |exact YR ⟨.int _,H,I,⟨_,rfl⟩,k _ H G fp .refl (rel.push (bh _))⟩
 ·cases e
def qy:D->String
 | .non=>"NoneType"
 | .bl _=>"bool"
 | .int _=>"int"
 | .str _=>"str"
 | .tup _=>"tuple"
 | .lst _=>"list"
 | .dct _ _ _=>"dict"
def yH(T:String)(d:D):Bool:=qy d==T||(qy d == "bool" && T == "int")
def SQ(T:String)(f:FO):FX:=fun env=>(f env).bind fun p=>(tq p.2 p.1).bind fun d=>.ok ((.f,.bl (yH T d)),p.2)
theorem CL(K:W.Frag)(d:D){T:String}(hT:T = "int"\/T = "bool"\/T = "str"\/T = "list"\/T = "tuple"\/T = "dict"):PySem.W.kitOne K (.type (qy d)) (.type T)=some (yH T d):=by
 rcases hT with rfl|rfl|rfl|rfl|rfl|rfl <;> cases d <;> (unfold PySem.W.kitOne PySem.W.kitCls PySem.W.subIn;kernel_rfl)
theorem xK:cX X (.builtin "isinstance") (fun xs H Q=>∃d x T,xs=[x,.ty T]/\Rep X.K H d x/\(T = "int"\/T = "bool"\/T = "str"\/T = "list"\/T = "tuple"\/T = "dict")/\Q (.bl (yH T d)) H):=by
 intro pi s σ H xs us Q I r h;obtain⟨d,x,T,rfl,rd,hT,q⟩:=h;obtain⟨u,w',rfl,r1,r2⟩:=qk r;cases(show w'=Value.type T from r2);have e:=CL X.K d hT;have fin:∀tk,EP X pi σ Q (.bool (yH T d)) {s with toks:=tk}:=fun tk=>⟨.bl (yH T d),H,I.tok tk,rfl,q⟩
 cases d with
 |non=>cases cD rd;cases(show u=Value.none from r1);exact VH PySem.W.kitx_none I.kIn True.intro e (fun z=>nomatch z) fin
 |bl y=>cases dC rd;cases(show u=Value.bool y from r1);exact VH PySem.W.kitx_bool I.kIn True.intro e (fun z=>nomatch z) fin
 |int i=>cases bG rd;obtain⟨t,z⟩:=(show ∃t,u=Value.int i t from r1);cases z;exact VH PySem.W.kitx_int I.kIn True.intro e (fun z=>nomatch z) fin
 |str l=>
  have hr:=(bO rd).1;subst hr;obtain⟨t,z⟩:=(show ∃t,u=Value.str (S l) t from r1)
  cases z;exact VH PySem.W.kitx_str I.kIn True.intro e (fun z=>nomatch z) fin
 |lst l=>
  obtain⟨p,xs,ev,sq,_⟩:=bR rd;subst ev;cases(show u=Value.ref p from r1);obtain⟨GU,_,ip,_⟩:=I.list sq;obtain⟨o,ho,hc,_⟩:=ip.isList;exact VH PySem.W.kitx_list I.kIn ⟨o,ho,hc⟩ e (fun z=>nomatch z) fin
 |tup l=>
  obtain⟨p,xs,ev,sq,_⟩:=bJ rd;subst ev;cases(show u=Value.ref p from r1);obtain⟨GU,_,ip,_⟩:=I.tuple sq;obtain⟨o,ho,hc,_⟩:=ip;exact VH PySem.W.kitx_tuple I.kIn ⟨o,ho,hc⟩ e (fun z=>nomatch z) fin
 |dct tk ks vs=>
  rw[Rep]at rd;obtain⟨p,xs,o,ev,hr,dd,_⟩:=rd;subst ev;cases(show u=Value.ref p from r1);have ok:=hr.ok I.hok;cases tk with
  |true=>
   obtain⟨GV,eo,_⟩:=dd;subst eo;obtain⟨_,_,_,_,o2,_,_,Jc,ex,_⟩:=ok;exact VH PySem.W.kitx_dict I.kIn ⟨o2,Jc,ex.1⟩ e (fun z=>nomatch z) fin
  |false=>
   obtain⟨GV,eo,_⟩:=dd;subst eo;obtain⟨_,_,_,_,o2,_,_,Jc,ex,_⟩:=ok;exact VH PySem.W.kitx_dict I.kIn ⟨o2,Jc,ex.1⟩ e (fun z=>nomatch z) fin
theorem E1{T:String}{x:Str}{e:Expr}{f:FO}{p q pos:Pos}(hT:T = "int"\/T = "bool"\/T = "str"\/T = "list"\/T = "tuple"\/T = "dict")(he:QO X e f)(hg:Gl X "isinstance")(hm:X.mg "isinstance" = none)(QL:Gl X x)(QM:X.mg x=none)(P9:bootBuiltins x=some (.type T))(hn:x≠"__name__":=by decide)(HZ:(x==("__debug__" : Str))=false:=by decide)
  (hs:starEach [e,.Name x q] X.env=(false,eval e X.env)::starEach [.Name x q] X.env:=by rfl) (Ln:starEach [.Name x q] X.env=(false,eval (.Name x q) X.env)::starEach [] X.env:=by rfl) (HU:(backTo pos (starEach [.Name x q] X.env)).any (·.1)=false:=by rfl):
  QE X (.Call (.Name "isinstance" p) [e,.Name x q] [] pos) (SQ T f):=
 bN (jm xK hg hm eS (cI he (cI (uh (v:=.ty T) QL QM P9 rfl hn HZ) gU Ln) hs) (by decide) (by decide) hs HU) fun σ H Q Hg=>by
  obtain⟨G,env,fp,r,env',rel,e,k⟩:=Hg;obtain⟨⟨o,GQ⟩,e1,e⟩:=ar e;obtain⟨d,e2,e⟩:=ar e;cases e;exact⟨G,env,fp,o,_,rel,e1,fun v H1 G1 Hn Hi GW Io=>⟨d,v,T,rfl,GW.vwA Io e2,hT,k _ H1 G1 Hn Hi (GW.push (dq _))⟩⟩
def H0{α:Type}(f g:PV.Env->Res α):PV.Env->Res α:=fun env=>match f env with
 | .ok a=>.ok a
 |_=>g env
theorem yI{α:Type}{f g:PV.Env->Res α}{env:PV.Env}{a:α}(h:H0 f g env=.ok a):f env=.ok a\/g env=.ok a:=by
 unfold H0 at h;split at h
 ·rename_i b hb;cases h;exact .inl hb
 ·exact .inr h
theorem vH{tg e:Expr}{f g:FI}(h:QI X tg e f)(h2:QI X tg e g):QI X tg e (H0 f g):=fun pi s σ H R I Hg=>by
 obtain⟨G,env,fp,ds,env',rel,ee,k⟩:=Hg;rcases yI ee with z|z
 ·exact h pi s σ H R I ⟨G,env,fp,ds,env',rel,z,k⟩
 ·exact h2 pi s σ H R I ⟨G,env,fp,ds,env',rel,z,k⟩
end
section
variable{α:Type}
def ins(lt:α->α->Bool)(x:α):List α->List α
 |[]=>[x]
 |y::ys=>if lt y x then y::ins lt x ys else x::y::ys
def bZ(lt:α->α->Bool)(l:List α):List α:=l.foldr (ins lt) []
structure Ord(lt:α->α->Bool):Prop where
 irr:∀a,lt a a=false
 trans:∀a b c,lt a b=true->lt b c=true->lt a c=true
 tot:∀a b,lt a b=false->lt b a=false->a=b
theorem nX(lt:α->α->Bool)(x:α):∀l,(ins lt x l).Perm (x::l)
 |[]=>.refl _
 |y::ys=>by
  unfold ins;split
  ·exact(List.Perm.cons y (nX lt x ys)).trans (List.Perm.swap x y ys)
  ·exact .refl _
theorem eX(lt:α->α->Bool):∀l,(bZ lt l).Perm l
 |[]=>.refl _
 |x::l=>(nX lt x _).trans (List.Perm.cons x (eX lt l))
theorem mU{lt:α->α->Bool}(o:Ord lt)(x:α):∀l:List α,l.Pairwise (fun a b=>lt b a=false)->(ins lt x l).Pairwise (fun a b=>lt b a=false)
 |[],_=>by simp[ins]
 |y::ys,h=>by
  rw[Wu]at h;unfold ins;split
  ·rename_i hy;rw[Wu];refine⟨fun z hz=>?_,mU o x ys h.2⟩;rcases Ux.mp ((nX lt x ys).mem_iff.mp hz) with rfl|hz
   ·cases e:lt z y with
    |false=>rfl
    |true=>
     have:=o.trans y z y hy e;rw[o.irr]at this;cases this
   ·exact h.1 z hz
  ·rename_i hy;have hy:lt y x=false:=by simpa using hy
   rw[Wu,Wu];refine⟨fun z hz=>?_,h⟩;rcases Ux.mp hz with rfl|Mw
   ·exact hy
   ·cases e:lt z x with
    |false=>rfl
    |true=>
     exfalso;cases e2:lt x y with
     |true=>
      have:=o.trans z x y e e2;rw[h.1 z Mw]at this;cases this
     |false=>
      have hxy:=o.tot x y e2 hy;rw[hxy,h.1 z Mw]at e;cases e
theorem fF{lt:α->α->Bool}(o:Ord lt):∀l:List α,(bZ lt l).Pairwise (fun a b=>lt b a=false)
 |[]=>.nil
 |x::l=>mU o x _ (fF o l)
theorem pE{lt:α->α->Bool}(o:Ord lt):∀{a b:List α},a.Perm b->a.Pairwise (fun a b=>lt b a=false)->b.Pairwise (fun a b=>lt b a=false)->a=b
 |[],_,p,_,_=>p.nil_eq
 |x::xs,[],p,_,_=>absurd p.length_eq (by simp)
 |x::xs,y::ys,p,ha,hb=>by
  rw[Wu]at ha hb;have hx:x∈y::ys:=p.mem_iff.mp Uq;have hy:y∈x::xs:=p.mem_iff.mpr Uq;have e:x=y:=by
   rcases Ux.mp hx with e|hx
   ·exact e
   ·rcases Ux.mp hy with e|hy
    ·exact e.symm
    ·exact o.tot x y (hb.1 x hx) (ha.1 y hy)
  subst e;rw[pE o p.cons_inv ha.2 hb.2]
theorem jC{lt:α->α->Bool}(o:Ord lt){l ms:List α}(p:ms.Perm l)(h:ms.Pairwise (fun a b=>lt b a=false)):ms=bZ lt l:=pE o (p.trans (eX lt l).symm) h (fF o l)
end
def ltI(a b:Int):Bool:=decide (a<b)
def L1(a b:List Nat):Bool:=decide (a<b)
theorem Ag:Ord ltI:=⟨fun a=>by simp[ltI],fun a b c=>by simp only[ltI,UL];lia,fun a b=>by simp only[ltI,Vp];lia⟩
theorem qz:Ord L1:=by
 refine⟨fun a=>?_,fun a b c h1 h2=>?_,fun a b h1 h2=>?_⟩
 ·unfold L1;rw[Vp];exact List.lt_irrefl a
 ·unfold L1 at *;rw[UL] at *;exact List.lt_trans h1 h2
 ·unfold L1 at *;rw[Vp] at *;exact List.le_antisymm (XJ.mp h2) (XJ.mp h1)
theorem vI:Ord fE:=⟨iY,iE,iF⟩
def fU:List D->Option (List (List Nat))
 |[]=>some []
 | .str b::ds=>(fU ds).map (b:: ·)
 |_=>none
def lB:D->Option Key
 | .int i=>some (.inl i)
 | .str l=>some (.inr (S l))
 |_=>none
def gm:List D->Option (List Key)
 |[]=>some []
 |d::ds=>(lB d).bind fun k=>(gm ds).map (k:: ·)
def gq:D->Option (List Key)
 | .tup ds=>gm ds
 |_=>none
def ko:List D->Option (List (List Key))
 |[]=>some []
 |d::ds=>(gq d).bind fun k=>(ko ds).map (k:: ·)
def kT(k:List Key):D:=.tup (k.map kD)
section
variable{K:W.Frag}{G:Hp}
theorem gr:∀{ds:List D}{bs:List (List Nat)}{xs:List V},fU ds=some bs->Reps K G ds xs->xs=bs.map (fun l=>V.str (S l))/\∀l∈bs,l.length<=sizeLine
 |[],_,_,e,r=>by
  cases e;rw[Reps]at r;exact⟨r,fun _ h=>nomatch h⟩
 |d::ds,_,_,e,r=>by
  cases d with
  |str b=>
   rw[fU,UX]at e;obtain⟨bs,e1,e2⟩:=e;subst e2;rw[Reps]at r;obtain⟨y,ys,e3,r1,r2⟩:=r;obtain⟨h1,h2⟩:=gr e1 r2;obtain⟨h3,h4⟩:=bO r1;subst h3;refine⟨by rw[e3,h1];rfl,fun l hl=>?_⟩;rcases Ux.mp hl with rfl|hl
   ·exact h4
   ·exact h2 l hl
  |_=>simp[fU]at e
theorem iI{d:D}{k:Key}{v:V}(e:lB d=some k)(r:Rep K G d v):v=kV k/\d=kD k:=by
 cases d with
 |int i=>
  cases e;exact⟨bG r,rfl⟩
 |str l=>
  cases e;refine⟨(bO r).1,?_⟩;show D.str l=D.str (S l).cps.toList;rw[fe]
 |_=>cases e
theorem kq:∀{ds:List D}{ks:List Key}{xs:List V},gm ds=some ks->Reps K G ds xs->xs=ks.map kV/\ds=ks.map kD
 |[],_,_,e,r=>by
  cases e;rw[Reps]at r;exact⟨r,rfl⟩
 |d::ds,_,_,e,r=>by
  rw[gm,Vq]at e;obtain⟨k,e1,e⟩:=e;rw[UX]at e;obtain⟨ks,e2,e3⟩:=e;subst e3;rw[Reps]at r;obtain⟨y,ys,e4,r1,r2⟩:=r;obtain⟨h1,h2⟩:=iI e1 r1;obtain⟨h3,h4⟩:=kq e2 r2;rw[e4,h1,h2,h3,h4];exact⟨rfl,rfl⟩
theorem fm{d:D}{ks:List Key}{v:V}(e:gq d=some ks)(r:Rep K G d v):∃p,v=.ref p/\G p=some (.tup (ks.map kV))/\d=kT ks:=by
 cases d with
 |tup ds=>
  obtain⟨p,xs,ev,g,rs⟩:=vA r;obtain⟨h1,h2⟩:=kq e rs;subst h1;exact⟨p,ev,g,by rw[h2];rfl⟩
 |_=>cases e
theorem lC:∀{ds:List D}{JX:List (List Key)}{xs:List V},ko ds=some JX->Reps K G ds xs->∃al:List (Addr×List Key),xs=al.map (fun a=>V.ref a.1)/\JX=al.map (·.2)/\ds=al.map (fun a=>kT a.2)/\∀a∈al,G a.1=some (.tup (a.2.map kV))/\Rep K G (kT a.2) (.ref a.1)
 |[],_,_,e,r=>by
  cases e;rw[Reps]at r;exact⟨[],r,rfl,rfl,fun _ h=>nomatch h⟩
 |d::ds,_,_,e,r=>by
  rw[ko,Vq]at e;obtain⟨k,e1,e⟩:=e;rw[UX]at e;obtain⟨ks,e2,e3⟩:=e;subst e3;rw[Reps]at r;obtain⟨y,ys,e4,r1,r2⟩:=r;obtain⟨p,h1,h2,h5⟩:=fm e1 r1;obtain⟨al,h3,h4,h6,h7⟩:=lC e2 r2;subst h1;refine⟨(p,k)::al,by rw[e4,h3];rfl,by rw[h4];rfl,by rw[h5,h6];rfl,fun a ha=>?_⟩;rcases Ux.mp ha with rfl|ha
  ·exact⟨h2,by rw[<-h5];exact r1⟩
  ·exact h7 a ha
theorem gu{α:Type}{f:α->D}{g:α->V}:∀{l:List α},(∀a∈l,Rep K G (f a) (g a))->Reps K G (l.map f) (l.map g)
 |[],_=>Reps.nil
 |a::l,h=>.cons (h a Uq) (gu fun b hb=>h b (Uy _ hb))
end
def sameKinds(k:List Key)(JX:List (List Key)):Bool:=!k.isEmpty&&JX.all fun j=>kinds j==kinds k
noncomputable def lD(ds:List D):Option (List D):=match du ds with
 |some ns=>some ((bZ ltI ns).map D.int)
 |none=>match fU ds with
  |some ls=>some ((bZ L1 ls).map D.str)
  |none=>match ko ds with
   |some (k::JX)=>if sameKinds k JX then some ((bZ fE (k::JX)).map kT) else none
   |_=>none
noncomputable def fJ:List D->Res R
 |[.lst ds]=>if ds.length<64 then match lD ds with
  |some l=>.ok (.l .f,.lst l)
  |none=>.bad
  else .bad
 |[.dct true ks _]=>if ks.length<64 then match ks,ko ks with
  |[],_=>.ok (.l .f,.lst [])
  |_,some (k::JX)=>if sameKinds k JX then .ok (.l .f,.lst ((bZ fE (k::JX)).map kT)) else .bad
  |_,_=>.bad
  else .bad
 |_=>.bad
theorem jD{k:List Key}{JX:List (List Key)}(h:sameKinds k JX=true):∃top t,∀j∈k::JX,kinds j=top::t:=by
 unfold sameKinds at h;rw[Uz,UE]at h;cases k with
 |nil=>simp at h
 |cons a k=>
  refine⟨a.isLeft,kinds k,fun j hj=>?_⟩;rcases Ux.mp hj with rfl|hj
  ·rfl
  ·exact UQ.mp (h.2 j hj)
def kr(H G:Hp):Hp:=fun p=>match H p with
 |some (HO.tup xs)=>some (HO.tup xs)
 |_=>G p
theorem tG{H G:Hp}{p:Addr}{xs:List V}(e:H p=some (.tup xs)):kr H G p=some (.tup xs):=by
 unfold kr;rw[e]
theorem lE{H G:Hp}{p:Addr}{u:HO}(e:kr H G p=some u):G p=some u\/(isT u=true/\H p=some u):=by
 unfold kr at e;split at e
 ·rename_i xs hx;cases e;exact .inr ⟨rfl,hx⟩
 ·exact .inl e
theorem vJ{H G:Hp}(gh:Same G H):Same G (kr H G):=fun p u e=>by
 unfold kr;rw[gh p u e];cases u with
 |tup xs=>rfl
 |_=>exact e
theorem Rel.addT{K:W.Frag}{G H:Hp}{es:PV.Env}{vs:L2.St}{fp:List Addr}(q:Rel K G H es vs fp):∃G',Rel K G' H es vs fp/\Step G H fp G' H fp/\∀p xs,H p=some (.tup xs)->G' p=some (.tup xs):=by
 have gg:=vJ q.gh;refine⟨kr H G,⟨q.rep.step gg fun _ _=>rfl,q.nd,fun p hp=>?_,fun p u e=>?_⟩,⟨gg,fun _ _ e _=>e,fun _ h=>.inl h,fun p u e=>(lE e).imp_right fun z=>.inr (.inr z),fun _ u e=>⟨u,e⟩⟩,fun p xs e=>tG e⟩
 ·cases e:kr H G p with
  |none=>rfl
  |some u=>
   exfalso;rcases lE e with z|⟨t,z⟩
   ·rw[q.gn p hp]at z;cases z
   ·obtain⟨u2,h2,hm⟩:=q.rep.mut p hp;rw[z]at h2;cases h2;cases u with
    |tup _=>cases hm
    |frz _ _=>cases hm
    |_=>cases t
 ·rcases lE e with z|z
  ·exact q.gh p u z
  ·exact z.2
theorem CM{K:W.Frag}{G:Hp}{k:Key}(h:yA k):Rep K G (kD k) (kV k):=by
 cases k with
 |inl i=>exact bh i
 |inr x=>
  have:=i6 (K:=K) (G:=G) (l:=x.cps.toList) h;rw[oZ]at this;exact this
theorem CN(k:Key):lB (kD k)=some k:=by
 cases k with
 |inl i=>rfl
 |inr x=>
  show some (Sum.inr (S x.cps.toList))=_;rw[oZ]
theorem lF:∀ks:List Key,gm (ks.map kD)=some ks
 |[]=>rfl
 |k::ks=>by
  rw[UH,gm,CN,lF ks];rfl
theorem j4:∀JX:List (List Key),ko (JX.map kT)=some JX
 |[]=>rfl
 |k::JX=>by
  rw[UH,ko];show(gm (k.map kD)).bind _=_;rw[lF,j4 JX];rfl
section
variable{X:Cx}
theorem TK{α:Type}{lt:α->α->Bool}{p:α->α->Prop}(h:∀a b,p a b->lt b a=false){l:List α}(q:l.Pairwise p):l.Pairwise (fun a b=>lt b a=false):=q.imp (h _ _)
theorem jE(hc:X.calm=true):cX X (.builtin "sorted") (rC X.K fJ):=by
 rintro pi s σ H xs us Q I rx ⟨G,fp,es,vs,ds,r,⟨rel,k⟩,vd,e⟩;unfold fJ at e;split at e
 ·rename_i ds;split at e
  ·rename_i Mj;split at e
   ·rename_i l hl;cases e;obtain⟨v,ev,p,ys,ep,sq,rs⟩:=ml vd;subst ev;subst ep;unfold lD at hl;split at hl
    ·rename_i ns OC;cases hl;have hy:=i7 OC rs;subst hy;have hlen:ns.length<64:=by have:=rs.length;rw[Um]at this;lia
     refine kH hc pi s σ H _ us Q I rx ⟨p,ns,rfl,sq,hlen,fun q ms hq pm sm=>?_⟩;have em:=jC Ag pm (TK (fun a b h=>by unfold ltI;rw[Vp];lia) sm);subst em;obtain⟨GS,Hd⟩:=rel.newL hq (gu (K:=X.K) (G:=G) (f:=D.int) (g:=V.int) fun a _=>bh a);exact k _ _ G _ Hd GS
    ·split at hl
     ·rename_i ls hls;cases hl;obtain⟨hy,hz⟩:=gr hls rs;subst hy;have hlen:ls.length<64:=by have:=rs.length;rw[Um]at this;lia
      refine kI hc pi s σ H _ us Q I rx ⟨p,ls,rfl,sq,hlen,fun q ms hq pm sm=>?_⟩;have em:=jC qz pm (TK (fun a b h=>by unfold L1;rw[Vp];exact h) sm);obtain⟨GS,Hd⟩:=rel.newL hq (gu (K:=X.K) (G:=G) (f:=D.str) (g:=fun l=>V.str (S l)) (l:=ms) fun a ha=>i6 (hz a (pm.mem_iff.mp ha)));rw[<-em]at k;exact k _ _ G _ Hd GS
     ·split at hl
      ·rename_i kk JX hk;split at hl
       ·rename_i hsk;cases hl;obtain⟨al,h1,h2,h3,h4⟩:=lC hk rs;obtain⟨top,t,JY⟩:=jD hsk;subst h1;have hlen:al.length<64:=by have:=rs.length;rw[Um]at this;lia
        refine kJ hc pi s σ H _ us Q I rx ⟨p,al,top,t,rfl,sq,fun a ha=>⟨SqT.of (rel.gh _ _ (h4 a ha).1),JY a.2 (by rw[h2];exact UY.mpr ⟨a,ha,rfl⟩)⟩,hlen,fun q ms hq pm sm=>?_⟩;have em:ms.map (·.2)=bZ fE (kk::JX):=by
         rw[h2];refine jC vI (pm.map _) ?_;rw[W2];exact sm
        obtain⟨GS,Hd⟩:=rel.newL hq (gu (K:=X.K) (G:=G) (f:=fun a:Addr×List Key=>kT a.2) (g:=fun a=>V.ref a.1) (l:=ms) fun a ha=>(h4 a (pm.mem_iff.mp ha)).2);have ek:ms.map (fun a=>kT a.2)=(bZ fE (kk::JX)).map kT:=by rw[<-em,UC];rfl
        rw[ek]at GS;exact k _ _ G _ Hd GS
       ·cases hl
      ·cases hl
   ·cases e
  ·cases e
 ·rename_i ks vv;split at e
  ·rename_i Mj;obtain⟨v,ev,vt⟩:=ml vd;obtain⟨p,ys,o,ep,rd,dd,rs⟩:=vt;subst ev;subst ep;obtain⟨GV,eo,ek,ex,LB⟩:=dd;subst eo;have ek:ks=(GV.map (·.1)).map kT:=by rw[ek,UC];rfl
   have hlen:GV.length<64:=by rw[ek,Um,Um]at Mj;exact Mj
   have go:∀(top:Bool) (t:List Bool),(∀kv∈GV,kinds kv.1=top::t)->r=(.l .f,.lst ((bZ fE (GV.map (·.1))).map kT))->wpAny (model X.prog X.w) X.A (call (.builtin "sorted") us) (EP X pi σ Q) X.xe s:=fun top t JY er=>by
    subst er;refine my hc pi s σ H _ us Q I rx ⟨p,GV,top,t,rfl,rd,JY,hlen,fun q ms hq hm pm sm=>?_⟩;have em:ms.map (·.2)=bZ fE (GV.map (·.1)):=by
     refine jC vI pm ?_;rw[W2];exact sm
    obtain⟨G2,GS,Hd,ht⟩:=rel.addT;have JO:∀a∈ms,Rep X.K G2 (kT a.2) (.ref a.1):=fun a ha=>by
     unfold kT;rw[Rep];refine⟨a.1,_,rfl,ht _ _ (hm a ha),?_⟩;refine gu (f:=kD) (g:=kV) fun key Ju=>CM ?_
     have:a.2∈GV.map (·.1):=pm.mem_iff.mp (UY.mpr ⟨a,ha,rfl⟩);obtain⟨kv,KZ,e2⟩:=UY.mp this;exact LB kv KZ key (by rw[e2];exact Ju)
    obtain⟨Ht,Hy⟩:=GS.newL hq (gu (K:=X.K) (G:=G2) (f:=fun a:Addr×List Key=>kT a.2) (g:=fun a=>V.ref a.1) (l:=ms) JO);have ek:ms.map (fun a=>kT a.2)=(bZ fE (GV.map (·.1))).map kT:=by rw[<-em,UC];rfl
    rw[ek]at Ht;exact k _ _ G2 _ (Hd.trans Hy) Ht
   rw[ek,j4]at e;split at e
   ·rename_i hnil;cases e;have:GV=[]:=by
     cases GV with
     |nil=>rfl
     |cons a b=>cases hnil
    subst this;exact go true [] (fun _ h=>nomatch h) rfl
   ·rename_i kk JX heq Mt;split at e
    ·rename_i hsk;cases e;obtain⟨top,t,JY⟩:=jD hsk;have heq:GV.map (·.1)=kk::JX:=by
      injection heq
     refine go top t (fun kv KZ=>JY kv.1 ?_) (by rw[heq]);rw[<-heq];exact UY.mpr ⟨kv,KZ,rfl⟩
    ·cases e
   ·cases e
  ·cases e
 ·cases e
def Mx(a b:D):Res R:=match gq a,gq b with
 |some ks,some js=>if kinds ks==kinds js then .ok (.f,.bl (fE ks js)) else .bad
 |_,_=>P5 a b
def geO(a b:D):Res R:=match gq a,gq b with
 |some ks,some js=>if kinds ks==kinds js then .ok (.f,.bl (!fE ks js)) else .bad
 |_,_=>match a,b with
  | .str a,.str b=>.ok (.f,.bl (!decide (a<b)))
  |a,b=>geD a b
theorem pF(hu:X.A.units<cLine):HS X (compareOp .Lt) (rG X.K Mx):=by
 rintro pi s σ H x y v u Q I rx ry ⟨G,fp,es,vs,a,b,r,⟨rel,k⟩,va,vb,e⟩;unfold Mx at e;split at e
 ·rename_i ks js h1 h2;split at e
  ·rename_i hk;cases e;have ra:Rep X.K G a x:=by cases a <;> first|exact va|cases h1
   have rb:Rep X.K G b y:=by cases b <;> first|exact vb|cases h2
   obtain⟨p,e1,g1,_⟩:=fm h1 ra;obtain⟨p2,e2,g2,_⟩:=fm h2 rb;subst e1;subst e2;exact Cn hu pi s σ H _ _ v u Q I rx ry ⟨p,p2,ks,js,rfl,rfl,SqT.of (rel.gh _ _ g1),SqT.of (rel.gh _ _ g2),UQ.mp hk,k _ H G fp .refl (rel.push (dq _))⟩
  ·cases e
 ·exact EV pi s σ H x y v u Q I rx ry ⟨G,fp,es,vs,a,b,r,⟨rel,k⟩,va,vb,e⟩
end
def eNewD(tk:Bool):FX:=fun env=>.ok ((.d,.dct tk [] []),env)
section
variable{md:Mode}{X:Cx}
def qA(ks vs:List D)(k v:D):List D×List D:=if ks.any (eqD k) then(ks,(ks.zip vs).map fun p=>if eqD k p.1 then v else p.2) else(ks++[k],vs++[v])
def ft(tk:Bool)(k:D):Bool:=if tk then(gq k).isSome else(lB k).isSome
noncomputable def CO(i:Nat)(fk fv:FX):FS:=fun env=>(fv env).bind fun p=>(fk p.2).bind fun q=>match p.2[i]?,q.2[i]? with
 |some (some _),some (some (.d,.dct tk ks vs))=>if ft tk q.1.2&&decide (ks.length<sizeLine) then .ok (.nx (q.2.set i (some (.d,.dct tk (qA ks vs q.1.2 p.1.2).1 (qA ks vs q.1.2 p.1.2).2)))) else .bad
 |_,_=>.bad
theorem vK(a b:Key):eqD (kD a) (kD b)=decide (a=b):=by
 cases a with
 |inl i=>
  cases b with
  |inl j=>simp only[kD,eqD];rw[UP];simp
  |inr y=>simp only[kD,eqD];simp
 |inr x=>
  cases b with
  |inl j=>simp only[kD,eqD];simp
  |inr y=>
   simp only[kD,eqD];rw[UP];simp only[UQ,UL,Sum.inr.injEq];exact⟨fun h=>by rw[<-oZ x,<-oZ y,h],fun h=>by rw[h]⟩
theorem vL:∀a b:List Key,j3 (a.map kD) (b.map kD)=decide (a=b)
 |[],[]=>by simp[j3]
 |[],_::_=>by simp[j3]
 |_::_,[]=>by simp[j3]
 |a::r,b::t=>by
  rw[UH,UH,j3,vK,vL r t,UP];simp
theorem yJ(a b:List Key):eqD (kT a) (kT b)=decide (a=b):=by
 unfold kT;rw[eqD];exact vL a b
theorem pG{κ:Type}[DecidableEq κ]{K:W.Frag}{G:Hp}(f:κ->D)(hf:∀a b,eqD (f a) (f b)=decide (a=b)){GV:List (κ×V)}{vs:List D}{k:κ}{v:D}{y:V}(r:Reps K G vs (GV.map (·.2)))(ry:Rep K G v y):
  (kK GV k y).map (fun kv=>f kv.1)=(qA (GV.map fun kv=>f kv.1) vs (f k) v).1/\Reps K G (qA (GV.map fun kv=>f kv.1) vs (f k) v).2 ((kK GV k y).map (·.2)):=by
 have e:(GV.map fun kv=>f kv.1).any (eqD (f k))=GV.any fun kv=>decide (kv.1=k):=by
  rw[VY];congr 1
  funext kv
  show eqD (f k) (f kv.1)=_;rw[hf,UP];simp only[UL];exact⟨fun z=>z.symm,fun z=>z.symm⟩
 unfold qA kK;rw[e];split
 ·refine⟨?_,?_⟩
  ·rw[UC];refine Vv fun kv _=>?_
   show f (if kv.1=k then(kv.1,y) else kv).1=f kv.1;split <;> rfl
  ·rename_i K2;clear e K2;induction GV generalizing vs with
   |nil=>
    have:vs=[]:=Vs (by rw[<-r.length];rfl);subst this;exact Reps.nil
   |cons kv GV ih=>
    cases vs with
    |nil=>have:=r.length;simp at this
    |cons d vs=>
     rw[UH,Reps.cons_iff]at r;rw[UH,VF,UH,UH,UH];refine .cons ?_ (ih r.2);show Rep K G (if eqD (f k) (f kv.1)=true then v else d) (if kv.1=k then(kv.1,y) else kv).2;rw[hf];by_cases hk:kv.1=k
     ·rw[Ut (by simp[hk]),Ut hk];exact ry
     ·rw[UD (by simp;exact fun z=>hk z.symm),UD hk];exact r.1
 ·refine⟨?_,?_⟩
  ·rw[Uv];rfl
  ·rw[Uv];exact r.app (.one ry)
theorem Rel.chgD{K:W.Frag}{G H:Hp}{es:PV.Env}{vs:L2.St}{fp:List Addr}{i:Nat}{tk:Bool}{ks ws:List D}(q:Rel K G H es vs fp)(e:es[i]?=some (some (.d,.dct tk ks ws))):∃p xs u,vs[i]?=some (some (.ref p))/\H p=some u/\DictO u tk ks xs/\Reps K G ws xs/\
  ∀u' Lo Je Qv,DictO u' tk Lo Je->Reps K G Qv Je->∃fq,Rel K G (upd H p u') (es.set i (some (.d,.dct tk Lo Qv))) vs fq/\Step G H fp G (upd H p u') fq:=by
 obtain⟨v,fq,ev,g,st,Jr⟩:=q.out e;obtain⟨y,ys,e0,v',a,b,e1,e2,r1,r2⟩:=g.rep;cases e0;cases e1;rw[RepO]at r1;obtain⟨p,xs,u,e3,hp,dd,e4,rs⟩:=r1;subst e3;subst e4;subst e2;have nd:=US.mp (show(p::b).Nodup from g.nd);refine⟨p,xs,u,ev,hp,dd,rs,fun u' Lo Je Qv NI JN=>?_⟩;have g2:Rel K G (upd H p u') (some (.d,.dct tk Lo Qv)::es.set i none) (some (.ref p)::vs) (p::b):=by
  refine⟨⟨some (.ref p),vs,rfl,.ref p,[p],b,rfl,rfl,?_,r2.step (.refl _) fun z hz=>aS fun e=>nd.1 (e▸hz)⟩,g.nd,g.gn,fun z o ez=>?_⟩
  ·rw[RepO];exact⟨p,Je,u',rfl,bU,NI,rfl,JN⟩
  ·have:z≠p:=fun w=>by
    subst w;rw[g.gn z Uq]at ez;cases ez
   rw[aS this];exact g.gh z o ez
 have SK:Step G H (p::b) G (upd H p u') (p::b):=by
  refine⟨.refl _,fun z o ez nz=>?_,fun z hz=>.inl hz,fun z o ez=>.inl ez,fun z o ez=>?_⟩
  ·have:z≠p:=fun w=>nz (by rw[w];exact Uq)
   rw[aS this];exact ez
  ·by_cases w:z=p
   ·subst w;exact⟨_,bU⟩
   ·exact⟨o,by rw[aS w];exact ez⟩
 obtain⟨fz,g3,Hy⟩:=g2.back (i:=i) (by rw[VQ];exact(List.getElem?_eq_some_iff.mp e).1) ev;rw[Yh]at g3;exact⟨fz,g3,st.trans (SK.trans Hy)⟩
theorem vM{K:W.Frag}{G:Hp}{d:D}{k:Key}{v:V}(e:lB d=some k)(r:Rep K G d v):yA k:=by
 cases d with
 |int i=>cases e;trivial
 |str l=>
  cases e;show(S l).cps.toList.length<=sizeLine;rw[fe];exact(bO r).2
 |_=>cases e
theorem vN{K:W.Frag}{G:Hp}:∀{ds:List D}{ks:List Key}{xs:List V},gm ds=some ks->Reps K G ds xs->∀k∈ks,yA k
 |[],_,_,e,_=>by
  cases e;exact fun _ h=>nomatch h
 |d::ds,_,_,e,r=>by
  rw[gm,Vq]at e;obtain⟨k,e1,e⟩:=e;rw[UX]at e;obtain⟨ks,e2,e3⟩:=e;subst e3;rw[Reps]at r;obtain⟨y,ys,e4,r1,r2⟩:=r;intro z hz;rcases Ux.mp hz with rfl|hz
  ·exact vM e1 r1
  ·exact vN e2 r2 z hz
theorem rR{κ:Type}[DecidableEq κ]{P:κ->Prop}{GV:List (κ×V)}{k:κ}{y:V}(h:∀kv∈GV,P kv.1)(hk:P k):∀kv∈kK GV k y,P kv.1:=by
 intro kv KZ;unfold kK at KZ;split at KZ
 ·obtain⟨z,hz,e⟩:=UY.mp KZ;rw[<-e];split
  ·exact h z hz
  ·exact h z hz
 ·rcases U5.mp KZ with KZ|KZ
  ·exact h kv KZ
  ·rw[UJ]at KZ;rw[KZ];exact hk
theorem yK{i:Nat}{o ix value:Expr}{fk fv:FX}{pos pos':Pos}(hu:X.A.units+1<cLine)(ho:PE X o (qj i))(hi:QE X ix fk)(hv:QE X value fv)(hs:swapsWith value (some (.Subscript o ix pos')) pos.line X.env=pure false:=by rfl):
  QS (md:=md) X (.Assign [.Subscript o ix pos'] value pos) (CO i fk fv):=fR (zP hu ho hi hv hs) fun Dd σ H Hg=>by
 obtain⟨G,env,fp,rel,k⟩:=Hg;unfold CO at k;match q1:fv env,k with
 | .ok (r1,GQ),k=>
  have k:OutOk X.K G H fp Dd ((fk GQ).bind fun q=>match GQ[i]?,q.2[i]? with
   |some (some _),some (some (.d,.dct tk ks vs))=>if ft tk q.1.2&&decide (ks.length<sizeLine) then .ok (.nx (q.2.set i (some (.d,.dct tk (qA ks vs q.1.2 r1.2).1 (qA ks vs q.1.2 r1.2).2)))) else .bad
   |_,_=>.bad):=k
  match q2:fk GQ,k with
  | .ok (r2,Ha),k=>
   have k:OutOk X.K G H fp Dd (match GQ[i]?,Ha[i]? with
    |some (some _),some (some (.d,.dct tk ks vs))=>if ft tk r2.2&&decide (ks.length<sizeLine) then .ok (.nx (Ha.set i (some (.d,.dct tk (qA ks vs r2.2 r1.2).1 (qA ks vs r2.2 r1.2).2)))) else .bad
    |_,_=>.bad):=k
   split at k
   ·rename_i rr tk ks ws h1 h2;split at k
    ·rename_i hc;rw[Uz,UL]at hc;refine⟨G,env,fp,r1,GQ,rel,q1,fun y H1 G1 Hn Hi GW=>?_⟩;obtain⟨G2,b,ry,GS,Hd⟩:=GW.freeze;obtain⟨v0,NN,_⟩:=GS.view h1;refine⟨v0,NN,G2,GQ,b,r2,Ha,GS,q2,fun z H3 G3 JB Hy Ht=>?_⟩;obtain⟨G4,b4,rz,Hz,Il⟩:=Ht.freeze;obtain⟨p,xs,u,ep,hp,dd,rs,cg⟩:=Hz.chgD h2;rw[NN]at ep;cases ep;have RM:Rep X.K G4 r1.2 y:=Rep.mono (Hy.gg.trans Il.gg) ry;cases tk with
     |true=>
      obtain⟨GV,eu,ek,ex,LB⟩:=dd;subst eu;subst ex;have hk:=hc.1;unfold ft at hk;rw[Ut rfl,Vz]at hk;obtain⟨kk,hk⟩:=hk;obtain⟨pz,ez,gz,dz⟩:=fm hk rz;subst ez;obtain⟨t1,t2⟩:=pG (K:=X.K) (G:=G4) kT yJ (k:=kk) rs RM;have ek:ks=GV.map fun kv=>kT kv.1:=ek
      rw[<-ek,<-dz]at t1 t2;have hfk:∀key∈kk,yA key:=by
       cases hd:r2.2 with
       |tup ds=>
        rw[hd]at hk rz;obtain⟨_,Je,_,_,JN⟩:=vA rz;exact vN hk JN
       |_=>rw[hd]at hk;cases hk
      obtain⟨fq,Ip,JM⟩:=cg (.dT (kK GV kk y)) _ _ _ ⟨kK GV kk y,rfl,t1.symm,rfl,rR (P:=fun ks=>∀k∈ks,yA k) LB hfk⟩ t2;have hlen:GV.length<sizeLine:=by have:=hc.2;rw[ek,Um]at this;exact this
      exact⟨p,_,rfl,DPut.t hp (Hz.gh _ _ gz) hlen,k _ _ G4 fq (Hi.trans (Hd.trans (Hy.trans (Il.trans JM)))) Ip⟩
     |false=>
      obtain⟨GV,eu,ek,ex,LB⟩:=dd;subst eu;subst ex;have hk:=hc.1;unfold ft at hk;rw[UD Up,Vz]at hk;obtain⟨kk,hk⟩:=hk;obtain⟨ez,dz⟩:=iI hk rz;subst ez;obtain⟨t1,t2⟩:=pG (K:=X.K) (G:=G4) kD vK (k:=kk) rs RM;rw[<-ek,<-dz]at t1 t2;obtain⟨fq,Ip,JM⟩:=cg (.dK (kK GV kk y)) _ _ _ ⟨kK GV kk y,rfl,t1.symm,rfl,rR (P:=yA) LB (vM hk rz)⟩ t2;have hlen:GV.length<sizeLine:=by have:=hc.2;rw[ek,Um]at this;exact this
      exact⟨p,_,rfl,DPut.k hp hlen,k _ _ G4 fq (Hi.trans (Hd.trans (Hy.trans (Il.trans JM)))) Ip⟩
    ·exact k.elim
   ·exact k.elim
end
end PV
namespace NX
open PySem PySem.Spec PyProof.Rows L2
section
variable{prog:Program}{w:World}{A:Around}{E:Value->Shared->Prop}{s:Shared}{d:Addr}{es:Array DictEntry}{ep:Nat}
theorem nZ(nm:(d==sysModules)=false):MeetsIn prog w (Builtin.«dict.__len__» ⟨[.ref d],[]⟩) (fun _ R s=>RawD s.heap d es ep/\R (.ok (.ret (.int es.size s.toks))) {s with toks:=s.toks+1}):=
 .of_wp fun A R s Hg=>by
  obtain⟨⟨o,g,_,dat⟩,h⟩:=Hg;show wpAny _ _ (dictSize d >>= fun _=>_) _ _ s;unfold dictSize;refine Uk (Uk (W0 g dat (Ul ?_)));show wpAny _ _ (Builtin.Dict.pendingCount d >>= fun _=>_) _ _ s;refine Uk (wpAny_pendingCount_other nm (wpAny_ret_mkInt ?_));rw[Y5];exact h
theorem Ah{Q:Value->Shared->Prop}(nm:(d==sysModules)=false)(x:RawD s.heap d es ep)(hf:(es.size:Int)<2 ^ 63)(h:Q (.int es.size (s.toks+1)) {s with toks:=s.toks+1+1}):wpAny (model prog w) A (call (.builtin "len") [.ref d]) Q E s:=by
 have ty:=kS x;refine WC kind_len plain_len entry_len (args_len1 _) ?_;unfold Builtin.«len»;refine Uk (m:=oneArg "len" _) (Ul (Uk (m:=callSpecial? (.ref d) (Str.ofString "__len__")) (wpAny_callSpecial?_slot (name:=Str.ofString "__len__") ty F.slot_dict_len
  (call_meetsIn F.slot_dict_len ty F.entry_dict_len (F.args_dict_len_1 _) (nZ (es:=es) (ep:=ep) nm) ⟨x,?_⟩))))
 show wpAny _ _ _ _ _ {s with toks:=s.toks+1};refine Uk (VO (Ul (Uk (V2 ?_))));show wpAny _ _ (if((es.size:Nat):Int)<0 then _ else _) _ _ _;rw[UD (Int.not_lt.mpr (Int.natCast_nonneg _))];show wpAny _ _ (if((es.size:Nat):Int)>=2 ^ 63 then _ else _) _ _ _;rw[UD (Int.not_le.mpr hf)];exact Uk (wpAny_mkInt (Ul ⟨_,rfl,h⟩))
end
end NX
namespace PV
open PySem PySem.Spec PyProof.Rows L2 NX
section
variable{X:Cx}
def g5:List D->Res R
 |[.dct _ ks _]=>.ok (.f,.int ks.length)
 |ds=>EY ds
theorem CP{pi:List (Addr×Obj)}{σ:L2.St}{H:Hp}{s:Shared}(I:Inv X pi σ H s){p:Addr}{o:HO}{tk:Bool}{ks:List D}{xs:List V}(rd:Rd H p o)(dd:DictO o tk ks xs):(p==sysModules)=false/\∃es ep,RawD s.heap p es ep/\es.size=ks.length/\ks.length<=sizeLine:=by
 have ok:=rd.ok I.hok;cases tk with
 |true=>
  obtain⟨GV,eo,ek,_⟩:=dd;subst eo;obtain⟨z,nm,ws,r,o2,es,ep,h1,h2,h3,h4,_⟩:=ok;refine⟨nm,es,ep,⟨o2,h1,h2,h3⟩,?_,by rw[ek,Um];exact z⟩;have:=VC List.length h4;rw[Um,VJ,<-Xd r]at this;rw[ek,Um];exact this
 |false=>
  obtain⟨GV,eo,ek,_⟩:=dd;subst eo;obtain⟨z,nm,ws,r,o2,es,ep,h1,h2,h3,h4,h5,_⟩:=ok;refine⟨nm,es,ep,⟨o2,h1,h2,h3⟩,?_,by rw[ek,Um];exact z⟩;have l1:=h5.length;have l2:GV.length=ws.length:=Xd r;rw[ek,Um];rw[VJ]at l1;lia
theorem cJ:cX X (.builtin "len") (rC X.K g5):=by
 rintro pi s σ H xs us Q I rx ⟨G,fp,es,vs,ds,r,⟨rel,k⟩,vd,e⟩;unfold g5 at e;split at e
 ·rename_i tk ks ws;cases e;obtain⟨v,ev,p,ys,o,ep,rd,dd,_⟩:=ml vd;subst ev;subst ep;obtain⟨u,rfl,ru⟩:=eF rx;cases ru;obtain⟨nm,en,ep,raw,h1,h2⟩:=CP I rd dd;refine Ah nm raw (by rw[h1];rw[Vr]at h2;lia) ?_;refine⟨.int ks.length,H,I.tok _,⟨_,by rw[h1]⟩,k _ H G fp .refl (rel.push (bh _))⟩
 ·exact CB pi s σ H xs us Q I rx ⟨G,fp,es,vs,_,r,⟨rel,k⟩,vd,e⟩
def E2(g:List Nat->List D->Res R)(fa:FO)(fs:Ih):FX:=fun env=>(fa env).bind fun p=>match Iq p.2 p.1 with
 | .ok (.str l)=>(fs p.2).bind fun q=>(pj q.2 q.1).bind fun ds=>(g l ds).bind fun r=>.ok (r,q.2)
 |_=>.bad
inductive rMtS(K:W.Frag)(g:List Nat->List D->Res R)(x:V)(xs:List V)(H:Hp)(Q:VK):Prop
 |mk:∀G fp es vs l ds r,Goes K H G fp es vs r Q->x=.str (S l)->l.length<=sizeLine->OF K G H ds xs->g l ds=.ok r->rMtS K g x xs H Q
theorem CQ{g:List Nat->List D->Res R}{id:String}{name:Str}{o e:Expr}{es:List Expr}{fa:FO}{fs:Ih}{apos Hj:Pos}(slot:Slot "str" name id)(MF:typeOf (.builtin id)=pure (.type "method_descriptor"))(hm:NA X id (rMtS X.K g))(ho:QO X o fa)(ha:Lx X (e::es) fs)
  (Iu:attributeBase o name X.env (eval o X.env)=eval o X.env:=by rfl)
  (JT:((backTo Hj (starEach (e::es) X.env)).all (fun x=>!x.1)&&(backToKw Hj (keywordEach [] X.env)).all (fun x=>x.1.isSome)&&decide ((e::es).length+([]:List Keyword).length+(if([]:List Keyword).isEmpty then 0 else 1)<30))=true:=by rfl)
  (Iv:(apos.endLine==Hj.line)=true:=by rfl) (hs:starEach (e::es) X.env=(false,eval e X.env)::starEach es X.env:=by rfl) (HQ:(backTo Hj (starEach es X.env)).any (·.1)=false:=by rfl):
  QE X (.Call (.Attribute o name apos) (e::es) [] Hj) (E2 g fa fs):=by
 refine bN (zk PySem.F.plainAttrs_str slot MF hm ho ha Iu JT Iv hs HQ) fun σ H Q Hm=>?_
 obtain⟨G,env,fp,r,env',rel,e,k⟩:=Hm;obtain⟨⟨oa,GQ⟩,e1,e⟩:=ar e;dsimp only at e;split at e
 ·rename_i l hl;obtain⟨⟨os,Ha⟩,e2,e⟩:=ar e;obtain⟨ds,e3,e⟩:=ar e;obtain⟨r',e4,e⟩:=ar e;cases e;refine⟨G,env,fp,oa,GQ,rel,e1,fun v H1 G1 Hn Hi GW Io=>?_⟩;obtain⟨ev,hz⟩:=gW (GW.vw Io hl);subst ev;exact⟨rfl,G1,GQ,Hn,os,Ha,GW,e2,fun vs H2 G2 HK Hd GS Ml=>⟨G2,HK,Ha,σ,l,ds,r,⟨GS,fun v H' G' G9 st Ho=>k v H' G' G9 (Hi.trans (Hd.trans st)) Ho⟩,rfl,hz,GS.vws Ml e3,e4⟩⟩
 ·cases e
end
theorem fnok_of{P:Program}{w:World}{K:W.Frag}{mg:Str->Option Value}{base:Heap}{x:Str}{st:Stmt}{N ps:List Str}{k:Nat}{g:FS}{f:Addr}{fd:FuncData}(F:Fun K x x st f fd)(sc:FnScope N ps (defScope st))
  (body:∀(Hs:Value) (A:Around) (outer:List PySem.Env) (s:Shared) (H:Hp) (E:XK),Room k (A.deeper (envOfC x (defScope st) s.heap.objs.size f Hs))->MP (md:=.plain) (sT MI P w K mg base N x (defScope st) f Hs A outer s H E).nox (dE st) g):
  FnOk P w K mg base MI (k+1) f fd ps (spF K (fBody ps.length (N.length-ps.length) g)):=by
 refine F.ok sc (fun vs H Q E h=>?_) (fun Hs A outer s H vs Q E hr h=>?_)
 ·obtain⟨G,ds,r,_,rs,e,_⟩:=h;unfold fBody at e;split at e
  ·rename_i hl;rw[rs.length,hl]
  ·cases e
 ·obtain⟨G,ds,r,gh,rs,e,q⟩:=h;unfold fBody at e;split at e
  ·rename_i hl;refine⟨_,body Hs A outer s H E hr,G,ds.map (fun d=>some (O.f,d))++List.replicate (N.length-ps.length) none,[],⟨?_,Vm,(fun _ h=>nomatch h),gh⟩,?_⟩
   ·have:=jx (K:=K) (G:=G) (H:=H) (N.length-ps.length) rs;unfold L2.start;rw[rs.length,hl];exact this
   ·obtain⟨o,eo,e⟩:=ar e;rw[eo];cases o with
    |rt r'=>
     cases e;exact fun v H' G' G9 st rel=>q v H' G' G9 st rel
    |nx env'=>
     cases e;exact fun σ' H' G' G9 st rel=>q .non H' G' [] (st.trans (Step.cut fun _ h=>nomatch h)) (rel.nilF.push lu)
    |bk env'=>cases e
    |ct env'=>cases e
  ·cases e
def xM(K:W.Frag):Sp:=fun vs H Q _=>∃(a:Addr) (ns:List Int),vs=[.ref a]/\SqL K H a (ns.map V.int)/\ns.length<=63/\∀H',Q (.bl true) H'
theorem CS{K:W.Frag}{F:List D->Res R}(h:∀ns:List Int,ns.length<=63->∃o,F [.lst (ns.map D.int)]=.ok (o,.bl true)):∀vs H Q E,xM K vs H Q E->spF K F vs H Q E:=by
 rintro vs H Q E ⟨a,ns,rfl,sq,hl,q⟩;obtain⟨o,e⟩:=h ns hl;refine⟨H,_,_,.refl _,?_,e,fun v H' G' G9 st rel=>?_⟩
 ·refine .one ?_;rw[Rep];exact⟨a,_,rfl,sq,gu fun n _=>bh n⟩
 ·rw[dC rel.top];exact q H'
theorem _root_.L2.Room.u65{k:Nat}{A:Around}(r:Room k A):A.units+65<cLine:=by have:=r.un;lia
def Eb(f:FX)(a:FG):FS:=fun env=>(f env).bind fun p=>(a p.1.2 p.2).bind fun e=>.ok (.nx e)
theorem CT{X:Cx}{tg e:Expr}{f:FX}{a:FG}{pos:Pos}(he:QE X e f)(hg:QG X tg a)(hs:swapsWithSole [tg] e pos.line X.env=pure false:=by rfl)(hw:swappedStores [tg] e X.env=pure none:=by rfl)
  (h1:(assignEach [tg] X.env).map (·.2)=[assign tg X.env]:=by rfl):QS (md:=md) X (.Assign [tg] e pos) (Eb f a):=fR (BQ he hg hs hw h1) fun Dd σ H Hg=>by
 obtain⟨G,env,fp,rel,k⟩:=Hg;unfold Eb at k;match q:f env,k with
 | .ok (r,GQ),k=>
  have k:OutOk X.K G H fp Dd ((a r.2 GQ).bind fun e=>.ok (.nx e)):=k;match q2:a r.2 GQ,k with
  | .ok Ha,k=>
   refine⟨G,env,fp,r,GQ,rel,q,fun v H1 G1 Hn Hi GW=>?_⟩;obtain⟨G2,b,rv,GS,Hd⟩:=GW.freeze;exact⟨G2,GQ,b,r.2,Ha,GS,rv,q2,fun σ' G' G9 st Ho=>k σ' H1 G' G9 (Hi.trans (Hd.trans st)) Ho⟩
theorem Gr{l:PySem.W.OpenLaw}{q:Program}{loose:List Str}{XP:(Str->Option Value)->Heap->Prop}{YP:World->Heap->Prop}{d:DefRec}{K:Params->W.Frag}{k:Nat}{x:Str}(hn:l.most=some 63)(Qm:d.params.defaults=[])(hr:Room k PySem.callerA)
  (hY:∀(w:World) (h:Heap),YP w h->(K w.params).In h)
  (F:∀(w:World) (mg:Str->Option Value) (fa:Addr) (h:Heap),(K w.params).In h->h.Ns mainGlobals mg->mg d.name=some (.ref fa)->
   ∃fd:FuncData,(∀(s:Shared) (u:Value),BindsTo s fd ⟨[u],[]⟩ [(x,u)])/\∀base:Heap,(K w.params).In base->base.Ns mainGlobals mg->FnOk l.prog w (K w.params) mg base MI k fa fd [x] (xM (K w.params))):
  PySem.W.WalkO q loose XP YP l.row.toRowW d [] (fun f vs=>PySem.call f vs):=
 L2.zm (n:=63) (k:=k) (x:=x) (CX:=fun _=>MI) (sp:=fun w=>xM (K w.params)) hn (by decide) Qm hr hY F (fun _ _ a ns hl _ hS=>⟨a,ns,rfl,hS,hl,fun _=>rfl⟩) fun _ _ _ _ _ z=>z
theorem mV:bootBuiltins "max" = some (.builtin "max"):=by decide +kernel
theorem yL:bootBuiltins "min" = some (.builtin "min"):=by decide +kernel
theorem CU:bootBuiltins "sum" = some (.builtin "sum"):=by decide +kernel
theorem CV:bootBuiltins "all" = some (.builtin "all"):=by decide +kernel
theorem yM:bootBuiltins "any" = some (.builtin "any"):=by decide +kernel
theorem jF:bootBuiltins "sorted" = some (.builtin "sorted"):=by decide +kernel
theorem CW{K:W.Frag}{h:Heap}{mg:Str->Option Value}{x:Str}{st:Stmt}{f:Addr}{oc:Value}{od an:Option Addr}{ME:Array (Option Value)}{kV doc pm Hs ct:Value}(X:K.In h)(G:h.Ns mainGlobals mg)
  (a:PySem.W.nsIn K mainGlobals x=some (some (.ref f))) (l:K.lookup f=some ⟨oc,od,.func (PySem.W.fnOf x x (f9 st) (dE st) (defScope st) .none kV doc pm an Hs ct),ME⟩)
  (c:PySem.W.codeIn K Hs x=true) (k:PySem.W.keepIn K (.ref f)=true):Def K mg x st:=⟨f,_,yp l c k,VG X G a⟩
inductive tQL(K:W.Frag)(f:FI)(σ:L2.St)(H:Hp)(R:It->Hp->Prop):Prop
 |mk:∀G env fp ds env',Rel K G H env σ fp->f env=.ok (ds,env')->(∀J H' G' G9,Step G H fp G' H' G9->Rel K G' H' env' σ G9->(∀G2,Same G' G2->(∀(i:Nat) (r:PV.R) (v:V),env'[i]?=some (some r)->σ[i]?=some (some v)->Rep K G2 r.2 v)->Walk K G2 J ds)->R J H')->tQL K f σ H R
def Pd(X:Cx)(tg e:Expr)(f:FI):Prop:=PI X tg e (tQL X.K f)
theorem Walk.mono{K:W.Frag}{G G2:Hp}{J:It}{ds:List D}(w:Walk K G J ds)(gg:Same G G2):Walk K G2 J ds:=fun G' H' es vs fp g rel=>w G' H' es vs fp (gg.trans g) rel
theorem yN{K:W.Frag}{fi:FI}{ix:List (Option Nat)}{a:FG}{c:FT}{f:FX}{σ:L2.St}{H:Hp}{Q:VK}(h:tQ K (cx fi ix a c f) σ H Q):zp (tQL K fi) ix (tQG K a) (tQT K c) (tQ K f) σ H Q:=by
 obtain⟨G,env,fp,r,env',rel,e,k⟩:=h;obtain⟨⟨ds,GQ⟩,e1,e⟩:=ar e;obtain⟨rs,e2,e⟩:=ar e;refine⟨G,env,fp,ds,GQ,rel,e1,fun J H1 G1 Hn Hi GW wk D hD=>?_⟩;dsimp only at e e2;split at e
 ·rename_i hz;have er:r=(.l .f,.lst rs):=by cases e;rfl
  have ee:env'=if flatDs rs then GQ else GQ.map frz:=by cases e;rfl
  subst er;obtain⟨G2,Pb,Pc,JO,hrE,JV⟩:=GW.lend;have wk2:=wk G2 Pb JO;have GS:Rel K G2 H1 (fg ix GQ) (mL ix σ) []:=⟨gZ JO (fun i r er=>let⟨v,ev,_⟩:=GW.view er;⟨v,ev⟩) ix,Vm,(fun _ h=>nomatch h),Pc⟩
  obtain⟨Ht,Hy⟩:=GS.newL (ds:=[]) (xs:=[]) hD .nil;refine⟨fun i m σ1 H2=>m=ds.length-i/\i<=ds.length/\∃G' es G9 acc cH,Step G2 H1 [] G' H2 G9/\Rel K G' H2 (some (.l .f,.lst acc)::es) (some (.ref D)::σ1) G9/\cC a c f (ds.drop i) es=.ok cH/\acc++cH=rs,
   ⟨_,rfl,U6 _,G2,fg ix GQ,_,[],rs,Hy,Ht,e2,rfl⟩,?_⟩
  rintro i m σ1 H2 ⟨rfl,hi,G3,es,JB,acc,cH,Il,Hz,e4,MU⟩;obtain⟨w1,w2⟩:=wk2 G3 H2 _ _ _ Il.gg Hz i;by_cases HN:i<ds.length
  ·have hd:ds[i]?=some ds[i]:=List.getElem?_eq_getElem HN;obtain⟨go,yl⟩:=w1 _ hd;rw[Xs HN]at e4;unfold cC at e4;obtain⟨SI,h1,e4⟩:=ar e4;obtain⟨⟨b,P8⟩,h2,e4⟩:=ar e4;dsimp only at e4;refine .inr ⟨go,fun x H3 y=>?_⟩;obtain⟨G4,rx,Ip,JM⟩:=yl x H3 y;obtain⟨fa,fb,TL,ra,relb,bk⟩:=Ip.frame;refine⟨G4,es,fb,ds[i],SI,relb,rx,h1,fun σ2 G5 QN st6 rel6=>?_⟩;refine⟨G5,SI,QN,b,P8,rel6,h2,fun H6 G6 TM st7 QQ=>?_⟩;have QR:=st6.trans st7;cases b with
   |false=>
    refine iteF ⟨ds.length-(i+1),by lia,rfl,HN,?_⟩;obtain⟨MV,NO⟩:=bk G6 H6 P8 σ2 TM QR QQ;rw[<-TL]at NO;exact⟨G6,P8,_,acc,cH,Il.trans (JM.trans NO),MV,e4,MU⟩
   |true=>
    have e4:((f P8).bind fun q=>(cC a c f (ds.drop (i+1)) q.2).bind fun rs=>.ok (q.1.2::rs))=.ok cH:=e4;obtain⟨⟨r,SR⟩,h3,e4⟩:=ar e4;obtain⟨QU,h4,e4⟩:=ar e4;cases e4;refine Bs ⟨G6,P8,TM,r,SR,QQ,h3,fun v H7 G7 fp7 st8 rel8=>?_⟩;obtain⟨G8,fp8,rv,rel9,st9⟩:=rel8.freeze;obtain⟨MV,NO⟩:=bk G8 H7 SR σ2 fp8 (QR.trans (st8.trans st9)) rel9;rw[<-TL]at NO;obtain⟨p,xs,ep,hp,QK,cg⟩:=MV.chg (i:=0) (ds:=acc) (ds':=acc++[r.2]) rfl;have ep:some (some (V.ref D))=some (some (V.ref p)):=ep;cases ep;obtain⟨fq,rely,sty⟩:=cg (xs++[v]) (QK.app (.one rv));refine⟨xs,hp,?_,ds.length-(i+1),by lia,rfl,HN,G8,SR,fq,acc++[r.2],QU,Il.trans (JM.trans (NO.trans sty)),rely,h4,?_⟩
    ·rw[QK.length];have:=VC List.length MU;rw[Vb,UI]at this;lia
    ·rw[<-MU,Vo];rfl
  ·have ei:i=ds.length:=by lia
   subst ei;rw[List.drop_length]at e4;cases e4;rw[Vd]at MU;subst MU;refine .inl ⟨w2 rfl,?_⟩;obtain⟨fa,relo,sto⟩:=Hz.only;obtain⟨k1,k2⟩:=JV H2 G3 fa _ _ (Il.trans sto) relo;rw[ee]at k;by_cases hc:flatDs acc=true
   ·rw[Ut hc]at k;obtain⟨G5,QN,JM,Ip⟩:=k1 (by rw[cT,nP];exact hc);exact k _ H2 G5 QN (Hi.trans JM) Ip
   ·rw[UD hc]at k;obtain⟨G5,QN,JM,Ip⟩:=k2;exact k _ H2 G5 QN (Hi.trans JM) Ip
 ·cases e
section
variable{md:Mode}{X:Cx}{scope:Scope}{N:List Str}{tg iter elt:Expr}{ifs:List Expr}{pos:Pos}{fi:FI}{a:FG}{c:FT}{f:FX}
variable{l e:Expr}{g fj:FI}
theorem a7(h:QI X tg e fi):Pd X tg e fi:=km h fun σ H R ⟨G,env,fp,ds,env',rel,e,k⟩=>⟨G,env,fp,ds,env',rel,e,fun J H' G' G9 st Ho wk=>k J H' G' G9 st Ho fun _ gg _=>wk.mono gg⟩
theorem dv(h:Pd X tg e fi)(h2:Pd X tg e fj):Pd X tg e (H0 fi fj):=fun pi s σ H R I Hg=>by
 obtain⟨G,env,fp,ds,env',rel,ee,k⟩:=Hg;rcases yI ee with z|z
 ·exact h pi s σ H R I ⟨G,env,fp,ds,env',rel,z,k⟩
 ·exact h2 pi s σ H R I ⟨G,env,fp,ds,env',rel,z,k⟩
def iN(i:Nat):FI:=fun env=>match env[i]? with
 |some (some (_,.lst ds))=>.ok (ds,env)
 |_=>.bad
theorem fK{i:Nat}(h:PE X l (qj i)):Pd X tg l (iN i):=km (uq h) fun σ H R Hg=>by
 obtain⟨G,env,fp,ds,env',rel,e,k⟩:=Hg;unfold iN at e;split at e
 ·rename_i o ds hr;cases e;obtain⟨v,ev,rv⟩:=rel.view hr;obtain⟨p,xs,TN,sq,rs⟩:=bR rv;refine⟨v,ev,p,TN,⟨xs,sq⟩,k _ H G fp .refl rel fun G2 gg JO=>?_⟩;obtain⟨p',Je,QV,IJ,JN⟩:=bR (JO i _ v hr ev);rw[TN]at QV;cases QV;exact px IJ JN
 ·cases e
theorem aW(ix:List (Option Nat))(N:List Str)(hc:X.calm=true)(hi:Pd X tg iter fi)(hg:∀C s H fp pn,QG (cw X scope N C s H fp pn) tg a)(ht:∀C s H fp pn,RJ (cw X scope N C s H fp pn) ifs c)(he:∀C s H fp pn,QE (cw X scope N C s H fp pn) elt f)
  (hf:jq scope X.env=true:=by rfl) (hk:scope.kind=.function:=by rfl) (HP:∀y∈scope.names,y.2≠.cell:=by decide +kernel) (IU:∀y∈scope.names,y.2=.local->scope.names.lookup y.1=some .local:=by decide +kernel) (IT:yr X scope N ix=true:=by rfl)
  (hs:∀x,foldedSetIterable iter X.env x=pure x:=by intro _;rfl):QE X (.ListComp elt [⟨tg,iter,ifs,0⟩] scope pos) (cx fi ix a c f):=
 bN (zu (g:=tQG X.K a) (tc:=tQT X.K c) (te:=tQ X.K f) ix N hc hi hg ht he hf hk HP IU IT hs) fun _ _ _=>yN
theorem kX{i:Nat}{y:Str}{py MK:Pos}(ix:List (Option Nat))(N:List Str)(hN:X.N.Nodup)(Sk:X.N[i]?=some y)(hy:Loc X.env.scope y)(hc:X.calm=true)(hi:Pd X tg iter fi)(hg:∀C s H fp pn,QG (cw X scope N C s H fp pn) tg a)(ht:∀C s H fp pn,RJ (cw X scope N C s H fp pn) ifs c)
  (he:∀C s H fp pn,QE (cw X scope N C s H fp pn) elt f) (Sl:swapsWith (.ListComp elt [⟨tg,iter,ifs,0⟩] scope pos) (some (.Name y py)) MK.line X.env=pure true:=by rfl)
  (hf:jq scope X.env=true:=by rfl) (hk:scope.kind=.function:=by rfl) (HP:∀y∈scope.names,y.2≠.cell:=by decide +kernel) (IU:∀y∈scope.names,y.2=.local->scope.names.lookup y.1=some .local:=by decide +kernel) (IT:yr X scope N ix=true:=by rfl)
  (hs:∀x,foldedSetIterable iter X.env x=pure x:=by intro _;rfl) (Nv:X.fn y=true\/X.env.scope.names.lookup y=some .local:=by first|exact .inl rfl|exact .inr rfl):
  QS (md:=md) X (.Assign [.Name y py] (.ListComp elt [⟨tg,iter,ifs,0⟩] scope pos) MK) (bQ i (cx fi ix a c f)):=
 fR (zv (i:=i) (g:=tQG X.K a) (tc:=tQT X.K c) (te:=tQ X.K f) ix N hN Sk hy hc hi hg ht he Sl hf hk HP IU IT hs Nv) fun D σ H ⟨G,env,fp,rel,k⟩=>yN (vC rel k)
end
section
variable{X:Cx}{a:Expr}{pos:Pos}{fa:FO}
def GL(fa:FO):FX:=fun env=>(fa env).bind fun p=>(Iq p.2 p.1).bind fun d=>match d with
 | .int i=>.ok ((.f,.int (-i)),p.2)
 |_=>.bad
theorem vO{i:Int}(h:i.natAbs<2 ^ 1000):Builtin.Int.intBits i<=2 ^ 20:=by
 unfold Builtin.Int.intBits;split
 ·exact U6 _
 ·rename_i h0;have h1:i.natAbs≠0:=by
   intro e;rw[Int.natAbs_eq_zero]at e;exact h0 (by rw[e];rfl)
  have:=(Nat.log2_lt h1).mpr h;have e:(2:Nat) ^ 20=1048576:=by decide
  lia
theorem Ai:HS X (binaryOp .Mult) (rI (fun i j=>i.natAbs<2 ^ 1000/\j.natAbs<2 ^ 1000) fun i j=>.int (i*j)):=Qi fun _ _ _ _ _ _ _ hc q=>mul_int q (.of_bits (vO hc.1) (vO hc.2))
theorem pH{α:Type}:∀(ls:List (Array α)) (acc:Array α),(ls.foldl (·++·) acc).toList=acc.toList++(ls.map Array.toList).flatten
 |[],acc=>by simp
 |a::ls,acc=>by
  rw[Wv,pH ls,Array.toList_append,UH,VZ,Vo]
theorem E3(l:List Nat)(n:Nat):(⟨(List.replicate n (S l).cps).foldl (·++·) #[]⟩:Str)=S (List.replicate n l).flatten:=by
 have h:((List.replicate n (S l).cps).foldl (·++·) #[]).toList=(List.replicate n l).flatten:=by
  rw[pH,List.map_replicate];simp only[fe,Xm]
 show Str.mk _=Str.mk _;rw[<-h]
theorem Aj(a b:Int):EU (.int a) (.int b)=if cE a||cE b then .ok (.f,.int (a*b)) else .bad:=rfl
noncomputable def Ak:D->D->Res R
 | .int i,.int j=>if cE i||cE j then .ok (.f,.int (i*j)) else if i.natAbs<2 ^ 1000/\j.natAbs<2 ^ 1000 then .ok (.f,.int (i*j)) else .bad
 | .str l,.int k=>if 2<=k/\k<=1000/\1<=l.length/\l.length<=1000 then .ok (.f,.str (List.replicate k.toNat l).flatten) else .bad
 |_,_=>.bad
theorem Al:HS X (binaryOp .Mult) (rG X.K Ak):=by
 rintro pi s σ H x y v u Q I rx ry ⟨G,fp,es,vs,a,b,r,⟨rel,k⟩,va,vb,e⟩;unfold Ak at e;split at e
 ·rename_i i j;split at e
  ·rename_i hc;exact Cz pi s σ H x y v u Q I rx ry ⟨G,fp,es,vs,.int i,.int j,r,⟨rel,k⟩,va,vb,by rw[Aj,Ut hc];exact e⟩
  ·split at e
   ·rename_i hc;cases e;cases bS va;cases bS vb;exact Ai pi s σ H _ _ v u Q I rx ry ⟨i,j,rfl,rfl,hc,k _ H G fp .refl (rel.push (bh _))⟩
   ·cases e
 ·rename_i l j;split at e
  ·rename_i hc;cases e;obtain⟨ev,hl⟩:=gW va;subst ev;cases bS vb;obtain⟨t,rfl⟩:=rx;obtain⟨t',rfl⟩:=ry;have hlen:(S l).length=l.length:=mw l;have hz:(List.replicate j.toNat l).flatten.length<=1000000:=by
    rw[nr];exact Nat.mul_le_mul (by lia:j.toNat<=1000) hc.2.2.2
   have Mw:(List.replicate j.toNat l).flatten.length<=sizeLine:=Vh hz (by decide);refine PySem.P.mul_str ?_ ?_ ?_ ?_
   ·rw[UO (by lia),UO (by lia)];rfl
   ·intro _ _;rw[hlen];have h1:1000<=(2 ^ 63-1) / j:=(Int.le_ediv_iff_mul_le (by lia)).mpr (by lia);lia
   ·intro _ _;unfold Builtin.Str.tooLong;rw[Vp,hlen,Y6,<-nr];lia
   ·rw[UD (by lia),UD (by rw[hlen,Wx,UQ,UQ];lia),E3];refine⟨?_,?_⟩
    ·rw[mw];exact Mw
    ·exact⟨.str (S (List.replicate j.toNat l).flatten),H,I.tok _,⟨_,rfl⟩,k _ H G fp .refl (rel.push (i6 Mw))⟩
  ·cases e
 ·cases e
end
end PV
namespace HT
open PySem PySem.Spec PyProof.Rows L2
variable{prog:Program}{w:World}{A:Around}{E:Value->Shared->Prop}{s:Shared}
theorem jG{t sl:Addr}{items:Array Value}{vl vu:Value}{lo hi:Option Int}{Q:Value->Shared->Prop}(ht:IsTup s.heap t items)(hs:s.heap.IsSliceOf sl vl vu .none)(pl:IsPart vl lo)(pu:IsPart vu hi)
  (hw:sIx items.size 0 lo=0/\sIx items.size items.size hi=items.size) (h:Q (.ref t) s):wpAny (model prog w) A (getItem (.ref t) (.ref sl)) Q E s:=by
 obtain⟨os,Ny,Ry,Nz⟩:=id hs;have Se:s.TypeIs (.ref sl) "slice":=⟨os,Ny,Ry⟩
 unfold getItem;try with_reducible refine VO ?_
 first|refine Uk (Ul ?_)|skip
 refine Uk (wpAny_sequenceKey ht.typeIs (by decide) ?_);refine Uk (wpAny_callSpecial?_slot (name:=Str.ofString "__getitem__") ht.typeIs VL
  (Vj VL ht.typeIs entry_tuple_getitem ?_ (args_tuple_getitem _ _)))
 show wpAny _ _ (Builtin.Tuple.tupleItemsOf (.ref t) >>= _) _ _ s;refine Uk (tupleItemsOf_ ht ?_);refine Uk (WH Se ?_);rw[Ut (by decide)];refine Uk (gI hs pl pu ?_);have hyes:(((sIx items.size 0 lo:Nat):Int)==0&&(1:Int)==1&&(sIx items.size items.size hi-sIx items.size 0 lo)==items.size)=true:=by
  rw[hw.1,hw.2];simp
 show wpAny _ _ (if(((sIx items.size 0 lo:Nat):Int)==0&&(1:Int)==1&&(sIx items.size items.size hi-sIx items.size 0 lo)==items.size)=true then _ else _) _ _ s;rw[Ut hyes];refine Uk (m:=Builtin.Tuple.tupleIsExact _) ?_;unfold Builtin.Tuple.tupleIsExact;refine Uk (WH ht.typeIs (Ul ?_));rw[Ut (by decide)];exact Uk (XB (Ul ⟨_,rfl,Ul h⟩))
end HT
namespace PV
open PySem PySem.Spec PyProof.Rows L2 NX
section
variable{X:Cx}{pos:Pos}{fa:FO}
theorem Am:OT X (fun x lo hi H Q=>∃a xs,x=.ref a/\SqT X.K H a xs/\(HT.sIx xs.length 0 lo=0/\HT.sIx xs.length xs.length hi=xs.length)/\Q x H):=by
 intro pi s σ H x v vl vu lo hi sl Q I rx hs pl pu h;obtain⟨a,xs,rfl,hx,hw,q⟩:=h;cases rx;obtain⟨GU,r,ht,hz⟩:=I.tuple hx;have hlen:GU.toArray.size=xs.length:=by rw[Uo];exact r.length.symm
 refine⟨"tuple",_,PyProof.Rows.slot_tuple_getitem.lookup,ht.typeIs,?_⟩;exact HT.jG ht hs pl pu (by rw[hlen];exact hw) ⟨.ref a,H,I,rfl,q⟩
def QY(k:D)(lo hi:Option Int):Res R:=match k with
 | .tup ds=>if HT.sIx ds.length 0 lo=0/\HT.sIx ds.length ds.length hi=ds.length then .ok (.f,.tup ds) else QJ k lo hi
 |_=>QJ k lo hi
def An(fa:FO)(lo hi:FP):FX:=fun env=>(fa env).bind fun p=>(lo p.2).bind fun q=>(hi q.2).bind fun t=>(Iq t.2 p.1).bind fun d=>(QY d q.1 t.1).bind fun r=>.ok (r,t.2)
inductive rSlW(K:W.Frag)(x:V)(lo:Option Int)(hi:Option Int)(H:Hp)(Q:VK):Prop
 |mk:∀G fp es vs d r,Goes K H G fp es vs r Q->Vw K G H d x->QY d lo hi=.ok r->rSlW K x lo hi H Q
theorem CY:OT X (rSlW X.K):=by
 rintro pi s σ H x v vl vu lo hi sl Q I rx hs pl pu ⟨G,fp,es,vs,d,r,⟨rel,k⟩,vd,e⟩;unfold QY at e;split at e
 ·rename_i ds;split at e
  ·rename_i hw;cases e;obtain⟨p,xs,ev,sq,rs⟩:=iQ vd;subst ev;refine Am pi s σ H _ v vl vu lo hi sl Q I rx hs pl pu ⟨p,xs,rfl,b5 rel.gh sq,by rw[rs.length];exact hw,?_⟩;exact k _ H G fp .refl (rel.push vd)
  ·exact CA pi s σ H x v vl vu lo hi sl Q I rx hs pl pu ⟨G,fp,es,vs,_,r,⟨rel,k⟩,vd,e⟩
 ·exact CA pi s σ H x v vl vu lo hi sl Q I rx hs pl pu ⟨G,fp,es,vs,_,r,⟨rel,k⟩,vd,e⟩
theorem pI{e:Expr}{lo hi:Option Expr}{p2:Pos}{fl fh:FP}(he:QO X e fa)(hl:QP X lo fl)(hh:QP X hi fh):QE X (.Subscript e (.Slice lo hi none p2) pos) (An fa fl fh):=
 bN (xb CY he hl hh) fun σ H Q Hg=>by
  obtain⟨G,env,fp,r,env',rel,e,k⟩:=Hg;obtain⟨⟨o,GQ⟩,e1,e⟩:=ar e;obtain⟨⟨i,Ha⟩,e2,e⟩:=ar e;obtain⟨⟨j,Iw⟩,e3,e⟩:=ar e;obtain⟨d,e4,e⟩:=ar e;obtain⟨r',e5,e⟩:=ar e;cases e;exact⟨G,env,fp,o,GQ,rel,e1,fun v H1 G1 Hn Hi GW Io=>⟨G1,GQ,Hn,i,Ha,GW,e2,fun H2 G2 HK Hd GS=>⟨G2,Ha,HK,j,Iw,GS,e3,fun H3 G3 JB Hy Ht=>
   ⟨G3,JB,Iw,σ,d,r,⟨Ht,fun v H' G' G9 st Ho=>k v H' G' G9 (Hi.trans (Hd.trans (Hy.trans st))) Ho⟩,Ht.vw ((Io.mono Hd.gg).mono Hy.gg) e4,e5⟩⟩⟩⟩
end
end PV
namespace L2
open PySem PySem.Spec PyProof.Rows
section
variable{X:Cx}{tg:Expr}
def vP(i j c:Int):Prop:=(-1048576<=i/\i<=1048576)/\(-1048576<=j/\j<=1048576)/\(c = -1\/1<=c)/\c<=1048576
instance (i j c:Int):Decidable (vP i j c):=by unfold vP;infer_instance
end
end L2
namespace PV
open PySem PySem.Spec PyProof.Rows L2 NX
section
variable{X:Cx}{tg:Expr}
def CZ:List D->Res R
 |[d]=>match(mn d).bind du with
  |some (n::ns)=>.ok (.f,.int (uR (n::ns)))
  |_=>.bad
 |[.int i,.int j]=>.ok (.f,.int (if j<i then j else i))
 |_=>.bad
theorem yO(hc:X.calm=true):cX X (.builtin "min") (rC X.K CZ):=by
 rintro pi s σ H xs us Q I rx ⟨G,fp,es,vs,ds,r,⟨rel,k⟩,vd,e⟩;unfold CZ at e;split at e
 ·rename_i d;split at e
  ·rename_i n ns hb;cases e;obtain⟨v,ev,vt⟩:=ml vd;obtain⟨p,ep,sq⟩:=g0 rel.gh hb vt;subst ev;subst ep;exact uT hc pi s σ H _ us Q I rx ⟨p,n::ns,rfl,sq,by simp,k _ H G fp .refl (rel.push (bh _))⟩
  ·cases e
 ·rename_i i j;cases e;obtain⟨v,w',ev,v1,v2⟩:=FL vd;subst ev;cases bS v1;cases bS v2;exact uA hc pi s σ H _ us Q I rx ⟨i,j,rfl,k _ H G fp .refl (rel.push (bh _))⟩
 ·cases e
def GN:List D->Res R
 |[.int i]=>.ok (.f,.int (if i<0 then -i else i))
 |_=>.bad
noncomputable def E4(fs:Ih):FI:=fun env=>(fs env).bind fun p=>(pj p.2 p.1).bind fun d=>match d with
 |[.int i,.int j,.int c]=>if vP i j c then .ok ((List.range (Builtin.Range.rangeSize i j c).toNat).map fun(k:Nat)=>D.int (i+(k:Int)*c),p.2) else .bad
 |_=>.bad
end
end PV
namespace NX
open PySem PySem.Spec PyProof.Rows L2
section
open PySem.SeqAt
open PySem.AutoSeq1 (wpAny_loadPart')
theorem lG{M:Model}{A:Around}{E:Value->Shared->Prop}{s:Shared}{β:Type}(f:Nat->β->Sem (ForInStep β))(n:Nat)(I:Nat->β->Shared->Prop)(Q:β->Shared->Prop)
  (turn:∀(i:Nat) (b:β) (s:Shared),i<n->I i b s->wpAny M A (f i b) (fun r s'=>match r with | .yield b'=>I (i+1) b' s' | .done b'=>Q b' s') E s)
  (fin:∀(b:β) (s:Shared),I n b s->Q b s) (b:β) (h:I 0 b s):wpAny M A (forIn [0:n] b f) Q E s:=by
 rw[Std.Legacy.Range.forIn_eq_forIn_range'];refine wpAny_forIn_list f (fun cH b s=>∃i,i<=n/\cH=List.range' i (n-i)/\I i b s) Q ?_ ?_ _ b ?_
 ·rintro x cH b s ⟨i,hi,hr,h⟩;by_cases LC:i<n
  ·have e:n-i=(n-(i+1))+1:=by lia
   rw[e,List.range'_succ]at hr;injection hr with h1 h2;subst h1;refine Hk (turn x b s LC h) fun r s' TQ=>?_
   cases r with
   |yield b'=>exact⟨x+1,by lia,h2,TQ⟩
   |done b'=>exact TQ
  ·have e:n-i=0:=by lia
   rw[e]at hr;cases hr
 ·rintro b s ⟨i,hi,hr,h⟩;by_cases LC:i<n
  ·have e:n-i=(n-(i+1))+1:=by lia
   rw[e,List.range'_succ]at hr;cases hr
  ·have e:i=n:=by lia
   subst e;exact fin b s h
 ·refine⟨0,U6 _,?_,h⟩;simp[Std.Legacy.Range.size]
theorem kN(l:Addr)(items:Array Value)(n:Nat)(dd:Option Addr)(sl:Array (Option Value))(ns:List Str)(c:Str)(t:Tok)(hi:Vals (ns.map V.str) items.toList)(i:Nat)(hx:ns[i]?=some c)(h0:∀j,j<i->ns[j]?≠some c):
  Meets (Builtin.«tuple.index» ⟨[.ref l,.str c t],[]⟩)
   (fun _ R s=>s.heap.get? l=some {cls:=.type "tuple",dict:=dd,data:=.seq items n,slots:=sl}/\R (.ok (.ret (.int (i:Int) s.toks))) {s with toks:=s.toks+1}):=
 .of_wp fun prog w A R s h=>by
  obtain⟨hp,g,d,tk,os⟩:=s;obtain⟨hl,h⟩:=h;have z1:items.size=ns.length:=by have:=hi.length;simp at this;lia
  have LC:i<ns.length:=(List.getElem?_eq_some_iff.mp hx).1;have key:∀(j:Nat),j<ns.length->∃(b:Str) (u:Tok),items[j]?=some (.str b u)/\ns[j]?=some b:=by
   intro j hj;obtain⟨v,hv,hr⟩:=hi.get (i:=j) (x:=V.str ns[j]) (by simp[hj]);obtain⟨u,rfl⟩:=hr;exact⟨ns[j],u,by rw[<-Array.getElem?_toList];exact hv,by simp[hj]⟩
  wp_walk using wpAny_loadPart' hl,lG _ _ (fun j b s'=>b.1=none/\s'=⟨hp,g,d,tk,os⟩/\j<=i) _
  case turn=>
   rintro j ⟨b1,b2⟩ s' hj ⟨hb,rfl,TR⟩;simp only at hb;subst hb;obtain⟨b,u,e1,e2⟩:=key j (by lia);have he:EqAt A.in1 ⟨hp,g,d,tk,os⟩ (.str b u) (.str c t) (b==c):=EqAt.str_str b u c t;by_cases L4:b=c
   ·have hji2:j=i:=by
     rcases Nat.lt_or_ge j i with HN|hge
     ·exact absurd (by rw[e2,L4]) (h0 j HN)
     ·lia
    subst hji2 L4;rw[e1];refine Uk (he prog w _ _ ?_);rw[show(b==b)=true from Ve b]
    wp_walk
    exact⟨_,rfl,h⟩
   ·rw[e1];refine Uk (he prog w _ _ ?_);rw[show(b==c)=false from U7.mpr L4]
    wp_walk
    refine⟨rfl,rfl,?_⟩;rcases Nat.lt_or_ge j i with HN|hge
    ·exact HN
    ·have:j=i:=by lia
     subst this;rw[e2]at hx;cases hx;exact absurd rfl L4
  case fin=>
   rintro⟨b1,b2⟩ s' ⟨hb,rfl,TR⟩;rw[Nat.min_self]at TR;lia
  case h=>exact⟨rfl,rfl,U6 _⟩
end
end NX
namespace L2
open PySem PySem.Spec PyProof.Rows
section
variable{X:Cx}{o e:Expr}{es:List Expr}{to:TE}{t:TA}{name:Str}{apos Hj:Pos}{id:String}{r:V->List V->Hp->VK->Prop}
def Gs(K:W.Frag)(r:V->List V->Hp->VK->Prop)(to:TE)(t:TA):TE:=fun σ H Q=>to σ H fun x H1=>(∃p ys,x=.ref p/\SqT K H1 p ys)/\t σ H1 fun xs H2=>r x xs H2 Q
theorem C0(slot:Slot "tuple" name id)(MF:typeOf (.builtin id)=pure (.type "method_descriptor"))(hm:NA X id r)(ho:PE X o to)(ha:PA X (e::es) t)
  (Iu:attributeBase o name X.env (eval o X.env)=eval o X.env:=by rfl)
  (JT:((backTo Hj (starEach (e::es) X.env)).all (fun x=>!x.1)&&(backToKw Hj (keywordEach [] X.env)).all (fun x=>x.1.isSome)
   && decide ((e::es).length+([]:List Keyword).length+(if([]:List Keyword).isEmpty then 0 else 1)<30))=true:=by rfl)
  (Iv:(apos.endLine==Hj.line)=true:=by rfl) (hs:starEach (e::es) X.env=(false,eval e X.env)::starEach es X.env:=by rfl) (HQ:(backTo Hj (starEach es X.env)).any (·.1)=false:=by rfl):
  PE X (.Call (.Attribute o name apos) (e::es) [] Hj) (Gs X.K r to t):=by
 intro pi s σ H Q I h;refine wpAny_Call_method_late Iu JT Iv rfl (Hk (ho pi s σ H _ I h) fun v s1 Hm=>?_);obtain⟨x,H1,I1,r1,⟨p,ys,ex,sq⟩,q1⟩:=Hm;subst ex;cases r1;obtain⟨GU,_,⟨ob,ho,hc,⟨n,hd⟩,hn⟩,_⟩:=I1.tupleN sq;refine⟨"tuple",id,PySem.F.plainAttrs_tuple,slot,MF,⟨ob,ho,hc⟩,fun a e2=>?_,?_⟩
 ·cases e2;exact⟨ob,ho,hn⟩
 have hA:=ha Hj pi s1 σ H1 _ I1 q1;rw[hs]at hA ⊢;refine Calls.callWith_builtin (by show(false||(backTo Hj (starEach es X.env)).any (·.1))=false;rw[HQ] <;> rfl) (W8 ?_);exact Hk hA fun us s2 ⟨vs,H2,I2,r2,q2⟩=>hm pi s2 σ H2 (.ref p) vs _ us Q I2 rfl r2 q2
end
end L2
namespace PV
open PySem PySem.Spec PyProof.Rows L2 NX
section
variable{X:Cx}
noncomputable def xN(g:List D->List D->Res R)(fa:FO)(fs:Ih):FX:=fun env=>(fa env).bind fun p=>(Iq p.2 p.1).bind fun a=>match a with
 | .tup _=>(fs p.2).bind fun q=>(Iq q.2 p.1).bind fun a2=>match a2 with
  | .tup l=>(pj q.2 q.1).bind fun ds=>(g l ds).bind fun r=>.ok (r,q.2)
  |_=>.bad
 |_=>.bad
inductive rMtT(K:W.Frag)(g:List D->List D->Res R)(x:V)(xs:List V)(H:Hp)(Q:VK):Prop
 |mk:∀G fp es vs l ds r,Goes K H G fp es vs r Q->Vw K G H (.tup l) x->OF K G H ds xs->g l ds=.ok r->rMtT K g x xs H Q
theorem rS{g:List D->List D->Res R}{id:String}{name:Str}{o e:Expr}{es:List Expr}{fa:FO}{fs:Ih}{apos Hj:Pos}(slot:Slot "tuple" name id)(MF:typeOf (.builtin id)=pure (.type "method_descriptor"))(hm:NA X id (rMtT X.K g))(ho:QO X o fa)(ha:Lx X (e::es) fs)
  (Iu:attributeBase o name X.env (eval o X.env)=eval o X.env:=by rfl)
  (JT:((backTo Hj (starEach (e::es) X.env)).all (fun x=>!x.1)&&(backToKw Hj (keywordEach [] X.env)).all (fun x=>x.1.isSome)&&decide ((e::es).length+([]:List Keyword).length+(if([]:List Keyword).isEmpty then 0 else 1)<30))=true:=by rfl)
  (Iv:(apos.endLine==Hj.line)=true:=by rfl) (hs:starEach (e::es) X.env=(false,eval e X.env)::starEach es X.env:=by rfl) (HQ:(backTo Hj (starEach es X.env)).any (·.1)=false:=by rfl):
  QE X (.Call (.Attribute o name apos) (e::es) [] Hj) (xN g fa fs):=by
 refine bN (C0 slot MF hm ho ha Iu JT Iv hs HQ) fun σ H Q Hm=>?_
 obtain⟨G,env,fp,r,env',rel,e,k⟩:=Hm;obtain⟨⟨oa,GQ⟩,e1,e⟩:=ar e;obtain⟨da,NL,e⟩:=ar e;dsimp only at e;split at e
 ·obtain⟨⟨os,Ha⟩,e2,e⟩:=ar e;obtain⟨d2,hd2,e⟩:=ar e;dsimp only at e;split at e
  ·obtain⟨ds,e3,e⟩:=ar e;obtain⟨r',e4,e⟩:=ar e;cases e;refine⟨G,env,fp,oa,GQ,rel,e1,fun v H1 G1 Hn Hi GW Io=>?_⟩;obtain⟨p,xs,ev,sq,_⟩:=bJ (Vw.rep GW.gh (GW.vw Io NL));exact⟨⟨p,xs,ev,sq⟩,G1,GQ,Hn,os,_,GW,e2,fun vs H2 G2 HK Hd GS Ml=>⟨G2,HK,_,σ,_,ds,r,⟨GS,fun v H' G' G9 st Ho=>k v H' G' G9 (Hi.trans (Hd.trans st)) Ho⟩,GS.vw (Io.mono Hd.gg) hd2,GS.vws Ml e3,e4⟩⟩
  ·cases e
 ·cases e
def mE(l:List D):List D->Res R
 |[.str c]=>match fU l with
  |some bs=>if c∈bs then .ok (.f,.int (bs.idxOf c:Nat)) else .bad
  |none=>.bad
 |_=>.bad
def Bv(l:List D):List D->Res R
 |[.str c]=>match fU l with
  |some bs=>.ok (.f,.int (bs.count c:Nat))
  |none=>.bad
 |_=>.bad
theorem yP{a b:List Nat}(h:S a=S b):a=b:=by
 have:=VC (fun s:Str=>s.cps.toList) h;simpa only[fe] using this
theorem rT:∀(bs:List (List Nat)) (c:List Nat) (j:Nat),bs[j]?=some c->bs.idxOf c<=j
 |[],c,j,h=>by simp at h
 |b::bs,c,0,h=>by
  simp at h;subst h;simp[Yi]
 |b::bs,c,j+1,h=>by
  rw[List.getElem?_cons_succ]at h;have:=rT bs c j h;rw[Yi];cases b==c with
  |true=>exact U6 _
  |false=>exact Nat.succ_le_succ this
def isS(c:Str):Value->Bool
 | .str b _=>b==c
 |_=>false
theorem mW(c:List Nat):∀(bs:List (List Nat)) (GU:List Value),Vals (bs.map fun l=>V.str (S l)) GU->GU.countP (isS (S c))=bs.count c
 |[],GU,h=>by cases h;rfl
 |b::bs,GU,h=>by
  cases h with
  |cons r rr=>
   obtain⟨t,rfl⟩:=r;rw[List.countP_cons,List.count_cons,mW c bs _ rr];congr 1
   show(if(S b==S c)=true then 1 else 0)=_;by_cases L4:b=c
   ·rw[L4,Ut (Ve _),Ut (Ve _)]
   ·rw[UD (by rw[UQ];exact fun e=>L4 (yP e)),UD (by rw[UQ];exact L4)]
theorem qB:NA X "tuple.count" (rMtT X.K Bv):=by
 rintro pi s σ H x xs v us Q I rx rv ⟨G,fp,es,vs,l,ds,r,⟨rel,k⟩,vx,vd,e⟩;unfold Bv at e;split at e
 ·rename_i c;split at e
  ·rename_i bs hb;cases e;obtain⟨p,ys,ev,sq,rs⟩:=bJ (Vw.rep rel.gh vx);obtain⟨hy,_⟩:=gr hb rs;subst ev;cases rx;obtain⟨w',ew,vc⟩:=ml vd;obtain⟨ev,_⟩:=gW vc;subst ew;subst ev;obtain⟨u,rfl,t',rfl⟩:=eF rv;obtain⟨GU,vl,⟨ob,h1,h2,⟨n,h3⟩,h4⟩,_⟩:=I.tupleN sq;subst hy;obtain⟨cls,dict,data,slots⟩:=ob;dsimp only at h2 h3 h4;subst h2 h3 h4;refine XW XD ⟨_,h1,rfl⟩ PySem.F.entry_tuple_count (PySem.F.args_tuple_count_2 _ _) (PySem.SeqAt.tuple_countAt p GU.toArray n _ _ (.str (S c) t') (isS (S c))) ⟨h1,fun y hy=>?_,⟨.int (bs.count c:Nat),H,I.tok _,⟨s.toks,?_⟩,k _ H G fp .refl (rel.push (bh _))⟩⟩
   ·have hy:y∈GU:=by simpa using hy
    obtain⟨i,hi,rfl⟩:=Xi hy;have hl:=vl.length;rw[Um]at hl;obtain⟨v,hv,hr⟩:=vl.get (i:=i) (x:=V.str (S bs[i])) (by rw[List.getElem?_map,List.getElem?_eq_getElem (by lia)];rfl);rw[List.getElem?_eq_getElem hi]at hv;cases hv;obtain⟨t,e⟩:=hr;rw[e];exact PySem.SeqAt.EqAt.str_str _ _ _ _
   ·rw[WD,mW c bs GU vl]
  ·cases e
 ·cases e
theorem i8:NA X "tuple.index" (rMtT X.K mE):=by
 rintro pi s σ H x xs v us Q I rx rv ⟨G,fp,es,vs,l,ds,r,⟨rel,k⟩,vx,vd,e⟩;unfold mE at e;split at e
 ·rename_i c;split at e
  ·rename_i bs hb;split at e
   ·rename_i hc;cases e;obtain⟨p,ys,ev,sq,rs⟩:=bJ (Vw.rep rel.gh vx);obtain⟨hy,_⟩:=gr hb rs;subst ev;cases rx;obtain⟨w',ew,vc⟩:=ml vd;obtain⟨ev,_⟩:=gW vc;subst ew;subst ev;obtain⟨u,rfl,t',rfl⟩:=eF rv;obtain⟨GU,vl,⟨ob,h1,h2,⟨n,h3⟩,h4⟩,_⟩:=I.tupleN sq;subst hy;obtain⟨cls,dict,data,slots⟩:=ob;dsimp only at h2 h3 h4;subst h2 h3 h4;have HN:=VI hc;refine XW Wh ⟨_,h1,rfl⟩ PySem.F.entry_tuple_index (PySem.F.args_tuple_index_2 _ _) (kN p GU.toArray n _ _ (bs.map S) (S c) t' (by rw[UC];exact vl) (bs.idxOf c) ?_ ?_) ⟨h1,⟨.int (bs.idxOf c:Nat),H,I.tok _,⟨_,rfl⟩,k _ H G fp .refl (rel.push (bh _))⟩⟩
    ·rw[List.getElem?_map,List.getElem?_eq_getElem HN,List.getElem_idxOf HN];rfl
    ·intro j hj he;rw[List.getElem?_map,List.getElem?_eq_getElem (by lia)]at he;have he:=yP (UU he);have:=rT bs c j (by rw[List.getElem?_eq_getElem (by lia),he]);lia
   ·cases e
  ·cases e
 ·cases e
def cK(a b:D):Res R:=match a,b with
 | .tup [],.tup l=>.ok (.f,.tup l)
 |a,b=>addD a b
theorem aK:HS X (binaryOp .Add) (rG X.K cK):=by
 rintro pi s σ H x y v u Q I rx ry ⟨G,fp,es,vs,a,b,r,⟨rel,k⟩,va,vb,e⟩;unfold cK at e;split at e
 ·rename_i l;cases e;obtain⟨p,xs,e1,h1,r1⟩:=iQ va;obtain⟨p2,OG,e2,h2,r2⟩:=iQ vb;subst e1;subst e2;cases rx;cases ry;have hx:xs=[]:=Vs (by rw[r1.length];rfl);subst hx;obtain⟨GU,v1,⟨⟨cls,dd,data,sl⟩,ho,hc,n,hd⟩,_⟩:=I.tuple (b5 rel.gh h1);obtain⟨Mh,v2,⟨⟨OS,Nm,data2,Nn⟩,Jc,JA,n2,hd2⟩,_⟩:=I.tuple (b5 rel.gh h2);dsimp only at hc hd JA hd2;subst hc hd JA hd2;cases v1;exact X9 ⟨_,ho,rfl⟩ ⟨_,Jc,rfl⟩ XQ YI WX WM (WG _ _) (tuple_addW0 p p2 _ _ n n2 dd Nm sl Nn rfl) ⟨ho,Jc,⟨.ref p2,H,I,rfl,k _ H G fp .refl (rel.push vb)⟩⟩
 ·exact Cy pi s σ H _ _ v u Q I rx ry ⟨G,fp,es,vs,a,b,r,⟨rel,k⟩,va,vb,e⟩
def pJ(fs:Ih):FI:=H0 (tu true true fs) (H0 (tu true false fs) (H0 (tu false true fs) (tu false false fs)))
theorem lH{Mm:List Expr}{kt:Nat}{pt:Pos}{e1 e2:Expr}{fs:Ih}{p pos:Pos}(hg:Gl X "zip")(hm:X.mg "zip" = none)(ha:Lx X [e1,e2] fs)(he:starEach [e1,e2] X.env=(false,eval e1 X.env)::starEach [e2] X.env:=by rfl)(HU:(backTo pos (starEach [e2] X.env)).any (·.1)=false:=by rfl):
  QI X (.Tuple Mm kt pt) (.Call (.Name "zip" p) [e1,e2] [] pos) (pJ fs):=vH (rL true true hg hm ha he HU) (vH (rL true false hg hm ha he HU) (vH (rL false true hg hm ha he HU) (rL false false hg hm ha he HU)))
end
end PV
namespace NX
open PySem PySem.Spec PyProof.Rows L2
section
open PySem.AutoSeq1 (wpAny_loadPart')
theorem pK(l:Addr)(items:Array Value)(n:Nat)(dd:Option Addr)(sl:Array (Option Value))(x:Int)(u:Tok)(h1:¬ (!Builtin.List.listFitsIndex x)=true)(h2:¬ items.size*x.toNat>(2 ^ 63-1) / 8)(h3:¬ Builtin.List.listTooLong (items.size*x.toNat)=true)(h4:(List.foldl (fun x1 x2=>x1++x2) #[] (List.replicate (if items.isEmpty=true then 0 else x.toNat) items)).size<=sizeLine):
  Meets (Builtin.«list.__mul__» ⟨[.ref l,.int x u],[]⟩)
   (fun _ R s=>s.heap.get? l=some {cls:=.type "list",dict:=dd,data:=.seq items n,slots:=sl}/\R (.ok (.ret (.ref s.heap.objs.size))) {s with heap:=s.heap.push {cls:=.type "list",data:=.seq (List.foldl (fun x1 x2=>x1++x2) #[] (List.replicate (if items.isEmpty=true then 0 else x.toNat) items))}}):=
 .of_wp fun prog w A R s h=>by
  obtain⟨hp,g,d,tk,os⟩:=s;obtain⟨hl,h⟩:=h
  wp_walk using wpAny_loadPart' hl
  rw[UD (by lia)]
  wp_walk
  exact⟨_,rfl,h⟩
theorem pL(a:Int)(t:Tok)(l:Addr)(T:String)(items:Array Value)(n:Nat)(dd:Option Addr)(sl:Array (Option Value)):
  Meets (Builtin.«int.__rmul__» ⟨[.int a t,.ref l],[]⟩)
   (fun _ R s=>s.heap.get? l=some {cls:=.type "list",dict:=dd,data:=.seq items n,slots:=sl}/\R (.ok (.ret .notImplemented)) s):=
 .of_wp fun prog w A R s h=>by
  obtain⟨hp,g,d,tk,os⟩:=s;obtain⟨hl,h⟩:=h
  wp_walk using wpAny_loadPart' hl
  exact⟨_,rfl,h⟩
end
end NX
namespace PV
open PySem PySem.Spec PyProof.Rows L2 NX
section
variable{md:Mode}{X:Cx}
inductive rRepS(K:W.Frag)(x:V)(y:V)(H:Hp)(Q:VK):Prop
 |mk:∀l k xs,x=.ref l->y=.int k->SqL K H l xs->-(2 ^ 62)<=k->k<2 ^ 62->xs.length*k.toNat<=sizeLine->(∀p,H p=none->Q (.ref p) (upd H p (.lst (List.replicate k.toNat xs).flatten)))->rRepS K x y H Q
theorem Ao:HS X (binaryOp .Mult) (rRepS X.K):=by
 intro pi s σ H x y v u Q I rx ry h;obtain⟨l,k,xs,rfl,rfl,hH,h1,h2,hz,q⟩:=h;cases rx;obtain⟨t,rfl⟩:=ry;obtain⟨GU,r,p1,_⟩:=I.list hH;have hl:=r.length;obtain⟨⟨cls,dd,data,sl⟩,ho,hc,n,hd⟩:=id p1.isList;simp only at hc hd;subst hc hd;have hlen:GU.toArray.size*k.toNat<=sizeLine:=by rw[Uo,<-hl];exact hz
 have hcap:¬ GU.toArray.size*k.toNat>(2 ^ 63-1) / 8:=by
  have:(sizeLine:Nat)<=(2 ^ 63-1) / 8:=by decide
  lia
 have LB:¬ (!Builtin.List.listFitsIndex k)=true:=by
  rw[fitsIndex_both (by lia) (by lia)];exact Up
 have QZ:¬ Builtin.List.listTooLong (GU.toArray.size*k.toNat)=true:=by
  rw[xf hlen];exact Up
 have NP:List.foldl (fun x1 x2=>x1++x2) #[] (List.replicate (if GU.toArray.isEmpty=true then 0 else k.toNat) GU.toArray)=(List.replicate k.toNat GU).flatten.toArray:=by
  have f0:∀m:Nat,List.foldl (fun x1 x2=>x1++x2) #[] (List.replicate m GU.toArray)=(List.replicate m GU).flatten.toArray:=fun m=>by
   have:=oW GU m [];rw[Xm]at this;exact this
  rw[f0];cases GU with
  |nil=>simp
  |cons a r'=>rw[UD (by simp)]
 have hsz:(List.foldl (fun x1 x2=>x1++x2) #[] (List.replicate (if GU.toArray.isEmpty=true then 0 else k.toNat) GU.toArray)).size<=sizeLine:=by
  rw[NP,Uo,nr,Y6];rw[Uo]at hlen;exact hlen
 refine wpAny_binaryOp_repeat_ref (T:="list") (U:="int") (by decide) ⟨_,ho,rfl⟩ (fun s'=>Yo s' k t) noFill_list_mul F.fills_int_mul F.slot_int_rmul repeat_list F.slot_int_index.lookup
  (call_meets F.slot_int_rmul (Yo s k t) F.entry_int_rmul (F.args_int_rmul_2 _ _) (pL k t l "" GU.toArray n dd sl)
   ⟨ho,rfl,⟨_,ho,rfl⟩,call_meets F.slot_list_mul ⟨_,ho,rfl⟩ F.entry_list_mul (F.args_list_mul_2 _ _) (pK l GU.toArray n dd sl k t LB hcap QZ hsz) ⟨ho,?_⟩⟩)
 rw[NP];exact⟨.ref _,_,I.lnew (t':=s.toks) (r.rep k.toNat) (by rw[nr,Y6];exact hz),rfl,q _ I.fresh⟩
theorem rU{K:W.Frag}{G:Hp}{ds:List D}{xs:List V}(r:Reps K G ds xs):∀n:Nat,Reps K G (List.replicate n ds).flatten (List.replicate n xs).flatten
 | 0=>.nil
 |n+1=>by
  rw[VM,VM,VZ,VZ];exact r.app (rU r n)
def gS(a b:D):Res R:=match a,b with
 | .lst ds,.int k=>if 0<=k/\k<1000000/\ds.length*k.toNat<=sizeLine then .ok (.l .f,.lst (List.replicate k.toNat ds).flatten) else .bad
 |a,b=>Ak a b
theorem dR:HS X (binaryOp .Mult) (rG X.K gS):=by
 rintro pi s σ H x y v u Q I rx ry ⟨G,fp,es,vs,a,b,r,⟨rel,k⟩,va,vb,e⟩;unfold gS at e;split at e
 ·rename_i ds j;split at e
  ·rename_i hj;cases e;obtain⟨p,xs,e1,h1,r1⟩:=va;subst e1;cases bS vb;refine Ao pi s σ H _ _ v u Q I rx ry ⟨p,j,xs,rfl,rfl,h1,by lia,by lia,by rw[r1.length];exact hj.2.2,fun q hq=>?_⟩;obtain⟨GS,Hd⟩:=rel.newL hq (rU r1 j.toNat);exact k _ _ G _ Hd GS
  ·cases e
 ·exact Al pi s σ H _ _ v u Q I rx ry ⟨G,fp,es,vs,a,b,r,⟨rel,k⟩,va,vb,e⟩
def E5(td ty tv:TE):TS:=fun Dd σ H=>tv σ H fun v H1=>td σ H1 fun x H2=>ty σ H2 fun y H3=>B7 x y v H3 fun H4=>Dd.nx σ H4
theorem Ap{o i value:Expr}{td ty tv:TE}{pos pos':Pos}(ho:PE X o td)(hi:PE X i ty)(hv:PE X value tv)(hs:swapsWith value (some (.Subscript o i pos')) pos.line X.env=pure false):
  PS X (.Assign [.Subscript o i pos'] value pos) (E5 td ty tv):=by
 intro pi s σ H Dd I h;refine wpAny_Assign_Subscript (Hk (hv pi s σ H _ I h) fun r s1 ⟨v,H1,I1,rv,q1⟩=>Hk (ho pi s1 σ H1 _ I1 q1) fun u s2 ⟨x,H2,I2,rx,q2⟩=>Hk (hi pi s2 σ H2 _ I2 q2) fun iv s3 ⟨y,H3,I3,ry,q3⟩=>?_) hs;exact Hk (q0 pi s3 σ H3 x y v u iv r _ I3 rx ry rv q3) fun _ s4 ⟨H4,I4,q4⟩=>⟨σ,H4,I4,q4⟩
noncomputable def vQ(i:Nat)(fk fv:FX):FS:=fun env=>(fv env).bind fun p=>(fk p.2).bind fun q=>match p.2[i]?,q.2[i]? with
 |some (some _),some (some (.l .f,.lst ds))=>(match q.1.2 with
  | .int k=>(match ixN ds.length k with
   |some j=>.ok (.nx (q.2.set i (some (.l .f,.lst (ds.set j p.1.2)))))
   |none=>.bad)
  |_=>.bad)
 |_,_=>.bad
theorem vR{i:Nat}{o ix value:Expr}{fk fv:FX}{pos pos':Pos}(ho:PE X o (qj i))(hi:QE X ix fk)(hv:QE X value fv)(hs:swapsWith value (some (.Subscript o ix pos')) pos.line X.env=pure false:=by rfl):
  QS (md:=md) X (.Assign [.Subscript o ix pos'] value pos) (vQ i fk fv):=fR (Ap ho hi hv hs) fun Dd σ H Hg=>by
 obtain⟨G,env,fp,rel,k⟩:=Hg;unfold vQ at k;match q1:fv env,k with
 | .ok (r1,GQ),k=>
  have k:OutOk X.K G H fp Dd ((fk GQ).bind fun q=>match GQ[i]?,q.2[i]? with
   |some (some _),some (some (.l .f,.lst ds))=>(match q.1.2 with
    | .int k=>(match ixN ds.length k with
     |some j=>.ok (.nx (q.2.set i (some (.l .f,.lst (ds.set j r1.2)))))
     |none=>.bad)
    |_=>.bad)
   |_,_=>.bad):=k
  match q2:fk GQ,k with
  | .ok (r2,Ha),k=>
   have k:OutOk X.K G H fp Dd (match GQ[i]?,Ha[i]? with
    |some (some _),some (some (.l .f,.lst ds))=>(match r2.2 with
     | .int k=>(match ixN ds.length k with
      |some j=>.ok (.nx (Ha.set i (some (.l .f,.lst (ds.set j r1.2)))))
      |none=>.bad)
     |_=>.bad)
    |_,_=>.bad):=k
   split at k
   ·rename_i rr ds h1 h2;split at k
    ·rename_i kk OD;split at k
     ·rename_i j hj;refine⟨G,env,fp,r1,GQ,rel,q1,fun y H1 G1 Hn Hi GW=>?_⟩;obtain⟨G2,b,ry,GS,Hd⟩:=GW.freeze;obtain⟨v0,NN,_⟩:=GS.view h1;refine⟨v0,NN,G2,GQ,b,r2,Ha,GS,q2,fun z H3 G3 JB Hy Ht=>?_⟩;obtain⟨G4,b4,rz,Hz,Il⟩:=Ht.freeze;have RM:Rep X.K G4 r1.2 y:=Rep.mono (Hy.gg.trans Il.gg) ry;obtain⟨p,xs,ep,hp,rs,cg⟩:=Hz.chg (ds':=ds.set j r1.2) h2;rw[NN]at ep;cases ep;rw[OD]at rz;have hz:=bG rz;obtain⟨fq,Ip,JM⟩:=cg _ (rs.set j RM);exact⟨p,xs,kk,j,rfl,hz,hp,by rw[rs.length];exact hj,k _ _ G4 fq (Hi.trans (Hd.trans (Hy.trans (Il.trans JM)))) Ip⟩
     ·exact k.elim
    ·exact k.elim
   ·exact k.elim
end
section
variable{X:Cx}
theorem Rel.own{K:W.Frag}{G H:Hp}{es:PV.Env}{vs:L2.St}{fp:List Addr}{p:Addr}{u:HO}{tk:Bool}{ks ws:List D}{xs:List V}(q:Rel K G H es vs fp)(np:p∉fp)(gp:G p=none)(h:DictO u tk ks xs)(rs:Reps K G ws xs):
  Rel K G (upd H p u) (some (.d,.dct tk ks ws)::es) (some (.ref p)::vs) (p::fp):=by
 refine⟨⟨some (.ref p),vs,rfl,.ref p,[p],fp,rfl,rfl,?_,q.rep.step (.refl _) fun z hz=>aS fun e=>np (e▸hz)⟩,US.mpr ⟨np,q.nd⟩,fun z hz=>?_,fun b o e=>?_⟩
 ·rw[RepO];exact⟨p,xs,u,rfl,bU,h,rfl,rs⟩
 ·rcases Ux.mp hz with rfl|hz
  ·exact gp
  ·exact q.gn z hz
 ·rw[aS fun z=>by subst z;rw[gp]at e;cases e];exact q.gh b o e
theorem Rel.aside{K:W.Frag}{G H:Hp}{es:PV.Env}{vs:L2.St}{fp:List Addr}{p:Addr}{u:HO}(q:Rel K G H es vs fp)(hp:H p=none):Rel K G (upd H p u) es vs fp:=by
 have np:p∉fp:=fun z=>by
  obtain⟨u,e⟩:=q.rep.live p z;rw[hp]at e;cases e
 exact⟨q.rep.step (.refl _) fun z hz=>aS fun e=>np (e▸hz),q.nd,q.gn,fun b o e=>by rw[aS (bz (q.gh b o e) hp)];exact q.gh b o e⟩
theorem Step.aside{K:W.Frag}{G H G2 H2:Hp}{es:PV.Env}{vs:L2.St}{fp HK:List Addr}{p:Addr}{u u2:HO}(q:Rel K G H es vs fp)(hp:H p=none)(hu:isT u=false)(st:Step G (upd H p u) fp G2 H2 HK):
  Step G H fp G2 (upd H2 p u2) (p::HK)/\p∉HK/\G2 p=none/\H2 p=some u:=by
 have np:p∉fp:=fun z=>by
  obtain⟨u,e⟩:=q.rep.live p z;rw[hp]at e;cases e
 have ne:∀{b o},H b=some o->b≠p:=fun e=>bz e hp
 refine⟨⟨st.gg,fun b o e nb=>?_,fun b hb=>?_,fun b o e=>?_,fun b o e=>?_⟩,fun z=>?_,?_,st.keep p u bU np⟩
 ·rw[aS (ne e)];exact st.keep b o (by rw[aS (ne e)];exact e) nb
 ·rcases Ux.mp hb with rfl|hb
  ·exact .inr hp
  ·rcases st.fpn b hb with h|h
   ·exact .inl h
   ·by_cases e:b=p
    ·subst e;exact .inr hp
    ·rw[aS e]at h;exact .inr h
 ·rcases st.gnew b o e with h|h|h|⟨h1,h2⟩
  ·exact .inl h
  ·exact .inr (.inl h)
  ·by_cases e:b=p
   ·subst e;exact .inr (.inr (.inl hp))
   ·rw[aS e]at h;exact .inr (.inr (.inl h))
  ·by_cases e:b=p
   ·subst e;exact .inr (.inr (.inl hp))
   ·rw[aS e]at h2;exact .inr (.inr (.inr ⟨h1,h2⟩))
 ·obtain⟨o',h⟩:=st.there b o (by rw[aS (ne e)];exact e);exact⟨o',by rw[aS (ne e)];exact h⟩
 ·rcases st.fpn p z with h|h
  ·exact np h
  ·rw[bU]at h;cases h
 ·cases e:G2 p with
  |none=>rfl
  |some o=>
   rcases st.gnew p o e with h|h|h|⟨h1,h2⟩
   ·have:=q.gh p o h;rw[hp]at this;cases this
   ·exact absurd h np
   ·rw[bU]at h;cases h
   ·rw[bU]at h2;cases h2;rw[hu]at h1;cases h1
def rV(fk fv:FX):FX:=fun env=>(fk env).bind fun p=>(fv p.2).bind fun q=>if ft false p.1.2 then .ok ((.d,.dct false [p.1.2] [q.1.2]),q.2) else .bad
theorem rW{k v:Expr}{fk fv:FX}{pos:Pos}(hk:QE X k fk)(hv:QE X v fv):QE X (.Dict [some k] [v] pos) (rV fk fv):=
 bN (zR (xp hk hv zQ) rfl rfl (List.cons_ne_nil _ _) (show 1<=15 by decide)) fun σ H Q Hg p hp=>by
  obtain⟨G,env,fp,r,env',rel,e,kk⟩:=Hg;obtain⟨⟨r1,GQ⟩,e1,e⟩:=ar e;obtain⟨⟨r2,Ha⟩,e2,e⟩:=ar e;dsimp only at e;split at e
  ·rename_i Ju;cases e;refine⟨G,env,fp,r1,GQ,rel.aside hp,e1,fun x H1 G1 Hn Hi GW=>?_⟩;obtain⟨G2,b,rx,GS,Hd⟩:=GW.freeze;refine⟨G2,GQ,b,r2,_,GS,e2,fun y H3 G3 JB Hy Ht=>?_⟩;obtain⟨G4,b4,ry,Hz,Il⟩:=Ht.freeze;have TU:Rep X.K G4 r1.2 x:=Rep.mono (Hy.gg.trans Il.gg) rx;unfold ft at Ju;rw[UD Up,Vz]at Ju;obtain⟨kd,Qq⟩:=Ju;obtain⟨ex,dx⟩:=iI Qq TU;obtain⟨st,np,gp,O4⟩:=Step.aside (u2:=.dK [(kd,y)]) rel hp rfl (Hi.trans (Hd.trans (Hy.trans Il)));refine⟨O4,[(kd,y)],by rw[ex];rfl,(show 1<=15 by decide),?_⟩;exact kk _ _ G4 _ st (Hz.own np gp ⟨[(kd,y)],rfl,by rw[dx];rfl,rfl,fun kv KZ=>by rw[UJ.mp KZ];exact vM Qq TU⟩ (.one ry))
  ·cases e
def getD(ks vs:List D)(k:D):Option D:=((ks.zip vs).find? fun p=>eqD k p.1).map (·.2)
theorem lI{κ:Type}[DecidableEq κ]{K:W.Frag}{G:Hp}(f:κ->D)(hf:∀a b,eqD (f a) (f b)=decide (a=b)){k:κ}:∀{GV:List (κ×V)}{vs:List D},Reps K G vs (GV.map (·.2))->((getD (GV.map fun kv=>f kv.1) vs (f k)).isSome=(pb GV k).isSome)/\∀d,getD (GV.map fun kv=>f kv.1) vs (f k)=some d->∃v,pb GV k=some v/\Rep K G d v
 |[],vs,r=>⟨rfl,fun d h=>nomatch h⟩
 |kv::GV,vs,r=>by
  cases vs with
  |nil=>have:=r.length;simp at this
  |cons d0 vs=>
   rw[UH,Reps.cons_iff]at r;obtain⟨h1,h2⟩:=lI f hf (k:=k) r.2;unfold getD pb at h1 h2 ⊢;rw[UH,VF];have e:eqD (f k) (f kv.1)=decide (kv.1=k):=by
    rw[hf,UP,UL,UL];exact⟨fun z=>z.symm,fun z=>z.symm⟩
   by_cases hk:kv.1=k
   ·rw[List.find?_cons_of_pos (by show eqD (f k) (f kv.1)=true;rw[e];exact UW hk),List.find?_cons_of_pos (by exact UW hk)];refine⟨rfl,fun d h=>?_⟩;cases h;exact⟨_,rfl,r.1⟩
   ·rw[List.find?_cons_of_neg (by show ¬ eqD (f k) (f kv.1)=true;rw[e];simpa using hk),List.find?_cons_of_neg (by simpa using hk)];exact⟨h1,h2⟩
theorem qC{K:W.Frag}{G H:Hp}(gh:Same G H){tk:Bool}{ks vs:List D}{xs:List V}{o:HO}{p:Addr}{b:D}{y:V}(rd:Rd H p o)(dd:DictO o tk ks xs)(rs:Reps K G vs xs)(hk:ft tk b=true)(ry:Rep K G b y):
  ∃ov,DGet H p y ov/\(getD ks vs b).isSome=ov.isSome/\∀d,getD ks vs b=some d->∃v,ov=some v/\Rep K G d v:=by
 unfold ft at hk;cases tk with
 |true=>
  rw[Ut rfl,Vz]at hk;obtain⟨kk,hk⟩:=hk;obtain⟨pz,ez,gz,dz⟩:=fm hk ry;obtain⟨GV,eo,ek,ex,_⟩:=dd;subst eo ex ez dz;have ek:ks=GV.map fun kv=>kT kv.1:=ek
  obtain⟨h1,h2⟩:=lI (K:=K) (G:=G) kT yJ (k:=kk) rs;rw[<-ek]at h1 h2;exact⟨pb GV kk,.inr ⟨GV,kk,pz,rd,rfl,gh _ _ gz,rfl⟩,h1,h2⟩
 |false=>
  rw[UD Up,Vz]at hk;obtain⟨kk,hk⟩:=hk;obtain⟨ez,dz⟩:=iI hk ry;obtain⟨GV,eo,ek,ex,_⟩:=dd;subst eo ex ez dz;obtain⟨h1,h2⟩:=lI (K:=K) (G:=G) kD vK (k:=kk) rs;rw[<-ek]at h1 h2;exact⟨pb GV kk,.inl ⟨GV,kk,rd,rfl,rfl⟩,h1,h2⟩
def K3(a b:D):Res R:=match a with
 | .dct tk ks vs=>if ft tk b then(match getD ks vs b with
  |some d=>.ok (.f,d)
  |none=>.bad) else .bad
 |_=>.bad
theorem tH{a b:Expr}{fa fb:FO}{pos:Pos}(hu:X.A.units+1<cLine)(ha:QO X a fa)(hb:QO X b fb)(hs:NoSl b:=by exact fun _ _=>rfl):QE X (.Subscript a b pos) (aB K3 fa fb):=
 bN (zO hu ha hb hs) fun σ H Q h=>by
  obtain⟨G,env,fp,r,env',rel,e,k⟩:=h;obtain⟨⟨oa,e1⟩,ha,e⟩:=ar e;obtain⟨⟨ob,e2⟩,hb,e⟩:=ar e;obtain⟨da,NL,e⟩:=ar e;obtain⟨db,HZ,e⟩:=ar e;obtain⟨r',hr,e⟩:=ar e;cases e;refine⟨G,env,fp,oa,e1,rel,ha,fun x H1 G1 Hn Hi GW Io=>⟨G1,e1,Hn,ob,e2,GW,hb,fun y H2 G2 HK Hd GS Ml=>?_⟩⟩;have va:=GS.vw (Io.mono Hd.gg) NL;have vb:=GS.vw Ml HZ;unfold K3 at hr;split at hr
  ·rename_i tk ks vs;split at hr
   ·rename_i Ju;split at hr
    ·rename_i d hd;cases hr;obtain⟨p,xs,o,ev,rd,dd,rs⟩:=va;subst ev;have vb':Rep X.K G2 db y:=by
      cases db with
      |lst l=>cases tk <;> simp[ft,gq,lB]at Ju
      |dct _ _ _=>cases tk <;> simp[ft,gq,lB]at Ju
      |_=>exact vb
     obtain⟨ov,g,_,h2⟩:=qC GS.gh rd dd rs Ju vb';obtain⟨v,ho,rv⟩:=h2 d hd;subst ho;exact⟨p,v,rfl,g,k _ H2 G2 HK (Hi.trans Hd) (GS.push rv)⟩
    ·cases hr
   ·cases hr
  ·cases hr
def MW(a b:D):Res R:=match b with
 | .dct tk ks vs=>if ft tk a then .ok (.f,.bl (getD ks vs a).isSome) else .bad
 |_=>Mv a b
def uc(a b:D):Res R:=match b with
 | .dct tk ks vs=>if ft tk a then .ok (.f,.bl (!(getD ks vs a).isSome)) else .bad
 |_=>ub a b
theorem rX(hu:X.A.units+65<cLine):HS X (compareOp .In) (rGA X.K MW):=by
 rintro pi s σ H x y v u Q I rx ry ⟨G,fp,es,vs,a,b,r,⟨rel,k⟩,va,vb,e⟩;unfold MW at e;split at e
 ·rename_i tk ks ws;split at e
  ·rename_i Ju;cases e;obtain⟨p,xs,o,ev,rd,dd,rs⟩:=vb;subst ev;cases ry;obtain⟨ov,g,h1,_⟩:=qC (K:=X.K) (G:=H) (fun _ _ z=>z) rd dd rs Ju va;exact Gn (by lia) I g rx fun s' I'=>⟨.bl ov.isSome,H,I',rfl,by rw[<-h1];exact k _ H G fp .refl (rel.push (dq _))⟩
  ·cases e
 ·exact EZ hu pi s σ H x y v u Q I rx ry ⟨G,fp,es,vs,a,b,r,⟨rel,k⟩,va,vb,e⟩
theorem i9(hu:X.A.units+65<cLine):HS X (compareOp .NotIn) (rGA X.K uc):=by
 rintro pi s σ H x y v u Q I rx ry ⟨G,fp,es,vs,a,b,r,⟨rel,k⟩,va,vb,e⟩;unfold uc at e;split at e
 ·rename_i tk ks ws;split at e
  ·rename_i Ju;cases e;obtain⟨p,xs,o,ev,rd,dd,rs⟩:=vb;subst ev;cases ry;obtain⟨ov,g,h1,_⟩:=qC (K:=X.K) (G:=H) (fun _ _ z=>z) rd dd rs Ju va;exact zM (by lia) I g rx fun s' I'=>⟨.bl (!ov.isSome),H,I',rfl,by rw[<-h1];exact k _ H G fp .refl (rel.push (dq _))⟩
  ·cases e
 ·exact CJ hu pi s σ H x y v u Q I rx ry ⟨G,fp,es,vs,a,b,r,⟨rel,k⟩,va,vb,e⟩
end
section
variable{K:W.Frag}{G G' H H':Hp}{es:PV.Env}{vs:L2.St}{fp:List Addr}
end
section
variable{X:Cx}
end
section
variable{X:Cx}{x:Str}{p pos:Pos}{e:Expr}{es:List Expr}{fs:Ih}
end
section
variable{K:W.Frag}{G G' H H':Hp}
end
section
variable{X:Cx}{md:Mode}
end
end PV
namespace NX
open PySem PySem.Spec PyProof.Rows L2
end NX
namespace PV
open PySem PySem.Spec PyProof.Rows L2 NX
section
variable{X:Cx}
end
end PV
namespace NX
open PySem PySem.Spec PyProof.Rows L2
section
variable{prog:Program}{w:World}{A:Around}{E:Value->Shared->Prop}{s:Shared}
end
section
variable{prog:Program}{w:World}{A:Around}{E:Value->Shared->Prop}{s:Shared}
end
section
variable{X:Cx}{e:Expr}{ta:TA}{p p2 pos NQ:Pos}
end
end NX
namespace PV
open PySem PySem.Spec PyProof.Rows L2 NX
section
variable{X:Cx}{e:Expr}{fs:Ih}{p p2 pos NQ:Pos}
end
end PV
namespace NX
open PySem PySem.Spec PyProof.Rows L2
section
open PySem.AutoSeq1 (wpAny_loadPart')
end
end NX
namespace PV
open PySem PySem.Spec PyProof.Rows L2 NX
section
variable{X:Cx}
end
section
variable{md:Mode}{X:Cx}{scope:Scope}{N:List Str}{tg iter elt:Expr}{ifs:List Expr}{pos:Pos}{fi:FI}{a:FG}{c:FT}{f:FX}{j k0:Nat}
end
section
variable{X:Cx}{x:Str}{p pos:Pos}{e:Expr}{es:List Expr}{f0:FX}{fs:Ih}
end
def joinL(sep:List Nat):List (List Nat)->List Nat
 |[]=>[]
 |[x]=>x
 |x::y::r=>x++sep++joinL sep (y::r)
def vS(sep:List Nat):List D->Res R
 |[.lst ds]=>match fU ds with
  |some ys=>if(ys.map List.length).sum+ys.length*sep.length<=16777216 then .ok (.f,.str (joinL sep ys)) else .bad
  |none=>.bad
 |_=>.bad
theorem vT(sep:List Nat):∀ys:List (List Nat),Str.join (S sep) (ys.map S)=S (joinL sep ys)
 |[]=>rfl
 |[x]=>rfl
 |x::y::r=>by
  have ih:=vT sep (y::r);show S x++S sep++Str.join (S sep) ((y::r).map S)=S (x++sep++joinL sep (y::r));rw[ih];apply Str.ext';simp[Str.cps_append]
theorem C1(sep:List Nat):∀ys:List (List Nat),Txt.join (S sep) (ys.map S)=S (joinL sep ys)
 |ys=>by
  show Builtin.Str.glued (S sep) (ys.map S)=_;rw[StrLaws.glued_eq_join];exact vT sep ys
theorem pM(sep:List Nat):∀ys:List (List Nat),(joinL sep ys).length<=(ys.map List.length).sum+ys.length*sep.length
 |[]=>U6 _
 |[x]=>by
  show x.length<=_;rw[UH,XO];lia
 |x::y::r=>by
  have ih:=pM sep (y::r);show(x++sep++joinL sep (y::r)).length<=_;rw[Vb,Vb,UH,XO,UI,Nat.add_mul];lia
theorem pN{K:W.Frag}{G:Hp}:∀{ds:List D}{ys:List (List Nat)}{xs:List V}{us:List Value},fU ds=some ys->Reps K G ds xs->Vals xs us->StrsAre us (ys.map S)
 |[],ys,xs,us,e,r,v=>by
  cases e;rw[Reps]at r;subst r;cases v;exact .nil
 | .str b::ds,ys,xs,us,e,r,v=>by
  rw[Reps]at r;obtain⟨y,zs,ex,r1,r2⟩:=r;subst ex;cases v with
  |cons h t=>
   rw[fU,UX]at e;obtain⟨ws,hw,rfl⟩:=e;rw[Rep]at r1;obtain⟨r1,_⟩:=r1;subst r1;obtain⟨tk,rfl⟩:=h;exact .cons _ tk (pN hw r2 t)
 | .non::_,_,_,_,e,_,_ | .bl _::_,_,_,_,e,_,_ | .int _::_,_,_,_,e,_,_ | .tup _::_,_,_,_,e,_,_ | .lst _::_,_,_,_,e,_,_ | .dct _ _ _::_,_,_,_,e,_,_=>by cases e
section
variable{X:Cx}
theorem Aq:NA X "str.join" (rMtS X.K vS):=by
 rintro pi s σ H x xs v us Q I rx rv ⟨G,fp,es,vs,l,ds,r,⟨rel,k⟩,ex,hz,vd,e⟩;unfold vS at e;split at e
 ·rename_i ds;split at e
  ·rename_i ys Si;split at e
   ·rename_i hb;cases e;subst ex;obtain⟨w',ew,p,zs,ep,sq,rs⟩:=ml vd;subst ew ep;obtain⟨t,rfl⟩:=rx;obtain⟨u,rfl,ru⟩:=eF rv;cases ru;obtain⟨GU,r',pl,Mw⟩:=I.list sq;refine join_list pl.isList (ys:=ys.map S) (pN Si rs r') ?_ fun t' kk=>?_
    ·rw[UC,Um];have e1:((fun x:Str=>x.length)∘S)=List.length:=by funext z;exact mw z
     rw[e1,mw];exact hb
    ·rw[C1];refine⟨.str (S (joinL l ys)),H,I.tok _,⟨_,rfl⟩,k _ H G fp .refl (rel.push ?_)⟩;rw[Rep];have:=pM l ys;exact⟨rfl,by rw[line_eq];lia⟩
   ·cases e
  ·cases e
 ·cases e
end
end PV
namespace NX
open PySem PySem.Spec PyProof.Rows L2
section
variable{prog:Program}{w:World}{A:Around}{R:Result->Shared->Prop}{it:Addr}{fp wr:List Addr}{n:Nat}{Pv:Nat->Value->Prop}{Sx:Nat->Heap->Prop}{kw:List (Str×Value)}
theorem og:(toString "min"++toString ".loop" : String) = "min.loop":=by decide
theorem E6(Wk:Walks prog w A.in1 it fp wr n Pv Sx)(bt:Nat->Nat->Bool)(cm:CmpOf prog w A.in1 .Lt Pv bt)(T:Addr)(nT:T∉fp):∀(k j:Nat) (s:Shared) (vb:Value) (c:Nat),n-(j+1)=k->j+1<=n->Sx (j+1) s.heap->Pv (argBest bt j) vb->
   s.heap.get? T=some {cls:=.type "list",dict:=none,data:=.seq #[vb,vb] c,slots:=#[]}->
   (∀v h' tk,Pv (argBest bt (n-1)) v->(∀b o,b∉wr->b≠T->s.heap.get? b=some o->h'.get? b=some o)->R (.ok (.ret v)) {s with heap:=h',toks:=tk})->codeAny (model prog w) A (.builtin "min.loop" ⟨[.ref it,.none,.ref T],kw⟩) R s:=by
 have NG:T∉wr:=fun z=>nT (Wk.sub _ z)
 intro k;induction k with
 |zero=>
  intro j s vb c hk hj st hp hT fin;have ej:j+1=n:=by lia
  refine Wf XX ?_;rw[VW V8 _];show wpAny _ A.in1 (seqItems? (.ref T) >>= _) _ _ s;refine Uk (Vg hT rfl ?_);show wpAny _ A.in1 (tryCatch (pyNext (.ref it)) _ >>= _) _ _ s;refine Uk (VP (Wk.done s _ _ (ej▸st) fun h' tk kk=>?_));have KW:=kk T _ NG hT;show wpAny _ A.in1 (updateSeq T (fun _=>#[]) >>= _) _ _ _;refine Uk (Wz KW rfl (Uk (V2 (Ul ?_))));exact fin vb _ tk (by rw[<-ej];exact hp) fun b o bw bT e=>(Heap.get?_update_other _ _ (VB bT)).trans (kk b o bw e)
 |succ k ih=>
  intro j s vb c hk hj st hp hT fin;have jn:j+1<n:=by lia
  refine Wf XX ?_;rw[VW V8 _];show wpAny _ A.in1 (seqItems? (.ref T) >>= _) _ _ s;refine Uk (Vg hT rfl ?_);show wpAny _ A.in1 (tryCatch (pyNext (.ref it)) _ >>= _) _ _ s;refine Uk (VP (Wk.item (j+1) s _ _ jn st fun v h' tk pv Jr kk=>?_));have KW:=kk T _ NG hT;show wpAny _ A.in1 (tryCatch (holding [v,v] (richCompare .Lt v vb >>= _)) _ >>= _) _ _ _;refine Uk (VP (VO (Uk (cm (j+1) (argBest bt j) v vb _ _ _ pv hp (Uk (VO (Vy (Uk (V2 (Ul ?_))))))))));cases eb:bt (j+1) (argBest bt j) with
  |true=>
   rw[Ut rfl];refine Uk (Wz KW rfl (Uk (V2 ?_)));rw[og];refine Ul ⟨Wm V8 _,ih (j+1) _ v _ (by lia) jn (Wk.frame _ _ _ Jr fun b bf o e=>?_) (by simp only[argBest,eb,WN];exact pv) (Heap.get?_update_self _ KW rfl) fun v2 h2 t2 p2 k2=>?_⟩
   ·exact(Heap.get?_update_other _ _ (fun z:T=b=>nT (by rw[z];exact bf))).trans e
   ·exact fin v2 h2 t2 p2 fun b o bw bT e=>k2 b o bw bT ((Heap.get?_update_other _ _ (VB bT)).trans (kk b o bw e))
  |false=>
   rw[UD Up];refine Uk (V2 ?_);rw[og];refine Ul ⟨Wm V8 _,ih (j+1) _ vb c (by lia) jn Jr (by simp only[argBest,eb,VE,W4];exact hp) KW fun v2 h2 t2 p2 k2=>?_⟩;exact fin v2 h2 t2 p2 fun b o bw bT e=>k2 b o bw bT (kk b o bw e)
theorem xO(Wk:Walks prog w A.in1 it fp wr n Pv Sx)(bt:Nat->Nat->Bool)(cm:CmpOf prog w A.in1 .Lt Pv bt)(T:Addr)(nT:T∉fp){s:Shared}{c:Nat}{d:Value}(So:kw=[(Str.ofString "default",d)])(st:Sx 0 s.heap)
  (hT:s.heap.get? T=some {cls:=.type "list",dict:=none,data:=.seq #[] c,slots:=#[]}) (fin:∀v h' tk,(if n=0 then v=d else Pv (argBest bt (n-1)) v)->(∀b o,b∉wr->b≠T->s.heap.get? b=some o->h'.get? b=some o)->R (.ok (.ret v)) {s with heap:=h',toks:=tk}):
  codeAny (model prog w) A (.builtin "min.loop" ⟨[.ref it,.none,.ref T],kw⟩) R s:=by
 have NG:T∉wr:=fun z=>nT (Wk.sub _ z)
 refine Wf XX ?_;rw[VW V8 _];show wpAny _ A.in1 (seqItems? (.ref T) >>= _) _ _ s;refine Uk (Vg hT rfl ?_);show wpAny _ A.in1 (tryCatch (pyNext (.ref it)) _ >>= _) _ _ s;by_cases hn:n=0
 ·refine Uk (VP (Wk.done s _ _ (by rw[hn];exact st) fun h' tk kk=>?_));subst So;refine Uk (XB (Ul ?_));exact fin d _ tk (by rw[Ut hn]) fun b o bw bT e=>kk b o bw e
 ·refine Uk (VP (Wk.item 0 s _ _ (by lia) st fun v h' tk pv Jr kk=>?_));have KW:=kk T _ NG hT;show wpAny _ A.in1 (updateSeq T (fun _=>#[v,v]) >>= _) _ _ _;refine Uk (Wz KW rfl ?_);rw[og];refine Ul ⟨Wm V8 _,E6 Wk bt cm T nT _ 0 _ v _ rfl (by lia) (Wk.frame _ _ _ Jr fun b bf o e=>?_) pv (Heap.get?_update_self _ KW rfl) fun v2 h2 t2 p2 k2=>?_⟩
  ·exact(Heap.get?_update_other _ _ (fun z:T=b=>nT (by rw[z];exact bf))).trans e
  ·exact fin v2 h2 t2 (by rw[UD hn];exact p2) fun b o bw bT e=>k2 b o bw bT ((Heap.get?_update_other _ _ (VB bT)).trans (kk b o bw e))
end
theorem args_mind(a d:Value):argsOk "min" ⟨[a],[(Str.ofString "default",d)]⟩:=by unfold argsOk;kernel_rfl
section
variable{X:Cx}{e k:Expr}{te tk:TE}{p pos Ky:Pos}
def minD(ns:List Int)(d:Int):Int:=if ns=[] then d else uR ns
def E7(K:W.Frag)(te tk:TE):TE:=fun σ H Q=>sS te Br σ H fun vs H1=>sS tk Br σ H1 fun ks H2=>∃(a:Addr) (ns:List Int) (d:Int),vs=[.ref a]/\ks=[.int d]/\(SqL K H2 a (ns.map V.int)\/SqT K H2 a (ns.map V.int))/\Q (.int (minD ns d)) H2
theorem Ar(hc:X.calm=true)(hg:Gl X "min")(hm:X.mg "min" = none)(he:PE X e te)(hk:PE X k tk)(hs:starEach [e] X.env=[(false,eval e X.env)]:=by rfl):
  PE X (.Call (.Name "min" p) [e] [⟨some "default",k,Ky⟩] pos) (E7 X.K te tk):=by
 intro pi s σ H Q I h;refine VT (kh I hg hm (by decide +kernel:bootBuiltins "min" = some (.builtin "min")) ?_ (by decide) (by decide));refine callWith_kw (Hk (cI he gU (hs:=hs) pos pi s σ H _ I h) fun us s1 ⟨vs,H1,I1,r1,q1⟩=>?_) (by rw[hs];rfl) (by rw[hs];rfl);refine Hk (uD hk ym pos pi s1 σ H1 _ I1 q1) fun ws s2 Hm=>?_
 obtain⟨ks,H2,I2,r2,a,ns,d,e1,e2,hp,q⟩:=Hm;subst e1 e2;obtain⟨u,rfl,ru⟩:=eF r1;obtain⟨w',rfl,t,rfl⟩:=eF r2;cases ru;show wpAny _ _ (call (.builtin "min") [.ref a] [(Str.ofString "default",.int d t)]) _ _ s2;refine tree_kw F.kind_min F.plain_min F.entry_min (args_mind _ _) ?_;show wpAny _ X.A.in1 (Builtin.Builtins.bindParams "min" ["key","default"] 0 ⟨[],[(Str.ofString "default",.int d t)]⟩ >>= _) _ _ s2;refine Uk (Yx (show Builtin.Builtins.bindParams "min" ["key","default"] 0 ⟨[],[(Str.ofString "default",.int d t)]⟩=pure [none,some (.int d t)] from rfl) ?_);refine Uk (Ul ?_);refine Uk (gc hc I2 hp fun it fp o ws Sx rv Wk st hf hit=>?_);have hl:=rv.length;rw[Um]at hl;refine Uk (Va ?_);have nT:(s2.heap.push o).objs.size∉fp:=fun z=>VN _ (hf _ z)
 rw[og];refine Ul ⟨Wm V8 _,xO Wk _ (o6 rv _) (s2.heap.push o).objs.size nT rfl (Wk.frame _ _ _ st fun b _ ob e=>Heap.get?_push_of_some _ e) (Heap.get?_push_size _ rfl) fun v h' Sq hv kk=>?_⟩;subst hit;have I3:Inv X pi σ H2 {s2 with heap:=h',toks:=Sq}:=dQ (s:=s2) (o:=o) I2 fun b ob nb e=>kk b ob nb (UK (Uu e)) (Heap.get?_push_of_some _ e)
 refine⟨.int (minD ns d),H2,I3,?_,q⟩;unfold minD;by_cases hn:ns=[]
 ·rw[Ut (by rw[<-hl,hn];rfl)]at hv;rw[Ut hn,hv];exact⟨t,rfl⟩
 ·have h0:0<ns.length:=Vx.mpr hn;rw[UD (by lia)]at hv;rw[UD hn];obtain⟨b1,b2⟩:=nE ns (ns.length-1) (by lia);rw[<-hl]at hv;obtain⟨t2,rfl⟩:=eG rv hv;refine⟨t2,?_⟩;rw[b2,show ns.length-1+1=ns.length by lia,Vl];rfl
end
end NX
namespace PV
open PySem PySem.Spec PyProof.Rows L2 NX
def C2(f g:FX):FX:=fun env=>(f env).bind fun p=>(g p.2).bind fun q=>match(mn p.1.2).bind du,q.1.2 with
 |some ns,.int d=>.ok ((.f,.int (NX.minD ns d)),q.2)
 |_,_=>.bad
section
variable{X:Cx}
theorem As{e k:Expr}{f g:FX}{p pos Ky:Pos}(hc:X.calm=true)(hg:Gl X "min")(hm:X.mg "min" = none)(he:QE X e f)(hk:QE X k g)(hs:starEach [e] X.env=[(false,eval e X.env)]:=by rfl):
  QE X (.Call (.Name "min" p) [e] [⟨some "default",k,Ky⟩] pos) (C2 f g):=bN (Ar hc hg hm he hk hs) fun σ H Q Hg=>by
 obtain⟨G,env,fp,r,env',rel,e,k⟩:=Hg;obtain⟨⟨r1,GQ⟩,e1,e⟩:=ar e;obtain⟨⟨r2,Ha⟩,e2,e⟩:=ar e;dsimp only at e;split at e
 ·rename_i ns d OC hd;cases e;refine⟨G,env,fp,r1,GQ,rel,e1,fun v H1 G1 Hn Hi GW=>?_⟩;obtain⟨G2,b,rv,GS,Hd⟩:=GW.freeze;refine⟨G2,GQ,b,r2,_,GS,e2,fun w' H3 G3 JB Hy Ht=>?_⟩;have hw:=Ht.top;obtain⟨b3,Hz,Il⟩:=Ht.drop;rw[hd]at hw;obtain⟨p',ep,sq⟩:=g0 Hz.gh OC (Vw.of Hz.gh (Rep.mono Hy.gg rv));subst ep;exact⟨p',ns,d,rfl,by rw[bG hw],sq,k _ H3 G3 b3 (Hi.trans (Hd.trans (Hy.trans Il))) (Hz.push (bh _))⟩
 ·cases e
end
section
variable{X:Cx}
noncomputable def C3(g:List D->List D->Res R)(fa:FO)(fs:Ih):FX:=fun env=>(fa env).bind fun p=>(Iq p.2 p.1).bind fun a=>match a with
 | .lst _=>(fs p.2).bind fun q=>(Iq q.2 p.1).bind fun a2=>match a2 with
  | .lst l=>(pj q.2 q.1).bind fun ds=>(g l ds).bind fun r=>.ok (r,q.2)
  |_=>.bad
 |_=>.bad
inductive rMtL(K:W.Frag)(g:List D->List D->Res R)(x:V)(xs:List V)(H:Hp)(Q:VK):Prop
 |mk:∀G fp es vs l ds r,Goes K H G fp es vs r Q->Vw K G H (.lst l) x->OF K G H ds xs->g l ds=.ok r->rMtL K g x xs H Q
theorem vU{g:List D->List D->Res R}{id:String}{name:Str}{o e:Expr}{es:List Expr}{fa:FO}{fs:Ih}{apos Hj:Pos}(slot:Slot "list" name id)(MF:typeOf (.builtin id)=pure (.type "method_descriptor"))(hm:NA X id (rMtL X.K g))(ho:QO X o fa)(ha:Lx X (e::es) fs)
  (Iu:attributeBase o name X.env (eval o X.env)=eval o X.env:=by rfl)
  (JT:((backTo Hj (starEach (e::es) X.env)).all (fun x=>!x.1)&&(backToKw Hj (keywordEach [] X.env)).all (fun x=>x.1.isSome)&&decide ((e::es).length+([]:List Keyword).length+(if([]:List Keyword).isEmpty then 0 else 1)<30))=true:=by rfl)
  (Iv:(apos.endLine==Hj.line)=true:=by rfl) (hs:starEach (e::es) X.env=(false,eval e X.env)::starEach es X.env:=by rfl) (HQ:(backTo Hj (starEach es X.env)).any (·.1)=false:=by rfl):
  QE X (.Call (.Attribute o name apos) (e::es) [] Hj) (C3 g fa fs):=by
 refine bN (zk XM slot MF hm ho ha Iu JT Iv hs HQ) fun σ H Q Hm=>?_
 obtain⟨G,env,fp,r,env',rel,e,k⟩:=Hm;obtain⟨⟨oa,GQ⟩,e1,e⟩:=ar e;obtain⟨da,NL,e⟩:=ar e;dsimp only at e;split at e
 ·obtain⟨⟨os,Ha⟩,e2,e⟩:=ar e;obtain⟨d2,hd2,e⟩:=ar e;dsimp only at e;split at e
  ·obtain⟨ds,e3,e⟩:=ar e;obtain⟨r',e4,e⟩:=ar e;cases e;refine⟨G,env,fp,oa,GQ,rel,e1,fun v H1 G1 Hn Hi GW Io=>?_⟩;obtain⟨p,xs,ev,sq,_⟩:=GW.vw Io NL;subst ev;exact⟨.inl ⟨rfl,xs,sq⟩,G1,GQ,Hn,os,_,GW,e2,fun vs H2 G2 HK Hd GS Ml=>⟨G2,HK,_,σ,_,ds,r,⟨GS,fun v H' G' G9 st Ho=>k v H' G' G9 (Hi.trans (Hd.trans st)) Ho⟩,GS.vw (Io.mono Hd.gg) hd2,GS.vws Ml e3,e4⟩⟩
  ·cases e
 ·cases e
open PySem.SeqAt in
theorem Au{pi:List (Addr×Obj)}{σ:L2.St}{H:Hp}{s:Shared}(I:Inv X pi σ H s){a:D}{x:V}{v:Value}{A:Around}(h:plainD 40 a=true)(hu:A.units+64<cLine)(r:Rep X.K H a x)(rx:RelV x v):
  ∀(ds:List D) (xs:List V) (us:List Value),plainDs 40 ds=true->Reps X.K H ds xs->Vals xs us->∃e:Value->Bool,(∀(j:Nat) (d:D) (u:Value),ds[j]?=some d->us[j]?=some u->e u=eqD d a)/\∀u∈us,EqAt A s u v (e u):=by
 classical
 intro ds xs us hp rs vl;have key:∀(j:Nat) (d:D) (u:Value),ds[j]?=some d->us[j]?=some u->decide (∃(j:Nat) (d:D),ds[j]?=some d/\us[j]?=some u/\eqD d a=true)=eqD d a:=by
  intro j d u hd hj;obtain⟨w1,Ly,Lz⟩:=rs.get hd;obtain⟨u1,JW,LA⟩:=vl.get Ly;rw[hj]at JW;cases JW;rw[UP,UL];constructor
  ·rintro⟨j2,d2,k1,k2,k3⟩;obtain⟨w2,MR,MS⟩:=rs.get k1;obtain⟨u2,K1,MT⟩:=vl.get MR;rw[k2]at K1;cases K1;have:=LA.inj MT;subst this;rw[lz I _ _ _ 40 (plainDs_mem hp hd) Lz MS];exact k3
  ·intro k3;exact⟨j,_,hd,hj,k3⟩
 refine⟨fun u=>decide (∃(j:Nat) (d:D),ds[j]?=some d/\us[j]?=some u/\eqD d a=true),key,fun u SN=>?_⟩;obtain⟨j,hj⟩:=U0.mp SN;have l1:=vl.length;have l2:=rs.length;have RL:=(List.getElem?_eq_some_iff.mp hj).1;have g1:ds[j]?=some (ds[j]'(by lia)):=List.getElem?_eq_getElem _;obtain⟨w1,Ly,Lz⟩:=rs.get g1;obtain⟨u1,JW,LA⟩:=vl.get Ly;rw[hj]at JW;cases JW;have z:=Ad I _ _ w1 x u v A 40 (plainDs_mem hp g1) h (by lia) Lz r LA rx;show EqAt A s u v (decide (∃(j:Nat) (d:D),ds[j]?=some d/\us[j]?=some u/\eqD d a=true));rw[key j _ u g1 hj];exact z
def oh(l:List D):List D->Res R
 |[a]=>if plainD 40 a&&plainDs 40 l&&l.any (fun d=>eqD d a) then .ok (.f,.int (l.findIdx (fun d=>eqD d a):Nat)) else .bad
 |_=>.bad
theorem ja(hu:X.A.units+65<cLine):NA X "list.index" (rMtL X.K oh):=by
 rintro pi s σ H x xs v us Q I rx rv ⟨G,fp,es,vs,l,ds,r,⟨rel,k⟩,vx,vd,e⟩;unfold oh at e;split at e
 ·rename_i a;split at e
  ·rename_i hp;rw[Uz,Uz]at hp;cases e;obtain⟨p,ys,ev,sq,rs⟩:=vx;subst ev;cases rx;obtain⟨w',ew,va⟩:=ml vd;subst ew;obtain⟨u,rfl,ru⟩:=eF rv;obtain⟨GU,vl,pl,hz⟩:=I.list sq;obtain⟨⟨cls,dd,data,sl⟩,ho,hc,n,hd⟩:=id pl.isList;simp only at hc hd;subst hc hd;obtain⟨ef,TV,SS⟩:=Au (A:=X.A.in1) I hp.1.1 (by first|lia|(simp only[Around.in1_units];lia)) (va.rep rel.gh) ru l ys GU hp.1.2 (Reps.mono rel.gh rs) vl;have HN:l.findIdx (fun d=>eqD d a)<l.length:=List.findIdx_lt_length.mpr (by rw[<-U8];exact hp.2);have l1:=vl.length;have l2:=rs.length;have hlt2:l.findIdx (fun d=>eqD d a)<GU.toArray.size:=by rw[Uo];lia
   have hb:(l.findIdx (fun d=>eqD d a):Int)<2 ^ 63-1:=by
    rw[Vr]at hz;lia
   refine XW Wn ⟨_,ho,rfl⟩ PySem.F.entry_list_index (PySem.F.args_list_index_2 _ _) (PySem.SeqAt.list_indexAt p GU.toArray n _ _ u ef (l.findIdx fun d=>eqD d a) hlt2 hb ?_ ?_) ⟨ho,fun y hy=>?_,⟨.int (l.findIdx (fun d=>eqD d a):Nat),H,I.tok _,⟨_,rfl⟩,k _ H G fp .refl (rel.push (bh _))⟩⟩
   ·rw[TV _ _ _ (List.getElem?_eq_getElem HN) (by rw[Yq];exact List.getElem?_eq_getElem _)];exact Yr (w:=HN)
   ·intro m hm hlt3;rw[TV m (l[m]'(by lia)) _ (List.getElem?_eq_getElem _) (by rw[Yq];exact List.getElem?_eq_getElem _)];exact List.not_of_lt_findIdx hlt3
   ·exact SS y (by simpa using hy)
  ·cases e
 ·cases e
end
section
variable{K:W.Frag}{G G' H H':Hp}{es:PV.Env}{vs:L2.St}{fp:List Addr}
end
section
variable{X:Cx}{x:Str}{p pos:Pos}{e:Expr}{es:List Expr}{f0:FX}{fs:Ih}
end
def SlR3(X:Cx)(r:V->Option Int->Option Int->Option Int->Hp->VK->Prop):Prop:=
 ∀(pi:List (Addr×Obj)) (s:Shared) (σ:L2.St) (H:Hp) (x:V) (v vl vu vt:Value) (lo hi st:Option Int) (sl:Addr) (Q:VK),Inv X pi σ H s->RelV x v->s.heap.IsSliceOf sl vl vu vt->IsPart vl lo->IsPart vu hi->IsPart vt st->r x lo hi st H Q->
  ∃T id,typeLookup (.type T) "__getitem__" = pure (some (.builtin id))/\s.TypeIs v T/\wpAny (model X.prog X.w) X.A (getItem v (.ref sl)) (EP X pi σ Q) X.xe s
def Gu(r:V->Option Int->Option Int->Option Int->Hp->VK->Prop)(te:TE)(tl th ts:TO):TE:=fun σ H Q=>te σ H fun x H1=>tl σ H1 fun l H2=>th σ H2 fun u H3=>ts σ H3 fun t H4=>r x l u t H4 Q
theorem vV{X:Cx}{e:Expr}{te:TE}{lo hi:Option Expr}{se:Expr}{tl th ts:TO}{pos p2:Pos}{r:V->Option Int->Option Int->Option Int->Hp->VK->Prop}(hr:SlR3 X r)(he:PE X e te)(hl:PO X lo tl)(hu:PO X hi th)(hs:PO X (some se) ts):PE X (.Subscript e (.Slice lo hi (some se) p2) pos) (Gu r te tl th ts):=by
 intro pi s σ H Q I h;refine Subscript_ (Hk (he pi s σ H _ I h) fun v s1 Hm=>?_);obtain⟨x,H1,I1,r1,q1⟩:=Hm;refine wpAny_Slice (Hk (hl pi s1 σ H1 _ I1 q1) fun vl s2 ⟨l,H2,I2,pl,q2⟩=>Hk (hu pi s2 σ H2 _ I2 q2) fun vu s3 ⟨u,H3,I3,pu,q3⟩=>Hk (hs pi s3 σ H3 _ I3 q3) fun vt s4 Hm=>?_);obtain⟨t,H4,I4,pt,q4⟩:=Hm;have I5:Inv X pi σ H4 {s4 with heap:=s4.heap.push {cls:=.type "slice",data:=.fields #[vl,vu,vt]}}:=I4.kept (t':=s4.toks) fun b ob q=>Heap.get?_push_of_some _ q
 obtain⟨T,id,hT,ht,hg⟩:=hr pi {s4 with heap:=s4.heap.push {cls:=.type "slice",data:=.fields #[vl,vu,vt]}} σ H4 x v vl vu vt l u t s4.heap.objs.size Q I5 r1 (Heap.IsSliceOf.new ..) pl pu pt q4;show wpAny (model X.prog X.w) X.A (subscriptTail e (.Slice lo hi (some se) p2) v (.ref s4.heap.objs.size)) (EP X pi σ Q) X.xe {s4 with heap:=s4.heap.push {cls:=.type "slice",data:=.fields #[vl,vu,vt]}};exact tail_any (ops:=[v,.ref s4.heap.objs.size]) ht hT hg (by with_unfolding_all rfl)
def g6{α:Type}(xs:List α)(lo hi:Option Int)(c:Int):List α:=
 (sliceRange (sliceBounds lo hi (some c) xs.length).1 (sliceBounds lo hi (some c) xs.length).2.1 (sliceBounds lo hi (some c) xs.length).2.2).filterMap (fun i=>xs[i]?)
theorem pO{K:W.Frag}{G:Hp}{ds:List D}{xs:List V}(r:Reps K G ds xs):∀ix:List Nat,Reps K G (ix.filterMap fun i=>ds[i]?) (ix.filterMap fun i=>xs[i]?)
 |[]=>.nil
 |i::ix=>by
  have ih:=pO r ix;cases e:ds[i]? with
  |none=>
   have e2:xs[i]?=none:=by
    rw[List.getElem?_eq_none_iff]at e ⊢;rw[r.length];exact e
   rw[Wi e,Wi e2];exact ih
  |some d=>
   obtain⟨v,e2,rv⟩:=r.get e;rw[Wj e,Wj e2];exact .cons rv ih
theorem vals_pick{xs:List V}{us:List Value}(r:Vals xs us):∀ix:List Nat,Vals (ix.filterMap fun i=>xs[i]?) (ix.filterMap fun i=>us[i]?)
 |[]=>.nil
 |i::ix=>by
  have ih:=vals_pick r ix;cases e:xs[i]? with
  |none=>
   rw[Wi e,Wi (r.none_of e)];exact ih
  |some d=>
   obtain⟨v,e2,rv⟩:=r.get e;rw[Wj e,Wj e2];exact .cons rv ih
theorem rY(GU:List Value)(lo hi:Option Int)(c:Int):slicePick GU.toArray lo hi (some c)=(g6 GU lo hi c).toArray:=by
 unfold slicePick g6;simp only[Uo,List.getElem?_toArray]
theorem Av(GU:List Value)(lo hi:Option Int)(c:Int):(g6 GU lo hi c).length<=GU.length:=by
 have:=slicePick_size_le GU.toArray lo hi (some c);rw[rY]at this;simpa using this
def C4(k:D)(lo hi st:Option Int):Res R:=match k,st with
 | .lst ds,some c=>if c≠0 then .ok (.l .f,.lst (g6 ds lo hi c)) else .bad
 |_,_=>.bad
def E8(fa:FO)(lo hi st:FP):FX:=fun env=>(fa env).bind fun p=>(lo p.2).bind fun q=>(hi q.2).bind fun t=>(st t.2).bind fun u=>(Iq u.2 p.1).bind fun d=>(C4 d q.1 t.1 u.1).bind fun r=>.ok (r,u.2)
section
variable{X:Cx}{pos:Pos}{fa:FO}
inductive rSl3(K:W.Frag)(x:V)(lo:Option Int)(hi:Option Int)(st:Option Int)(H:Hp)(Q:VK):Prop
 |mk:∀G fp es vs d r,Goes K H G fp es vs r Q->Vw K G H d x->C4 d lo hi st=.ok r->rSl3 K x lo hi st H Q
theorem C5:SlR3 X (rSl3 X.K):=by
 rintro pi s σ H x v vl vu vt lo hi st sl Q I rx hs pl pu pt ⟨G,fp,es,vs,d,r,⟨rel,k⟩,vd,e⟩;unfold C4 at e;split at e
 ·rename_i ds c;split at e
  ·rename_i hc;cases e;obtain⟨p,xs,ev,sq,rs⟩:=vd;subst ev;cases rx;obtain⟨GU,r,ht,hz⟩:=I.list sq;have hlen:=r.length;refine⟨"list",_,slot_list_getitem.lookup,ht.isList.typeIs,?_⟩;refine Xw ht.isList hs pl pu pt (fun h=>hc (UU h)) ?_ (by rw[Uo];lia);rw[rY];have r2:Vals (g6 xs lo hi c) (g6 GU lo hi c):=by
    unfold g6;rw[hlen];exact vals_pick r _
   have RN:Reps X.K G (g6 ds lo hi c) (g6 xs lo hi c):=by
    unfold g6;rw[rs.length];exact pO rs _
   have Mw:(g6 xs lo hi c).length<=sizeLine:=by
    rw[r2.length];have:=Av GU lo hi c;lia
   have hq:=I.hok.fresh (Ur s.heap.objs.size);obtain⟨GS,Hd⟩:=rel.newL hq RN;refine⟨.ref s.heap.objs.size,_,I.laid (t':=s.toks) (o:=.lst (g6 xs lo hi c)) (fun b ob q=>Heap.get?_push_of_some _ q) (Ur _) ?_,rfl,k _ _ G _ Hd GS⟩;exact⟨Mw,_,0,r2,Heap.get?_push_size _ rfl⟩
  ·cases e
 ·cases e
theorem C6{e:Expr}{lo hi:Option Expr}{se:Expr}{p2:Pos}{fl fh fs:FP}(he:QO X e fa)(hl:QP X lo fl)(hh:QP X hi fh)(hs:QP X (some se) fs):QE X (.Subscript e (.Slice lo hi (some se) p2) pos) (E8 fa fl fh fs):=
 bN (vV C5 he hl hh hs) fun σ H Q Hg=>by
  obtain⟨G,env,fp,r,env',rel,e,k⟩:=Hg;obtain⟨⟨o,GQ⟩,e1,e⟩:=ar e;obtain⟨⟨i,Ha⟩,e2,e⟩:=ar e;obtain⟨⟨j,Iw⟩,e3,e⟩:=ar e;obtain⟨⟨t,Q0⟩,e4,e⟩:=ar e;obtain⟨d,e5,e⟩:=ar e;obtain⟨r',e6,e⟩:=ar e;cases e;exact⟨G,env,fp,o,GQ,rel,e1,fun v H1 G1 Hn Hi GW Io=>⟨G1,GQ,Hn,i,Ha,GW,e2,fun H2 G2 HK Hd GS=>⟨G2,Ha,HK,j,Iw,GS,e3,fun H3 G3 JB Hy Ht=>⟨G3,Iw,JB,t,Q0,Ht,e4,fun H4 G4 QF Il Hz=>
   ⟨G4,QF,Q0,σ,d,r,⟨Hz,fun v H' G' G9 st Ho=>k v H' G' G9 (Hi.trans (Hd.trans (Hy.trans (Il.trans st)))) Ho⟩,Hz.vw (((Io.mono Hd.gg).mono Hy.gg).mono Il.gg) e5,e6⟩⟩⟩⟩⟩
end
section
variable{X:Cx}
def Aw(fa fb fc:FX):FX:=fun env=>(fa env).bind fun p=>(fb p.2).bind fun q=>(fc q.2).bind fun t=>.ok ((.t [.f,q.1.1,t.1.1],.tup [p.1.2,q.1.2,t.1.2]),t.2)
theorem Ax{a b c:Expr}{fa fb fc:FX}{x1}{pos:Pos}(ha:QE X a fa)(hb:QE X b fb)(hc:QE X c fc)(h1:starEach [a,b,c] X.env=(false,eval a X.env)::starEach [b,c] X.env:=by rfl)(h2:starEach [b,c] X.env=(false,eval b X.env)::starEach [c] X.env:=by rfl)(h3:starEach [c] X.env=(false,eval c X.env)::starEach [] X.env:=by rfl):
  QE X (.Tuple [a,b,c] x1 pos) (Aw fa fb fc):=
 bN (uB (cI ha (cI hb (cI hc gU h3) h2) h1)) fun σ H Q Hg=>by
  obtain⟨G,env,fp,r,env',rel,e,k⟩:=Hg;obtain⟨⟨r1,GQ⟩,e1,e⟩:=ar e;obtain⟨⟨⟨o2,d2⟩,Ha⟩,e2,e⟩:=ar e;obtain⟨⟨⟨o3,d3⟩,Iw⟩,e3,e⟩:=ar e;cases e;refine⟨G,env,fp,r1,GQ,rel,e1,fun v H1 G1 Hn Hi GW=>?_⟩;obtain⟨G2,b,rv,GS,Hd⟩:=GW.freeze;refine⟨G2,GQ,b,(o2,d2),Ha,GS,e2,fun v2 H3 G3 JB Hy Ht=>?_⟩;obtain⟨a3,b3,ef3,ro3,Q1,bk3⟩:=Ht.frame;refine⟨G3,Ha,b3,(o3,d3),Iw,Q1,e3,fun v3 H4 G4 QF Il Hz=>⟨by rw[line_eq];exact(by decide:3<=16777216),fun p hp=>?_⟩⟩;obtain⟨MV,NO⟩:=bk3 G4 H4 _ _ QF Il Hz;rw[<-ef3]at NO;obtain⟨Ip,JM⟩:=MV.newF (u:=.tup [v,v2,v3]) hp;refine k _ _ _ _ (Hi.trans (Hd.trans (Hy.trans (NO.trans JM)))) ?_;obtain⟨y,ys,ey,v',a',b',SU,ef,q1,q2⟩:=Ip.rep;cases ey;cases SU;obtain⟨y,ys,ey,v'',Q2,b'',SU,ef',q3,q4⟩:=q2;cases ey;cases SU;subst ef';refine⟨⟨some (.ref p),σ,rfl,.ref p,a'++Q2,b'',rfl,by rw[ef,Vo],?_,q4⟩,Ip.nd,Ip.gn,Ip.gh⟩;show RepO X.K _ _ (.t [.f,o2,o3]) (.tup [r1.2,d2,d3]) (.ref p) (a'++Q2);rw[RepO];refine⟨p,[v,v2,v3],rfl,bU,?_⟩;rw[RepT];refine⟨v,[v2,v3],[],a'++Q2,rfl,rfl,kl.mpr ⟨Rep.mono (Hy.gg.trans (NO.gg.trans JM.gg)) rv,rfl⟩,?_⟩;rw[RepT];refine⟨v2,[v3],a',Q2,rfl,rfl,q1,?_⟩;rw[RepT];refine⟨v3,[],Q2,[],rfl,by rw[Vd],q3,?_⟩;rw[RepT];exact⟨rfl,rfl⟩
end
section
variable{X:Cx}{scope:Scope}{N:List Str}{tg iter elt:Expr}{ifs:List Expr}{pos:Pos}{fi:FI}{a:FG}{c:FT}{f:FX}
end
end PV
namespace L2
open PySem PySem.Spec PyProof.Rows NX
section
variable{X:Cx}{tg:Expr}
end
end L2
namespace PV
open PySem PySem.Spec PyProof.Rows L2 NX
section
variable{X:Cx}{tg:Expr}
end
abbrev FB:=PV.Env->Bool
def GO(g:FS)(x:FB):FB:=fun env=>match g env with
 | .ok (.nx e)=>x e
 |_=>false
def Q3(c:FT)(x:FB):FB:=fun env=>match c env with
 | .ok (true,e)=>x e
 |_=>false
def vW(fs:Ih):FB:=fun env=>match fs env with
 | .ok (os,_)=>decide (os.length<=3)
 |_=>false
inductive tX(K:W.Frag)(x:FB)(Ww:Hp->Prop)(σ:L2.St)(H:Hp):Prop
 |mk:∀G env fp,Rel K G H env σ fp->x env=true->(∀H' G' G9,Step G H fp G' H' G9->Rel K G' H' [] [] []->Ww H')->tX K x Ww σ H
def QX(X:Cx)(st:List Stmt)(x:FB)(Ww:Hp->Prop):Prop:=PX X st (tX X.K x Ww)
section
variable{X:Cx}{st:Stmt}{QD:List Stmt}{g:FS}{x:FB}{Ww:Hp->Prop}{c:FT}{pos np Hj:Pos}{e:Expr}{es:List Expr}{fs:Ih}{C:Addr}{y:Str}
theorem E9{a b:List Stmt}{ct:Expr}(hc:QT X.nox ct c)(ha:QX X a x Ww):QX X (.If ct a b pos::QD) (Q3 c x) Ww:=yz (ER (PT.nox hc) ha) fun σ H Hg=>by
 obtain⟨G,env,fp,rel,e,k⟩:=Hg;unfold Q3 at e;match q:c env,e with
 | .ok (true,GQ),e=>exact⟨G,env,fp,true,GQ,rel,q,fun H1 G1 Hn Hi GW=>⟨rfl,G1,GQ,Hn,GW,e,fun H' G' G9 st r=>k H' G' G9 (Hi.trans st) r⟩⟩
theorem rZ{K:W.Frag}{G:Hp}{σ:L2.St}:∀{os:List Opd}{vs:List V},ph K G σ os vs->vs.length=os.length
 |[],_,r=>by have r:_=[]:=r;rw[r];rfl
 |_::_,_,⟨y,ys,e,_,q⟩=>by rw[e,UI,UI,rZ q]
theorem xP(O:O7 X.mg X.base y C)(acc:Acc X C Ww)(hc:X.calm=true)(hg:Gl X y)(ha:Lx X.nox (e::es) fs)(HZ:(y==("__debug__" : Str))=false:=by decide)
  (he:starEach (e::es) X.env=(false,eval e X.env)::starEach es X.env:=by rfl) (HU:(backTo Hj (starEach es X.env)).any (·.1)=false:=by rfl):
  QX X (.Raise (some (.Call (.Name y np) (e::es) [] Hj)) none pos::QD) (vW fs) Ww:=yz (xv O acc hc hg (Cr ha) HZ he HU) fun σ H Hg=>by
 obtain⟨G,env,fp,rel,e,k⟩:=Hg;unfold vW at e;match q:fs env,e with
 | .ok (os,GQ),e=>
  refine⟨G,env,fp,os,GQ,rel,q,fun vs H1 G1 Hn Hi GW Io=>⟨?_,k H1 G1 Hn Hi GW.nilF⟩⟩;rw[rZ Io];have e:decide (os.length<=3)=true:=e;have:=VA e;rw[line_eq];lia
end
inductive spX(K:W.Frag)(C:Addr)(F:List D->Bool)(vs:List V)(H:Hp)(Q:VK)(E:XK):Prop
 |mk:∀G ds,Same G H->Reps K G ds vs->F ds=true->(∀H' G' G9,Step G H [] G' H' G9->Rel K G' H' [] [] []->E (.ref C) none H')->spX K C F vs H Q E
def qD(np nn:Nat)(x:FB):List D->Bool:=fun ds=>decide (ds.length=np)&&x (ds.map (fun d=>some (O.f,d))++List.replicate nn none)
theorem yQ{P:Program}{w:World}{K:W.Frag}{mg:Str->Option Value}{base:Heap}{x:Str}{st:Stmt}{N ps:List Str}{k:Nat}{gx:FB}{C:Addr}(Df:Def K mg x st)(sc:FnScope N ps (defScope st))
  (hb:∀(kV doc pm:Value) (an:Option Addr) (Hs ct:Value) (us:List Value),us.length=ps.length->bindArgs (PySem.W.fnOf x x (f9 st) (dE st) (defScope st) .none kV doc pm an Hs ct) ⟨us,[]⟩=pure (ps.zip us))
  (body:∀(f:Addr) (Hs:Value) (A:Around) (outer:List PySem.Env) (s:Shared) (H:Hp) (E:XK),Room k (A.deeper (envOfC x (defScope st) s.heap.objs.size f Hs))->QX (sT (OE P w base C) P w K mg base N x (defScope st) f Hs A outer s H E) (dE st) gx (fun H'=>E (.ref C) none H')):
  CtX P w K mg base x (k+1) C (spX K C (qD ps.length (N.length-ps.length) gx)):=by
 obtain⟨f,fd,F,m⟩:=Df;refine⟨f,fd,ps,zW F sc (fun vs H Q E h=>?_) (fun Hs A outer s H vs Q E hr h=>?_),m,F.kp,F.binds hb⟩
 ·obtain⟨G,ds,_,rs,e,_⟩:=h;unfold qD at e;have:=VA ((Uz _ _).mp e).1;rw[rs.length,this]
 ·obtain⟨G,ds,gh,rs,e,q⟩:=h;unfold qD at e;have hl:=VA ((Uz _ _).mp e).1;have e:=((Uz _ _).mp e).2;refine⟨_,body f Hs A outer s H E hr,G,ds.map (fun d=>some (O.f,d))++List.replicate (N.length-ps.length) none,[],⟨?_,Vm,(fun _ h=>nomatch h),gh⟩,e,q⟩;have:=jx (K:=K) (G:=G) (H:=H) (N.length-ps.length) rs;unfold L2.start;rw[rs.length,hl];exact this
abbrev FXE:=PV.Env->Option PV.Env
inductive tQX(K:W.Frag)(x:FXE)(σ:L2.St)(H:Hp)(Ww:Hp->Prop):Prop
 |mk:∀G env fp env',Rel K G H env σ fp->x env=some env'->(∀H' G' G9,Step G H fp G' H' G9->Rel K G' H' env' σ G9->Ww H')->tQX K x σ H Ww
def vX(F:List D->Bool)(fs:Ih):FXE:=fun env=>match fs env with
 | .ok (os,e)=>match jv e os with
  | .ok ds=>if F ds then some e else none
  |_=>none
 |_=>none
def TY(X:Cx)(e:Expr)(C:Addr)(x:FXE):Prop:=SF X e C (tQX X.K x)
def Q4(X:Cx)(st:List Stmt)(C:Addr)(x:FXE):Prop:=P6 X st C (tQX X.K x)
section
variable{md:Mode}{X:Cx}{x:Str}{p pos:Pos}{e a b:Expr}{es:List Expr}{C:Addr}{F:List D->Bool}{fs:Ih}{k:Nat}{xe:FXE}{cH:List Stmt}
theorem vY(c:CtX X.prog X.w X.K X.mg X.base x k C (spX X.K C F))(hr:Room k X.A)(hg:Gl X x)(ha:Lx X.nox (e::es) fs)(HZ:(x==("__debug__" : Str))=false:=by decide)
  (he:starEach (e::es) X.env=(false,eval e X.env)::starEach es X.env:=by rfl) (HU:(backTo pos (starEach es X.env)).any (·.1)=false:=by rfl):TY X (.Call (.Name x p) (e::es) [] pos) C (vX F fs):=
 fun pi s σ H Ww I ⟨G,env,fp,env',rel,e,kk⟩=>rE c hr hg ha HZ he HU pi s σ H Ww I (by
  unfold vX at e;match q:fs env,e with
  | .ok (os,e1),e=>
   dsimp only at e;match q2:jv e1 os,e with
   | .ok ds,e=>
    dsimp only at e;split at e
    ·rename_i hF;cases e;refine⟨G,env,fp,os,_,rel,q,fun vs H1 G1 Hn Hi GW Io=>?_⟩;obtain⟨G2,Pb,Pc,JO,_,JV⟩:=GW.lend;refine⟨G2,ds,Pc,jw Pb JO Io q2,hF,fun H' G' G9 st Ho=>?_⟩;obtain⟨k1,_⟩:=JV H' G' [] (.f,.non) .non (st.trans (Step.cut fun _ h=>nomatch h)) (Ho.push lu);obtain⟨G3,JB,Hy,Ht⟩:=k1 rfl;obtain⟨fq,Hz,Il⟩:=Ht.drop;exact kk H' G3 fq (Hi.trans (Hy.trans Il)) Hz
    ·cases e)
theorem r6(h:TY X e C xe)(hs:swapsWith e none pos.line X.env=pure false:=by rfl):Q4 X (.Expr e pos::cH) C xe:=xw h hs
end
section
variable{X:Cx}{x:Str}{p pos:Pos}{e:Expr}{es:List Expr}{fs:Ih}
end
section
variable{X:Cx}{x:Str}{p pos:Pos}{e:Expr}{es:List Expr}{f0:FX}{fs:Ih}
end
end PV
namespace NX
open PySem PySem.Spec PyProof.Rows L2
end NX
namespace PV
open PySem PySem.Spec PyProof.Rows L2 NX
section
variable{K:W.Frag}{G H:Hp}{es:PV.Env}{vs:L2.St}{fp:List Addr}
end
section
variable{md:Mode}{X:Cx}
end
section
variable{X:Cx}
end
end PV
namespace NX
open PySem PySem.Spec PyProof.Rows L2
section
variable{X:Cx}
end
end NX
namespace PV
open PySem PySem.Spec PyProof.Rows L2 NX
section
variable{X:Cx}
end
inductive Ext:Hp->Hp->Prop
 |refl {H:Hp}:Ext H H
 |new {H H1:Hp}{p:Addr}{xs:List V}:Ext H H1->H1 p=none->Ext H (upd H1 p (.tup xs))
theorem Ext.trans{H H1 H2:Hp}(a:Ext H H1)(b:Ext H1 H2):Ext H H2:=by
 induction b with
 |refl=>exact a
 |new _ hp ih=>exact .new ih hp
theorem Ext.rel{K:W.Frag}{G H H':Hp}{env:PV.Env}{σ:L2.St}{fp:List Addr}(e:Ext H H')(r:Rel K G H env σ fp):∃G',Rel K G' H' env σ fp/\Step G H fp G' H' fp:=by
 induction e with
 |refl=>exact⟨G,r,.refl⟩
 |new _ hp ih=>
  obtain⟨G1,r1,s1⟩:=ih;obtain⟨r2,s2⟩:=r1.newF hp;exact⟨_,r2,s1.trans s2⟩
inductive BExp where
 |con (b:Bool)|var (j:Nat)|not (x:BExp)|and (x y:BExp)
abbrev Kn:=List (Nat×Bool)
def Nq(kn:Kn):BExp->Option Bool
 | .con b=>some b
 | .var j=>kn.lookup j
 | .not x=>(Nq kn x).map (!·)
 | .and x y=>(Nq kn x).bind fun b=>if b=true then Nq kn y else some false
def Fb(kn:Kn)(σ:L2.St):Prop:=∀j b,kn.lookup j=some b->σ[j]?=some (some (.bl b))
inductive tBE(i:Nat)(a:Addr)(x:BExp)(σ:L2.St)(H:Hp)(Q:VK):Prop
 |mk:∀kn b,σ[i]?=some (some (.ref a))->Fb kn σ->Nq kn x=some b->(∀H',Ext H H'->Q (.bl b) H')->tBE i a x σ H Q
def BE(X:Cx)(e:Expr)(i:Nat)(a:Addr)(x:BExp):Prop:=PE X e (tBE i a x)
section
variable{X:Cx}{a:Addr}{o:Obj}{i:Nat}{e b:Expr}{cH:List Expr}{x y:BExp}{pos p q:Pos}{n:Str}
theorem yR(h:BE X e i a x)(h2:BE X (.BoolOp .And (b::cH) pos) i a y):BE X (.BoolOp .And (e::b::cH) pos) i a (.and x y):=bN (BK h h2) fun σ H Q Hg=>by
 obtain⟨kn,c,hi,hk,ev,k⟩:=Hg;unfold Nq at ev;obtain⟨b1,e1,ev⟩:=Vq.mp ev;refine⟨kn,b1,hi,hk,e1,fun H1 x1=>⟨b1,rfl,?_⟩⟩;cases b1 with
 |true=>exact Bs ⟨kn,c,hi,hk,by rwa [Ut rfl]at ev,fun H2 x2=>k H2 (x1.trans x2)⟩
 |false=>
  rw[UD Up]at ev;cases ev;exact iteF (k H1 x1)
theorem C7{op}(h:BE X e i a x):BE X (.BoolOp op [e] pos) i a x:=yj h
theorem C8(h:BE X e i a x):BE X (.UnaryOp .Not e pos) i a (.not x):=bN (BL h) fun σ H Q Hg=>by
 obtain⟨kn,c,hi,hk,ev,k⟩:=Hg;unfold Nq at ev;obtain⟨b1,e1,ev⟩:=UX.mp ev;subst ev;exact⟨kn,b1,hi,hk,e1,fun H1 x1=>⟨b1,rfl,k H1 x1⟩⟩
theorem C9{j:Nat}(h:PE X e (qj j)):BE X e i a (.var j):=bN h fun σ H Q ⟨kn,c,hi,hk,ev,k⟩=>⟨.bl c,hk j c ev,k H .refl⟩
theorem vZ:∀{cs:List Addr}{GU:List Value},Vals (cs.map V.ref) GU->GU=cs.map Value.ref
 |[],_,.nil=>rfl
 |c::cs,_,.cons h r=>by rw[UH,vZ r,show _=Value.ref c from h]
theorem oi{C:Addr}{vs:Array Value}(hp:(a,o)∈X.pn)(hc:o.cls=.ref C)(hv:o.data=.fields vs)(k:Asks X.K C):cX X (.builtin "isinstance") (fun xs H Q=>
  (∃c b,xs=[.ref a,.ref c]/\PySem.W.kitOne X.K (.ref C) (.ref c)=some b/\Q (.bl b) H)\/(∃T b,xs=[.ref a,.ty T]/\PySem.W.kitOne X.K (.ref C) (.type T)=some b/\Q (.bl b) H)\/
  ∃(tp:Addr) (cs:List Addr) (b:Bool),xs=[.ref a,.ref tp]/\H tp=some (.tup (cs.map V.ref))/\PySem.W.kitAny X.K (.ref C) (cs.map Value.ref)=some b/\Q (.bl b) H):=by
 intro pi s σ H xs us Q I r h;obtain⟨pa,_⟩:=I.pin (a,o) (UA _ hp);have ex:ExAt a C s.heap:=⟨o,vs,pa,hc,hv⟩
 have fin:∀b,Q (.bl b) H->∀tk,EP X pi σ Q (.bool b) {s with toks:=tk}:=fun b q tk=>⟨.bl b,H,I.tok tk,rfl,q⟩
 rcases h with⟨c,b,rfl,e,q⟩|⟨T,b,rfl,e,q⟩|⟨tp,cs,b,rfl,ht,e,q⟩
 ·obtain⟨u,w',rfl,r1,r2⟩:=qk r;cases(show u=Value.ref a from r1);cases(show w'=Value.ref c from r2);exact VH (qr k) I.kIn ex e (fun z=>nomatch z) (fin b q)
 ·obtain⟨u,w',rfl,r1,r2⟩:=qk r;cases(show u=Value.ref a from r1);cases(show w'=Value.type T from r2);exact VH (qr k) I.kIn ex e (fun z=>nomatch z) (fin b q)
 ·obtain⟨u,w',rfl,r1,r2⟩:=qk r;cases(show u=Value.ref a from r1);cases(show w'=Value.ref tp from r2);obtain⟨_,GU,rv,ot,e1,e2,⟨n,e3⟩,_⟩:=I.hok tp _ ht;cases vZ rv;obtain⟨c',d',da',Tp⟩:=ot;dsimp only at e2 e3;subst e2;subst e3;exact PySem.W.kia_tup (qr k) I.kIn ex e1 e (fun z=>nomatch z) (fin b q)
variable{C:Addr}{vs:Array Value}
theorem Fc{x:Str}{c:Addr}{b:Bool}(hp:(a,o)∈X.pn)(hc:o.cls=.ref C)(hv:o.data=.fields vs)(k:Asks X.K C)(he:PE X e (qj i))(hg:Gl X "isinstance")(hm:X.mg "isinstance" = none)(QL:Gl X x)(QM:X.mg x=some (.ref c))(hb:PySem.W.kitOne X.K (.ref C) (.ref c)=some b)(HZ:(x==("__debug__" : Str))=false:=by decide)
  (hs:starEach [e,.Name x q] X.env=(false,eval e X.env)::starEach [.Name x q] X.env:=by rfl) (Ln:starEach [.Name x q] X.env=(false,eval (.Name x q) X.env)::starEach [] X.env:=by rfl) (HU:(backTo pos (starEach [.Name x q] X.env)).any (·.1)=false:=by rfl):
  BE X (.Call (.Name "isinstance" p) [e,.Name x q] [] pos) i a (.con b):=
 bN (jm (oi hp hc hv k) hg hm eS (cI he (cI (ug (v:=.ref c) QL QM rfl HZ) gU Ln) hs) (by decide) (by decide) hs HU) fun σ H Q Hg=>by
  obtain⟨kn,c',hi,hk,ev,kk⟩:=Hg;cases ev;exact⟨.ref a,hi,.inl ⟨c,b,rfl,hb,kk H .refl⟩⟩
theorem Dc{x:Str}{T:String}{b:Bool}(hp:(a,o)∈X.pn)(hc:o.cls=.ref C)(hv:o.data=.fields vs)(k:Asks X.K C)(he:PE X e (qj i))(hg:Gl X "isinstance")(hm:X.mg "isinstance" = none)(QL:Gl X x)(QM:X.mg x=none)(P9:bootBuiltins x=some (.type T))(hb:PySem.W.kitOne X.K (.ref C) (.type T)=some b)(hn:x≠"__name__":=by decide)(HZ:(x==("__debug__" : Str))=false:=by decide)
  (hs:starEach [e,.Name x q] X.env=(false,eval e X.env)::starEach [.Name x q] X.env:=by rfl) (Ln:starEach [.Name x q] X.env=(false,eval (.Name x q) X.env)::starEach [] X.env:=by rfl) (HU:(backTo pos (starEach [.Name x q] X.env)).any (·.1)=false:=by rfl):
  BE X (.Call (.Name "isinstance" p) [e,.Name x q] [] pos) i a (.con b):=
 bN (jm (oi hp hc hv k) hg hm eS (cI he (cI (uh (v:=.ty T) QL QM P9 rfl hn HZ) gU Ln) hs) (by decide) (by decide) hs HU) fun σ H Q Hg=>by
  obtain⟨kn,c',hi,hk,ev,kk⟩:=Hg;cases ev;exact⟨.ref a,hi,.inr (.inl ⟨T,b,rfl,hb,kk H .refl⟩)⟩
def xQ(cs:List Addr):TA:=fun _ H Q=>Q (cs.map V.ref) H
theorem De{es:List Expr}{cs:List Addr}{b:Bool}{kt}{Jq:Pos}(hp:(a,o)∈X.pn)(hc:o.cls=.ref C)(hv:o.data=.fields vs)(k:Asks X.K C)(he:PE X e (qj i))(hg:Gl X "isinstance")(hm:X.mg "isinstance" = none)(hes:PA X es (xQ cs))(hl:cs.length<=100)(hb:PySem.W.kitAny X.K (.ref C) (cs.map Value.ref)=some b)
  (hs:starEach [e,.Tuple es kt Jq] X.env=(false,eval e X.env)::starEach [.Tuple es kt Jq] X.env:=by rfl) (Ln:starEach [.Tuple es kt Jq] X.env=(false,eval (.Tuple es kt Jq) X.env)::starEach [] X.env:=by rfl) (HU:(backTo pos (starEach [.Tuple es kt Jq] X.env)).any (·.1)=false:=by rfl):
  BE X (.Call (.Name "isinstance" p) [e,.Tuple es kt Jq] [] pos) i a (.con b):=
 bN (jm (oi hp hc hv k) hg hm eS (cI he (cI (uB hes) gU Ln) hs) (by decide) (by decide) hs HU) fun σ H Q Hg=>by
  obtain⟨kn,c',hi,hk,ev,kk⟩:=Hg;cases ev;exact⟨.ref a,hi,by rw[Um,line_eq];lia,fun tp SG=>.inr (.inr ⟨tp,cs,b,rfl,bU,hb,kk _ (.new .refl SG)⟩)⟩
theorem pr_nil:PA X [] (xQ []):=mP gU fun _ _ _ h=>h
theorem pr_cons{x:Str}{c:Addr}{es:List Expr}{cs:List Addr}(hg:Gl X x)(hm:X.mg x=some (.ref c))(h:PA X es (xQ cs))(HZ:(x==("__debug__" : Str))=false:=by decide)(hs:starEach (.Name x q::es) X.env=(false,eval (.Name x q) X.env)::starEach es X.env:=by rfl):PA X (.Name x q::es) (xQ (c::cs)):=
 mP (cI (ug (v:=.ref c) hg hm rfl HZ) h hs) fun _ _ _ h=>h
end
section
variable{md:Mode}{X:Cx}{x:Str}{pos:Pos}{C:Addr}{xe:FXE}
end
end PV
namespace PV
open PySem PySem.Spec L2 NX
section
variable{X:Cx}
end
end PV
namespace PV
open PySem PySem.Spec PyProof.Rows L2 NX
section
variable{K:W.Frag}{G H:Hp}
theorem AllO.length{P:D->V->List Addr->Prop}:∀{ds:List D}{xs:List V}{fp:List Addr},AllO P ds xs fp->xs.length=ds.length
 |[],xs,fp,r=>by
  rw[r.1];rfl
 |d'::ds,xs,fp,r=>by
  obtain⟨y,ys,a1,b1,e1,e2,p,r⟩:=r;subst e1;rw[UI,UI,r.length]
end
section
variable{md:Mode}{X:Cx}{scope:Scope}{N:List Str}{tg iter elt:Expr}{ifs:List Expr}{pos:Pos}{fi:FI}{a:FG}{c:FT}{f:FX}
end
section
variable{X:Cx}{x:Str}{p pos Jq:Pos}{e1 e2 e3:Expr}{fo:FO}{fb:FX}
end
section
variable{X:Cx}{x:Str}{p pos p1 p2 q1 q2:Pos}{o o':Expr}{j1 j2:_}
end
section
variable{K:W.Frag}{G H:Hp}
end
section
variable{X:Cx}{a b:Expr}{fa fb:FX}{pos:Pos}
end
section
variable{K:W.Frag}{G H:Hp}
end
section
variable{X:Cx}
end
theorem out_bind{md:Mode}{K:W.Frag}{G H:Hp}{fp:List Addr}{Dd:Ends}{α:Type}{x:Res α}{g:α->Res Out}(k:OutOk (md:=md) K G H fp Dd (x.bind g)):∃a,x=.ok a/\OutOk (md:=md) K G H fp Dd (g a):=by
 cases x with
 |ok a=>exact⟨a,rfl,k⟩
 |exc c=>exact k.elim
 |bad=>exact k.elim
section
variable{X:Cx}
end
section
variable{K:W.Frag}{G H:Hp}
end
section
variable{X:Cx}{a b:Expr}{fa fb:FX}{pos:Pos}
end
section
variable{md:Mode}{X:Cx}{pos Jq:Pos}
theorem xR:FE X (fun o i H Q=>∃p xs k v,o=.ref p/\i=.int k/\SqL X.K H p xs/\0<=k/\Ik xs k=some v/\Q v H):=by
 intro pi s σ H o i ov iv Q I ro ri h;obtain⟨p,xs,k,v,rfl,rfl,hq,h0,he,q⟩:=h;cases ro;obtain⟨t,rfl⟩:=ri;obtain⟨GU,r,pl,hz⟩:=I.list hq;obtain⟨j,h1,h2,h3,h4,h5⟩:=nj he;obtain⟨w,ew,KU⟩:=r.get h2;have hl:=r.length;have hn:=k8;have hj:k.toNat=j:=by
  rw[Yw h0 h5]at h1;exact UU h1
 exact wpAny_getItem_list pl.isList h0 (by lia) (by rw[hj];simpa using ew) ⟨v,H,I,KU,q⟩
noncomputable def xS(i:Nat)(fk fv:FX):FS:=fun env=>match env[i]? with
 |some (some (.l .f,.lst _))=>(fk env).bind fun p=>(match p.1.2,p.2[i]? with
  | .int c,some (some (.l .f,.lst ds))=>if 0<=c then(match Ik ds c with
   |some (.int old)=>(fv p.2).bind fun q=>(match q.1.2,q.2[i]? with
    | .int v,some (some (.l .f,.lst ds2))=>(match ixN ds2.length c with
     |some j=>.ok (.nx (q.2.set i (some (.l .f,.lst (ds2.set j (.int (old+v)))))))
     |none=>.bad)
    |_,_=>.bad)
   |_=>.bad) else .bad
  |_,_=>.bad)
 |_=>.bad
theorem Ay{i:Nat}{o ix value:Expr}{fk fv:FX}(ho:PE X o (qj i))(hi:QE X ix fk)(hv:QE X value fv)
  (ha:∀ov iv new,augStore ix ov iv new=(do holding [new,ov,iv] (setItem ov iv new);release [new,ov,iv] [];pure .next):=by intros;rfl):
  QS (md:=md) X (.AugAssign (.Subscript o ix Jq) .Add value pos) (xS i fk fv):=fR (y8 ho hi xR hv BR q0 ha) fun Dd σ H Hg=>by
 obtain⟨G,env,fp,rel,k⟩:=Hg;unfold xS at k;split at k
 ·rename_i ds0 h0;obtain⟨⟨r1,GQ⟩,q1,k⟩:=out_bind k;dsimp only at k;split at k
  ·rename_i c ds hc Nz;split at k
   ·rename_i Sv;split at k
    ·rename_i old K4;obtain⟨⟨r2,Ha⟩,q2,k⟩:=out_bind k;dsimp only at k;split at k
     ·rename_i v ds2 hv hds2;split at k
      ·rename_i j hj;obtain⟨v0,NN,_⟩:=rel.view h0;refine⟨v0,NN,G,env,fp,r1,GQ,rel,q1,fun z H1 G1 Hn Hi GW=>?_⟩;obtain⟨G2,b,rz,GS,Hd⟩:=GW.freeze;rw[hc]at rz;cases bG rz;obtain⟨p,xs,ep,hp,rs,_⟩:=GS.chg (ds':=ds) Nz;rw[NN]at ep;cases ep;obtain⟨w,hw,KU⟩:=nR rs K4;cases bG KU;refine⟨p,xs,c,.int old,rfl,rfl,SqL.of hp,Sv,hw,G2,GQ,b,r2,Ha,GS,q2,fun y H3 G3 JB Hy Ht=>?_⟩;obtain⟨G4,b4,ry,Hz,Il⟩:=Ht.freeze;rw[hv]at ry;cases bG ry;obtain⟨p2,OG,Qw,O4,RN,cg⟩:=Hz.chg (ds':=ds2.set j (.int (old+v))) hds2;rw[NN]at Qw;cases Qw;obtain⟨fq,Ip,JM⟩:=cg _ (RN.set j (bh (old+v)));exact⟨old,v,rfl,rfl,p,OG,c,j,rfl,rfl,O4,by rw[RN.length];exact hj,k _ _ G4 fq (Hi.trans (Hd.trans (Hy.trans (Il.trans JM)))) Ip⟩
      ·exact k.elim
     ·exact k.elim
    ·exact k.elim
   ·exact k.elim
  ·exact k.elim
 ·exact k.elim
end
section
variable{X:Cx}{C:Addr}{pos:Pos}{cH a b:List Stmt}{ct:Expr}
theorem Dg{tc:TT}{ta tb:TX}(hc:PT X.nox ct tc)(ha:P6 X a C ta)(hb:P6 X b C tb):P6 X (.If ct a b pos::cH) C (fun σ H Ww=>tc σ H fun bb H1=>if bb=true then ta σ H1 Ww else tb σ H1 Ww):=by
 intro pi s σ H Ww I h;refine V6 (wpAny_If (Vc (hc pi s σ H _ (I.wish _) h) (fun d s1 ⟨H1,I1,q⟩=>?_) fun _ _ z=>z.elim));have I1:=I1.unwish;cases d with
 |true=>exact Vc (ha pi s1 σ H1 Ww I1 q) (fun _ _ z=>z.elim) fun _ _ z=>z
 |false=>exact Vc (hb pi s1 σ H1 Ww I1 q) (fun _ _ z=>z.elim) fun _ _ z=>z
def Dh(c:FT)(x y:FXE):FXE:=fun env=>match c env with
 | .ok (true,e)=>x e
 | .ok (false,e)=>y e
 |_=>none
theorem Di{c:FT}{x y:FXE}(hc:QT X.nox ct c)(ha:Q4 X a C x)(hb:Q4 X b C y):Q4 X (.If ct a b pos::cH) C (Dh c x y):=fun pi s σ H Ww I ⟨G,env,fp,env',rel,e,kk⟩=>Dg hc ha hb pi s σ H Ww I (by
 unfold Dh at e;match q:c env,e with
 | .ok (true,e1),e=>exact⟨G,env,fp,true,e1,rel,q,fun H1 G1 Hn Hi GW=>Bs ⟨G1,e1,Hn,env',GW,e,fun H' G' G9 st Ho=>kk H' G' G9 (Hi.trans st) Ho⟩⟩
 | .ok (false,e1),e=>exact⟨G,env,fp,false,e1,rel,q,fun H1 G1 Hn Hi GW=>iteF ⟨G1,e1,Hn,env',GW,e,fun H' G' G9 st Ho=>kk H' G' G9 (Hi.trans st) Ho⟩⟩)
end
theorem acc_on{P:Program}{w:World}{K:W.Frag}{mg:Str->Option Value}{base:Heap}{N:List Str}{qual:Str}{scope:Scope}{f C:Addr}{cd:Value}{A:Around}{outer:List PySem.Env}{s:Shared}{H:Hp}{E:XK}
  (pi:List (Addr×Obj)) (σ:L2.St) (e:Value) (s':Shared) (h:XP (sT (OE P w base C) P w K mg base N qual scope f cd A outer s H E) pi σ C (fun H'=>E (.ref C) none H') e s'):
  (sT (OE P w base C) P w K mg base N qual scope f cd A outer s H E).xe e s':=by
 obtain⟨s1,H1,I,a,t,B,H',rfl,os,bare,U,hok,MN,hB,hW⟩:=h;have SE:∀b,b∈HY (envOfC qual scope s.heap.objs.size f cd::outer)->b∈s.heap.objs.size::HY outer:=I.stkSub;have up:∀b,b∈HY outer->b∈HY (envOfC qual scope s.heap.objs.size f cd::outer):=fun b hb=>by
  obtain⟨en,he,hf⟩:=Wa.mp hb;exact Wa.mpr ⟨en,Uy _ he,hf⟩
 have nl:∀b o,s.heap.get? b=some o->b∉HY outer->b∉HY (envOfC qual scope s.heap.objs.size f cd::outer):=fun b o e n z=>by
  rcases Ux.mp (SE b z) with r|r
  ·exact absurd (Uu e) (by rw[r];exact VN _)
  ·exact n r
 have nt:∀b,H' b≠none->b∉HY (envOfC qual scope s.heap.objs.size f cd::outer):=fun b n z=>by
  obtain⟨_,o,ho,_⟩:=I.stack.mem z;exact n (U.free b o ho (I.stkFree b z) (fun z=>nomatch z))
 refine wpAny_leaves_onW (base:=B) (L:=s.heap.objs.size) I.ok.frames rfl MN fun h2 Q5 sm=>?_
 have k:∀b u,s'.heap.get? b=some u->(H' b≠none\/∃o,s1.heap.get? b=some o)->b∉HY (envOfC qual scope s.heap.objs.size f cd::outer)->h2.get? b=some u:=fun b u q hh n=>Q5.1 b u (hB b u q hh n)
 have sl:∀b u,s'.heap.get? b=some u->b∈HY outer->∃z,h2.get? b=some {u with slots:=z}:=fun b u q n=>by
  obtain⟨_,o,ho,hd⟩:=MN.2.2.1.mem (up b n);rw[q]at ho;cases ho;exact sm b u q hd
 have there:∀b o,s.heap.get? b=some o->∃o1 o2,s1.heap.get? b=some o1/\s'.heap.get? b=some o2:=fun b o q=>by
  obtain⟨o1,e1⟩:=I.base.there b o q (fun z=>nomatch z);obtain⟨o2,e2⟩:=U.there b o1 e1 (fun z=>nomatch z);exact⟨o1,o2,e1,e2⟩
 refine⟨a,t,B,H',rfl,os.trans I.os,bare,⟨fun b o q n hb hx=>?_,fun b o q n hb hx=>?_,fun b o q n hx=>?_,fun b o q hx=>?_,fun c xs q=>U.tups c xs (I.base.tups c xs q),fun c ob xs q=>U.frzs c ob xs (I.base.frzs c ob xs q),fun c ps q=>?_⟩,fun b o e=>?_,Q5,fun b u q hb n=>?_,hW⟩
 ·have e1:=I.base.keep b o q n hb hx;have nb:=nl b o q hb;exact k b o (U.keep b o e1 (I.base.free b o q n hx) nb (fun z=>nomatch z)) (.inr ⟨o,e1⟩) nb
 ·obtain⟨z,e1⟩:=I.base.slot b o q n hb hx;obtain⟨z2,e2⟩:=U.slot b _ e1 (I.base.free b o q n hx) (up b hb) (fun z=>nomatch z);obtain⟨z3,e3⟩:=sl b _ e2 hb;exact⟨z3,e3⟩
 ·obtain⟨o1,e1⟩:=I.base.there b o q hx;exact U.free b o1 e1 (I.base.free b o q n hx) (fun z=>nomatch z)
 ·obtain⟨o1,o2,e1,e2⟩:=there b o q;by_cases hb:b∈HY outer
  ·obtain⟨z,e3⟩:=sl b o2 e2 hb;exact⟨_,e3⟩
  ·exact⟨o2,k b o2 e2 (.inr ⟨o1,e1⟩) (nl b o q hb)⟩
 ·obtain⟨m1,e1⟩:=I.base.tbls c ps q;obtain⟨m2,e2⟩:=U.tbls c _ e1;exact⟨m1++m2,by rw[e2,YF]⟩
 ·refine(hok b o e).stay (fun c u hc q=>?_) (fun _ q=>q) fun _ _ q=>q
  have hn:H' c≠none:=by
   rcases hc with rfl|hc
   ·rw[e];exact fun z=>nomatch z
   ·rw[hc];exact fun z=>nomatch z
  exact k c u q (.inl hn) (nt c hn)
 ·have h1:∃u0,s'.heap.get? b=some u0/\(H' b≠none\/∃o,s1.heap.get? b=some o)/\b∉HY (envOfC qual scope s.heap.objs.size f cd::outer):=by
   rcases hb with hb|⟨o,ho⟩
   ·cases hq:H' b with
    |none=>exact absurd hq hb
    |some ho=>
     obtain⟨u0,e0⟩:=ook_get (hok b ho hq);exact⟨u0,e0,.inl (fun z=>nomatch z),nt b hb⟩
   ·obtain⟨o1,o2,e1,e2⟩:=there b o ho;exact⟨o2,e2,.inr ⟨o1,e1⟩,nl b o ho n⟩
  obtain⟨u0,e0,hh,n0⟩:=h1;have:=k b u0 e0 hh n0;rw[show h2.get? b=some u from q]at this;cases this;exact hB b _ e0 hh n0
section
variable{X:Cx}{x y:Str}{p pos pos' Hj:Pos}{e:Expr}{es:List Expr}{C:Addr}{F:List D->Bool}{fs:Ih}{k:Nat}{cH:List Stmt}{Ww:Hp->Prop}
def v5(F:List D->Bool)(fs:Ih):FB:=fun env=>match fs env with
 | .ok (os,e)=>(match jv e os with
  | .ok ds=>F ds
  |_=>false)
 |_=>false
theorem Az(c:CtX X.prog X.w X.K X.mg X.base x k C (spX X.K C F))(acc:∀pi σ e s',XP X pi σ C Ww e s'->X.xe e s')(hr:Room k X.A)(hg:Gl X x)(ha:Lx X.nox (e::es) fs)(hs:swapsWith (.Call (.Name x p) (e::es) [] Hj) (some (.Name y pos')) pos.line X.env=pure false:=by rfl)(HZ:(x==("__debug__" : Str))=false:=by decide)
  (he:starEach (e::es) X.env=(false,eval e X.env)::starEach es X.env:=by rfl) (HU:(backTo Hj (starEach es X.env)).any (·.1)=false:=by rfl):
  QX X (.Assign [.Name y pos'] (.Call (.Name x p) (e::es) [] Hj) pos::cH) (v5 F fs) Ww:=fun pi s σ H I Hg=>by
 obtain⟨G,env,fp,rel,ee,kk⟩:=Hg;refine V6 (wpAny_Assign_Name (Vc (rE c hr hg ha HZ he HU pi s σ H Ww I ?_) (fun _ _ z=>z.elim) fun v s' z=>acc pi σ v s' z) hs);unfold v5 at ee;match q:fs env,ee with
 | .ok (os,e1),ee=>
  dsimp only at ee;match q2:jv e1 os,ee with
  | .ok ds,ee=>
   dsimp only at ee;refine⟨G,env,fp,os,e1,rel,q,fun vs H1 G1 Hn Hi GW Io=>?_⟩;obtain⟨G2,Pb,Pc,JO,_,JV⟩:=GW.lend;refine⟨G2,ds,Pc,jw Pb JO Io q2,ee,fun H' G' G9 st Ho=>?_⟩;obtain⟨k1,_⟩:=JV H' G' [] (.f,.non) .non (st.trans (Step.cut fun _ h=>nomatch h)) (Ho.push lu);obtain⟨G3,JB,Hy,Ht⟩:=k1 rfl;exact kk H' G3 JB (Hi.trans Hy) Ht.nilF
end
inductive tSu2(i:Nat)(a:Addr)(j:Nat)(x1:BExp)(jc:Nat)(x2:BExp)(Dd:Ends)(σ:L2.St)(H:Hp):Prop
 |mk:∀b1 b2 c,σ[i]?=some (some (.ref a))->Nq [] x1=some b1->Nq [(j,b1)] x2=some b2->σ[jc]?=some (some (.int c))->i≠j->j≠jc->(∀H',Ext H H'->Dd.nx ((σ.set j (some (.bl b1))).set jc (some (.int (c+if b2=true then 1 else 0)))) H')->tSu2 i a j x1 jc x2 Dd σ H
section
variable{X:Cx}{a:Addr}{i j jc:Nat}{x1 x2:BExp}{e1 e2 vc:Expr}{n nc:Str}{pos Q6 NQ pos' OH bp p:Pos}
theorem v7:cX X (.type "int") (fun xs H Q=>∃b:Bool,xs=[.bl b]/\Q (.int (if b=true then 1 else 0)) H):=by
 rintro pi s σ H xs us Q I rx ⟨b,ex,q⟩;subst ex;obtain⟨u,rfl,ru⟩:=eF rx;cases ru;exact call_int_bool ⟨.int _,H,I.tok _,⟨_,rfl⟩,q⟩
theorem Dj(hN:X.N.Nodup)(hj:X.N[j]?=some n)(hx:Loc X.env.scope n)(he:BE X e1 i a x1)(hjc:X.N[jc]?=some nc)(hxc:Loc X.env.scope nc)(hv:PE X vc (qj jc))(SS:BE X e2 i a x2)(hg:Gl X "int")(hm:X.mg "int" = none)
  (hs:swapsWith e1 (some (.Name n pos')) Q6.line X.env=pure false:=by rfl) (Ln:swapsWith (.BinOp vc .Add (.Call (.Name "int" p) [e2] [] pos) bp) (some (.Name nc OH)) NQ.line X.env=pure false:=by rfl)
  (Lp:starEach [e2] X.env=(false,eval e2 X.env)::starEach [] X.env:=by rfl) (HU:(backTo pos (starEach [] X.env)).any (·.1)=false:=by rfl)
  (hf:X.fn n=true\/X.env.scope.names.lookup n=some .local:=by first|exact .inl rfl|exact .inr rfl) (Q7:X.fn nc=true\/X.env.scope.names.lookup nc=some .local:=by first|exact .inl rfl|exact .inr rfl):
  PSs X [.Assign [.Name n pos'] e1 Q6,.Assign [.Name nc OH] (.BinOp vc .Add (.Call (.Name "int" p) [e2] [] pos) bp) NQ] (tSu2 i a j x1 jc x2):=fun pi s σ H Dd I Hg=>by
 obtain⟨b1,b2,c,hi,h1,h2,hc,Mu,hjj,k⟩:=Hg;have hl:j<σ.length:=by rw[I.len];exact(List.getElem?_eq_some_iff.mp hj).1
 refine nh (um (i:=j) hN hj hx he hs hf) (nh (um (i:=jc) hN hjc hxc (BW yk hv (oS v7 hg hm rfl (cI SS gU Lp) (by decide) (by decide) Lp HU)) Ln Q7) uk) pi s σ H Dd I ⟨[],b1,hi,(fun j b z=>by cases z),h1,fun H1 y1=>?_⟩;refine⟨.int c,by rw[List.getElem?_set_ne hjj];exact hc,[(j,b1)],b2,by rw[List.getElem?_set_ne (VB Mu)];exact hi,fun j' b' z=>?_,h2,fun H2 y2=>⟨b2,rfl,c,_,rfl,rfl,k H2 (y1.trans y2)⟩⟩;by_cases hjj':j'=j
 ·subst hjj';rw[List.lookup_cons_self]at z;cases z;exact List.getElem?_set_self hl
 ·rw[Vk,show(j'==j)=false from U7.mpr hjj']at z;cases z
end
noncomputable def sTryI(i:Nat)(x:FXE)(g:FS)(j:Nat)(b1:Bool)(jc:Nat)(b2:Bool):FS:=fun env=>match x env with
 |some e=>(match e[i]?,e[jc]? with
  |some none,some (some (.f,.int c))=>if j<e.length/\i≠j/\j≠jc then .ok (.nx ((e.set j (some (.f,.bl b1))).set jc (some (.f,.int (c+if b2=true then 1 else 0))))) else .bad
  |_,_=>.bad)
 |none=>g env
section
variable{md:Mode}{X:Cx}{x:Str}{pos:Pos}{C:Addr}{xe:FXE}
theorem AA{body K0:List Stmt}{b0:Stmt}{np MO:Pos}{g:FS}{n:Str}{i j jc:Nat}{x1 x2:BExp}{b1 b2:Bool}(O:O7 X.mg X.base x C)(hg:Gl X x)(hn:MP (md:=md) X.nox body g)(hx:Q4 X body C xe)
  (hh:∀a o vs,o.cls=.ref C->o.data=.fields vs->PSs (asX X a o) (b0::K0) (tSu2 i a j x1 jc x2)) (h1:Nq [] x1=some b1) (h2:Nq [(j,b1)] x2=some b2) (hN:X.N.Nodup) (hi:X.N[i]?=some n) (hl:X.env.kindOf n=some .local) (RG:X.env.scope.names.lookup n=some .local)
  (hs:X.stack=X.env::X.outer:=by rfl) (hf:X.env.frame=some X.env.locals:=by rfl) (HZ:(x==("__debug__" : Str))=false:=by decide):
  QS (md:=md) X (.Try body [.ExceptHandler (some (.Name x np)) (some n) (b0::K0) MO] [] [] pos) (sTryI i xe g j b1 jc b2):=fR (xC (t:=tQS (md:=md) X.K g) (th:=fun a=>tSu2 i a j x1 jc x2) (tx:=tQX X.K xe) O hg hn hx (fun a o vs h1 h2=>hh a o vs h1 h2) hN hi hl RG hs hf HZ) fun D σ H Hg=>by
 obtain⟨G,env,fp,rel,kk⟩:=Hg;unfold sTryI at kk;cases q:xe env with
 |none=>
  rw[q]at kk;exact .inl ⟨G,env,fp,rel,kk⟩
 |some e=>
  rw[q]at kk;dsimp only at kk;split at kk
  ·rename_i c c1 c2;split at kk;case isFalse=>exact kk.elim
   rename_i c3;refine .inr ⟨G,env,fp,e,rel,q,fun H' G' G9 st Ho a=>?_⟩;have hlen:=Ho.rep.length;have TJ:i<e.length:=(List.getElem?_eq_some_iff.mp c1).1;have RL:jc<e.length:=(List.getElem?_eq_some_iff.mp c2).1;have TZ:i≠jc:=fun z=>by
    rw[z,c2]at c1;cases c1
   obtain⟨v,ev,rv⟩:=Ho.view c2;cases bG rv;refine⟨b1,b2,c,List.getElem?_set_self (by lia),h1,h2,by rw[List.getElem?_set_ne TZ];exact ev,c3.2.1,c3.2.2,fun H2 x2=>?_⟩;obtain⟨G2,GS,Hd⟩:=x2.rel (Ho.any (y:=some (.ref a)) (.inl c1));obtain⟨fq,Ht,Hy⟩:=(GS.push (dq b1)).store c3.1;obtain⟨fr,Hz,Il⟩:=(Ht.push (bh (c+if b2=true then 1 else 0))).store (i:=jc) (by rw[VQ];exact RL);have h4:((e.set j (some (.f,.bl b1))).set jc (some (.f,.int (c+if b2=true then 1 else 0))))[i]?=some none:=by
    rw[List.getElem?_set_ne (VB TZ),List.getElem?_set_ne (VB c3.2.1)];exact c1
   exact kk _ H2 G2 fr (st.trans (Hd.trans (Hy.trans Il))) (Hz.any (y:=none) (.inl h4))
  ·exact kk.elim
end
end PV
namespace LW
open PySem L2 NX PV
abbrev mF(f:FX):FI:=H0 (Cw f) (H0 (gQ f) (gR f))
def pP:FS:=(eI (aV CG (ag (aj (cx (pJ (ag (aj (aN 0)) (ag (aj (aN 1)) aA))) [none,none] (fS 2 (aD (ay 0) (aD (ay 1) b7))) dD (aB gS (ao 0) (ao 1)))) aA)))
def cM:List D->Res R:=fBody 2 0 pP
def yS:FS:=(eI (aV dt (ag (aj (cx (pJ (ag (aj (aN 0)) (ag (aj (aN 1)) aA))) [none,none] (fS 2 (aD (ay 0) (aD (ay 1) b7))) dD (aB pA (ao 0) (ao 1)))) aA)))
def lJ:List D->Res R:=fBody 2 0 yS
def lK:FS:=(eI (aB cK (aj (aH (.int 1))) (aj (Ae (cx (mF (aB Hf (ao 0) (aj (aH (.int 1))))) [none,none,none] (fS 3 (aD (ay 0) (aD (ay 1) (aD (ay 2) b7)))) dD (aV maxD (ag (ao 0) (ag (ao 2) aA)))) (aH (.int 0))))))
def dS:List D->Res R:=fBody 1 0 lK
noncomputable def fG:FS:=(II (zZ (HD (bE Ir (aj (aB Hf (ao 4) (aj (aH (.int 0))))) (aj (aB Hf (ao 1) (ao 3))))) (HD (bE uc (aj (aB Hf (ao 4) (aj (aH (.int 2))))) (ao 1))))
  (sSeq (fI (nU 1 (aB Hf (ao 4) (aj (aH (.int 2))))))
  (fI (nU 2 (aN 4))))
  dh)
def lM:FS:=(mC (mF (aN 0)) (ay 4)
  fG)
def ku:FS:=(bQ 3 (aB cK (ao 3) (aj (aH (.int 1)))))
def g7:FS:=(sSeq lM
  ku)
def lN:FS:=(cZ (HD (aB Mx (ao 3) (aj (aV g5 (ag (ao 1) aA)))))
  g7 100000)
def kx:FS:=(eI (mz 2))
def pQ:FS:=(sSeq (bQ 1 (kW (aJ (aH (.int 0)) bH)))
  (sSeq (bQ 2 (kW bH))
  (sSeq (bQ 3 (aH (.int 0)))
  (sSeq lN
  kx))))
def c5:List D->Res R:=fBody 1 4 pQ
def g8:FS:=(CO 1 (aN 4) (aB cK (aj (aB K3 (ao 1) (ao 2))) (aj (jl (aJ (aN 3) bH)))))
def lO:FS:=(mC (mF (cG c5 (ag (aj (aB Hf (ao 0) (aj (aH (.int 1))))) aA))) (fS 3 (aD (ay 2) (aD (ay 3) (aD (ay 4) b7))))
  g8)
def ky:FS:=(eI (cx (bL (aj (cG dS (ag (ao 0) aA)))) [none,some 1] (ay 0) dD (aB K3 (ao 1) (ao 0))))
def pR:FS:=(sSeq (bQ 1 (rV (aH (.int 0)) (jl bH)))
  (sSeq lO
  ky))
def cN:List D->Res R:=fBody 1 4 pR
def pS:FS:=(eI (aV dt (ag (aj (cx (H0 (iN 0) (H0 (gQ (aN 0)) (gR (aN 0)))) [none,some 1] (ay 0) dD (xN Bv (ao 1) (ag (ao 0) aA)))) aA)))
def c6:List D->Res R:=fBody 2 0 pS
def lP:FS:=(eI (cx (mF (cG cN (ag (ao 0) aA))) [none,some 0] (ay 0) dD (cG c6 (ag (aj (aB Hf (ao 1) (aj (aH (.int 0))))) (ag (ao 0) aA)))))
def dj:List D->Res R:=fBody 1 0 lP
noncomputable def gv:FS:=(II (HD (bE uc (ao 4) (ao 2)))
  (fI (nU 3 (cG lJ (ag (aj (cG c6 (ag (aj (aB Hf (ao 0) (aj (aH (.int 0))))) (ag (aj (aB cK (aj (aB Hf (ao 1) (aj (aB Hf (ao 4) (aj (aH (.int 0))))))) (aj (jl (aJ (aB Hf (ao 4) (aj (aH (.int 1)))) bH))))) aA)))) (ag (aj (cG c6 (ag (aj (aB Hf (ao 0) (aj (aH (.int 0))))) (ag (aj (aB Hf (ao 1) (aj (aB Hf (ao 4) (aj (aH (.int 2))))))) aA)))) aA)))))
  dh)
def kz:FS:=(mC (mF (aB Hf (ao 0) (aj (aH (.int 1))))) (ay 4)
  gv)
def jH:FS:=(eI (mz 3))
def mX:FS:=(sSeq (bQ 1 (cG cN (ag (ao 0) aA)))
  (sSeq (bQ 2 (cG c5 (ag (aj (aB Hf (ao 0) (aj (aH (.int 1))))) aA)))
  (sSeq (bQ 3 (kW bH))
  (sSeq kz
  jH))))
def dU:List D->Res R:=fBody 1 4 mX
def mY:FS:=(eI (aV Bt (ag (aj (cx (mF (aB Hf (ao 0) (aj (aH (.int 1))))) [none,none,none,some 1] (fS 3 (aD (ay 0) (aD (ay 1) (aD (ay 2) b7)))) dD (bE Ir (ao 1) (ao 3)))) aA)))
def dw:List D->Res R:=fBody 2 0 mY
noncomputable def kA:FS:=(sSeq (II (HD (aV Bt (ag (aj (cx (mF (cG dU (ag (ao 0) aA))) [none,some 1] (ay 0) dD (bE Mn (aj (cG cM (ag (ao 1) (ag (ao 0) aA)))) (aj (aH (.int 0)))))) aA)))
  (eI (aH (.bl false)))
  dh)
  (eI (aV CD (ag (aj (cx (pJ (ag (aj (aB Hf (ao 0) (aj (aH (.int 0))))) (ag (aj (aN 1)) aA))) [none,none,some 0] (fS 2 (aD (ay 0) (aD (ay 1) b7))) dD (QC (bE Ir (ao 1) (aj (aH (.int 0)))) (cG dw (ag (ao 2) (ag (ao 0) aA)))))) aA))))
def aX:List D->Res R:=fBody 2 0 kA
noncomputable def tI:FS:=(sSeq (II (yC (HD (cG aX (ag (ao 0) (ag (ao 1) aA)))))
  yD
  dh)
  (sSeq (bQ 2 (cx (mF (cG dj (ag (ao 0) aA))) [none,some 1] (ay 0) dD (cG cM (ag (ao 1) (ag (ao 0) aA)))))
  (eI (cx (H0 (iN 2) (H0 (gQ (aN 2)) (gR (aN 2)))) [none,some 2] (ay 0) dD (aB pA (ao 0) (aj (aV CZ (ag (ao 1) aA))))))))
def eY:List D->Res R:=fBody 2 1 tI
def cP:List D->Bool:=qD 2 1 (Q3 (yC (HD (cG aX (ag (ao 0) (ag (ao 1) aA))))) (vW (ag (aj (aH (.str [116,104,101,32,114,111,119,32,105,115,32,110,111,32,115,116,114,101,116,99,104,32,111,102,32,116,104,101,32,99,104,97,114,116]))) aA)))
noncomputable def AB:FS:=(sSeq (bQ 3 (cx (mF (aB Hf (ao 0) (aj (aH (.int 1))))) [none,none,none,some 1,some 2] (fS 3 (aD (ay 0) (aD (ay 1) (aD (ay 2) b7)))) (HD (bE Ir (ao 1) (ao 4))) (aB Hf (ao 3) (ao 0))))
  (eI (C2 (aN 3) (aB cK (aj (aV maxD (ag (ao 1) aA))) (aj (aH (.int 1)))))))
def oj:List D->Res R:=fBody 3 1 AB
noncomputable def tJ:FS:=(sSeq (bQ 2 (cG eY (ag (ao 0) (ag (ao 1) aA))))
  (sSeq (bQ 3 (aV dt (ag (aj (cx (mF (aB Hf (ao 0) (aj (aH (.int 0))))) [none,some 0,some 2] (ay 0) dD (cG oj (ag (ao 1) (ag (ao 2) (ag (ao 0) aA)))))) aA)))
  (eI (jl (aJ (aB Hf (ao 2) (aj (aH (.int 0)))) (aJ (aN 3) (aJ (aV dt (ag (aj (cx (pJ (ag (aj (aN 3)) (ag (aj (aN 1)) aA))) [none,none] (fS 2 (aD (ay 0) (aD (ay 1) b7))) dD (aB cK (ao 0) (ao 1)))) aA)) bH)))))))
def iJ:List D->Res R:=fBody 2 2 tJ
def dW:List D->Bool:=qD 2 2 (v5 cP (ag (ao 0) (ag (ao 1) aA)))
def iR:FS:=(sSeq (II (HD (aB Mx (ao 1) (aj (aV g5 (ag (ao 0) aA)))))
  (eI (aB Hf (ao 0) (ao 1)))
  dh)
  (eI (aH (.int 0))))
def ax:List D->Res R:=fBody 2 0 iR
noncomputable def kB:FS:=(sSeq (bQ 2 (aB cK (aj (aB eW (ao 0) (aj (aH (.int 2147483647))))) (aj (aB gS (aj (aH (.int 48271))) (aj (aB cK (ao 1) (aj (aH (.int 1)))))))))
  (sSeq (bQ 2 (aB eW (aj (aB cK (aj (aB gS (ao 2) (ao 2))) (aj (aB gS (aj (aH (.int 69621))) (ao 1))))) (aj (aH (.int 2147483647)))))
  (eI (aB eW (aj (aB cK (aj (aB cK (aj (aB gS (ao 2) (ao 2))) (aj (aB gS (aj (aH (.int 16807))) (ao 1))))) (aj (aH (.int 1))))) (aj (aH (.int 2147483647)))))))
def aU:List D->Res R:=fBody 2 1 kB
noncomputable def dH:FS:=(sSeq (bQ 7 (An (ao 2) tw (lx (aN 3))))
  (sSeq (vQ 7 (aN 4) (aB eW (aj (aB cK (aj (aB Hf (ao 7) (ao 4))) (ao 6))) (aj (aH (.int 26)))))
  (sSeq (II (HD (bE Ir (aj (aB eW (aj (aB dO (ao 0) (aj (aH (.int 64))))) (aj (aH (.int 4))))) (aj (aH (.int 1)))))
  (bQ 7 (An (ao 2) tw (lx (aB cK (ao 6) (aj (aH (.int 1)))))))
  dh)
  (fI (nU 5 (E2 vS (aj (aH (.str []))) (ag (aj (cx (H0 (iN 7) (H0 (gQ (aN 7)) (gR (aN 7)))) [none,some 1] (ay 0) dD (aB Hf (ao 1) (ao 0)))) aA)))))))
def iS:FS:=(mC (bL (aj (aH (.int 5)))) (ay 6)
  dH)
def g9:FS:=(sSeq (II (HD (bE MW (aj (aH (.str [109,111,118,101,115]))) (ao 5)))
  (bQ 5 (cx (H0 (iN 5) (H0 (gQ (aN 5)) (gR (aN 5)))) [none] (ay 0) dD (aB cK (aj (aH (.str [115]))) (ao 0))))
  dh)
  (eI (aV fJ (ag (ao 5) aA))))
noncomputable def kC:FS:=(sSeq (bQ 1 (aH (.str [97,98,99,100,101,102,103,104,105,106,107,108,109,110,111,112,113,114,115,116,117,118,119,120,121,122])))
  (sSeq (bQ 2 (cx (bL (aj (aH (.int 8)))) [none,some 0] (ay 0) dD (aB eW (aj (cG aU (ag (ao 1) (ag (ao 0) aA)))) (aj (aH (.int 26))))))
  (sSeq (bQ 3 (aB cK (aj (aH (.int 1))) (aj (aB eW (ao 0) (aj (aH (.int 8)))))))
  (sSeq (bQ 4 (aB eW (aj (aB dO (ao 0) (aj (aH (.int 8))))) (ao 3)))
  (sSeq (bQ 5 (kW bH))
  (sSeq iS
  g9))))))
def dy:List D->Res R:=fBody 1 7 kC
noncomputable def c7:FS:=(sSeq (II (HD (aB Mx (ao 5) (aj (aB Hf (aj (aB Hf (ao 6) (aj (aH (.int 1))))) (ao 3)))))
  (eI (aH .non))
  dh)
  (fI (nU 4 (aB cK (aj (aB pA (ao 5) (aj (aB Hf (aj (aB Hf (ao 6) (aj (aH (.int 1))))) (ao 3))))) (aj (aB Hf (aj (aB Hf (ao 6) (aj (aH (.int 2))))) (ao 3)))))))
def gw:FS:=(mC (pJ (ag (aj (aN 1)) (ag (aj (aB Hf (ao 0) (aj (aH (.int 1))))) aA))) (fS 2 (aD (ay 5) (aD (ay 6) b7)))
  c7)
def iT:FS:=(eI (aV dt (ag (ao 4) aA)))
def lQ:FS:=(sSeq (bQ 3 (xN mE (aj (aB Hf (ao 0) (aj (aH (.int 0))))) (ag (ao 2) aA)))
  (sSeq (bQ 4 (kW bH))
  (sSeq gw
  iT)))
def dk:List D->Res R:=fBody 3 4 lQ
noncomputable def dI:FS:=(sSeq (bQ 6 (cG dk (ag (ao 0) (ag (aj (aB Hf (ao 2) (ao 4))) (ag (ao 5) aA)))))
  (II (HD (bE isnO (ao 6) (aj (aH .non))))
  (sSeq (II (HD (bE uc (ao 6) (ao 2)))
  (sSeq (II (HD (bE Ir (aj (aV g5 (ag (ao 2) aA))) (ao 1)))
  (eI (aH .non))
  dh)
  (fI (nU 2 (aN 6))))
  dh)
  (fI (nU 3 (jl (aJ (aN 4) (aJ (aN 5) (aJ (C3 oh (ao 2) (ag (ao 6) aA)) bH)))))))
  dh))
def hJ:FS:=(mC (mF (aB Hf (ao 0) (aj (aH (.int 0))))) (ay 5)
  dI)
def jI:FS:=(bQ 4 (aB cK (ao 4) (aj (aH (.int 1)))))
def dJ:FS:=(sSeq hJ
  jI)
def hU:FS:=(cZ (HD (aB Mx (ao 4) (aj (aV g5 (ag (ao 2) aA)))))
  dJ 100000)
def jJ:FS:=(eI (jl (aJ (aV fJ (ag (ao 3) aA)) (aJ (aN 2) bH))))
noncomputable def mZ:FS:=(sSeq (bQ 2 (kW (aJ (aV dt (ag (aj (cx (mF (aB Hf (ao 0) (aj (aH (.int 1))))) [none,none,none] (fS 3 (aD (ay 0) (aD (ay 1) (aD (ay 2) b7)))) dD (aN 0))) aA)) bH)))
  (sSeq (bQ 3 (kW bH))
  (sSeq (bQ 4 (aH (.int 0)))
  (sSeq hU
  jJ))))
def bK:List D->Res R:=fBody 2 5 mZ
def fL:FS:=(bQ 3 (cG aU (ag (aj (aB cK (ao 4) (ao 3))) (ag (ao 2) aA))))
def jK:FS:=(mC (mF (E8 (ao 0) (lx (aB cK (ao 1) (ao 2))) (lx (aB cK (ao 1) (aj (aH (.int 84))))) (lx (aH (.int 6))))) (ay 4)
  fL)
def iU:FS:=(eI (mz 3))
def lR:FS:=(sSeq (bQ 3 (aB cK (aj (aH (.int 7))) (ao 2)))
  (sSeq jK
  iU))
def dX:List D->Res R:=fBody 3 2 lR
noncomputable def fu:FS:=(sSeq (bQ 5 (cG aU (ag (ao 0) (ag (ao 4) aA))))
  (sSeq (bQ 6 (aB pA (aj (aB eW (ao 5) (aj (aH (.int 5))))) (aj (aH (.int 2)))))
  (sSeq (bQ 7 (aB dO (aj (aB eW (aj (aB dO (ao 5) (aj (aH (.int 8))))) (aj (aH (.int 4))))) (aj (aH (.int 3)))))
  (sSeq (fI (nU 2 (aB cK (aj (aV maxD (ag (aj (aH (.int 0))) (ag (aj (aB pA (aj (aH (.int 0))) (ao 6))) aA)))) (ao 7))))
  (fI (nU 3 (aB cK (aj (aV maxD (ag (aj (aH (.int 0))) (ag (ao 6) aA)))) (ao 7))))))))
def iV:FS:=(mC (bL (ao 1)) (ay 4)
  fu)
def hV:FS:=(eI (Aw (aB eW (aj (aB dO (ao 0) (aj (aH (.int 16))))) (aj (aH (.int 4)))) (mz 2) (mz 3)))
def kF:FS:=(sSeq (bQ 2 (kW bH))
  (sSeq (bQ 3 (kW bH))
  (sSeq iV
  hV)))
def dA:List D->Res R:=fBody 2 6 kF
noncomputable def jL:FS:=(sSeq (bQ 2 (aB cK (aj (aH (.int 1))) (aj (aB eW (ao 1) (aj (aB qw (aj (aH (.int 10))) (aj (aH (.int 50)))))))))
  (sSeq (Eb (aN 0) (fS 3 (aD (ay 3) (aD (ay 4) (aD (ay 5) b7)))))
  (sSeq (bQ 4 (aV dt (ag (aj (cx (H0 (iN 4) (H0 (gQ (aN 4)) (gR (aN 4)))) [none,some 2] (ay 0) dD (aB gS (ao 1) (ao 0)))) aA)))
  (eI (jl (aJ (aB cK (aj (aB gS (ao 2) (ao 3))) (aj (aB eW (aj (aB dO (ao 1) (aj (aH (.int 7))))) (ao 2)))) (aJ (aN 4) (aJ (aV dt (ag (aj (cx (H0 (iN 5) (H0 (gQ (aN 5)) (gR (aN 5)))) [none,some 2] (ay 0) dD (aB gS (ao 1) (ao 0)))) aA)) bH))))))))
def cq:List D->Res R:=fBody 2 4 jL
noncomputable def c9:FS:=(sSeq (bQ 5 (cG dX (ag (ao 0) (ag (ao 1) (ag (ao 4) aA)))))
  (sSeq (bQ 6 (cG dA (ag (ao 5) (ag (ao 2) aA))))
  (sSeq (fI (nU 3 (cG cq (ag (ao 6) (ag (aj (cG ax (ag (ao 0) (ag (aj (aB cK (ao 1) (ao 4))) aA)))) aA)))))
  (II (HD (aB RK (aj (aB eW (aj (aB dO (ao 5) (aj (aH (.int 64))))) (aj (aH (.int 3))))) (aj (aH (.int 0)))))
  (sSeq (bQ 7 (jl (aJ (aB eW (aj (aB dO (ao 5) (aj (aH (.int 256))))) (aj (aH (.int 4)))) (aJ (aB Hf (aj (aN 6)) (aj (aH (.int 2)))) (aJ (aB Hf (aj (aN 6)) (aj (aH (.int 1)))) bH)))))
  (fI (nU 3 (cG cq (ag (ao 7) (ag (aj (cG ax (ag (ao 0) (ag (aj (aB cK (aj (aB cK (ao 1) (aj (aH (.int 6))))) (ao 4))) aA)))) aA))))))
  dh))))
def hX:FS:=(mC (bL (aj (aB cK (aj (aH (.int 1))) (aj (aB eW (aj (aB dO (aj (cG ax (ag (ao 0) (ag (aj (aH (.int 1))) aA)))) (aj (aH (.int 4))))) (aj (aH (.int 4)))))))) (ay 4)
  c9)
def gJ:FS:=(eI (mz 3))
def jM:FS:=(sSeq (bQ 3 (kW bH))
  (sSeq hX
  gJ))
def cQ:List D->Res R:=fBody 3 5 jM
noncomputable def kG:FS:=(sSeq (bQ 1 (cG dy (ag (aj (cG ax (ag (ao 0) (ag (aj (aH (.int 0))) aA)))) aA)))
  (sSeq (bQ 2 (cG ax (ag (ao 0) (ag (aj (aH (.int 1))) aA))))
  (sSeq (bQ 3 (aB cK (aj (aH (.int 1))) (aj (aB eW (ao 2) (aj (aH (.int 3)))))))
  (sSeq (bQ 4 (aB eW (aj (aB dO (ao 2) (aj (aH (.int 32))))) (aj (aB pA (aj (aH (.int 6))) (ao 3)))))
  (eI (aV dt (ag (aj (An (ao 1) (lx (aN 4)) (lx (aB cK (ao 4) (ao 3))))) aA)))))))
def dB:List D->Res R:=fBody 1 4 kG
noncomputable def m6:FS:=(sSeq (bQ 2 (cG dB (ag (ao 0) aA)))
  (sSeq (bQ 3 (aV g5 (ag (ao 2) aA)))
  (sSeq (bQ 4 (cG cQ (ag (ao 0) (ag (ao 1) (ag (ao 3) aA)))))
  (sSeq (II (HD (bE isnO (aj (cG bK (ag (aj (jl (aJ (aN 2) (aJ (aN 4) bH)))) (ag (aj (aH (.int 8))) aA)))) (aj (aH .non))))
  (eI (jl (aJ (aN 2) (aJ (aN 4) bH))))
  dh)
  (sSeq (bQ 5 (aV dt (ag (aj (cx (H0 (iN 2) (H0 (gQ (aN 2)) (gR (aN 2)))) [none] (ay 0) dD (aH (.int 1)))) aA)))
  (sSeq (bQ 6 (aV dt (ag (aj (cx (H0 (iN 2) (H0 (gQ (aN 2)) (gR (aN 2)))) [none] (ay 0) dD (aH (.int 0)))) aA)))
  (sSeq (II (HD (bE isnO (aj (cG bK (ag (aj (jl (aJ (aN 2) (aJ (aB cK (ao 4) (aj (kW (aJ (jl (aJ (aH (.int 2)) (aJ (aN 5) (aJ (aN 6) bH)))) bH)))) bH)))) (ag (aj (aH (.int 8))) aA)))) (aj (aH .non))))
  (eI (jl (aJ (aN 2) (aJ (aB cK (ao 4) (aj (kW (aJ (jl (aJ (aH (.int 2)) (aJ (aN 5) (aJ (aN 6) bH)))) bH)))) bH))))
  dh)
  (eI (jl (aJ (aN 2) (aJ (aB cK (ao 4) (aj (kW (aJ (jl (aJ (aH (.int 1)) (aJ (aN 5) (aJ (aN 6) bH)))) bH)))) bH)))))))))))
def dY:List D->Res R:=fBody 2 5 m6
def de:FS:=(II (HD (bE MW (ao 3) (ao 1)))
  (sSeq (bQ 7 (jl (aJ (C3 oh (ao 1) (ag (ao 3) aA)) (aJ (aN 4) (aJ (C3 oh (ao 1) (ag (ao 5) aA)) bH)))))
  (II (HD (bE uc (ao 7) (ao 6)))
  (fI (nU 6 (aN 7)))
  dh))
  dh)
def hZ:FS:=(mC (mF (aN 0)) (fS 3 (aD (ay 3) (aD (ay 4) (aD (ay 5) b7))))
  de)
def gK:FS:=(eI (aV fJ (ag (ao 6) aA)))
def df:FS:=(II (zZ (HD (bE Ir (ao 3) (aj (aB Hf (ao 1) (ao 2))))) (HD (bE uc (ao 5) (ao 1))))
  (fI (nU 1 (aN 5)))
  dh)
def ia:FS:=(mC (mF (aV fJ (ag (ao 0) aA))) (fS 3 (aD (ay 3) (aD (ay 4) (aD (ay 5) b7))))
  df)
def gL:FS:=(bQ 2 (aB cK (ao 2) (aj (aH (.int 1)))))
def eJ:FS:=(sSeq ia
  gL)
def fw:FS:=(cZ (HD (aB Mx (ao 2) (aj (aV g5 (ag (ao 1) aA)))))
  eJ 100000)
def gM:FS:=(sSeq (bQ 6 (kW bH))
  (sSeq hZ
  gK))
def jN:FS:=(sSeq (bQ 1 (kW (aJ (aH (.int 0)) bH)))
  (sSeq (bQ 2 (aH (.int 0)))
  (sSeq fw
  gM)))
def cu:List D->Res R:=fBody 1 7 jN
noncomputable def lS:FS:=(sSeq (bQ 3 (aB cK (aj (aH (.int 1))) (aj (aV maxD (ag (aj (aB cK (aj (kW (aJ (aH (.int 0)) bH))) (aj (cx (H0 (iN 1) (H0 (gQ (aN 1)) (gR (aN 1)))) [none] (ay 0) dD (aV maxD (ag (aj (aB Hf (ao 0) (aj (aH (.int 0))))) (ag (aj (aB Hf (ao 0) (aj (aH (.int 2))))) aA))))))) aA)))))
  (sSeq (bQ 4 (aB eW (aj (aB dO (ao 2) (aj (aH (.int 128))))) (aj (aV CZ (ag (aj (aB cK (ao 3) (aj (aH (.int 1))))) (ag (aj (aH (.int 12))) aA))))))
  (sSeq (bQ 5 (aB Hf (ao 0) (aj (aB eW (aj (aB dO (ao 2) (aj (aH (.int 2048))))) (aj (aV g5 (ag (ao 0) aA)))))))
  (sSeq (II (QB (HD (bE Ir (ao 1) (aj (kW bH)))) (HD (bE Ir (aj (aB eW (ao 2) (aj (aH (.int 5))))) (aj (aH (.int 3))))))
  (eI (aB cK (ao 1) (aj (kW (aJ (jl (aJ (aB eW (aj (aB dO (ao 2) (aj (aH (.int 8))))) (ao 3)) (aJ (aN 5) (aJ (aN 4) bH)))) bH)))))
  dh)
  (sSeq (bQ 6 (aB eW (aj (aB dO (ao 2) (aj (aH (.int 16384))))) (aj (aV g5 (ag (ao 1) aA)))))
  (sSeq (bQ 7 (aB Hf (ao 1) (ao 6)))
  (sSeq (bQ 8 (aB cK (aj (An (ao 1) tw (lx (aN 6)))) (aj (An (ao 1) (lx (aB cK (ao 6) (aj (aH (.int 1))))) tw))))
  (sSeq (II (HD (bE Ir (aj (aB eW (ao 2) (aj (aH (.int 5))))) (aj (aH (.int 0)))))
  (eI (mz 8))
  dh)
  (sSeq (II (HD (bE Ir (aj (aB eW (ao 2) (aj (aH (.int 5))))) (aj (aH (.int 1)))))
  (eI (aB cK (ao 8) (aj (kW (aJ (jl (aJ (aB Hf (ao 7) (aj (aH (.int 0)))) (aJ (aB Hf (ao 7) (aj (aH (.int 1)))) (aJ (aN 4) bH)))) bH)))))
  dh)
  (sSeq (II (QB (HD (bE Ir (aj (aB eW (ao 2) (aj (aH (.int 5))))) (aj (aH (.int 2))))) (HD (bE Ir (ao 3) (aj (aH (.int 1))))))
  (eI (aB cK (ao 8) (aj (kW (aJ (jl (aJ (aB Hf (ao 7) (aj (aH (.int 0)))) (aJ (aN 5) (aJ (aB Hf (ao 7) (aj (aH (.int 2)))) bH)))) bH)))))
  dh)
  (sSeq (bQ 9 (aB cK (aj (aH (.int 1))) (aj (aB eW (aj (aB dO (ao 2) (aj (aH (.int 8))))) (aj (aB pA (ao 3) (aj (aH (.int 1)))))))))
  (sSeq (bQ 10 (cx (bL (ao 3)) [none] (ay 0) dD (aN 0)))
  (sSeq (vQ 10 (aN 9) (aB eW (ao 4) (ao 3)))
  (eI (cx (H0 (iN 1) (H0 (gQ (aN 1)) (gR (aN 1)))) [none,none,none,some 10] (fS 3 (aD (ay 0) (aD (ay 1) (aD (ay 2) b7)))) dD (jl (aJ (aB Hf (ao 3) (ao 0)) (aJ (aN 1) (aJ (aB Hf (ao 3) (ao 2)) bH)))))))))))))))))))
def dZ:List D->Res R:=fBody 3 8 lS
noncomputable def cV:FS:=(sSeq (bQ 5 (cG aU (ag (aj (cG ax (ag (ao 0) (ag (ao 4) aA)))) (ag (ao 4) aA))))
  (II (HD (bE Ir (aj (aB eW (aj (aB dO (ao 5) (aj (aH (.int 64))))) (aj (aH (.int 3))))) (aj (aH (.int 0)))))
  (bQ 3 (cG cu (ag (aj (cG dZ (ag (aj (aB Hf (ao 1) (aj (aH (.int 0))))) (ag (ao 3) (ag (aj (aB dO (ao 5) (aj (aH (.int 192))))) aA))))) aA)))
  dh))
def fA:FS:=(mC (qv (ag (ao 2) (ag (aj (aB cK (ao 2) (aj (aH (.int 3))))) aA))) (ay 4)
  cV)
def eO:FS:=(eI (jl (aJ (aB Hf (ao 1) (aj (aH (.int 0)))) (aJ (cG cu (ag (ao 3) aA)) bH))))
def fV:FS:=(sSeq (bQ 3 (aB Hf (aj (cG bK (ag (ao 1) (ag (aj (aH (.int 8))) aA)))) (aj (aH (.int 0)))))
  (sSeq fA
  eO))
def bg:List D->Res R:=fBody 3 3 fV
def eK:FS:=(sSeq (bQ 7 (aB Hf (ao 1) (aj (xN mE (aj (aB Hf (ao 0) (aj (aH (.int 0))))) (ag (ao 5) aA)))))
  (II (HD (bE Mn (aj (aB K3 (ao 2) (ao 6))) (aj (aB cK (aj (aB K3 (ao 2) (ao 4))) (ao 7)))))
  (eI (aH .non))
  dh))
def fB:FS:=(mC (mF (aB Hf (ao 0) (aj (aH (.int 1))))) (fS 3 (aD (ay 4) (aD (ay 5) (aD (ay 6) b7))))
  eK)
def gN:FS:=(eI (cx (bL (aj (aV g5 (ag (ao 2) aA)))) [none,some 2] (ay 0) dD (aB K3 (ao 1) (ao 0))))
noncomputable def dg:FS:=(sSeq (bQ 7 (aB Hf (ao 1) (aj (xN mE (aj (aB Hf (ao 0) (aj (aH (.int 0))))) (ag (ao 5) aA)))))
  (II (zZ (HD (bE MW (ao 4) (ao 2))) (HD (bE uc (ao 6) (ao 2))))
  (sSeq (CO 2 (aN 6) (aB cK (aj (aB K3 (ao 2) (ao 4))) (ao 7)))
  (bQ 3 (aH (.bl true))))
  dh))
def ib:FS:=(mC (mF (aB Hf (ao 0) (aj (aH (.int 1))))) (fS 3 (aD (ay 4) (aD (ay 5) (aD (ay 6) b7))))
  dg)
def eL:FS:=(sSeq (bQ 3 (aH (.bl false)))
  ib)
def ic:FS:=(cZ (HD (aN 3))
  eL 100000)
def gO:FS:=(sSeq fB
  gN)
def jO:FS:=(sSeq (bQ 2 (rV (aH (.int 0)) (aH (.int 0))))
  (sSeq (bQ 3 (aH (.bl true)))
  (sSeq ic
  gO)))
def cR:List D->Res R:=fBody 2 6 jO
def cW:FS:=(II (zZ (HD (bE Mn (aj (aB Hf (ao 1) (ao 3))) (aj (aH (.int 0))))) (HD (bE uc (aj (aB Hf (aj (aB Hf (ao 0) (aj (aH (.int 0))))) (ao 3))) (ao 2))))
  (eI (aH (.bl false)))
  dh)
def dm:FS:=(mC (bL (aj (aV g5 (ag (ao 1) aA)))) (ay 3)
  cW)
def eQ:FS:=(eI (bE isnO (aj (cG cR (ag (ao 0) (ag (ao 1) aA)))) (aj (aH .non))))
def fW:FS:=(sSeq (bQ 2 (cx (mF (aB Hf (ao 0) (aj (aH (.int 1))))) [none,none,none] (fS 3 (aD (ay 0) (aD (ay 1) (aD (ay 2) b7)))) dD (aN 1)))
  (sSeq dm
  eQ))
def bC:List D->Res R:=fBody 2 2 fW
noncomputable def eC:FS:=(sSeq (bQ 8 (cx (bL (aj (aV g5 (ag (ao 6) aA)))) [none,some 7,some 6] (ay 0) dD (aB pA (aj (aB Hf (ao 1) (ao 0))) (aj (aB Hf (ao 2) (ao 0))))))
  (sSeq (fI (nU 4 (aV dt (ag (ao 8) aA))))
  (fI (nU 4 (aV dt (ag (aj (cx (bL (aj (aV g5 (ag (ao 8) aA)))) [none,some 8,some 1,some 3] (ay 0) dD (aB gS (aj (aB Hf (ao 1) (ao 0))) (aj (aV Bu (ag (aj (bE MW (aj (aB Hf (aj (aB Hf (ao 2) (aj (aH (.int 0))))) (ao 0))) (ao 3))) aA)))))) aA))))))
def jP:FS:=(mC (mF (aB Hf (ao 2) (aj (aH (.int 1))))) (fS 3 (aD (ay 5) (aD (ay 6) (aD (ay 7) b7))))
  eC)
noncomputable def iW:FS:=(sSeq (bQ 9 (cx (bL (aj (aH (.int 2)))) [none,some 0] (ay 0) dD (aB pA (aj (aB eW (aj (cG ax (ag (ao 1) (ag (aj (aB cK (aj (aH (.int 11))) (ao 0))) aA)))) (aj (aB gS (aj (aH (.int 2))) (aj (aB qw (aj (aH (.int 10))) (aj (aH (.int 8))))))))) (aj (aB qw (aj (aH (.int 10))) (aj (aH (.int 8))))))))
  (sSeq (bQ 10 (cG aU (ag (aj (cG ax (ag (ao 0) (ag (aj (aH (.int 13))) aA)))) (ag (aj (aH (.int 2))) aA))))
  (sSeq (bQ 11 (aB Hf (ao 4) (aj (aB eW (ao 10) (aj (aV g5 (ag (ao 4) aA)))))))
  (sSeq (bQ 12 (aB Hf (ao 4) (aj (aB eW (aj (aB dO (ao 10) (aj (aH (.int 64))))) (aj (aV g5 (ag (ao 4) aA)))))))
  (sSeq (fI (nU 4 (aV dt (ag (aj (cx (bL (aj (aV g5 (ag (ao 11) aA)))) [none,some 9,some 11,some 12] (ay 0) dD (aB cK (aj (aB gS (aj (aB Hf (ao 1) (aj (aH (.int 0))))) (aj (aB Hf (ao 2) (ao 0))))) (aj (aB gS (aj (aB Hf (ao 1) (aj (aH (.int 1))))) (aj (aB Hf (ao 3) (ao 0)))))))) aA))))
  (sSeq (bQ 13 (aV tF (ag (aj (aB Hf (ao 4) (aj (aB eW (aj (aB dO (ao 10) (aj (aH (.int 4096))))) (aj (aV g5 (ag (ao 4) aA))))))) aA)))
  (sSeq (xS 13 (aB eW (aj (aB dO (ao 10) (aj (aH (.int 8))))) (aj (aV g5 (ag (ao 13) aA)))) (aB cK (aj (aH (.int 1))) (aj (aB eW (aj (cG ax (ag (ao 0) (ag (aj (aH (.int 14))) aA)))) (aj (aB qw (aj (aH (.int 10))) (aj (aH (.int 40)))))))))
  (eI (aB cK (ao 4) (aj (kW (aJ (aV dt (ag (ao 13) aA)) bH))))))))))))
def lT:FS:=(sSeq (bQ 3 (cx (mF (aB Hf (ao 1) (aj (aH (.int 1))))) [none,none,none] (fS 3 (aD (ay 0) (aD (ay 1) (aD (ay 2) b7)))) dD (aN 1)))
  (sSeq (bQ 4 (kW bH))
  (sSeq jP
  iW)))
def d5:List D->Res R:=fBody 3 11 lT
noncomputable def d7:FS:=(sTryI 4 (Dh (HD (bE Ir (ao 3) (aj (aH (.int 0))))) (vX cP (ag (ao 0) (ag (ao 1) aA))) (vX dW (ag (ao 0) (ag (ao 1) aA))))
  (II (HD (bE Ir (ao 3) (aj (aH (.int 0)))))
  (fI (cG eY (ag (ao 0) (ag (ao 1) aA))))
  (fI (cG iJ (ag (ao 0) (ag (ao 1) aA))))) 5 false 2 true)
def gP:FS:=(mC (bL (aj (aH (.int 2)))) (ay 3)
  d7)
def fX:FS:=(eI (bE Ir (ao 2) (aj (aH (.int 2)))))
def iX:FS:=(sSeq (bQ 2 (aH (.int 0)))
  (sSeq gP
  fX))
def cy:List D->Res R:=fBody 2 4 iX
noncomputable def kY:FS:=(sSeq (bQ 5 (cG aX (ag (ao 3) (ag (ao 4) aA))))
  (sSeq (II (QB (yC (HD (SQ "bool" (ao 5)))) (HD (bE Mn (ao 5) (aj (cG bC (ag (ao 2) (ag (ao 4) aA)))))))
  (eI (aH (.bl false)))
  dh)
  (II (zZ (yC (HD (aN 5))) (yC (HD (cG cy (ag (ao 3) (ag (ao 4) aA))))))
  (eI (aH (.bl false)))
  dh)))
def v9:FS:=(mC (mF (cG d5 (ag (ao 0) (ag (ao 2) (ag (ao 1) aA))))) (ay 4)
  kY)
def r9:FS:=(eI (bE Ir (ao 3) (ao 2)))
noncomputable def Dk:FS:=(sSeq (bQ 1 (cG dY (ag (ao 0) (ag (aj (aH (.int 5))) aA))))
  (sSeq (bQ 2 (jl (aJ (aB Hf (ao 1) (aj (aH (.int 0)))) (aJ (aB Hf (aj (cG bK (ag (ao 1) (ag (aj (aH (.int 8))) aA)))) (aj (aH (.int 0)))) bH))))
  (sSeq (II (HD (bE Ir (aj (aB eW (aj (aB dO (aj (cG ax (ag (ao 0) (ag (aj (aH (.int 1))) aA)))) (aj (aH (.int 256))))) (aj (aH (.int 2))))) (aj (aH (.int 1)))))
  (bQ 2 (cG bg (ag (ao 0) (ag (ao 1) (ag (aj (aH (.int 2))) aA)))))
  dh)
  (sSeq (bQ 3 (jl (aJ (aB Hf (ao 2) (aj (aH (.int 0)))) (aJ (aV tF (ag (aj (aB Hf (ao 2) (aj (aH (.int 1))))) aA)) bH))))
  (sSeq v9
  r9)))))
def AD:List D->Res R:=fBody 1 5 Dk
end LW
namespace LW
open PySem PySem.Spec PyProof.Rows L2 NX PV
theorem yT{α:Type}{Q:List α->Prop}(h:∀a,Q [a]):∀us,us.length=1->Q us
 |[a],_=>h a
theorem oI{α:Type}{Q:List α->Prop}(h:∀a b,Q [a,b]):∀us,us.length=2->Q us
 |[a,b],_=>h a b
theorem AE{α:Type}{Q:List α->Prop}(h:∀a b c,Q [a,b,c]):∀us,us.length=3->Q us
 |[a,b,c],_=>h a b c
theorem c8{X:Cx}{tg e:Expr}{f:FX}(h:QE X e f):QI X tg e (H0 (Cw f) (H0 (gQ f) (gR f))):=vH (z7 h) (vH (gX h) (gY h))
def top(i:Nat):Stmt:=PySem.Challenge.pw_netfinder_k51_rows_that_are_stretches.main.body.getD i (.Pass ⟨0,0,0,0⟩)
theorem Gv:Str.ofString "the row is no stretch of the chart" = S [116,104,101,32,114,111,119,32,105,115,32,110,111,32,115,116,114,101,116,99,104,32,111,102,32,116,104,101,32,99,104,97,114,116]:=by decide +kernel
theorem Gw:Str.ofString "moves" = S [109,111,118,101,115]:=by decide +kernel
theorem Gx:Str.ofString "s" = S [115]:=by decide +kernel
theorem Gy:Str.ofString "" = S []:=by decide +kernel
theorem Gz:Str.ofString "abcdefghijklmnopqrstuvwxyz" = S [97,98,99,100,101,102,103,104,105,106,107,108,109,110,111,112,113,114,115,116,117,118,119,120,121,122]:=by decide +kernel
section
variable{P:Program}{w:World}{K:W.Frag}{mg:Str->Option Value}{base:Heap}
abbrev lU:Stmt:=top 11
theorem tL:FnScope ["one","other"] ["one","other"] (defScope lU):=fs
theorem tM(Df:Def K mg "product" lU)(L5:mg "sum" = none)(Im:mg "zip" = none):Ct P w K mg base "product" 1 (spF K cM):=
 di Df tL (fun _ _ _ _ _ _=>oI fun _ _=>rfl) fun f Hs A outer s H E hr=>
  (aw (aZ (aP (CH rfl) (by rfl) L5 CU (af (aa (aW [none,none] ["number","factor"] rfl (a7 (lH (by rfl) Im (af (aa (aE (pv 0))) (af (aa (aE (pv 1))) aq)))) (fun _ _ _ _ _=>(have h:=(show List.Nodup (["number","factor"]:List Str) from by decide +kernel);(dG rfl (aG (az (i:=0) h rfl (lo rfl)) (aG (az (i:=1) h rfl (lo rfl)) cj))))) (fun _ _ _ _ _=>ba) (fun _ _ _ _ _=>(aF dR (ae (pv 0)) (ae (pv 1)))))) aq))))
abbrev wa:Stmt:=top 12
theorem AF:FnScope ["row","other"] ["row","other"] (defScope wa):=fs
theorem AG(Df:Def K mg "less" wa)(Hb:mg "tuple" = none)(Im:mg "zip" = none):Ct P w K mg base "less" 1 (spF K lJ):=
 di Df AF (fun _ _ _ _ _ _=>oI fun _ _=>rfl) fun f Hs A outer s H E hr=>
  (aw (aZ (bx cp (by rfl) Hb cb (af (aa (aW [none,none] ["number","taken"] rfl (a7 (lH (by rfl) Im (af (aa (aE (pv 0))) (af (aa (aE (pv 1))) aq)))) (fun _ _ _ _ _=>(have h:=(show List.Nodup (["number","taken"]:List Str) from by decide +kernel);(dG rfl (aG (az (i:=0) h rfl (lo rfl)) (aG (az (i:=1) h rfl (lo rfl)) cj))))) (fun _ _ _ _ _=>ba) (fun _ _ _ _ _=>(aF jy (ae (pv 0)) (ae (pv 1)))))) aq))))
abbrev jb:Stmt:=top 14
theorem pT:FnScope ["chart"] ["chart"] (defScope jb):=fs
theorem pU(Df:Def K mg "states_of" jb)(Ia:mg "max" = none):Ct P w K mg base "states_of" 1 (spF K dS):=
 di Df pT (fun _ _ _ _ _ _=>yT fun _=>rfl) fun f Hs A outer s H E hr=>
  (aw (aZ (aF aK (aa ai) (aa (Af rfl (by rfl) Ia (aW [none,none,none] ["first","move","second"] rfl (a7 (c8 (aR (ae (pv 0)) (aa ai)))) (fun _ _ _ _ _=>(have h:=(show List.Nodup (["first","move","second"]:List Str) from by decide +kernel);(dG rfl (aG (az (i:=0) h rfl (lo rfl)) (aG (az (i:=1) h rfl (lo rfl)) (aG (az (i:=2) h rfl (lo rfl)) cj)))))) (fun _ _ _ _ _=>ba) (fun _ _ _ _ _=>(aP (mT rfl) (by rfl) Ia mV (af (ae (pv 0)) (af (ae (pv 2)) aq))))) ai)))))
abbrev lV:Stmt:=top 15
theorem eZ:FnScope ["arcs","met","tree","looked_at","arc"] ["arcs"] (defScope lV):=fs
theorem tN(Df:Def K mg "tree_of" lV)(Hr:mg "len" = none):Ct P w K mg base "tree_of" 1 (spF K c5):=
 di Df eZ (fun _ _ _ _ _ _=>yT fun _=>rfl) fun f Hs A outer s H E hr=>
  (ah (aI (i:=1) eZ.nd rfl (lo rfl) (cU (au ai aM)))
  (ah (aI (i:=2) eZ.nd rfl (lo rfl) (cU aM))
  (ah (aI (i:=3) eZ.nd rfl (lo rfl) ai)
  (ah (kU 100000 UT (mQ (pF hr.units0) (ae (pv 3)) (aa (aP cJ (by rfl) Hr bt_len (af (ae (pv 1)) aq))) (bM _))
  (ah (dP UT rfl (c8 (aE (pv 0))) (az (i:=4) eZ.nd rfl (lo rfl))
  (aw (dF (QW.qt (pq (a9 (gk hr.units) (aa (aR (ae (pv 4)) (aa ai))) (aa (aR (ae (pv 1)) (ae (pv 3)))) (bM _)) (lr (a9 (i9 hr.u65) (aa (aR (ae (pv 4)) (aa ai))) (ae (pv 1)) (by with_unfolding_all rfl)))))
  (ah (cB (bP (pv 1) (aR (ae (pv 4)) (aa ai))))
  (aw (cB (bP (pv 2) (aE (pv 4))))))
  br)))
  (aw (aI (i:=3) eZ.nd rfl (lo rfl) (aF aK (ae (pv 3)) (aa ai))))))
  (aw (aZ (i4 (pv 2))))))))
abbrev lW:Stmt:=top 17
theorem fY:FnScope ["chart","ways","first","move","second"] ["chart"] (defScope lW):=fs
theorem tP(Df:Def K mg "ways_of" lW)(K5:Ct P w K mg base "states_of" 1 (spF K dS))(Jv:Ct P w K mg base "tree_of" 1 (spF K c5))(Hc:mg "range" = none):Ct P w K mg base "ways_of" 2 (spF K cN):=
 di Df fY (fun _ _ _ _ _ _=>yT fun _=>rfl) fun f Hs A outer s H E hr=>
  (ah (aI (i:=1) fY.nd rfl (lo rfl) (rW ai (cF aM)))
  (ah (dP UT rfl (c8 (aO Jv hr.m (by rfl) (af (aa (aR (ae (pv 0)) (aa ai))) aq))) (dG rfl (aG (az (i:=2) fY.nd rfl (lo rfl)) (aG (az (i:=3) fY.nd rfl (lo rfl)) (aG (az (i:=4) fY.nd rfl (lo rfl)) cj))))
  (aw (yK (hu_of hr) (pv 1) (aE (pv 4)) (aF aK (aa (tH (hu_of hr) (ae (pv 1)) (ae (pv 2)))) (aa (cF (au (aE (pv 3)) aM)))))))
  (aw (aZ (aW [none,some 1] ["state","ways"] rfl (a7 (b6 (by rfl) Hc (aa (aO K5 hr.m (by rfl) (af (ae (pv 0)) aq))))) (fun _ _ _ _ _=>(az (i:=0) (show List.Nodup (["state","ways"]:List Str) from by decide +kernel) rfl (lo rfl))) (fun _ _ _ _ _=>ba) (fun _ _ _ _ _=>(tH (hu_of hr) (ae (pv 1)) (ae (pv 0)))))))))
abbrev lX:Stmt:=top 18
theorem tR:FnScope ["moves","way"] ["moves","way"] (defScope lX):=fs
theorem tS(Df:Def K mg "counted" lX)(Hb:mg "tuple" = none):Ct P w K mg base "counted" 1 (spF K c6):=
 di Df tR (fun _ _ _ _ _ _=>oI fun _ _=>rfl) fun f Hs A outer s H E hr=>
  (aw (aZ (bx cp (by rfl) Hb cb (af (aa (aW [none,some 1] ["move","way"] rfl (dv (fK (pv 0)) (dv (a7 (gX (aE (pv 0)))) (a7 (gY (aE (pv 0)))))) (fun _ _ _ _ _=>(az (i:=0) (show List.Nodup (["move","way"]:List Str) from by decide +kernel) rfl (lo rfl))) (fun _ _ _ _ _=>ba) (fun _ _ _ _ _=>(rS XD PySem.F.type_tuple_count qB (ae (pv 1)) (af (ae (pv 0)) aq))))) aq))))
abbrev jd:Stmt:=top 19
theorem pV:FnScope ["chart"] ["chart"] (defScope jd):=fs
theorem pW(Df:Def K mg "counts_of" jd)(IG:Ct P w K mg base "counted" 1 (spF K c6))(Jw:Ct P w K mg base "ways_of" 2 (spF K cN)):Ct P w K mg base "counts_of" 3 (spF K dj):=
 di Df pV (fun _ _ _ _ _ _=>yT fun _=>rfl) fun f Hs A outer s H E hr=>
  (aw (aZ (aW [none,some 0] ["way","chart"] rfl (a7 (c8 (aO Jw hr.m (by rfl) (af (ae (pv 0)) aq)))) (fun _ _ _ _ _=>(az (i:=0) (show List.Nodup (["way","chart"]:List Str) from by decide +kernel) rfl (lo rfl))) (fun _ _ _ _ _=>ba) (fun _ _ _ _ _=>(aO IG hr.m (by rfl) (af (aa (aR (ae (pv 1)) (aa ai))) (af (ae (pv 0)) aq)))))))
abbrev j5:Stmt:=top 20
theorem fC:FnScope ["chart","ways","tree","rings","arc"] ["chart"] (defScope j5):=fs
theorem qE(Df:Def K mg "rings_of" j5)(IG:Ct P w K mg base "counted" 1 (spF K c6))(Pe:Ct P w K mg base "less" 1 (spF K lJ))(Jv:Ct P w K mg base "tree_of" 1 (spF K c5))(Jw:Ct P w K mg base "ways_of" 2 (spF K cN)):Ct P w K mg base "rings_of" 3 (spF K dU):=
 di Df fC (fun _ _ _ _ _ _=>yT fun _=>rfl) fun f Hs A outer s H E hr=>
  (ah (aI (i:=1) fC.nd rfl (lo rfl) (aO Jw hr.m (by rfl) (af (ae (pv 0)) aq)))
  (ah (aI (i:=2) fC.nd rfl (lo rfl) (aO Jv hr.m (by rfl) (af (aa (aR (ae (pv 0)) (aa ai))) aq)))
  (ah (aI (i:=3) fC.nd rfl (lo rfl) (cU aM))
  (ah (dP UT rfl (c8 (aR (ae (pv 0)) (aa ai))) (az (i:=4) fC.nd rfl (lo rfl))
  (aw (dF (a9 (i9 hr.u65) (ae (pv 4)) (ae (pv 2)) (by with_unfolding_all rfl))
  (aw (cB (bP (pv 3) (aO Pe hr.m (by rfl) (af (aa (aO IG hr.m (by rfl) (af (aa (aR (ae (pv 0)) (aa ai))) (af (aa (aF aK (aa (aR (ae (pv 1)) (aa (aR (ae (pv 4)) (aa ai))))) (aa (cF (au (aR (ae (pv 4)) (aa ai)) aM))))) aq)))) (af (aa (aO IG hr.m (by rfl) (af (aa (aR (ae (pv 0)) (aa ai))) (af (aa (aR (ae (pv 1)) (aa (aR (ae (pv 4)) (aa ai))))) aq)))) aq))))))
  br)))
  (aw (aZ (i4 (pv 3))))))))
abbrev j6:Stmt:=top 22
theorem qF:FnScope ["chart","move"] ["chart","move"] (defScope j6):=fs
theorem qG(Df:Def K mg "has_arcs" j6)(Kj:mg "any" = none):Ct P w K mg base "has_arcs" 1 (spF K dw):=
 di Df qF (fun _ _ _ _ _ _=>oI fun _ _=>rfl) fun f Hs A outer s H E hr=>
  (aw (aZ (aP (yG rfl) (by rfl) Kj yM (af (aa (aW [none,none,none,some 1] ["first","by","second","move"] rfl (a7 (c8 (aR (ae (pv 0)) (aa ai)))) (fun _ _ _ _ _=>(have h:=(show List.Nodup (["first","by","second","move"]:List Str) from by decide +kernel);(dG rfl (aG (az (i:=0) h rfl (lo rfl)) (aG (az (i:=1) h rfl (lo rfl)) (aG (az (i:=2) h rfl (lo rfl)) cj)))))) (fun _ _ _ _ _=>ba) (fun _ _ _ _ _=>(i5 (gk hr.units) (ae (pv 1)) (ae (pv 3)) (bM _))))) aq))))
abbrev ie:Stmt:=top 23
theorem om:FnScope ["chart","row"] ["chart","row"] (defScope ie):=fs
theorem oq(Df:Def K mg "is_stretch" ie)(LD:Ct P w K mg base "has_arcs" 1 (spF K dw))(Jx:Ct P w K mg base "product" 1 (spF K cM))(LF:Ct P w K mg base "rings_of" 3 (spF K dU))(L6:mg "all" = none)(Kj:mg "any" = none)(Im:mg "zip" = none):Ct P w K mg base "is_stretch" 4 (spF K aX):=
 di Df om (fun _ _ _ _ _ _=>oI fun _ _=>rfl) fun f Hs A outer s H E hr=>
  (ah (dF (lq (aP (yG rfl) (by rfl) Kj yM (af (aa (aW [none,some 1] ["ring","row"] rfl (a7 (c8 (aO LF hr.m (by rfl) (af (ae (pv 0)) aq)))) (fun _ _ _ _ _=>(az (i:=0) (show List.Nodup (["ring","row"]:List Str) from by decide +kernel) rfl (lo rfl))) (fun _ _ _ _ _=>ba) (fun _ _ _ _ _=>(i5 (xI hr.units) (aa (aO Jx hr.m (by rfl) (af (ae (pv 1)) (af (ae (pv 0)) aq)))) (aa ai) (bM _))))) aq)))
  (aw (aZ qu))
  br)
  (aw (aZ (aP (CF rfl) (by rfl) L6 CV (af (aa (aW [none,none,some 0] ["move","number","chart"] rfl (a7 (lH (by rfl) Im (af (aa (aR (ae (pv 0)) (aa ai))) (af (aa (aE (pv 1))) aq)))) (fun _ _ _ _ _=>(have h:=(show List.Nodup (["move","number","chart"]:List Str) from by decide +kernel);(dG rfl (aG (az (i:=0) h rfl (lo rfl)) (aG (az (i:=1) h rfl (lo rfl)) cj))))) (fun _ _ _ _ _=>ba) (fun _ _ _ _ _=>(ET (i5 (gk hr.units) (ae (pv 1)) (aa ai) (bM _)) (Cv (aO LD hr.m (by rfl) (af (ae (pv 2)) (af (ae (pv 0)) aq)))))))) aq)))))
abbrev iK:Stmt:=top 24
theorem je:FnScope ["chart","row","heights"] ["chart","row"] (defScope iK):=fs
theorem qH(Df:Def K mg "beads_of" iK)(K6:Ct P w K mg base "counts_of" 3 (spF K dj))(HA:Ct P w K mg base "is_stretch" 4 (spF K aX))(Jx:Ct P w K mg base "product" 1 (spF K cM))(JC:mg "min" = none):Ct P w K mg base "beads_of" 5 (spF K eY):=
 di Df je (fun _ _ _ _ _ _=>oI fun _ _=>rfl) fun f Hs A outer s H E hr=>
  (ah (dF (pw (lq (aO HA hr.m (by rfl) (af (ae (pv 0)) (af (ae (pv 1)) aq)))))
  (aw xE)
  br)
  (ah (aI (i:=2) je.nd rfl (lo rfl) (aW [none,some 1] ["counts","row"] rfl (a7 (c8 (aO K6 hr.m (by rfl) (af (ae (pv 0)) aq)))) (fun _ _ _ _ _=>(az (i:=0) (show List.Nodup (["counts","row"]:List Str) from by decide +kernel) rfl (lo rfl))) (fun _ _ _ _ _=>ba) (fun _ _ _ _ _=>(aO Jx hr.m (by rfl) (af (ae (pv 1)) (af (ae (pv 0)) aq))))))
  (aw (aZ (aW [none,some 2] ["height","heights"] rfl (dv (fK (pv 2)) (dv (a7 (gX (aE (pv 2)))) (a7 (gY (aE (pv 2)))))) (fun _ _ _ _ _=>(az (i:=0) (show List.Nodup (["height","heights"]:List Str) from by decide +kernel) rfl (lo rfl))) (fun _ _ _ _ _=>ba) (fun _ _ _ _ _=>(aF jy (ae (pv 0)) (aa (aP (yO rfl) (by rfl) JC yL (af (ae (pv 1)) aq))))))))))
theorem pX(Df:Def K mg "beads_of" iK){GR:Addr}(HA:Ct P w K mg base "is_stretch" 4 (spF K aX))(Hu:O7 mg base "NoStretch" GR):CtX P w K mg base "beads_of" 5 GR (spX K GR cP):=
 yQ Df je (fun _ _ _ _ _ _=>oI fun _ _=>rfl) fun f Hs A outer s H E hr=>
  (E9 (pw (lq (aO HA hr.m (by rfl) (af (ae (pv 0)) (af (ae (pv 1)) aq))))) (xP Hu Cp rfl (by rfl) (af (aa (pk Gv (by decide))) aq)))
abbrev qI:Stmt:=top 25
theorem sa:FnScope ["chart","beads","move","having"] ["chart","beads","move"] (defScope qI):=fs
theorem xT(Df:Def K mg "taken" qI)(Ia:mg "max" = none)(JC:mg "min" = none):Ct P w K mg base "taken" 1 (spF K oj):=
 di Df sa (fun _ _ _ _ _ _=>AE fun _ _ _=>rfl) fun f Hs A outer s H E hr=>
  (ah (kX (i:=3) [none,none,none,some 1,some 2] ["first","by","second","beads","move"] sa.nd rfl (lo rfl) rfl (a7 (c8 (aR (ae (pv 0)) (aa ai)))) (fun _ _ _ _ _=>(have h:=(show List.Nodup (["first","by","second","beads","move"]:List Str) from by decide +kernel);(dG rfl (aG (az (i:=0) h rfl (lo rfl)) (aG (az (i:=1) h rfl (lo rfl)) (aG (az (i:=2) h rfl (lo rfl)) cj)))))) (fun _ _ _ _ _=>(z8 (a9 (gk hr.units) (ae (pv 1)) (ae (pv 4)) (bM _)))) (fun _ _ _ _ _=>(aR (ae (pv 3)) (ae (pv 0)))))
  (aw (aZ (As rfl (by rfl) JC (aE (pv 3)) (aF aK (aa (aP (mT rfl) (by rfl) Ia mV (af (ae (pv 1)) aq))) (aa ai))))))
abbrev iL:Stmt:=top 26
theorem gy:FnScope ["chart","row","beads","takes"] ["chart","row"] (defScope iL):=fs
theorem qJ(Df:Def K mg "place_of" iL)(IV:Ct P w K mg base "beads_of" 5 (spF K eY))(NR:Ct P w K mg base "taken" 1 (spF K oj))(Hb:mg "tuple" = none)(Im:mg "zip" = none):Ct P w K mg base "place_of" 6 (spF K iJ):=
 di Df gy (fun _ _ _ _ _ _=>oI fun _ _=>rfl) fun f Hs A outer s H E hr=>
  (ah (aI (i:=2) gy.nd rfl (lo rfl) (aO IV hr.m (by rfl) (af (ae (pv 0)) (af (ae (pv 1)) aq))))
  (ah (aI (i:=3) gy.nd rfl (lo rfl) (bx cp (by rfl) Hb cb (af (aa (aW [none,some 0,some 2] ["move","chart","beads"] rfl (a7 (c8 (aR (ae (pv 0)) (aa ai)))) (fun _ _ _ _ _=>(az (i:=0) (show List.Nodup (["move","chart","beads"]:List Str) from by decide +kernel) rfl (lo rfl))) (fun _ _ _ _ _=>ba) (fun _ _ _ _ _=>(aO NR hr.m (by rfl) (af (ae (pv 1)) (af (ae (pv 2)) (af (ae (pv 0)) aq))))))) aq)))
  (aw (aZ (cF (au (aR (ae (pv 2)) (aa ai)) (au (aE (pv 3)) (au (bx cp (by rfl) Hb cb (af (aa (aW [none,none] ["number","more"] rfl (a7 (lH (by rfl) Im (af (aa (aE (pv 3))) (af (aa (aE (pv 1))) aq)))) (fun _ _ _ _ _=>(have h:=(show List.Nodup (["number","more"]:List Str) from by decide +kernel);(dG rfl (aG (az (i:=0) h rfl (lo rfl)) (aG (az (i:=1) h rfl (lo rfl)) cj))))) (fun _ _ _ _ _=>ba) (fun _ _ _ _ _=>(aF aK (ae (pv 0)) (ae (pv 1)))))) aq)) aM))))))))
theorem pY(Df:Def K mg "place_of" iL){GR:Addr}(Iy:CtX P w K mg base "beads_of" 5 GR (spX K GR cP)):CtX P w K mg base "place_of" 6 GR (spX K GR dW):=
 yQ Df gy (fun _ _ _ _ _ _=>oI fun _ _=>rfl) fun f Hs A outer s H E hr=>
  (Az Iy acc_on hr.m (by rfl) (af (ae (pv 0)) (af (ae (pv 1)) aq)))
abbrev fM:Stmt:=top 28
theorem lY:FnScope ["_law_script","_law_k"] ["_law_script","_law_k"] (defScope fM):=fs
theorem lZ(Df:Def K mg "_law_cell_at" fM)(Hr:mg "len" = none):Ct P w K mg base "_law_cell_at" 1 (spF K ax):=
 di Df lY (fun _ _ _ _ _ _=>oI fun _ _=>rfl) fun f Hs A outer s H E hr=>
  (ah (dF (mQ (pF hr.units0) (ae (pv 1)) (aa (aP cJ (by rfl) Hr bt_len (af (ae (pv 0)) aq))) (bM _))
  (aw (aZ (aR (ae (pv 0)) (ae (pv 1)))))
  br)
  (aw (aZ ai)))
abbrev ig:Stmt:=top 29
theorem gA:FnScope ["_law_cell","_law_k","_law_number"] ["_law_cell","_law_k"] (defScope ig):=fs
theorem ou(Df:Def K mg "_law_mixed" ig):Ct P w K mg base "_law_mixed" 1 (spF K aU):=
 di Df gA (fun _ _ _ _ _ _=>oI fun _ _=>rfl) fun f Hs A outer s H E hr=>
  (ah (aI (i:=2) gA.nd rfl (lo rfl) (aF aK (aa (aF bD (ae (pv 0)) (aa ai))) (aa (aF dR (aa ai) (aa (aF aK (ae (pv 1)) (aa ai)))))))
  (ah (aI (i:=2) gA.nd rfl (lo rfl) (aF bD (aa (aF aK (aa (aF dR (ae (pv 2)) (ae (pv 2)))) (aa (aF dR (aa ai) (ae (pv 1)))))) (aa ai)))
  (aw (aZ (aF bD (aa (aF aK (aa (aF aK (aa (aF dR (ae (pv 2)) (ae (pv 2)))) (aa (aF dR (aa ai) (ae (pv 1)))))) (aa ai))) (aa ai))))))
abbrev ij:Stmt:=top 30
theorem bF:FnScope ["_law_cell","_law_letters","_law_base","_law_width","_law_spot","_law_names_here","_law_k","_law_moved_on"] ["_law_cell"] (defScope ij):=fs
theorem ow(Df:Def K mg "_law_names" ij)(Hl:Ct P w K mg base "_law_mixed" 1 (spF K aU))(Hc:mg "range" = none)(HB:mg "sorted" = none):Ct P w K mg base "_law_names" 2 (spF K dy):=
 di Df bF (fun _ _ _ _ _ _=>yT fun _=>rfl) fun f Hs A outer s H E hr=>
  (ah (aI (i:=1) bF.nd rfl (lo rfl) (pk Gz (by decide)))
  (ah (kX (i:=2) [none,some 0] ["_law_j","_law_cell"] bF.nd rfl (lo rfl) rfl (a7 (b6 (by rfl) Hc (aa ai))) (fun _ _ _ _ _=>(az (i:=0) (show List.Nodup (["_law_j","_law_cell"]:List Str) from by decide +kernel) rfl (lo rfl))) (fun _ _ _ _ _=>ba) (fun _ _ _ _ _=>(aF bD (aa (aO Hl hr.m (by rfl) (af (ae (pv 1)) (af (ae (pv 0)) aq)))) (aa ai))))
  (ah (aI (i:=3) bF.nd rfl (lo rfl) (aF aK (aa ai) (aa (aF bD (ae (pv 0)) (aa ai)))))
  (ah (aI (i:=4) bF.nd rfl (lo rfl) (aF bD (aa (aF bY (ae (pv 0)) (aa ai))) (ae (pv 3))))
  (ah (aI (i:=5) bF.nd rfl (lo rfl) (cU aM))
  (ah (dP UT rfl (b6 (by rfl) Hc (aa ai)) (az (i:=6) bF.nd rfl (lo rfl))
  (ah (aI (i:=7) bF.nd rfl (lo rfl) (pI (ae (pv 2)) nS (gj (aE (pv 3)))))
  (ah (vR (pv 7) (aE (pv 4)) (aF bD (aa (aF aK (aa (aR (ae (pv 7)) (ae (pv 4)))) (ae (pv 6)))) (aa ai)))
  (ah (dF (a9 (gk hr.units) (aa (aF bD (aa (aF bY (ae (pv 0)) (aa ai))) (aa ai))) (aa ai) (bM _))
  (aw (aI (i:=7) bF.nd rfl (lo rfl) (pI (ae (pv 2)) nS (gj (aF aK (ae (pv 6)) (aa ai))))))
  br)
  (aw (cB (bP (pv 5) (CQ PySem.F.slot_str_join PySem.F.type_str_join Aq (aa (pk Gy (by decide))) (af (aa (aW [none,some 1] ["_law_j","_law_letters"] rfl (dv (fK (pv 7)) (dv (a7 (gX (aE (pv 7)))) (a7 (gY (aE (pv 7)))))) (fun _ _ _ _ _=>(az (i:=0) (show List.Nodup (["_law_j","_law_letters"]:List Str) from by decide +kernel) rfl (lo rfl))) (fun _ _ _ _ _=>ba) (fun _ _ _ _ _=>(aR (ae (pv 1)) (ae (pv 0)))))) aq)))))))))
  (ah (dF (a9 (rX hr.u65) (aa (pk Gw (by decide))) (ae (pv 5)) (by with_unfolding_all rfl))
  (aw (kX (i:=5) [none] ["_law_name"] bF.nd rfl (lo rfl) rfl (dv (fK (pv 5)) (dv (a7 (gX (aE (pv 5)))) (a7 (gY (aE (pv 5)))))) (fun _ _ _ _ _=>(az (i:=0) (show List.Nodup (["_law_name"]:List Str) from by decide +kernel) rfl (lo rfl))) (fun _ _ _ _ _=>ba) (fun _ _ _ _ _=>(aF aK (aa (pk Gx (by decide))) (ae (pv 0))))))
  br)
  (aw (aZ (aP (jE rfl) (by rfl) HB jF (af (ae (pv 5)) aq)))))))))))
abbrev jg:Stmt:=top 31
theorem eD:FnScope ["_law_net_here","_law_marking","_law_move","_law_k","_law_after","_law_beads","_law_place_here"] ["_law_net_here","_law_marking","_law_move"] (defScope jg):=fs
theorem pZ(Df:Def K mg "_law_step" jg)(Hb:mg "tuple" = none)(Im:mg "zip" = none):Ct P w K mg base "_law_step" 1 (spF K dk):=
 di Df eD (fun _ _ _ _ _ _=>AE fun _ _ _=>rfl) fun f Hs A outer s H E hr=>
  (ah (aI (i:=3) eD.nd rfl (lo rfl) (rS Wh WI i8 (aa (aR (ae (pv 0)) (aa ai))) (af (ae (pv 2)) aq)))
  (ah (aI (i:=4) eD.nd rfl (lo rfl) (cU aM))
  (ah (dP UT rfl (lH (by rfl) Im (af (aa (aE (pv 1))) (af (aa (aR (ae (pv 0)) (aa ai))) aq))) (dG rfl (aG (az (i:=5) eD.nd rfl (lo rfl)) (aG (az (i:=6) eD.nd rfl (lo rfl)) cj)))
  (ah (dF (mQ (pF hr.units0) (ae (pv 5)) (aa (aR (aa (aR (ae (pv 6)) (aa ai))) (ae (pv 3)))) (bM _))
  (aw (aZ lp))
  br)
  (aw (cB (bP (pv 4) (aF aK (aa (aF jy (ae (pv 5)) (aa (aR (aa (aR (ae (pv 6)) (aa ai))) (ae (pv 3)))))) (aa (aR (aa (aR (ae (pv 6)) (aa ai))) (ae (pv 3))))))))))
  (aw (aZ (bx cp (by rfl) Hb cb (af (ae (pv 4)) aq)))))))
abbrev j7:Stmt:=top 32
theorem dn:FnScope ["_law_net_here","_law_most","_law_markings","_law_arcs","_law_done","_law_move","_law_after"] ["_law_net_here","_law_most"] (defScope j7):=fs
theorem qK(Df:Def K mg "_law_run" j7)(K7:Ct P w K mg base "_law_step" 1 (spF K dk))(Hr:mg "len" = none)(HB:mg "sorted" = none)(Hb:mg "tuple" = none):Ct P w K mg base "_law_run" 2 (spF K bK):=
 di Df dn (fun _ _ _ _ _ _=>oI fun _ _=>rfl) fun f Hs A outer s H E hr=>
  (ah (aI (i:=2) dn.nd rfl (lo rfl) (cU (au (bx cp (by rfl) Hb cb (af (aa (aW [none,none,none] ["_law_beads","_law_takes","_law_gives"] rfl (a7 (c8 (aR (ae (pv 0)) (aa ai)))) (fun _ _ _ _ _=>(have h:=(show List.Nodup (["_law_beads","_law_takes","_law_gives"]:List Str) from by decide +kernel);(dG rfl (aG (az (i:=0) h rfl (lo rfl)) (aG (az (i:=1) h rfl (lo rfl)) (aG (az (i:=2) h rfl (lo rfl)) cj)))))) (fun _ _ _ _ _=>ba) (fun _ _ _ _ _=>(aE (pv 0))))) aq)) aM)))
  (ah (aI (i:=3) dn.nd rfl (lo rfl) (cU aM))
  (ah (aI (i:=4) dn.nd rfl (lo rfl) ai)
  (ah (kU 100000 UT (mQ (pF hr.units0) (ae (pv 4)) (aa (aP cJ (by rfl) Hr bt_len (af (ae (pv 2)) aq))) (bM _))
  (ah (dP UT rfl (c8 (aR (ae (pv 0)) (aa ai))) (az (i:=5) dn.nd rfl (lo rfl))
  (ah (aI (i:=6) dn.nd rfl (lo rfl) (aO K7 hr.m (by rfl) (af (ae (pv 0)) (af (aa (aR (ae (pv 2)) (ae (pv 4)))) (af (ae (pv 5)) aq)))))
  (aw (dF (a9 rQ (ae (pv 6)) (aa lp) (bM _))
  (ah (dF (a9 (i9 hr.u65) (ae (pv 6)) (ae (pv 2)) (by with_unfolding_all rfl))
  (ah (dF (a9 (gk hr.units) (aa (aP cJ (by rfl) Hr bt_len (af (ae (pv 2)) aq))) (ae (pv 1)) (bM _))
  (aw (aZ lp))
  br)
  (aw (cB (bP (pv 2) (aE (pv 6))))))
  br)
  (aw (cB (bP (pv 3) (cF (au (aE (pv 4)) (au (aE (pv 5)) (au (vU Wn WT (ja hr.u65) (ae (pv 2)) (af (ae (pv 6)) aq)) aM))))))))
  br))))
  (aw (aI (i:=4) dn.nd rfl (lo rfl) (aF aK (ae (pv 4)) (aa ai))))))
  (aw (aZ (cF (au (aP (jE rfl) (by rfl) HB jF (af (ae (pv 3)) aq)) (au (aE (pv 2)) aM)))))))))
abbrev jh:Stmt:=top 33
theorem fH:FnScope ["_law_script","_law_first","_law_k","_law_number","_law_cell"] ["_law_script","_law_first","_law_k"] (defScope jh):=fs
theorem p3(Df:Def K mg "_law_fold" jh)(Hl:Ct P w K mg base "_law_mixed" 1 (spF K aU)):Ct P w K mg base "_law_fold" 2 (spF K dX):=
 di Df fH (fun _ _ _ _ _ _=>AE fun _ _ _=>rfl) fun f Hs A outer s H E hr=>
  (ah (aI (i:=3) fH.nd rfl (lo rfl) (aF aK (aa ai) (ae (pv 2))))
  (ah (dP UT rfl (c8 (C6 (ae (pv 0)) (gj (aF aK (ae (pv 1)) (ae (pv 2)))) (gj (aF aK (ae (pv 1)) (aa ai))) (gj ai))) (az (i:=4) fH.nd rfl (lo rfl))
  (aw (aI (i:=3) fH.nd rfl (lo rfl) (aO Hl hr.m (by rfl) (af (aa (aF aK (ae (pv 4)) (ae (pv 3)))) (af (ae (pv 2)) aq))))))
  (aw (aZ (i4 (pv 3))))))
abbrev ik:Stmt:=top 34
theorem cv:FnScope ["_law_number","_law_count","_law_takes","_law_gives","_law_j","_law_mixed_here","_law_step_here","_law_loop"] ["_law_number","_law_count"] (defScope ik):=fs
theorem ox(Df:Def K mg "_law_place" ik)(Hl:Ct P w K mg base "_law_mixed" 1 (spF K aU))(Ia:mg "max" = none)(Hc:mg "range" = none):Ct P w K mg base "_law_place" 2 (spF K dA):=
 di Df cv (fun _ _ _ _ _ _=>oI fun _ _=>rfl) fun f Hs A outer s H E hr=>
  (ah (aI (i:=2) cv.nd rfl (lo rfl) (cU aM))
  (ah (aI (i:=3) cv.nd rfl (lo rfl) (cU aM))
  (ah (dP UT rfl (b6 (by rfl) Hc (ae (pv 1))) (az (i:=4) cv.nd rfl (lo rfl))
  (ah (aI (i:=5) cv.nd rfl (lo rfl) (aO Hl hr.m (by rfl) (af (ae (pv 0)) (af (ae (pv 4)) aq))))
  (ah (aI (i:=6) cv.nd rfl (lo rfl) (aF jy (aa (aF bD (ae (pv 5)) (aa ai))) (aa ai)))
  (ah (aI (i:=7) cv.nd rfl (lo rfl) (aF bY (aa (aF bD (aa (aF bY (ae (pv 5)) (aa ai))) (aa ai))) (aa ai)))
  (ah (cB (bP (pv 2) (aF aK (aa (aP (mT rfl) (by rfl) Ia mV (af (aa ai) (af (aa (aF jy (aa ai) (ae (pv 6)))) aq)))) (ae (pv 7)))))
  (aw (cB (bP (pv 3) (aF aK (aa (aP (mT rfl) (by rfl) Ia mV (af (aa ai) (af (ae (pv 6)) aq)))) (ae (pv 7)))))))))))
  (aw (aZ (Ax (aF bD (aa (aF bY (ae (pv 0)) (aa ai))) (aa ai)) (i4 (pv 2)) (i4 (pv 3))))))))
abbrev gB:Stmt:=top 35
theorem cz:FnScope ["_law_place_here","_law_cell","_law_factor","_law_beads","_law_takes","_law_gives"] ["_law_place_here","_law_cell"] (defScope gB):=fs
theorem mG(Df:Def K mg "_law_scaled" gB)(Hb:mg "tuple" = none):Ct P w K mg base "_law_scaled" 1 (spF K cq):=
 di Df cz (fun _ _ _ _ _ _=>oI fun _ _=>rfl) fun f Hs A outer s H E hr=>
  (ah (aI (i:=2) cz.nd rfl (lo rfl) (aF aK (aa ai) (aa (aF bD (ae (pv 1)) (aa (aF rM (aa ai) (aa ai)))))))
  (ah (CT (aE (pv 0)) (dG rfl (aG (az (i:=3) cz.nd rfl (lo rfl)) (aG (az (i:=4) cz.nd rfl (lo rfl)) (aG (az (i:=5) cz.nd rfl (lo rfl)) cj)))))
  (ah (aI (i:=4) cz.nd rfl (lo rfl) (bx cp (by rfl) Hb cb (af (aa (aW [none,some 2] ["_law_take","_law_factor"] rfl (dv (fK (pv 4)) (dv (a7 (gX (aE (pv 4)))) (a7 (gY (aE (pv 4)))))) (fun _ _ _ _ _=>(az (i:=0) (show List.Nodup (["_law_take","_law_factor"]:List Str) from by decide +kernel) rfl (lo rfl))) (fun _ _ _ _ _=>ba) (fun _ _ _ _ _=>(aF dR (ae (pv 1)) (ae (pv 0)))))) aq)))
  (aw (aZ (cF (au (aF aK (aa (aF dR (ae (pv 2)) (ae (pv 3)))) (aa (aF bD (aa (aF bY (ae (pv 1)) (aa ai))) (ae (pv 2))))) (au (aE (pv 4)) (au (bx cp (by rfl) Hb cb (af (aa (aW [none,some 2] ["_law_give","_law_factor"] rfl (dv (fK (pv 5)) (dv (a7 (gX (aE (pv 5)))) (a7 (gY (aE (pv 5)))))) (fun _ _ _ _ _=>(az (i:=0) (show List.Nodup (["_law_give","_law_factor"]:List Str) from by decide +kernel) rfl (lo rfl))) (fun _ _ _ _ _=>ba) (fun _ _ _ _ _=>(aF dR (ae (pv 1)) (ae (pv 0)))))) aq)) aM)))))))))
abbrev gC:Stmt:=top 36
theorem cA:FnScope ["_law_script","_law_first","_law_count","_law_places_here","_law_k","_law_number","_law_place_here","_law_mate"] ["_law_script","_law_first","_law_count"] (defScope gC):=fs
theorem mH(Df:Def K mg "_law_places" gC)(GX:Ct P w K mg base "_law_cell_at" 1 (spF K ax))(K8:Ct P w K mg base "_law_fold" 2 (spF K dX))(Kz:Ct P w K mg base "_law_place" 2 (spF K dA))(IK:Ct P w K mg base "_law_scaled" 1 (spF K cq))(Hc:mg "range" = none):Ct P w K mg base "_law_places" 3 (spF K cQ):=
 di Df cA (fun _ _ _ _ _ _=>AE fun _ _ _=>rfl) fun f Hs A outer s H E hr=>
  (ah (aI (i:=3) cA.nd rfl (lo rfl) (cU aM))
  (ah (dP UT rfl (b6 (by rfl) Hc (aa (aF aK (aa ai) (aa (aF bD (aa (aF bY (aa (aO GX hr.m (by rfl) (af (ae (pv 0)) (af (aa ai) aq)))) (aa ai))) (aa ai)))))) (az (i:=4) cA.nd rfl (lo rfl))
  (ah (aI (i:=5) cA.nd rfl (lo rfl) (aO K8 hr.m (by rfl) (af (ae (pv 0)) (af (ae (pv 1)) (af (ae (pv 4)) aq)))))
  (ah (aI (i:=6) cA.nd rfl (lo rfl) (aO Kz hr.m (by rfl) (af (ae (pv 5)) (af (ae (pv 2)) aq))))
  (ah (cB (bP (pv 3) (aO IK hr.m (by rfl) (af (ae (pv 6)) (af (aa (aO GX hr.m (by rfl) (af (ae (pv 0)) (af (aa (aF aK (ae (pv 1)) (ae (pv 4)))) aq)))) aq)))))
  (aw (dF (mQ EW (aa (aF bD (aa (aF bY (ae (pv 5)) (aa ai))) (aa ai))) (aa ai) (bM _))
  (ah (aI (i:=7) cA.nd rfl (lo rfl) (cF (au (aF bD (aa (aF bY (ae (pv 5)) (aa ai))) (aa ai)) (au (aR (aa (aE (pv 6))) (aa ai)) (au (aR (aa (aE (pv 6))) (aa ai)) aM)))))
  (aw (cB (bP (pv 3) (aO IK hr.m (by rfl) (af (ae (pv 7)) (af (aa (aO GX hr.m (by rfl) (af (ae (pv 0)) (af (aa (aF aK (aa (aF aK (ae (pv 1)) (aa ai))) (ae (pv 4)))) aq)))) aq)))))))
  br))))))
  (aw (aZ (i4 (pv 3))))))
abbrev il:Stmt:=top 37
theorem dM:FnScope ["_law_script","_law_names_here","_law_cell","_law_count","_law_start"] ["_law_script"] (defScope il):=fs
theorem oy(Df:Def K mg "_law_moves" il)(GX:Ct P w K mg base "_law_cell_at" 1 (spF K ax))(KA:Ct P w K mg base "_law_names" 2 (spF K dy))(Hb:mg "tuple" = none):Ct P w K mg base "_law_moves" 3 (spF K dB):=
 di Df dM (fun _ _ _ _ _ _=>yT fun _=>rfl) fun f Hs A outer s H E hr=>
  (ah (aI (i:=1) dM.nd rfl (lo rfl) (aO KA hr.m (by rfl) (af (aa (aO GX hr.m (by rfl) (af (ae (pv 0)) (af (aa ai) aq)))) aq)))
  (ah (aI (i:=2) dM.nd rfl (lo rfl) (aO GX hr.m (by rfl) (af (ae (pv 0)) (af (aa ai) aq))))
  (ah (aI (i:=3) dM.nd rfl (lo rfl) (aF aK (aa ai) (aa (aF bD (ae (pv 2)) (aa ai)))))
  (ah (aI (i:=4) dM.nd rfl (lo rfl) (aF bD (aa (aF bY (ae (pv 2)) (aa ai))) (aa (aF jy (aa ai) (ae (pv 3))))))
  (aw (aZ (bx cp (by rfl) Hb cb (af (aa (pI (ae (pv 1)) (gj (aE (pv 4))) (gj (aF aK (ae (pv 4)) (ae (pv 3)))))) aq))))))))
abbrev j8:Stmt:=top 38
theorem d9:FnScope ["_law_script","_law_first","_law_moves_here","_law_count","_law_places_here","_law_ones","_law_noughts"] ["_law_script","_law_first"] (defScope j8):=fs
theorem qL(Df:Def K mg "_law_net" j8)(KC:Ct P w K mg base "_law_moves" 3 (spF K dB))(Kb:Ct P w K mg base "_law_places" 3 (spF K cQ))(HF:Ct P w K mg base "_law_run" 2 (spF K bK))(Hr:mg "len" = none)(Hb:mg "tuple" = none):Ct P w K mg base "_law_net" 4 (spF K dY):=
 di Df d9 (fun _ _ _ _ _ _=>oI fun _ _=>rfl) fun f Hs A outer s H E hr=>
  (ah (aI (i:=2) d9.nd rfl (lo rfl) (aO KC hr.m (by rfl) (af (ae (pv 0)) aq)))
  (ah (aI (i:=3) d9.nd rfl (lo rfl) (aP cJ (by rfl) Hr bt_len (af (ae (pv 2)) aq)))
  (ah (aI (i:=4) d9.nd rfl (lo rfl) (aO Kb hr.m (by rfl) (af (ae (pv 0)) (af (ae (pv 1)) (af (ae (pv 3)) aq)))))
  (ah (dF (a9 rQ (aa (aO HF hr.m (by rfl) (af (aa (cF (au (aE (pv 2)) (au (aE (pv 4)) aM)))) (af (aa ai) aq)))) (aa lp) (bM _))
  (aw (aZ (cF (au (aE (pv 2)) (au (aE (pv 4)) aM)))))
  br)
  (ah (aI (i:=5) d9.nd rfl (lo rfl) (bx cp (by rfl) Hb cb (af (aa (aW [none] ["_law_move"] rfl (dv (fK (pv 2)) (dv (a7 (gX (aE (pv 2)))) (a7 (gY (aE (pv 2)))))) (fun _ _ _ _ _=>(az (i:=0) (show List.Nodup (["_law_move"]:List Str) from by decide +kernel) rfl (lo rfl))) (fun _ _ _ _ _=>ba) (fun _ _ _ _ _=>ai))) aq)))
  (ah (aI (i:=6) d9.nd rfl (lo rfl) (bx cp (by rfl) Hb cb (af (aa (aW [none] ["_law_move"] rfl (dv (fK (pv 2)) (dv (a7 (gX (aE (pv 2)))) (a7 (gY (aE (pv 2)))))) (fun _ _ _ _ _=>(az (i:=0) (show List.Nodup (["_law_move"]:List Str) from by decide +kernel) rfl (lo rfl))) (fun _ _ _ _ _=>ba) (fun _ _ _ _ _=>ai))) aq)))
  (ah (dF (a9 rQ (aa (aO HF hr.m (by rfl) (af (aa (cF (au (aE (pv 2)) (au (aF aK (ae (pv 4)) (aa (cU (au (cF (au ai (au (aE (pv 5)) (au (aE (pv 6)) aM)))) aM)))) aM)))) (af (aa ai) aq)))) (aa lp) (bM _))
  (aw (aZ (cF (au (aE (pv 2)) (au (aF aK (ae (pv 4)) (aa (cU (au (cF (au ai (au (aE (pv 5)) (au (aE (pv 6)) aM)))) aM)))) aM)))))
  br)
  (aw (aZ (cF (au (aE (pv 2)) (au (aF aK (ae (pv 4)) (aa (cU (au (cF (au ai (au (aE (pv 5)) (au (aE (pv 6)) aM)))) aM)))) aM))))))))))))
abbrev gD:Stmt:=top 39
theorem aY:FnScope ["_law_arcs","_law_order","_law_done","_law_one","_law_move","_law_other","_law_kept","_law_arc"] ["_law_arcs"] (defScope gD):=fs
theorem mI(Df:Def K mg "_law_tidied" gD)(Hr:mg "len" = none)(HB:mg "sorted" = none):Ct P w K mg base "_law_tidied" 1 (spF K cu):=
 di Df aY (fun _ _ _ _ _ _=>yT fun _=>rfl) fun f Hs A outer s H E hr=>
  (ah (aI (i:=1) aY.nd rfl (lo rfl) (cU (au ai aM)))
  (ah (aI (i:=2) aY.nd rfl (lo rfl) ai)
  (ah (kU 100000 UT (mQ (pF hr.units0) (ae (pv 2)) (aa (aP cJ (by rfl) Hr bt_len (af (ae (pv 1)) aq))) (bM _))
  (ah (dP UT rfl (c8 (aP (jE rfl) (by rfl) HB jF (af (ae (pv 0)) aq))) (dG rfl (aG (az (i:=3) aY.nd rfl (lo rfl)) (aG (az (i:=4) aY.nd rfl (lo rfl)) (aG (az (i:=5) aY.nd rfl (lo rfl)) cj))))
  (aw (dF (QW.qt (pq (a9 (gk hr.units) (ae (pv 3)) (aa (aR (ae (pv 1)) (ae (pv 2)))) (bM _)) (lr (a9 (i9 hr.u65) (ae (pv 5)) (ae (pv 1)) (by with_unfolding_all rfl)))))
  (aw (cB (bP (pv 1) (aE (pv 5)))))
  br)))
  (aw (aI (i:=2) aY.nd rfl (lo rfl) (aF aK (ae (pv 2)) (aa ai))))))
  (ah (aI (i:=6) aY.nd rfl (lo rfl) (cU aM))
  (ah (dP UT rfl (c8 (aE (pv 0))) (dG rfl (aG (az (i:=3) aY.nd rfl (lo rfl)) (aG (az (i:=4) aY.nd rfl (lo rfl)) (aG (az (i:=5) aY.nd rfl (lo rfl)) cj))))
  (aw (dF (a9 (rX hr.u65) (ae (pv 3)) (ae (pv 1)) (by with_unfolding_all rfl))
  (ah (aI (i:=7) aY.nd rfl (lo rfl) (cF (au (vU Wn WT (ja hr.u65) (ae (pv 1)) (af (ae (pv 3)) aq)) (au (aE (pv 4)) (au (vU Wn WT (ja hr.u65) (ae (pv 1)) (af (ae (pv 5)) aq)) aM)))))
  (aw (dF (a9 (i9 hr.u65) (ae (pv 7)) (ae (pv 6)) (by with_unfolding_all rfl))
  (aw (cB (bP (pv 6) (aE (pv 7)))))
  br)))
  br)))
  (aw (aZ (aP (jE rfl) (by rfl) HB jF (af (ae (pv 6)) aq)))))))))
abbrev ji:Stmt:=top 40
theorem bW:FnScope ["_law_moves_here","_law_arcs","_law_number","_law_count","_law_other","_law_move","_law_spot","_law_arc","_law_rest","_law_gone","_law_ends"] ["_law_moves_here","_law_arcs","_law_number"] (defScope ji):=fs
theorem p4(Df:Def K mg "_law_bent" ji)(Hr:mg "len" = none)(Ia:mg "max" = none)(JC:mg "min" = none)(Hc:mg "range" = none):Ct P w K mg base "_law_bent" 1 (spF K dZ):=
 di Df bW (fun _ _ _ _ _ _=>AE fun _ _ _=>rfl) fun f Hs A outer s H E hr=>
  (ah (aI (i:=3) bW.nd rfl (lo rfl) (aF aK (aa ai) (aa (aP (mT rfl) (by rfl) Ia mV (af (aa (aF aK (aa (cU (au ai aM))) (aa (aW [none] ["_law_arc"] rfl (dv (fK (pv 1)) (dv (a7 (gX (aE (pv 1)))) (a7 (gY (aE (pv 1)))))) (fun _ _ _ _ _=>(az (i:=0) (show List.Nodup (["_law_arc"]:List Str) from by decide +kernel) rfl (lo rfl))) (fun _ _ _ _ _=>ba) (fun _ _ _ _ _=>(aP (mT rfl) (by rfl) Ia mV (af (aa (aR (ae (pv 0)) (aa ai))) (af (aa (aR (ae (pv 0)) (aa ai))) aq)))))))) aq)))))
  (ah (aI (i:=4) bW.nd rfl (lo rfl) (aF bD (aa (aF bY (ae (pv 2)) (aa ai))) (aa (aP (yO rfl) (by rfl) JC yL (af (aa (aF aK (ae (pv 3)) (aa ai))) (af (aa ai) aq))))))
  (ah (aI (i:=5) bW.nd rfl (lo rfl) (aR (ae (pv 0)) (aa (aF bD (aa (aF bY (ae (pv 2)) (aa ai))) (aa (aP cJ (by rfl) Hr bt_len (af (ae (pv 0)) aq)))))))
  (ah (dF (QW.qt (z6 (a9 (gk hr.units) (ae (pv 1)) (aa (cU aM)) (bM _)) (vz (a9 (gk hr.units) (aa (aF bD (ae (pv 2)) (aa ai))) (aa ai) (bM _)))))
  (aw (aZ (aF aK (ae (pv 1)) (aa (cU (au (cF (au (aF bD (aa (aF bY (ae (pv 2)) (aa ai))) (ae (pv 3))) (au (aE (pv 5)) (au (aE (pv 4)) aM)))) aM))))))
  br)
  (ah (aI (i:=6) bW.nd rfl (lo rfl) (aF bD (aa (aF bY (ae (pv 2)) (aa ai))) (aa (aP cJ (by rfl) Hr bt_len (af (ae (pv 1)) aq)))))
  (ah (aI (i:=7) bW.nd rfl (lo rfl) (aR (ae (pv 1)) (ae (pv 6))))
  (ah (aI (i:=8) bW.nd rfl (lo rfl) (aF aK (aa (pI (ae (pv 1)) nS (gj (aE (pv 6))))) (aa (pI (ae (pv 1)) (gj (aF aK (ae (pv 6)) (aa ai))) nS))))
  (ah (dF (a9 (gk hr.units) (aa (aF bD (ae (pv 2)) (aa ai))) (aa ai) (bM _))
  (aw (aZ (i4 (pv 8))))
  br)
  (ah (dF (a9 (gk hr.units) (aa (aF bD (ae (pv 2)) (aa ai))) (aa ai) (bM _))
  (aw (aZ (aF aK (ae (pv 8)) (aa (cU (au (cF (au (aR (ae (pv 7)) (aa ai)) (au (aR (ae (pv 7)) (aa ai)) (au (aE (pv 4)) aM)))) aM))))))
  br)
  (ah (dF (QW.qt (z6 (a9 (gk hr.units) (aa (aF bD (ae (pv 2)) (aa ai))) (aa ai) (bM _)) (vz (a9 (gk hr.units) (ae (pv 3)) (aa ai) (bM _)))))
  (aw (aZ (aF aK (ae (pv 8)) (aa (cU (au (cF (au (aR (ae (pv 7)) (aa ai)) (au (aE (pv 5)) (au (aR (ae (pv 7)) (aa ai)) aM)))) aM))))))
  br)
  (ah (aI (i:=9) bW.nd rfl (lo rfl) (aF aK (aa ai) (aa (aF bD (aa (aF bY (ae (pv 2)) (aa ai))) (aa (aF jy (ae (pv 3)) (aa ai)))))))
  (ah (aI (i:=10) bW.nd rfl (lo rfl) (aW [none] ["_law_k"] rfl (a7 (b6 (by rfl) Hc (ae (pv 3)))) (fun _ _ _ _ _=>(az (i:=0) (show List.Nodup (["_law_k"]:List Str) from by decide +kernel) rfl (lo rfl))) (fun _ _ _ _ _=>ba) (fun _ _ _ _ _=>(aE (pv 0)))))
  (ah (vR (pv 10) (aE (pv 9)) (aF bD (ae (pv 4)) (ae (pv 3))))
  (aw (aZ (aW [none,none,none,some 10] ["_law_one","_law_name","_law_two","_law_ends"] rfl (dv (fK (pv 1)) (dv (a7 (gX (aE (pv 1)))) (a7 (gY (aE (pv 1)))))) (fun _ _ _ _ _=>(have h:=(show List.Nodup (["_law_one","_law_name","_law_two","_law_ends"]:List Str) from by decide +kernel);(dG rfl (aG (az (i:=0) h rfl (lo rfl)) (aG (az (i:=1) h rfl (lo rfl)) (aG (az (i:=2) h rfl (lo rfl)) cj)))))) (fun _ _ _ _ _=>ba) (fun _ _ _ _ _=>(cF (au (aR (ae (pv 3)) (ae (pv 0))) (au (aE (pv 1)) (au (aR (ae (pv 3)) (ae (pv 2))) aM)))))))))))))))))))))
abbrev eh:Stmt:=top 41
theorem bX:FnScope ["_law_script","_law_net_here","_law_first","_law_arcs","_law_k","_law_number"] ["_law_script","_law_net_here","_law_first"] (defScope eh):=fs
theorem jQ(Df:Def K mg "_law_bent_chart" eh)(K9:Ct P w K mg base "_law_bent" 1 (spF K dZ))(GX:Ct P w K mg base "_law_cell_at" 1 (spF K ax))(Hl:Ct P w K mg base "_law_mixed" 1 (spF K aU))(HF:Ct P w K mg base "_law_run" 2 (spF K bK))(IL:Ct P w K mg base "_law_tidied" 1 (spF K cu))(Hc:mg "range" = none):Ct P w K mg base "_law_bent_chart" 3 (spF K bg):=
 di Df bX (fun _ _ _ _ _ _=>AE fun _ _ _=>rfl) fun f Hs A outer s H E hr=>
  (ah (aI (i:=3) bX.nd rfl (lo rfl) (aR (aa (aO HF hr.m (by rfl) (af (ae (pv 1)) (af (aa ai) aq)))) (aa ai)))
  (ah (dP UT rfl (vE (by rfl) Hc (af (ae (pv 2)) (af (aa (aF aK (ae (pv 2)) (aa ai))) aq))) (az (i:=4) bX.nd rfl (lo rfl))
  (ah (aI (i:=5) bX.nd rfl (lo rfl) (aO Hl hr.m (by rfl) (af (aa (aO GX hr.m (by rfl) (af (ae (pv 0)) (af (ae (pv 4)) aq)))) (af (ae (pv 4)) aq))))
  (aw (dF (a9 (gk hr.units) (aa (aF bD (aa (aF bY (ae (pv 5)) (aa ai))) (aa ai))) (aa ai) (bM _))
  (aw (aI (i:=3) bX.nd rfl (lo rfl) (aO IL hr.m (by rfl) (af (aa (aO K9 hr.m (by rfl) (af (aa (aR (ae (pv 1)) (aa ai))) (af (ae (pv 3)) (af (aa (aF bY (ae (pv 5)) (aa ai))) aq))))) aq))))
  br))))
  (aw (aZ (cF (au (aR (ae (pv 1)) (aa ai)) (au (aO IL hr.m (by rfl) (af (ae (pv 3)) aq)) aM)))))))
abbrev gE:Stmt:=top 42
theorem aT:FnScope ["_law_chart","_law_row","_law_levels_here","_law_fresh","_law_one","_law_move","_law_other","_law_step_here"] ["_law_chart","_law_row"] (defScope gE):=fs
theorem mJ(Df:Def K mg "_law_levels" gE)(Hr:mg "len" = none)(Hc:mg "range" = none):Ct P w K mg base "_law_levels" 1 (spF K cR):=
 di Df aT (fun _ _ _ _ _ _=>oI fun _ _=>rfl) fun f Hs A outer s H E hr=>
  (ah (aI (i:=2) aT.nd rfl (lo rfl) (rW ai ai))
  (ah (aI (i:=3) aT.nd rfl (lo rfl) qu)
  (ah (kU 100000 UT (lq (aE (pv 3)))
  (ah (aI (i:=3) aT.nd rfl (lo rfl) qu)
  (aw (dP UT rfl (c8 (aR (ae (pv 0)) (aa ai))) (dG rfl (aG (az (i:=4) aT.nd rfl (lo rfl)) (aG (az (i:=5) aT.nd rfl (lo rfl)) (aG (az (i:=6) aT.nd rfl (lo rfl)) cj))))
  (ah (aI (i:=7) aT.nd rfl (lo rfl) (aR (ae (pv 1)) (aa (rS Wh WI i8 (aa (aR (ae (pv 0)) (aa ai))) (af (ae (pv 5)) aq)))))
  (aw (dF (QW.qt (pq (a9 (rX hr.u65) (ae (pv 4)) (ae (pv 2)) (by with_unfolding_all rfl)) (lr (a9 (i9 hr.u65) (ae (pv 6)) (ae (pv 2)) (by with_unfolding_all rfl)))))
  (ah (yK (hu_of hr) (pv 2) (aE (pv 6)) (aF aK (aa (tH (hu_of hr) (ae (pv 2)) (ae (pv 4)))) (ae (pv 7))))
  (aw (aI (i:=3) aT.nd rfl (lo rfl) qu)))
  br)))))))
  (ah (dP UT rfl (c8 (aR (ae (pv 0)) (aa ai))) (dG rfl (aG (az (i:=4) aT.nd rfl (lo rfl)) (aG (az (i:=5) aT.nd rfl (lo rfl)) (aG (az (i:=6) aT.nd rfl (lo rfl)) cj))))
  (ah (aI (i:=7) aT.nd rfl (lo rfl) (aR (ae (pv 1)) (aa (rS Wh WI i8 (aa (aR (ae (pv 0)) (aa ai))) (af (ae (pv 5)) aq)))))
  (aw (dF (a9 (xI hr.units) (aa (tH (hu_of hr) (ae (pv 2)) (ae (pv 6)))) (aa (aF aK (aa (tH (hu_of hr) (ae (pv 2)) (ae (pv 4)))) (ae (pv 7)))) (bM _))
  (aw (aZ lp))
  br))))
  (aw (aZ (aW [none,some 2] ["_law_k","_law_levels_here"] rfl (a7 (b6 (by rfl) Hc (aa (aP cJ (by rfl) Hr bt_len (af (ae (pv 2)) aq))))) (fun _ _ _ _ _=>(az (i:=0) (show List.Nodup (["_law_k","_law_levels_here"]:List Str) from by decide +kernel) rfl (lo rfl))) (fun _ _ _ _ _=>ba) (fun _ _ _ _ _=>(tH (hu_of hr) (ae (pv 1)) (ae (pv 0)))))))))))
abbrev eB:Stmt:=top 43
theorem dN:FnScope ["_law_chart","_law_row","_law_used","_law_k"] ["_law_chart","_law_row"] (defScope eB):=fs
theorem jR(Df:Def K mg "_law_is_stretch" eB)(Kc:Ct P w K mg base "_law_levels" 1 (spF K cR))(Hr:mg "len" = none)(Hc:mg "range" = none):Ct P w K mg base "_law_is_stretch" 2 (spF K bC):=
 di Df dN (fun _ _ _ _ _ _=>oI fun _ _=>rfl) fun f Hs A outer s H E hr=>
  (ah (kX (i:=2) [none,none,none] ["_law_one","_law_move","_law_other"] dN.nd rfl (lo rfl) rfl (a7 (c8 (aR (ae (pv 0)) (aa ai)))) (fun _ _ _ _ _=>(have h:=(show List.Nodup (["_law_one","_law_move","_law_other"]:List Str) from by decide +kernel);(dG rfl (aG (az (i:=0) h rfl (lo rfl)) (aG (az (i:=1) h rfl (lo rfl)) (aG (az (i:=2) h rfl (lo rfl)) cj)))))) (fun _ _ _ _ _=>ba) (fun _ _ _ _ _=>(aE (pv 1))))
  (ah (dP UT rfl (b6 (by rfl) Hc (aa (aP cJ (by rfl) Hr bt_len (af (ae (pv 1)) aq)))) (az (i:=3) dN.nd rfl (lo rfl))
  (aw (dF (QW.qt (pq (a9 (xI hr.units) (aa (aR (ae (pv 1)) (ae (pv 3)))) (aa ai) (bM _)) (lr (a9 (i9 hr.u65) (aa (aR (aa (aR (ae (pv 0)) (aa ai))) (ae (pv 3)))) (ae (pv 2)) (by with_unfolding_all rfl)))))
  (aw (aZ qu))
  br)))
  (aw (aZ (i5 rQ (aa (aO Kc hr.m (by rfl) (af (ae (pv 0)) (af (ae (pv 1)) aq)))) (aa lp) (bM _))))))
abbrev jj:Stmt:=top 44
theorem bq:FnScope ["_law_script","_law_chart","_law_net_here","_law_used","_law_rows_here","_law_beads","_law_takes","_law_gives","_law_row","_law_times","_law_number","_law_one","_law_other","_law_spoiled"] ["_law_script","_law_chart","_law_net_here"] (defScope jj):=fs
theorem p5(Df:Def K mg "_law_rows" jj)(GX:Ct P w K mg base "_law_cell_at" 1 (spF K ax))(Hl:Ct P w K mg base "_law_mixed" 1 (spF K aU))(Kk:mg "int" = none)(Hr:mg "len" = none)(Jy:mg "list" = none)(Hc:mg "range" = none)(Hb:mg "tuple" = none):Ct P w K mg base "_law_rows" 2 (spF K d5):=
 di Df bq (fun _ _ _ _ _ _=>AE fun _ _ _=>rfl) fun f Hs A outer s H E hr=>
  (ah (aI (i:=3) bq.nd rfl (lo rfl) (aW [none,none,none] ["_law_one","_law_move","_law_other"] rfl (a7 (c8 (aR (ae (pv 1)) (aa ai)))) (fun _ _ _ _ _=>(have h:=(show List.Nodup (["_law_one","_law_move","_law_other"]:List Str) from by decide +kernel);(dG rfl (aG (az (i:=0) h rfl (lo rfl)) (aG (az (i:=1) h rfl (lo rfl)) (aG (az (i:=2) h rfl (lo rfl)) cj)))))) (fun _ _ _ _ _=>ba) (fun _ _ _ _ _=>(aE (pv 1)))))
  (ah (aI (i:=4) bq.nd rfl (lo rfl) (cU aM))
  (ah (dP UT rfl (c8 (aR (ae (pv 2)) (aa ai))) (dG rfl (aG (az (i:=5) bq.nd rfl (lo rfl)) (aG (az (i:=6) bq.nd rfl (lo rfl)) (aG (az (i:=7) bq.nd rfl (lo rfl)) cj))))
  (ah (aI (i:=8) bq.nd rfl (lo rfl) (aW [none,some 7,some 6] ["_law_k","_law_gives","_law_takes"] rfl (a7 (b6 (by rfl) Hc (aa (aP cJ (by rfl) Hr bt_len (af (ae (pv 6)) aq))))) (fun _ _ _ _ _=>(az (i:=0) (show List.Nodup (["_law_k","_law_gives","_law_takes"]:List Str) from by decide +kernel) rfl (lo rfl))) (fun _ _ _ _ _=>ba) (fun _ _ _ _ _=>(aF jy (aa (aR (ae (pv 1)) (ae (pv 0)))) (aa (aR (ae (pv 2)) (ae (pv 0))))))))
  (ah (cB (bP (pv 4) (bx cp (by rfl) Hb cb (af (ae (pv 8)) aq))))
  (aw (cB (bP (pv 4) (bx cp (by rfl) Hb cb (af (aa (aW [none,some 8,some 1,some 3] ["_law_k","_law_row","_law_chart","_law_used"] rfl (a7 (b6 (by rfl) Hc (aa (aP cJ (by rfl) Hr bt_len (af (ae (pv 8)) aq))))) (fun _ _ _ _ _=>(az (i:=0) (show List.Nodup (["_law_k","_law_row","_law_chart","_law_used"]:List Str) from by decide +kernel) rfl (lo rfl))) (fun _ _ _ _ _=>ba) (fun _ _ _ _ _=>(aF dR (aa (aR (ae (pv 1)) (ae (pv 0)))) (aa (bx CK (by rfl) Kk Cc (af (aa (i5 (rX hr.u65) (aa (aR (aa (aR (ae (pv 2)) (aa ai))) (ae (pv 0)))) (ae (pv 3)) (by with_unfolding_all rfl))) aq))))))) aq))))))))
  (ah (aI (i:=9) bq.nd rfl (lo rfl) (aW [none,some 0] ["_law_k","_law_script"] rfl (a7 (b6 (by rfl) Hc (aa ai))) (fun _ _ _ _ _=>(az (i:=0) (show List.Nodup (["_law_k","_law_script"]:List Str) from by decide +kernel) rfl (lo rfl))) (fun _ _ _ _ _=>ba) (fun _ _ _ _ _=>(aF jy (aa (aF bD (aa (aO GX hr.m (by rfl) (af (ae (pv 1)) (af (aa (aF aK (aa ai) (ae (pv 0)))) aq)))) (aa (aF dR (aa ai) (aa (aF rM (aa ai) (aa ai))))))) (aa (aF rM (aa ai) (aa ai)))))))
  (ah (aI (i:=10) bq.nd rfl (lo rfl) (aO Hl hr.m (by rfl) (af (aa (aO GX hr.m (by rfl) (af (ae (pv 0)) (af (aa ai) aq)))) (af (aa ai) aq))))
  (ah (aI (i:=11) bq.nd rfl (lo rfl) (aR (ae (pv 4)) (aa (aF bD (ae (pv 10)) (aa (aP cJ (by rfl) Hr bt_len (af (ae (pv 4)) aq)))))))
  (ah (aI (i:=12) bq.nd rfl (lo rfl) (aR (ae (pv 4)) (aa (aF bD (aa (aF bY (ae (pv 10)) (aa ai))) (aa (aP cJ (by rfl) Hr bt_len (af (ae (pv 4)) aq)))))))
  (ah (cB (bP (pv 4) (bx cp (by rfl) Hb cb (af (aa (aW [none,some 9,some 11,some 12] ["_law_k","_law_times","_law_one","_law_other"] rfl (a7 (b6 (by rfl) Hc (aa (aP cJ (by rfl) Hr bt_len (af (ae (pv 11)) aq))))) (fun _ _ _ _ _=>(az (i:=0) (show List.Nodup (["_law_k","_law_times","_law_one","_law_other"]:List Str) from by decide +kernel) rfl (lo rfl))) (fun _ _ _ _ _=>ba) (fun _ _ _ _ _=>(aF aK (aa (aF dR (aa (aR (ae (pv 1)) (aa ai))) (aa (aR (ae (pv 2)) (ae (pv 0)))))) (aa (aF dR (aa (aR (ae (pv 1)) (aa ai))) (aa (aR (ae (pv 3)) (ae (pv 0)))))))))) aq))))
  (ah (aI (i:=13) bq.nd rfl (lo rfl) (bx vG (by rfl) Jy uM (af (aa (aR (ae (pv 4)) (aa (aF bD (aa (aF bY (ae (pv 10)) (aa ai))) (aa (aP cJ (by rfl) Hr bt_len (af (ae (pv 4)) aq))))))) aq)))
  (ah (Ay (pv 13) (aF bD (aa (aF bY (ae (pv 10)) (aa ai))) (aa (aP cJ (by rfl) Hr bt_len (af (ae (pv 13)) aq)))) (aF aK (aa ai) (aa (aF bD (aa (aO GX hr.m (by rfl) (af (ae (pv 0)) (af (aa ai) aq)))) (aa (aF rM (aa ai) (aa ai)))))))
  (aw (aZ (aF aK (ae (pv 4)) (aa (cU (au (bx cp (by rfl) Hb cb (af (ae (pv 13)) aq)) aM))))))))))))))))
abbrev fN:Stmt:=top 45
theorem cO:FnScope ["_law_chart","_law_row","_law_refused_here","_law_ask","e","_law_other"] ["_law_chart","_law_row"] (defScope fN):=fs
theorem l5(Df:Def K mg "_law_refused" fN){HI:Addr}{Ib:Addr}{HR:Addr}{Iz:Addr}{IC:Addr}{GR:Addr}{Ic:Addr}{Hx:Addr}{HJ:Addr}(Iy:CtX P w K mg base "beads_of" 5 GR (spX K GR cP))(La:CtX P w K mg base "place_of" 6 GR (spX K GR dW))(IV:Ct P w K mg base "beads_of" 5 (spF K eY))(LG:Ct P w K mg base "place_of" 6 (spF K iJ))(LH:mg "NetError" = some (.ref HI))(MX:mg "NoCase" = some (.ref Ib))(Mp:mg "NoChart" = some (.ref HR))(NS:mg "NoNet" = some (.ref Iz))(NT:mg "NoRun" = some (.ref IC))(MY:mg "NoText" = some (.ref Ic))(KD:mg "OtherMoves" = some (.ref Hx))(LI:mg "TooGreat" = some (.ref HJ))(He:PySem.W.kitOne K (.ref GR) (.type "ValueError")=some true)(GP:PySem.W.kitAny K (.ref GR) [.ref Ib,.ref HR,.ref Iz,.ref IC,.ref Ic,.ref Hx,.ref HJ]=some false)(Hh:PySem.W.kitOne K (.ref GR) (.ref HI)=some true)(Hv:Asks K GR)(Hu:O7 mg base "NoStretch" GR)(HL:mg "ValueError" = none)(Kk:mg "int" = none)(Hq:mg "isinstance" = none)(Hc:mg "range" = none):Ct P w K mg base "_law_refused" 7 (spF K cy):=
 di Df cO (fun _ _ _ _ _ _=>oI fun _ _=>rfl) fun f Hs A outer s H E hr=>
  (ah (aI (i:=2) cO.nd rfl (lo rfl) ai)
  (ah (dP UT rfl (b6 (by rfl) Hc (aa ai)) (az (i:=3) cO.nd rfl (lo rfl))
  (aw (AA (i:=4) (j:=5) (jc:=2) Hu (by rfl) (aw (dF (a9 (gk hr.units) (ae (pv 3)) (aa ai) (bM _))
  (aw (cB (aO IV hr.m (by rfl) (af (ae (pv 0)) (af (ae (pv 1)) aq)))))
  (aw (cB (aO LG hr.m (by rfl) (af (ae (pv 0)) (af (ae (pv 1)) aq))))))) (Di (a9 (gk hr.units) (ae (pv 3)) (aa ai) (bM _)) (r6 (vY Iy hr.m (by rfl) (af (ae (pv 0)) (af (ae (pv 1)) aq)))) (r6 (vY La hr.m (by rfl) (af (ae (pv 0)) (af (ae (pv 1)) aq))))) (fun a o vs h1 h2=>(Dj (j:=5) (jc:=2) cO.nd rfl (Or.inl rfl) (De Uq h1 h2 Hv (pv 4) (by rfl) Hq (pr_cons (by rfl) MX (pr_cons (by rfl) Mp (pr_cons (by rfl) NS (pr_cons (by rfl) NT (pr_cons (by rfl) MY (pr_cons (by rfl) KD (pr_cons (by rfl) LI pr_nil))))))) (by show(7:Nat)<=100;decide) GP) rfl (Or.inl rfl) (pv 2) (yR (Fc Uq h1 h2 Hv (pv 4) (by rfl) Hq (by rfl) LH Hh) (yR (Dc Uq h1 h2 Hv (pv 4) (by rfl) Hq (by rfl) HL (by decide +kernel) He) (C7 (C8 (C9 (pv 5)))))) (by rfl) Kk)) rfl rfl cO.nd rfl rfl rfl)))
  (aw (aZ (i5 (gk hr.units) (ae (pv 2)) (aa ai) (bM _))))))
abbrev oz:Stmt:=top 46
theorem l6:FnScope ["_law_script","_law_net_here","_law_chart","_law_handed","_law_row","_law_found"] ["_law_script"] (defScope oz):=fs
theorem Dl{f:Addr}{fd:FuncData}(F:Fun K "law" "law" oz f fd)(Jf:Ct P w K mg base "_law_bent_chart" 3 (spF K bg))(GX:Ct P w K mg base "_law_cell_at" 1 (spF K ax))(Jg:Ct P w K mg base "_law_is_stretch" 2 (spF K bC))(LJ:Ct P w K mg base "_law_net" 4 (spF K dY))(JZ:Ct P w K mg base "_law_refused" 7 (spF K cy))(Lb:Ct P w K mg base "_law_rows" 2 (spF K d5))(HF:Ct P w K mg base "_law_run" 2 (spF K bK))(HA:Ct P w K mg base "is_stretch" 4 (spF K aX))(KG:mg "bool" = none)(Hq:mg "isinstance" = none)(Jy:mg "list" = none):FnOk P w K mg base MI 8 f fd ["_law_script"] (spF K AD):=
 fnok_of F l6 fun Hs A outer s H E hr=>
  (ah (aI (i:=1) l6.nd rfl (lo rfl) (aO LJ hr.m (by rfl) (af (ae (pv 0)) (af (aa ai) aq))))
  (ah (aI (i:=2) l6.nd rfl (lo rfl) (cF (au (aR (ae (pv 1)) (aa ai)) (au (aR (aa (aO HF hr.m (by rfl) (af (ae (pv 1)) (af (aa ai) aq)))) (aa ai)) aM))))
  (ah (dF (a9 (gk hr.units) (aa (aF bD (aa (aF bY (aa (aO GX hr.m (by rfl) (af (ae (pv 0)) (af (aa ai) aq)))) (aa ai))) (aa ai))) (aa ai) (bM _))
  (aw (aI (i:=2) l6.nd rfl (lo rfl) (aO Jf hr.m (by rfl) (af (ae (pv 0)) (af (ae (pv 1)) (af (aa ai) aq))))))
  br)
  (ah (aI (i:=3) l6.nd rfl (lo rfl) (cF (au (aR (ae (pv 2)) (aa ai)) (au (bx vG (by rfl) Jy uM (af (aa (aR (ae (pv 2)) (aa ai))) aq)) aM))))
  (ah (dP UT rfl (c8 (aO Lb hr.m (by rfl) (af (ae (pv 0)) (af (ae (pv 2)) (af (ae (pv 1)) aq))))) (az (i:=4) l6.nd rfl (lo rfl))
  (ah (aI (i:=5) l6.nd rfl (lo rfl) (aO HA hr.m (by rfl) (af (ae (pv 3)) (af (ae (pv 4)) aq))))
  (ah (dF (QW.qt (z6 (pw (lq (E1 (T:="bool") (by decide) (ae (pv 5)) (by rfl) Hq (by rfl) KG zo))) (vz (a9 (xI hr.units) (ae (pv 5)) (aa (aO Jg hr.m (by rfl) (af (ae (pv 2)) (af (ae (pv 4)) aq)))) (bM _)))))
  (aw (aZ qu))
  br)
  (aw (dF (QW.qt (pq (pw (lq (aE (pv 5)))) (lr (pw (lq (aO JZ hr.m (by rfl) (af (ae (pv 3)) (af (ae (pv 4)) aq))))))))
  (aw (aZ qu))
  br)))))
  (aw (aZ (i5 (gk hr.units) (ae (pv 3)) (ae (pv 2)) (bM _)))))))))
end
end LW
namespace PV
open PySem L2 NX
class Cont (α β:Type) where
 run:α->Res β
def Res.bnd{α β:Type}[f:Cont α β](x:Res α):Res β:=x.bind f.run
theorem Ie{α β:Type}(a:α)(f:α->Res β):Res.bnd (Res.ok a) (f:=⟨f⟩)=f a:=id rfl
section
variable(env:PV.Env)(i n:Nat)(d:D)(f g:FX)(c c':FT)(fo RO fo'':FO)(fs:Ih)(fd:FDs)(s t:FS)(op op':D->D->Res R)(F:List D->Res R)(a:FG)(as:NM)(fi fj:FI)(fp G9:FP)(T:String)
theorem Pf:aH d env=.ok ((.f,d),env):=id rfl
theorem L7:aN i env=match env[i]? with|some (some r)=>.ok ((.f,r.2),env.set i (some (fz r.1,r.2)))|_=>.bad:=id rfl
theorem Q8:fz .f=.f:=id rfl
theorem Q9(c:O):fz (.l c)=.f:=id rfl
theorem Rb(cs:List O):fz (.t cs)=.f:=id rfl
theorem MZ(p:Addr):xD (.pin p .d)=true:=id rfl
theorem NU:mz i env=match env[i]? with|some (some r)=>.ok (r,env.set i none)|_=>.bad:=id rfl
theorem Pg:aj f env=Res.bnd (f env) (f:=⟨fun p=>.ok (.val p.1.2,p.2)⟩):=id rfl
theorem Ph:ao i env=match env[i]? with|some (some _)=>.ok (.var i,env)|_=>.bad:=id rfl
theorem NV:aA env=.ok ([],env):=id rfl
theorem M0:ag fo fs env=Res.bnd (fo env) (f:=⟨fun p=>Res.bnd (fs p.2) (f:=⟨fun q=>.ok (p.1::q.1,q.2)⟩)⟩):=id rfl
theorem NW:bH env=.ok ([],env):=id rfl
theorem M1:aJ f fd env=Res.bnd (f env) (f:=⟨fun p=>Res.bnd (fd p.2) (f:=⟨fun q=>.ok (p.1.2::q.1,q.2)⟩)⟩):=id rfl
theorem Pj:Iq env (.val d)=.ok d:=id rfl
theorem Pk:Iq env (.var i)=match env[i]? with|some (some r)=>if xD r.1 then .ok r.2 else .bad|_=>.bad:=id rfl
theorem NY:tq env (.val d)=.ok d:=id rfl
theorem NZ:tq env (.var i)=match env[i]? with|some (some r)=>.ok r.2|_=>.bad:=id rfl
theorem N1:pj env []=.ok []:=id rfl
theorem N2(o:Opd)(os:List Opd):pj env (o::os)=Res.bnd (Iq env o) (f:=⟨fun d=>Res.bnd (pj env os) (f:=⟨fun ds=>.ok (d::ds)⟩)⟩):=id rfl
theorem M3:jv env []=.ok []:=id rfl
theorem M4(o:Opd)(os:List Opd):jv env (o::os)=Res.bnd (tq env o) (f:=⟨fun d=>Res.bnd (jv env os) (f:=⟨fun ds=>.ok (d::ds)⟩)⟩):=id rfl
theorem N3:xD .f=true:=id rfl
theorem N4:xD (.l .f)=true:=id rfl
theorem N5:xD .d=true:=id rfl
theorem Pm:aB op fo RO env=Res.bnd (fo env) (f:=⟨fun p=>Res.bnd (RO p.2) (f:=⟨fun q=>Res.bnd (Iq q.2 p.1) (f:=⟨fun a=>Res.bnd (Iq q.2 q.1) (f:=⟨fun b=>Res.bnd (op a b) (f:=⟨fun r=>.ok (r,q.2)⟩)⟩)⟩)⟩)⟩):=id rfl
theorem N6:bE op fo RO env=Res.bnd (fo env) (f:=⟨fun p=>Res.bnd (RO p.2) (f:=⟨fun q=>Res.bnd (tq q.2 p.1) (f:=⟨fun a=>Res.bnd (tq q.2 q.1) (f:=⟨fun b=>Res.bnd (op a b) (f:=⟨fun r=>.ok (r,q.2)⟩)⟩)⟩)⟩)⟩):=id rfl
theorem Rc:HD f env=Res.bnd (f env) (f:=⟨fun p=>match p.1.2 with | .bl k=>.ok (k,p.2)|_=>.bad⟩):=id rfl
theorem Pn:zZ c c' env=Res.bnd (c env) (f:=⟨fun p=>if p.1 then c' p.2 else .ok (false,p.2)⟩):=id rfl
theorem Rf:QB c c' env=Res.bnd (c env) (f:=⟨fun p=>if p.1 then .ok (true,p.2) else c' p.2⟩):=id rfl
theorem Po:yC c env=Res.bnd (c env) (f:=⟨fun p=>.ok (!p.1,p.2)⟩):=id rfl
theorem Rg:QC f g env=Res.bnd (f env) (f:=⟨fun p=>match p.1.2 with | .bl true=>.ok ((.f,.bl true),p.2) | .bl false=>g p.2|_=>.bad⟩):=id rfl
theorem N7:aV F fs env=Res.bnd (fs env) (f:=⟨fun p=>Res.bnd (pj p.2 p.1) (f:=⟨fun ds=>Res.bnd (F ds) (f:=⟨fun r=>.ok (r,p.2)⟩)⟩)⟩):=id rfl
theorem Pp:cG F fs env=Res.bnd (fs env) (f:=⟨fun p=>Res.bnd (jv p.2 p.1) (f:=⟨fun ds=>Res.bnd (F ds) (f:=⟨fun r=>.ok (r,if cT r.1 r.2 then p.2 else p.2.map frz)⟩)⟩)⟩):=id rfl
theorem Pq:jl fd env=Res.bnd (fd env) (f:=⟨fun p=>if p.1.length<=1000 then .ok ((.f,.tup p.1),p.2) else .bad⟩):=id rfl
theorem Pr:kW fd env=Res.bnd (fd env) (f:=⟨fun p=>if p.1.length<=1000 then .ok ((.l .f,.lst p.1),p.2) else .bad⟩):=id rfl
theorem N8:tw env=.ok (none,env):=id rfl
theorem N9:lx f env=Res.bnd (f env) (f:=⟨fun p=>match p.1.2 with | .int i=>.ok (some i,p.2)|_=>.bad⟩):=id rfl
theorem Pt:nU i f env=if vF env i then(Res.bnd (f env) (f:=⟨fun(p:R×PV.Env)=>match p.2[i]? with
 |some (some (.l .f,.lst ds))=>if ds.length<sizeLine then .ok ((.f,.non),p.2.set i (some (.l .f,.lst (ds++[p.1.2])))) else .bad
 |_=>.bad⟩)) else .bad:=id rfl
theorem Oa:vF env i=match env[i]? with|some (some (_,.lst _))=>true|_=>false:=id rfl
theorem Rh:SQ T fo env=Res.bnd (fo env) (f:=⟨fun p=>Res.bnd (tq p.2 p.1) (f:=⟨fun d=>.ok ((.f,.bl (yH T d)),p.2)⟩)⟩):=id rfl
theorem Ob:Ae f g env=Res.bnd (f env) (f:=⟨fun p=>Res.bnd (g p.2) (f:=⟨fun q=>match(mn p.1.2).bind du,q.1.2 with|some ns,.int d=>.ok ((.f,.int (NX.maxD ns d)),q.2)|_,_=>.bad⟩)⟩):=id rfl
theorem Pu(gg:List Nat->List D->Res R):E2 gg fo fs env=Res.bnd (fo env) (f:=⟨fun p=>match Iq p.2 p.1 with
 | .ok (.str l)=>Res.bnd (fs p.2) (f:=⟨fun q=>Res.bnd (pj q.2 q.1) (f:=⟨fun ds=>Res.bnd (gg l ds) (f:=⟨fun r=>.ok (r,q.2)⟩)⟩)⟩)
 |_=>.bad⟩):=id rfl
theorem Oc(ix:List (Option Nat)):cx fi ix a c f env=Res.bnd (fi env) (f:=⟨fun p=>Res.bnd (cC a c f p.1 (fg ix p.2)) (f:=⟨fun ds=>if ds.length<=sizeLine then .ok ((.l .f,.lst ds),if flatDs ds then p.2 else p.2.map frz) else .bad⟩)⟩):=id rfl
theorem LK:fg [] env=[]:=id rfl
theorem LL(ix:List (Option Nat)):fg (none::ix) env=none::fg ix env:=id rfl
theorem LM(ix:List (Option Nat)):fg (some i::ix) env=(match env[i]? with|some (some r)=>some (O.f,r.2)|_=>none)::fg ix env:=id rfl
theorem M5:dD env=.ok (true,env):=id rfl
theorem M6:cC a c f [] env=.ok []:=id rfl
theorem Lc(ds:List D):cC a c f (d::ds) env=Res.bnd (a d env) (f:=⟨fun e=>Res.bnd (c e) (f:=⟨fun p=>if p.1 then(Res.bnd (f p.2) (f:=⟨fun q=>Res.bnd (cC a c f ds q.2) (f:=⟨fun rs=>.ok (q.1.2::rs)⟩)⟩)) else cC a c f ds p.2⟩)⟩):=id rfl
theorem Dm:Cw f env=Res.bnd (f env) (f:=⟨fun p=>match p.1.2 with | .lst ds=>.ok (ds,p.2)|_=>.bad⟩):=id rfl
theorem wb:gQ f env=Res.bnd (f env) (f:=⟨fun p=>match p.1.2 with | .tup ds=>.ok (ds,p.2)|_=>.bad⟩):=id rfl
theorem wc:gR f env=Res.bnd (f env) (f:=⟨fun p=>match p.1.2 with | .str l=>.ok (l.map fun c=>.str [c],p.2)|_=>.bad⟩):=id rfl
theorem qM:H0 fi fj env=match fi env with | .ok a=>.ok a|_=>fj env:=by
 unfold H0;cases fi env <;> rfl
theorem Pw:H0 (Cw f) (H0 (gQ f) (gR f)) env=Res.bnd (f env) (f:=⟨fun p=>match p.1.2 with
 | .lst ds=>.ok (ds,p.2)
 | .tup ds=>.ok (ds,p.2)
 | .str l=>.ok (l.map fun c=>.str [c],p.2)
 |_=>.bad⟩):=by
 rw[qM,qM,Dm,wb,wc];cases f env with
 |ok p=>
  obtain⟨⟨o,d⟩,e⟩:=p;cases d <;> rfl
 |exc c=>rfl
 |bad=>rfl
theorem Oe:H0 (iN i) (H0 (gQ (aN i)) (gR (aN i))) env=match env[i]? with
 |some (some (_,.lst ds))=>.ok (ds,env)
 |some (some (o,.tup ds))=>.ok (ds,env.set i (some (fz o,.tup ds)))
 |some (some (o,.str l))=>.ok (l.map fun c=>.str [c],env.set i (some (fz o,.str l)))
 |_=>.bad:=by
 rw[qM,qM,wb,wc,L7];unfold iN;cases env[i]? with
 |none=>rfl
 |some r=>
  cases r with
  |none=>rfl
  |some r=>
   obtain⟨o,d⟩:=r;cases d <;> rfl
theorem Kl:bL fo env=Res.bnd (fo env) (f:=⟨fun p=>Res.bnd (Iq p.2 p.1) (f:=⟨fun d=>match d with
 | .int j=>if -4611686018427387904<=j/\j<4611686018427387904 then .ok ((List.range j.toNat).map fun(k:Nat)=>D.int (k:Int),p.2) else .bad
 |_=>.bad⟩)⟩):=id rfl
theorem Mq:qv fs env=Res.bnd (fs env) (f:=⟨fun p=>Res.bnd (pj p.2 p.1) (f:=⟨fun d=>match d with
 |[.int i,.int j]=>if(-4611686018427387904<=i/\i<4611686018427387904)/\-4611686018427387904<=j/\j<4611686018427387904 then .ok ((List.range (j-i).toNat).map fun(k:Nat)=>D.int (i+(k:Int)),p.2) else .bad
 |_=>.bad⟩)⟩):=id rfl
theorem oA(k1 k2:Bool):tu k1 k2 fs env=Res.bnd (fs env) (f:=⟨fun p=>match p.1 with
 |[.val d1,.val d2]=>Res.bnd (jZ k1 d1) (f:=⟨fun a=>Res.bnd (jZ k2 d2) (f:=⟨fun b=>.ok ((a.zip b).map fun z=>D.tup [z.1,z.2],p.2)⟩)⟩)
 |_=>.bad⟩):=id rfl
theorem IH:ay i d env=if i<env.length then .ok (env.set i (some (.f,d))) else .bad:=id rfl
theorem Of:b7 [] env=.ok env:=id rfl
theorem Ig(ds:List D):aD a as (d::ds) env=Res.bnd (a d env) (f:=⟨fun e=>as ds e⟩):=id rfl
theorem LN(ds:List D):fS n as (.tup ds) env=if ds.length=n then as ds env else .bad:=id rfl
theorem IW:sSeq s t env=Res.bnd (s env) (f:=⟨fun o=>match o with | .nx e=>t e|o=>.ok o⟩):=id rfl
theorem Og:dh env=.ok (.nx env):=id rfl
theorem Px:bQ i f env=Res.bnd (f env) (f:=⟨fun p=>if i<p.2.length then .ok (.nx (p.2.set i (some p.1))) else .bad⟩):=id rfl
theorem Oh:fI f env=Res.bnd (f env) (f:=⟨fun p=>.ok (.nx p.2)⟩):=id rfl
theorem Py:eI f env=Res.bnd (f env) (f:=⟨fun p=>.ok (.rt p.1)⟩):=id rfl
theorem Ri:II c s t env=Res.bnd (c env) (f:=⟨fun p=>if p.1 then s p.2 else t p.2⟩):=id rfl
theorem M7:mC fi a s env=Res.bnd (fi env) (f:=⟨fun p=>kM a s p.1 p.2⟩):=id rfl
theorem jk(ds:List D):kM a s (d::ds) env=Res.bnd (a d env) (f:=⟨fun e=>Res.bnd (s e) (f:=⟨fun o=>match o with
 | .nx e=>kM a s ds e
 | .ct e=>kM a s ds e
 | .bk e=>.ok (.nx e)
 | .rt r=>.ok (.rt r)⟩)⟩):=id rfl
theorem jS:cZ c s (n+1) env=Res.bnd (c env) (f:=⟨fun p=>if p.1 then(Res.bnd (s p.2) (f:=⟨fun o=>match o with
  | .nx e=>cZ c s n e
  | .ct e=>cZ c s n e
  | .bk e=>.ok (.nx e)
  | .rt r=>.ok (.rt r)⟩)) else .ok (.nx p.2)⟩):=id rfl
theorem Pz:CO i f g env=Res.bnd (g env) (f:=⟨fun(p:R×PV.Env)=>Res.bnd (f p.2) (f:=⟨fun(q:R×PV.Env)=>match p.2[i]?,q.2[i]? with
 |some (some _),some (some (.d,.dct tk ks vs))=>if ft tk q.1.2&&decide (ks.length<sizeLine) then .ok (.nx (q.2.set i (some (.d,.dct tk (qA ks vs q.1.2 p.1.2).1 (qA ks vs q.1.2 p.1.2).2)))) else .bad
 |_,_=>.bad⟩)⟩):=id rfl
theorem PB:Eb f a env=Res.bnd (f env) (f:=⟨fun p=>Res.bnd (a p.1.2 p.2) (f:=⟨fun e=>.ok (.nx e)⟩)⟩):=id rfl
theorem bj(ds:List D)(nn:Nat)(h:ds.length=n):fBody n nn s ds=Res.bnd (s (ds.map (fun d=>some (O.f,d))++List.replicate nn none)) (f:=⟨fun o=>match o with
 | .rt r=>.ok r
 | .nx _=>.ok (.f,.non)
 |_=>.bad⟩):=by
 unfold fBody;rw[Ut h];all_goals cases s (ds.map (fun d=>some (O.f,d))++List.replicate nn none) with
 |ok o=>cases o <;> rfl
 |exc c=>rfl
 |bad=>rfl
end
theorem line_le{n:Nat}(h:n<=16777216):n<=sizeLine:=by rw[line_eq];exact h
section
variable(a b:Int)(x y:List Nat)(p q:Bool)(ds es:List D)
theorem Fe:Ir (.int a) (.int b)=.ok (.f,.bl (a==b)):=by simp only[Ir,plainD,eqD,Wo,WN]
theorem Ff:Ir (.str x) (.str y)=.ok (.f,.bl (x==y)):=by simp only[Ir,plainD,eqD,Wo,WN]
theorem Fg:Mn (.int a) (.int b)=.ok (.f,.bl (!(a==b))):=by simp only[Mn,plainD,eqD,Wo,WN]
theorem Dn:pA (.int a) (.int b)=.ok (.f,.int (a-b)):=id rfl
theorem AH:dO (.int a) (.int b)=if 0<b/\b<1073741824 then .ok (.f,.int (a / b)) else .bad:=id rfl
theorem Dp:eW (.int a) (.int b)=if 0<b then .ok (.f,.int (a%b)) else .bad:=id rfl
theorem Dq:qw (.int a) (.int b)=if 0<=b/\b<=1000000/\a.natAbs<2 ^ 64 then .ok (.f,.int (a ^ b.toNat)) else .bad:=id rfl
theorem Fh:Mx (.int a) (.int b)=.ok (.f,.bl (decide (a<b))):=id rfl
theorem Fi:RK (.int a) (.int b)=.ok (.f,.bl (decide (b<a))):=id rfl
theorem Dr:g5 [.lst ds]=.ok (.f,.int ds.length):=id rfl
theorem Ds:g5 [.tup ds]=.ok (.f,.int ds.length):=id rfl
theorem Dt(tk:Bool):g5 [.dct tk ds es]=.ok (.f,.int ds.length):=id rfl
theorem AI:tF [.lst ds]=.ok (.l .f,.lst ds):=id rfl
theorem AJ:tF [.tup ds]=.ok (.l .f,.lst ds):=id rfl
theorem xU:dt [.lst ds]=.ok (.f,.tup ds):=id rfl
theorem Du:Bu [.bl p]=.ok (.f,.int (if p then 1 else 0)):=id rfl
theorem Fj:Hf (.lst ds) (.int a)=match Ik ds a with|some d=>.ok (.f,d)|none=>.bad:=id rfl
theorem AK:Hf (.tup ds) (.int a)=match Ik ds a with|some d=>.ok (.f,d)|none=>.bad:=id rfl
theorem Fl:Hf (.str x) (.int a)=match Ik x a with|some c=>.ok (.f,.str [c])|none=>.bad:=id rfl
theorem Dv:maxD [.int a,.int b]=.ok (.f,.int (if a<b then b else a)):=id rfl
theorem Dw(bs:List Bool):CD [.lst (bs.map D.bl)]=.ok (.f,.bl (bs.all id)):=by
 unfold CD;show(match mD (bs.map D.bl) with|some bs=>_|none=>_)=_;rw[pB]
theorem SV{α:Type}(d:α)(l:List α):Ik (d::l) 0=some d:=by
 have:=e9 (xs:=d::l) (j:=0) (v:=d) rfl;simpa using this
theorem SW{α:Type}(c d:α)(l:List α):Ik (c::d::l) 1=some d:=by
 have:=e9 (xs:=c::d::l) (j:=1) (v:=d) rfl;simpa using this
end
theorem GY(l:List Int):flatDs (l.map D.int)=true:=by
 rw[bB,Vi,UE];intro b _;rfl
theorem oB(l:List Bool):flatDs (l.map D.bl)=true:=by
 rw[bB,Vi,UE];intro b _;rfl
theorem flat_strs(l:List (List Nat)):flatDs (l.map D.str)=true:=by
 rw[bB,Vi,UE];intro b _;rfl
theorem iq(d:D):cT .f d=cY d:=by rw[cT]
theorem sd(ds:List D):cT (.l .f) (.lst ds)=flatDs ds:=by rw[cT,nP]
theorem gF(i:Int):cY (.int i)=true:=by rw[cY];all_goals simp
theorem l7(i:Bool):cY (.bl i)=true:=by rw[cY];all_goals simp
theorem cS(ds:List D):cY (.tup ds)=flatDs ds:=by rw[cY]
theorem j9(n:Nat)(l:List Int):plainDs n (l.map D.int)=true:=by
 induction l with
 |nil=>rfl
 |cons a l ih=>rw[UH,plainDs,ih,plainD];all_goals simp
theorem m7(n:Nat)(l:List (List Nat)):plainDs n (l.map D.str)=true:=by
 induction l with
 |nil=>rfl
 |cons a l ih=>rw[UH,plainDs,ih,plainD];all_goals simp
theorem eqDs_ints:∀a b:List Int,j3 (a.map D.int) (b.map D.int)=(a==b)
 |[],[]=>by simp[j3]
 |[],_::_=>by simp[j3]
 |_::_,[]=>by simp[j3]
 |a::r,b::t=>by
  rw[UH,UH,j3,eqD,eqDs_ints r t,UP];simp
theorem xV(a:Int)(l:List Int):ua (.int a) (l.map D.int)=decide (a∈l):=by
 unfold ua;rw[VY,UP,U8,UL];constructor
 ·rintro⟨x,hx,e⟩;have e:eqD (.int x) (.int a)=true:=e;rw[eqD,UQ]at e;rw[<-e];exact hx
 ·intro h;refine⟨a,h,?_⟩;show eqD (.int a) (.int a)=true;rw[eqD,Ve]
theorem xW(a:List Nat)(l:List (List Nat)):ua (.str a) (l.map D.str)=decide (a∈l):=by
 unfold ua;rw[VY,UP,U8,UL];constructor
 ·rintro⟨x,hx,e⟩;have e:eqD (.str x) (.str a)=true:=e;rw[eqD,UQ]at e;rw[<-e];exact hx
 ·intro h;refine⟨a,h,?_⟩;show eqD (.str a) (.str a)=true;rw[eqD,Ve]
theorem yU(a:Int)(l:List Int):Mv (.int a) (.lst (l.map D.int))=.ok (.f,.bl (decide (a∈l))):=by
 unfold Mv;dsimp only;rw[j9,xV,plainD];all_goals simp
theorem AL(a:Int)(l:List Int):ub (.int a) (.lst (l.map D.int))=.ok (.f,.bl (!decide (a∈l))):=by
 unfold ub;rw[yU];rfl
theorem bo{α:Type}{a:FG}{f:FX}{e:α->D}{r:α->D}(I:PV.Env->Prop)(l:List α)
  (h:∀x∈l,∀env,I env->∃GQ,a (e x) env=.ok GQ/\∃o Iw,f GQ=.ok ((o,r x),Iw)/\I Iw):∀env,I env->cC a dD f (l.map e) env=.ok (l.map r):=by
 induction l with
 |nil=>intro env _;rfl
 |cons x l ih=>
  intro env hI;obtain⟨GQ,h1,o,Iw,h4,h5⟩:=h x Uq env hI;have ih:=ih fun y hy=>h y (Uy _ hy)
  rw[UH,Lc,h1,Ie,M5,Ie,Ut rfl,h4,Ie,ih Iw h5];rfl
theorem AM{a:FG}{g:FS}(P:Nat->PV.Env->Prop)(ds:List D)(h:∀i d env,ds[i]?=some d->P i env->∃GQ,a d env=.ok GQ/\∃Ha,(g GQ=.ok (.nx Ha)\/g GQ=.ok (.ct Ha))/\P (i+1) Ha):
  ∀env,P 0 env->∃env',kM a g ds env=.ok (.nx env')/\P ds.length env':=by
 have key:∀(l:List D) (k:Nat) (env:PV.Env),(∀i d,l[i]?=some d->ds[k+i]?=some d)->P k env->∃env',kM a g l env=.ok (.nx env')/\P (k+l.length) env':=by
  intro l;induction l with
  |nil=>exact fun k env _ hp=>⟨env,rfl,hp⟩
  |cons d l ih=>
   intro k env hd hp;obtain⟨GQ,h1,Ha,h2,h3⟩:=h k d env (hd 0 d rfl) hp;obtain⟨env',h4,h5⟩:=ih (k+1) Ha (fun i d e=>by have:=hd (i+1) d (by simpa using e);rw[show k+1+i=k+(i+1) by lia];exact this) h3;refine⟨env',?_,by rw[UI,show k+(l.length+1)=k+1+l.length by lia];exact h5⟩;rw[jk,h1,Ie];rcases h2 with h2|h2
   ·rw[h2,Ie];exact h4
   ·rw[h2,Ie];exact h4
 intro env hp;obtain⟨env',h1,h2⟩:=key ds 0 env (fun i d e=>by rw[Yj];exact e) hp;exact⟨env',h1,by rw[Yj]at h2;exact h2⟩
section
variable(env:PV.Env)(fo:FO)(fp G9:FP)(a b:Int)(ds:List D)(x:List Nat)
theorem PD:An fo fp G9 env=Res.bnd (fo env) (f:=⟨fun p=>Res.bnd (fp p.2) (f:=⟨fun q=>Res.bnd (G9 q.2) (f:=⟨fun t=>Res.bnd (Iq t.2 p.1) (f:=⟨fun d=>Res.bnd (QY d q.1 t.1) (f:=⟨fun r=>.ok (r,t.2)⟩)⟩)⟩)⟩)⟩):=id rfl
theorem Dx(lo hi:Option Int):QY (.lst ds) lo hi=.ok (.l .f,.lst (jz ds lo hi)):=id rfl
theorem Dy(lo hi:Option Int)(h:HT.sIx ds.length 0 lo=0/\HT.sIx ds.length ds.length hi=ds.length):jz ds lo hi=ds:=by
 unfold jz;rw[h.1,h.2,Yu,Nat.sub_zero,V4 (Ur _)]
theorem oC:Ak (.int a) (.int b)=if cE a||cE b then .ok (.f,.int (a*b)) else if a.natAbs<2 ^ 1000/\b.natAbs<2 ^ 1000 then .ok (.f,.int (a*b)) else .bad:=id rfl
end
section
variable(env:PV.Env)(fo:FO)(fs:Ih)(f g:FX)(a b c:Int)(ds es:List D)(x y:List Nat)
theorem PF(gg:List D->List D->Res R):xN gg fo fs env=Res.bnd (fo env) (f:=⟨fun p=>Res.bnd (Iq p.2 p.1) (f:=⟨fun d=>match d with
 | .tup _=>Res.bnd (fs p.2) (f:=⟨fun q=>Res.bnd (Iq q.2 p.1) (f:=⟨fun d2=>match d2 with
  | .tup l=>Res.bnd (pj q.2 q.1) (f:=⟨fun ds=>Res.bnd (gg l ds) (f:=⟨fun r=>.ok (r,q.2)⟩)⟩)
  |_=>.bad⟩)⟩)
 |_=>.bad⟩)⟩):=id rfl
theorem FN(d:D):(∃l,jZ true d=.ok l/\jZ false d=.bad/\mn d=some l)\/(∃l,jZ true d=.bad/\jZ false d=.ok l/\mn d=some l)\/(jZ true d=.bad/\jZ false d=.bad/\mn d=none):=by
 cases d with
 |lst l=>exact .inl ⟨l,rfl,rfl,rfl⟩
 |tup l=>exact .inr (.inl ⟨l,rfl,rfl,rfl⟩)
 |_=>exact .inr (.inr ⟨rfl,rfl,rfl⟩)
def xX(k1 k2:Bool)(e:PV.Env)(d1 d2:D):Res (List D×PV.Env):=(jZ k1 d1).bind fun a=>(jZ k2 d2).bind fun b=>.ok ((a.zip b).map fun z=>D.tup [z.1,z.2],e)
def Fm(e:PV.Env)(d1 d2:D):Res (List D×PV.Env):=match mn d1,mn d2 with|some a,some b=>.ok ((a.zip b).map fun z=>D.tup [z.1,z.2],e)|_,_=>.bad
def OI(a b:Res (List D×PV.Env)):Res (List D×PV.Env):=match a with | .ok a=>.ok a|_=>b
def wW(g:D->D->Res (List D×PV.Env))(os:List Opd):Res (List D×PV.Env):=match os with|[.val d1,.val d2]=>g d1 d2|_=>.bad
theorem qN(g h:D->D->Res (List D×PV.Env))(os:List Opd):OI (wW g os) (wW h os)=wW (fun a b=>OI (g a b) (h a b)) os:=by
 unfold wW;split <;> rfl
theorem AN(e:PV.Env)(a b:D):OI (xX true true e a b) (OI (xX true false e a b) (OI (xX false true e a b) (xX false false e a b)))=Fm e a b:=by
 unfold xX Fm;rcases FN a with⟨l,h1,h2,h3⟩|⟨l,h1,h2,h3⟩|⟨h1,h2,h3⟩ <;> rcases FN b with⟨m,i1,i2,i3⟩|⟨m,i1,i2,i3⟩|⟨i1,i2,i3⟩ <;> rw[h1,h2,h3,i1,i2,i3] <;> rfl
theorem Oi:pJ fs env=Res.bnd (fs env) (f:=⟨fun p=>match p.1 with
 |[.val d1,.val d2]=>(match mn d1,mn d2 with|some a,some b=>.ok ((a.zip b).map fun z=>D.tup [z.1,z.2],p.2)|_,_=>.bad)
 |_=>.bad⟩):=by
 unfold pJ;rw[qM,qM,qM,oA,oA,oA,oA];cases fs env with
 |ok p=>
  show OI (wW (xX true true p.2) p.1) (OI (wW (xX true false p.2) p.1) (OI (wW (xX false true p.2) p.1) (wW (xX false false p.2) p.1)))=wW (Fm p.2) p.1;rw[qN,qN,qN];exact VC (fun g=>wW g p.1) (funext fun a=>funext fun b=>AN p.2 a b)
 |_=>rfl
theorem Oj:mn (.lst ds)=some ds:=id rfl
theorem Ol:mn (.tup ds)=some ds:=id rfl
theorem Om(i:Nat):vQ i f g env=Res.bnd (g env) (f:=⟨fun(p:R×PV.Env)=>Res.bnd (f p.2) (f:=⟨fun(q:R×PV.Env)=>match p.2[i]?,q.2[i]? with
 |some (some _),some (some (.l .f,.lst ds))=>(match q.1.2 with
  | .int k=>(match ixN ds.length k with
   |some j=>.ok (.nx (q.2.set i (some (.l .f,.lst (ds.set j p.1.2)))))
   |none=>.bad)
  |_=>.bad)
 |_,_=>.bad⟩)⟩):=id rfl
theorem qO:gS (.int a) (.int b)=Ak (.int a) (.int b):=id rfl
theorem M8:rV f g env=Res.bnd (f env) (f:=⟨fun p=>Res.bnd (g p.2) (f:=⟨fun q=>if ft false p.1.2 then .ok ((.d,.dct false [p.1.2] [q.1.2]),q.2) else .bad⟩)⟩):=id rfl
theorem Dz(d:D):MW d (.lst ds)=Mv d (.lst ds):=id rfl
theorem AO(d:D):uc d (.lst ds)=ub d (.lst ds):=id rfl
theorem DA:ft false (.int a)=true:=id rfl
theorem DB:ft false (.str x)=true:=id rfl
theorem DD:CZ [.int a,.int b]=.ok (.f,.int (if b<a then b else a)):=id rfl
theorem AQ:cK (.int a) (.int b)=.ok (.f,.int (a+b)):=id rfl
theorem AR:cK (.str x) (.str y)=if x.length+y.length<=sizeLine then .ok (.f,.str (x++y)) else .bad:=id rfl
theorem we:cK (.lst ds) (.lst es)=if ds.length+es.length<=sizeLine then .ok (.l .f,.lst (ds++es)) else .bad:=id rfl
theorem AS:cK (.tup ds) (.tup es)=if ds.length+es.length<=sizeLine\/ds=[] then .ok (.f,.tup (ds++es)) else .bad:=by
 unfold cK;cases ds with
 |nil=>rw[Ut (.inr rfl)];rfl
 |cons d ds=>
  dsimp only;unfold addD;dsimp only;by_cases h:(d::ds).length+es.length<=sizeLine
  ·rw[Ut ⟨nofun,h⟩,Ut (.inl h)]
  ·rw[UD (fun z=>h z.2),UD (fun z=>z.elim h nofun)]
end
section
variable(env:PV.Env)(f g:FX)(ds ks:List D)(i:Nat)
end
section
variable(env:PV.Env)(f:FX)(fs:Ih)(ds:List D)(i:Nat)
end
noncomputable def pv:=(Zz @Ie (Zz @Pf (Zz @L7 (Zz @NU (Zz @Pg (Zz @Ph (Zz @NV (Zz @M0 (Zz @NW (Zz @M1 (Zz @Pj (Zz @Pk (Zz @NY (Zz @NZ (Zz @N1 (Zz @N2 (Zz @M3 (Zz @M4 (Zz @N3 (Zz @N4 (Zz @N5 (Zz @Pm (Zz @N6 (Zz @Rc (Zz @Pn (Zz @Rf (Zz @Po (Zz @Rg (Zz @N7 (Zz @Pp (Zz @Pq (Zz @Pr (Zz @PD (Zz @N8 (Zz @N9 (Zz @Pt (Zz @Oa (Zz @Rh (Zz @Ob (Zz @Pu (Zz @Oc (Zz @LK (Zz @LL (Zz @LM (Zz @M5 (Zz @M6 (Zz @Lc (Zz @Pw (Zz @Oe (Zz @Kl (Zz @Mq (Zz @IH (Zz @Of (Zz @Ig (Zz @LN (Zz @IW (Zz @Og (Zz @Px (Zz @Oh (Zz @Py (Zz @Ri (Zz @M7 (Zz @Pz (Zz @PB (Zz @List.getElem?_cons_zero.{0} (Zz @List.getElem?_cons_succ.{0} (Zz @List.set_cons_zero.{0} (Zz @List.set_cons_succ.{0} (Zz @List.length_cons.{0} (Zz @List.length_nil.{0} (Zz @List.map_cons.{0,0} (Zz @List.map_nil.{0,0} (Zz @List.replicate_succ.{0} (Zz @List.replicate_zero.{0} (Zz @List.cons_append.{0} (Zz @List.nil_append.{0} (Zz @Nat.zero_add (Zz @PF (Zz @Oi (Zz @Oj (Zz @Ol (Zz @Om (Zz @M8 (Zz @Q8 (Zz @Q9 (Zz @Rb @MZ))))))))))))))))))))))))))))))))))))))))))))))))))))))))))))))))))))))))))))))))))))))
noncomputable def op:=(Zz @Fe (Zz @Ff (Zz @Fg (Zz @Dn (Zz @Fh (Zz @Fi (Zz @Dr (Zz @Ds (Zz @Dt (Zz @AI (Zz @AJ (Zz @xU (Zz @Du (Zz @Fj (Zz @AK (Zz @Fl (Zz @Dx (Zz @Dv (Zz @SV (Zz @SW (Zz @AL (Zz @Dw (Zz @iq (Zz @sd (Zz @gF (Zz @l7 (Zz @GY (Zz @PV.flat_strs (Zz @cS (Zz @DD (Zz @AQ (Zz @qO (Zz @Dz (Zz @AO (Zz @DA @DB)))))))))))))))))))))))))))))))))))
theorem dV(n:Nat)(w:PV.Env):(∃d,Iq w (.var n)=.ok d)\/Iq w (.var n)=.bad:=by
 unfold Iq;dsimp only;split
 ·split
  ·exact .inl ⟨_,rfl⟩
  ·exact .inr rfl
 ·exact .inr rfl
section
variable(w:PV.Env)(op:D->D->Res R)(F:List D->Res R)(f g h:FX)(n n' n'':Nat)(x y:D)
end
section
variable(a b c d e g h i j k l m:Option R)(z:PV.Env)(r:R)(o:O)(x:D){ρ:Type}
end
end PV
namespace LW
open PySem L2 NX PV
theorem for_list{α:Type}{a:FG}{g:FS}{e:α->D}(l:List α)(P:Nat->PV.Env->Prop)
  (h:∀k x env,l[k]?=some x->P k env->∃GQ,a (e x) env=.ok GQ/\∃Ha,g GQ=.ok (.nx Ha)/\P (k+1) Ha):∀env,P 0 env->∃env',kM a g (l.map e) env=.ok (.nx env')/\P l.length env':=by
 intro env h0;have:=AM (a:=a) (g:=g) P (l.map e) (fun i d env hi hp=>by
  rw[List.getElem?_map,UX]at hi;obtain⟨x,hx,rfl⟩:=hi;obtain⟨GQ,h1,Ha,h2,h3⟩:=h i x env hx hp;exact⟨GQ,h1,Ha,.inl h2,h3⟩) env h0
 rwa [Um]at this
theorem oD{a:FG}{g:FS}{e:Nat->D}(n:Nat)(P:Nat->PV.Env->Prop)
  (h:∀k env,k<n->P k env->∃GQ,a (e k) env=.ok GQ/\∃Ha,g GQ=.ok (.nx Ha)/\P (k+1) Ha):∀env,P 0 env->∃env',kM a g ((List.range n).map e) env=.ok (.nx env')/\P n env':=by
 intro env h0;have:=for_list (a:=a) (g:=g) (e:=e) (List.range n) P (fun k x env hk hp=>by
  obtain⟨h1,h2⟩:=List.getElem?_eq_some_iff.mp hk;rw[UM]at h1;rw[YQ]at h2;subst h2;exact h k env h1 hp) env h0
 rwa [UM]at this
abbrev LNN:=List (List Nat)
theorem bc{α β:Type}{l:List α}(f:α->β):(l.map f).length=l.length:=Um f
theorem gG:(false=true)=False:=VE
theorem jV{α:Type}{l:List α}{i:Nat}{a:α}(h:l[i]?=some a):∃h:i<l.length,l[i]=a:=List.getElem?_eq_some_iff.mp h
theorem mq{α:Type}{l:List α}{i:Nat}(h:i<l.length):l[i]?=some l[i]:=List.getElem?_eq_getElem h
theorem fD{α β:Type}{f:α->β}{a:α}{l:List α}:(a::l).map f=f a::l.map f:=UH
theorem ka{α:Type}{a b:α}(h:a∈[b]):a=b:=UJ.mp h
theorem kO{α β:Type}{f:α->β}{l:List α}{b:β}(h:b∈l.map f):∃a,a∈l/\f a=b:=UY.mp h
theorem kc{α:Type}{a:α}{s t:List α}(h:a∈s++t):a∈s\/a∈t:=U5.mp h
theorem iO{α:Type}{s t:List α}:(s++t).length=s.length+t.length:=Vb
theorem av{s t:FS}{env env':PV.Env}(h:s env=.ok (.nx env')):sSeq s t env=t env':=by rw[IW,h,Ie]
theorem aQ{ds:List D}(h:ds.length<=16777216):ds.length<=sizeLine:=line_le h
theorem fZ{l:List Int}{k:Nat}(h:k<l.length):Ik (l.map D.int) (k:Int)=some (.int (l.getD k 0)):=e9 (by rw[List.getElem?_map,List.getD_eq_getElem?_getD,mq h];rfl)
theorem wg{l:LNN}{k:Nat}(h:k<l.length):Ik (l.map D.str) (k:Int)=some (.str l[k]):=e9 (by rw[List.getElem?_map,mq h];rfl)
theorem at2{α:Type}(a b c:α):Ik [a,b,c] (2:Int)=some c:=rfl
theorem e7:∀l:LNN,fU (l.map D.str)=some l
 |[]=>rfl
 |a::l=>by
  rw[fD,fU,e7 l];rfl
theorem qP(x y:D)(t1 t2:Option R)(cH:PV.Env):fS 2 (aD (ay 0) (aD (ay 1) b7)) (.tup [x,y]) (t1::t2::cH)=.ok (some (.f,x)::some (.f,y)::cH):=by
 rw[LN,Ut (by simp),Ig,IH,Ut (by simp),Ie,Ig,IH,Ut (by simp),Ie];rfl
theorem ir{α:Type}(lt:α->α->Bool)(l:List α):(bZ lt l).length=l.length:=(eX lt l).length_eq
theorem wj(l:LNN)(h:l.length<64):fJ [.lst (l.map D.str)]=.ok (.l .f,.lst ((bZ L1 l).map D.str)):=by
 unfold fJ;dsimp only;rw[Ut (by rw[bc];exact h)];unfold lD;cases l with
 |nil=>rfl
 |cons a l=>
  have e:du ((a::l).map D.str)=none:=rfl;rw[e,e7]
def Kd:List Nat:=[97,98,99,100,101,102,103,104,105,106,107,108,109,110,111,112,113,114,115,116,117,118,119,120,121,122]
theorem DE(j:Nat)(h:j<26):Kd[j]?=some (97+j):=by
 have:∀j:_root_.Fin 26,Kd[j.1]?=some (97+j.1):=by decide
 exact this ⟨j,h⟩
theorem DF(j:Int)(h0:0<=j)(h:j<26):Ik Kd j=some (97+j.toNat):=by
 obtain⟨n,rfl⟩:=UN h0;exact e9 (DE n (by lia))
theorem eE(x b:Int)(h:0<b):0<=x%b/\x%b<b:=⟨Int.emod_nonneg _ (by lia),Int.emod_lt_of_pos _ h⟩
theorem Fn(n:Nat)(h:n<=200):qw (.int 10) (.int (n:Int))=.ok (.f,.int (10 ^ n)):=by
 rw[Dq,Ut (by lia),U2]
theorem gT(x b:Int)(h:0<b):eW (.int x) (.int b)=.ok (.f,.int (x%b)):=by rw[Dp,Ut h]
theorem eU(x b:Int)(h:0<b)(h2:b<1073741824):dO (.int x) (.int b)=.ok (.f,.int (x / b)):=by rw[AH,Ut ⟨h,h2⟩]
theorem GC(x y:Int)(h:cE y=true):gS (.int x) (.int y)=.ok (.f,.int (x*y)):=by rw[qO,oC,h,Bool.or_true,Ut rfl]
theorem GD(x y:List Nat)(h:x.length+y.length<=1000):cK (.str x) (.str y)=.ok (.f,.str (x++y)):=by rw[AR,Ut (line_le (by lia))]
theorem oE{α:Type}(l:List α)(k:Nat):jz l none (some (k:Int))=l.take k:=by
 unfold jz;rw[HT.qZ,HT.ni,Yu,Nat.sub_zero];by_cases h:k<=l.length
 ·rw[Xn h]
 ·rw[Nat.min_eq_right (by lia),V4 (Ur _),V4 (by lia)]
theorem xY{α:Type}(l:List α)(k:Nat):jz l (some (k:Int)) none=l.drop k:=by
 unfold jz;rw[HT.qZ,HT.ni];by_cases h:k<=l.length
 ·rw[Xn h,V4 (by rw[Wq];exact Ur _)]
 ·rw[Nat.min_eq_right (by lia),X4 (Ur _),X4 (by lia),List.take_nil]
theorem iu{α:Type}(f:Nat->α)(n:Nat)(h:∀i j,i<n->j<n->f i=f j->i=j):((List.range n).map f).Nodup:=by
 rw[WB,W2];refine List.pairwise_lt_range.imp_of_mem fun{a b} ha hb hl e=>?_
 have:=h a b (UR.mp ha) (UR.mp hb) e;lia
theorem DG(j:Int)(h0:0<=j)(h:j<=1000)(fo:FO)(env env':PV.Env)(o:Opd)(e1:fo env=.ok (o,env'))(e2:Iq env' o=.ok (.int j)):bL fo env=.ok ((List.range j.toNat).map fun(k:Nat)=>D.int (k:Int),env'):=by
 rw[Kl,e1,Ie];dsimp only;rw[e2,Ie];dsimp only;rw[Ut (by lia)]
theorem AU{α:Type}(l:List α)(a b:Nat)(h:a<=b)(hb:b<=l.length):jz l (some (a:Int)) (some (b:Int))=(l.drop a).take (b-a):=by
 unfold jz;rw[HT.ni,HT.ni,Xn hb,Xn (Vh h hb)]
theorem Fo(x y:Int)(h:cE x=true):gS (.int x) (.int y)=.ok (.f,.int (x*y)):=by rw[qO,oC,h,Xp,Ut rfl]
theorem l8(x:Int)(h:-1000000<=x)(h2:x<=1000000):cE x=true:=by
 unfold cE;rw[UL];lia
theorem wm(d:D)(h:plainD 40 d=true):Ir d d=.ok (.f,.bl true):=by
 unfold Ir;rw[h,jB d 40 h];rfl
theorem wo(d:D)(h:plainD 40 d=true):Mn d d=.ok (.f,.bl false):=by
 unfold Mn;rw[h,jB d 40 h];rfl
theorem xZ(l:List Int):plainD 40 (.tup (l.map D.int))=true:=by
 rw[plainD,j9]
theorem wq(n k:Nat)(h:k<n):ixN n (k:Int)=some k:=by
 unfold ixN;rw[Ut (by lia),Ut (by lia)];rfl
theorem DH(l:List Int):CG [.lst (l.map D.int)]=.ok (.f,.int l.sum):=by
 unfold CG;dsimp only;have:(mn (D.lst (l.map D.int))).bind du=some l:=mS l;rw[this]
theorem isB(b:Bool):yH "bool" (.bl b)=true:=rfl
theorem isT(ds:List D):yH "tuple" (.tup ds)=true:=rfl
theorem jT{c:FT}{g:FS}(P:Nat->PV.Env->Prop)(fin:PV.Env->Prop)(h:∀k env,P k env->(∃GQ,c env=.ok (false,GQ)/\fin GQ)\/(∃GQ,c env=.ok (true,GQ)/\∃Ha k',g GQ=.ok (.nx Ha)/\k'<k/\P k' Ha)):
  ∀n k env,k<n->P k env->∃env',cZ c g n env=.ok (.nx env')/\fin env'
 | 0,k,env,hk,_=>absurd hk (WU _)
 |n+1,k,env,hk,hp=>by
  rcases h k env hp with⟨GQ,h1,h2⟩|⟨GQ,h1,Ha,k',h2,h3,h4⟩
  ·exact⟨GQ,by rw[jS,h1,Ie];rfl,h2⟩
  ·obtain⟨env',e,hf⟩:=jT P fin h n k' Ha (by lia) h4;refine⟨env',?_,hf⟩;rw[jS,h1,Ie];dsimp only;rw[Ut rfl,h2,Ie];exact e
theorem AV{α β:Type}(f:α->β)(l:List α)(lo hi:Option Int):jz (l.map f) lo hi=(jz l lo hi).map f:=by
 unfold jz;rw[bc,<-List.map_drop,<-WV]
theorem f7{α:Type}{l:List α}(h:l.length<=100000):l.length<sizeLine:=UB (Wr _) (line_le (by lia))
section
variable(env:PV.Env)(f:FX)(fs:Ih)(fo:FO)
theorem Ec(r:R):frz (some r)=some (.f,r.2):=id rfl
theorem Ed:frz none=none:=id rfl
theorem sf(gg:List D->List D->Res R):C3 gg fo fs env=Res.bnd (fo env) (f:=⟨fun p=>Res.bnd (Iq p.2 p.1) (f:=⟨fun d=>match d with
 | .lst _=>Res.bnd (fs p.2) (f:=⟨fun q=>Res.bnd (Iq q.2 p.1) (f:=⟨fun d2=>match d2 with
  | .lst l=>Res.bnd (pj q.2 q.1) (f:=⟨fun ds=>Res.bnd (gg l ds) (f:=⟨fun r=>.ok (r,q.2)⟩)⟩)
  |_=>.bad⟩)⟩)
 |_=>.bad⟩)⟩):=id rfl
end
theorem o_isnT(ds:List D):isnO (.tup ds) .non=.ok (.f,.bl true):=id rfl
theorem si:isnO .non .non=.ok (.f,.bl false):=id rfl
abbrev GZ:=Int×List Nat×Int
def eA(a:GZ):D:=.tup [.int a.1,.str a.2.1,.int a.2.2]
abbrev Nd:=Int×LNN
def met(T:List GZ):List Int:=0::T.map (·.2.2)
def tU(c:Int)(T:List GZ)(a:GZ):List GZ:=if a.1=c/\a.2.2∉met T then T++[a] else T
inductive Run(ap:List GZ):Nat->List GZ->Prop where
 |z:Run ap 0 []
 |s {i:Nat}{T:List GZ}{c:Int}:Run ap i T->(met T)[i]?=some c->Run ap (i+1) (ap.foldl (tU c) T)
theorem Run.before{ap:List GZ}:∀{j:Nat}{T:List GZ},Run ap j T->∀i,i<j->∃T',Run ap i T'/\i<(met T').length
 | 0,_,_,i,h=>absurd h (WU _)
 |j+1,_,.s r h,i,hi=>by
  by_cases e:i=j
  ·subst e;exact⟨_,r,(jV h).1⟩
  ·exact Run.before r i (by lia)
structure Bfs(ap:List GZ)(i:Nat)(pre:List GZ)(N:List Nd)(T:List GZ):Prop where
 z:N[0]?=some (0,[])
 len:N.length=T.length+1
 nd:(N.map (·.1)).Nodup
 bd:∀n∈N,0<=n.1/\n.1<12
 tr:∀(j:Nat) (a:GZ),T[j]?=some a->a∈ap/\∃(k:Nat) (n:Nd),k<=j/\N[k]?=some n/\a.1=n.1/\N[j+1]?=some (a.2.2,n.2++[a.2.1])
 mono:∀(j k:Nat) (n m:Nd),j<=k->N[j]?=some n->N[k]?=some m->n.2.length<=m.2.length
 top:∀n∈N,∀c:Nd,N[i]?=some c->n.2.length<=c.2.length+1
 clo:∀k,k<i->∀n:Nd,N[k]?=some n->∀a∈ap,a.1=n.1->∃m∈N,m.1=a.2.2/\m.2.length<=n.2.length+1
 cur:∀a∈pre,∀c:Nd,N[i]?=some c->a.1=c.1->∃m∈N,m.1=a.2.2/\m.2.length<=c.2.length+1
 nm:N.map (·.1)=met T
theorem Bfs.start(ap:List GZ):Bfs ap 0 [] [(0,[])] []:=by
 refine⟨rfl,rfl,US.mpr ⟨U9,Vm⟩,fun n hn=>?_,fun j a h=>by simp at h,fun j k n m _ h1 h2=>?_,fun n hn c hc=>?_,fun k hk=>absurd hk (WU _),(fun a ha=>nomatch ha),rfl⟩
 ·rw[ka hn];exact⟨Int.le_refl _,by decide⟩
 ·rw[ka (Uw h1)];exact U6 _
 ·rw[ka hn];exact U6 _
theorem gH{α:Type}{l:List α}{x:α}{j:Nat}{y:α}(h:l[j]?=some y):(l++[x])[j]?=some y:=by
 rw[List.getElem?_append_left (jV h).1];exact h
theorem e8{α:Type}{l:List α}{x:α}{j:Nat}{y:α}(h:(l++[x])[j]?=some y):l[j]?=some y\/(j=l.length/\y=x):=by
 by_cases hj:j<l.length
 ·rw[List.getElem?_append_left hj]at h;exact .inl h
 ·rw[List.getElem?_append_right (by lia)]at h;by_cases e:j-l.length=0
  ·rw[e]at h;exact .inr ⟨by lia,by simpa using h.symm⟩
  ·rw[List.getElem?_eq_none (by simp;lia)]at h;cases h
theorem Bfs.skip{ap:List GZ}{i:Nat}{pre:List GZ}{N:List Nd}{T:List GZ}(b:Bfs ap i pre N T){a:GZ}{c:Nd}(hc:N[i]?=some c)(h:a.1≠c.1\/a.2.2∈N.map (·.1)):Bfs ap i (pre++[a]) N T:=by
 refine⟨b.z,b.len,b.nd,b.bd,b.tr,b.mono,b.top,b.clo,fun x hx c' JR e=>?_,b.nm⟩;rcases kc hx with hx|hx
 ·exact b.cur x hx c' JR e
 ·rw[ka hx]at e ⊢;rw[hc]at JR;cases JR;rcases h with h|h
  ·exact absurd e h
  ·obtain⟨m,hm,em⟩:=kO h;exact⟨m,hm,em,b.top m hm c hc⟩
theorem Bfs.take{ap:List GZ}{i:Nat}{pre:List GZ}{N:List Nd}{T:List GZ}(b:Bfs ap i pre N T){a:GZ}{c:Nd}(hc:N[i]?=some c)(ha:a∈ap)(NH:0<=a.2.2/\a.2.2<12)(h1:a.1=c.1)(h2:a.2.2∉N.map (·.1)):Bfs ap i (pre++[a]) (N++[(a.2.2,c.2++[a.2.1])]) (T++[a]):=by
 have hi:=(jV hc).1;have L0:(c.2++[a.2.1]).length=c.2.length+1:=by rw[iO];rfl
 have up:∀{x:Int}{B:Nat},(∃m∈N,m.1=x/\m.2.length<=B)->∃m∈N++[(a.2.2,c.2++[a.2.1])],m.1=x/\m.2.length<=B:=fun⟨m,hm,q⟩=>⟨m,UA _ hm,q⟩
 refine⟨gH b.z,by rw[iO,iO,b.len];rfl,?_,fun n hn=>?_,fun j x hx=>?_,fun j k n m hjk hn hm=>?_,fun n hn c' JR=>?_,fun k hk n hn x hx e=>?_,fun x hx c' JR e=>?_,by unfold met;rw[Uv,Uv,b.nm];rfl⟩
 ·rw[Uv,U3];refine⟨b.nd,US.mpr ⟨U9,Vm⟩,fun x hx y hy=>?_⟩;have:y=a.2.2:=by simpa using hy
  rw[this];rintro rfl;exact h2 hx
 ·rcases kc hn with hn|hn
  ·exact b.bd n hn
  ·rw[ka hn];exact NH
 ·rcases e8 hx with hx|⟨rfl,rfl⟩
  ·obtain⟨q,k,n,hk,hn,e,MH⟩:=b.tr j x hx;exact⟨q,k,n,hk,gH hn,e,gH MH⟩
  ·refine⟨ha,i,c,?_,gH hc,h1,?_⟩
   ·have:=b.len;lia
   ·rw[<-b.len,List.getElem?_append_right (Ur _),Yk];rfl
 ·rcases e8 hn with hn|⟨rfl,rfl⟩
  ·rcases e8 hm with hm|⟨rfl,rfl⟩
   ·exact b.mono j k n m hjk hn hm
   ·show n.2.length<=(c.2++[a.2.1]).length;rw[L0];exact b.top n (Uw hn) c hc
  ·rcases e8 hm with hm|⟨rfl,rfl⟩
   ·have:=(jV hm).1;lia
   ·exact Ur _
 ·have:c'=c:=by
   rw[gH hc]at JR;exact(UU JR).symm
  subst this;rcases kc hn with hn|hn
  ·exact b.top n hn c' hc
  ·rw[ka hn];exact Ya L0
 ·rcases e8 hn with hn|⟨rfl,rfl⟩
  ·exact up (b.clo k hk n hn x hx e)
  ·lia
 ·have:c'=c:=by
   rw[gH hc]at JR;exact(UU JR).symm
  subst this;rcases kc hx with hx|hx
  ·exact up (b.cur x hx c' hc e)
  ·rw[ka hx];exact⟨_,Us _ Uq,rfl,Ya L0⟩
theorem Bfs.next{ap:List GZ}{i:Nat}{N:List Nd}{T:List GZ}(b:Bfs ap i ap N T){c:Nd}(hc:N[i]?=some c):Bfs ap (i+1) [] N T:=by
 refine⟨b.z,b.len,b.nd,b.bd,b.tr,b.mono,fun n hn c' JR=>?_,fun k hk n hn a ha e=>?_,(fun a ha=>nomatch ha),b.nm⟩
 ·have h1:=b.top n hn c hc;have h2:=b.mono i (i+1) c c' (Wy _) hc JR;lia
 ·by_cases hki:k=i
  ·subst hki;rw[hc]at hn;cases hn;exact b.cur a ha c hc e
  ·exact b.clo k (by lia) n hn a ha e
theorem kZ:∀(n:Nat) {l:List Int},l.Nodup->(∀x∈l,0<=x/\x<(n:Int))->l.length<=n
 | 0,l,_,hb=>by
  cases l with
  |nil=>exact Ur _
  |cons a l=>have:=hb a Uq;lia
 |n+1,l,nd,hb=>by
  have h1:=kZ n (l:=l.erase (n:Int)) (nd.erase _) fun x hx=>by
   have h2:=(nd.mem_erase_iff.mp hx)
   have h3:=hb x h2.2;have h4:=h2.1;lia
  have:=List.length_erase_le (a:=(n:Int)) (l:=l);have h5:l.length<=(l.erase (n:Int)).length+1:=by
   by_cases hm:(n:Int)∈l
   ·rw[XE hm];have:=X5 hm;lia
   ·rw[List.erase_of_not_mem hm];lia
  lia
theorem Bfs.le12{ap:List GZ}{i:Nat}{pre:List GZ}{N:List Nd}{T:List GZ}(b:Bfs ap i pre N T):N.length<=12:=by
 have:=kZ 12 b.nd fun x hx=>by
  obtain⟨n,hn,rfl⟩:=kO hx;exact b.bd n hn
 rw[bc]at this;exact this
theorem wt(ap:List GZ)(i:Nat)(pre:List GZ)(N:List Nd)(T:List GZ)(b:Bfs ap i pre N T)(c:Nd)(hc:N[i]?=some c)(a:GZ)(ha:a∈ap)(NH:0<=a.2.2/\a.2.2<12):
  ∃N' T',T'=tU c.1 T a/\Bfs ap i (pre++[a]) N' T'/\N'[i]?=some c/\fG [some (.f,.lst (ap.map eA)),some (.l .f,.lst ((N.map (·.1)).map D.int)),some (.l .f,.lst (T.map eA)),some (.f,.int (i:Int)),some (.f,eA a)]=.ok (.nx [some (.f,.lst (ap.map eA)),some (.l .f,.lst ((N'.map (·.1)).map D.int)),some (.l .f,.lst (T'.map eA)),some (.f,.int (i:Int)),some (.f,eA a)]):=by
 have RP:=b.le12;have HN:=(jV hc).1;have K4:Ik ((N.map (·.1)).map D.int) (i:Int)=some (.int c.1):=e9 (by rw[List.getElem?_map,List.getElem?_map,hc];rfl);have z1:((N.map (·.1)).map D.int).length<sizeLine:=f7 (by rw[bc,bc];lia);have z2:(T.map eA).length<sizeLine:=f7 (by rw[bc];have:=b.len;lia);unfold fG eA;by_cases h1:a.1=c.1
 ·by_cases h2:a.2.2∈N.map (·.1)
  ·refine⟨N,T,by unfold tU;rw[UD (by rw[<-b.nm];exact fun z=>z.2 h2)],b.skip hc (.inr h2),hc,?_⟩;have e1:(a.1==c.1)=true:=UQ.mpr h1;simp only[pv,seval,op,K4,e1,at2,h2,Wc,Vu,gG]
  ·refine⟨_,_,by unfold tU;rw[Ut (by rw[<-b.nm];exact⟨h1,h2⟩)],b.take hc ha NH h1 h2,gH hc,?_⟩;have e1:(a.1==c.1)=true:=UQ.mpr h1;have e:(fun a:GZ=>D.tup [D.int a.1,D.str a.2.1,D.int a.2.2])=eA:=rfl;rw[e] at *;simp only[pv,seval,op,K4,e1,at2,h2,VS,Vn,z1,z2,Uv];rfl
 ·refine⟨N,T,by unfold tU;rw[UD (fun z=>h1 z.1)],b.skip hc (.inl h1),hc,?_⟩;have e1:(a.1==c.1)=false:=U7.mpr h1;simp only[pv,seval,op,K4,e1,gG]
theorem wu(ap:List GZ)(hl:ap.length<=1000)(hb:∀a∈ap,0<=a.2.2/\a.2.2<12):∃N T,Bfs ap N.length [] N T/\Run ap N.length T/\c5 [.lst (ap.map eA)]=.ok (.l .f,.lst (T.map eA)):=by
 unfold c5 pQ;rw[bj (h:=by rfl)];rw[av (env':=[some (.f,.lst (ap.map eA)),some (.l .f,.lst [.int 0]),none,none,none]) (by simp only[pv,seval,op])];rw[av (env':=[some (.f,.lst (ap.map eA)),some (.l .f,.lst [.int 0]),some (.l .f,.lst []),none,none]) (by simp only[pv,seval,op])];rw[av (env':=[some (.f,.lst (ap.map eA)),some (.l .f,.lst [.int 0]),some (.l .f,.lst []),some (.f,.int 0),none]) (by simp only[pv,seval,op])];obtain⟨env',ew,N,T,i,t4,b,hi,LO,rfl⟩:=jT (c:=(HD (aB Mx (ao 3) (aj (aV g5 (ag (ao 1) aA)))))) (g:=g7)
  (fun k env=>∃N T i t4,Bfs ap i [] N T/\i<=N.length/\Run ap i T/\k=13-i/\env=[some (.f,.lst (ap.map eA)),some (.l .f,.lst ((N.map (·.1)).map D.int)),some (.l .f,.lst (T.map eA)),some (.f,.int ((i:Nat):Int)),t4]) (fun env=>∃N T i t4,Bfs ap i [] N T/\i=N.length/\Run ap i T/\env=[some (.f,.lst (ap.map eA)),some (.l .f,.lst ((N.map (·.1)).map D.int)),some (.l .f,.lst (T.map eA)),some (.f,.int ((i:Nat):Int)),t4]) (by
  rintro k env ⟨N,T,i,t4,b,hi,LO,rfl,rfl⟩;have RP:=b.le12;by_cases HN:i<N.length
  ·refine .inr ⟨[some (.f,.lst (ap.map eA)),some (.l .f,.lst ((N.map (·.1)).map D.int)),some (.l .f,.lst (T.map eA)),some (.f,.int ((i:Nat):Int)),t4],?_,?_⟩
   ·have:(i:Int)<(N.length:Int):=by lia
    simp only[pv,seval,op,bc,this,Wc]
   ·obtain⟨c,hc⟩:∃c,N[i]?=some c:=⟨N[i],mq HN⟩
    have Rj:=Run.s LO (c:=c.1) (by rw[<-b.nm,List.getElem?_map,hc];rfl);obtain⟨env',ef,N',T',SX,b',JR,eT,rfl⟩:=for_list (a:=ay 4) (g:=fG) (e:=eA) ap (fun j env=>∃N T2 t4,Bfs ap i (ap.take j) N T2/\N[i]?=some c/\T2=(ap.take j).foldl (tU c.1) T/\env=[some (.f,.lst (ap.map eA)),some (.l .f,.lst ((N.map (·.1)).map D.int)),some (.l .f,.lst (T2.map eA)),some (.f,.int ((i:Nat):Int)),t4]) (by
     rintro j a env hj ⟨N,T2,t4,b,hc,eT,rfl⟩;have My:=Uw hj;obtain⟨N',T',eT',b',JR,e⟩:=wt ap i _ N T2 b c hc a My (hb a My);have ht:ap.take (j+1)=ap.take j++[a]:=by rw[Vf,hj];rfl
     exact⟨_,rfl,_,e,N',T',some (.f,eA a),by rw[ht];exact b',JR,by rw[eT',eT,ht,XA];rfl,rfl⟩) _ ⟨N,T,t4,by rw[Wt];exact b,hc,by rw[Wt];rfl,rfl⟩
    rw[Vl]at b' eT;have hlt':=(jV JR).1;refine⟨_,13-(i+1),?_,by lia,N',T',i+1,SX,b'.next JR,by lia,by rw[eT];exact Rj,rfl,rfl⟩;unfold g7;rw[av (env':=_) (by
     unfold lM;simp only[pv,seval,op];exact ef)]
    unfold ku;simp only[pv,seval,op,Yl,Xq]
  ·refine .inl ⟨_,?_,N,T,i,t4,b,by lia,LO,rfl⟩;have:¬ (i:Int)<(N.length:Int):=by lia
   simp only[pv,seval,op,bc,this,VS]) 100000 13 _ (by decide) ⟨[(0,[])],[],0,none,Bfs.start ap,U6 _,.z,rfl,rfl⟩
 subst hi;rw[av (env':=_) (by
  unfold lN;exact ew)]
 unfold kx;exact⟨N,T,b,LO,by simp only[pv,seval,op]⟩
def G0(nY:LNN)(ap:List GZ):D:=.tup [.tup (nY.map D.str),.lst (ap.map eA)]
theorem qQ(a:GZ)(t1 t2 t3:Option R)(cH:PV.Env):fS 3 (aD (ay 0) (aD (ay 1) (aD (ay 2) b7))) (eA a) (t1::t2::t3::cH)=.ok (some (.f,.int a.1)::some (.f,.str a.2.1)::some (.f,.int a.2.2)::cH):=by
 unfold eA;rw[LN,Ut (by simp),Ig,IH,Ut (by simp),Ie,Ig,IH,Ut (by simp),Ie,Ig,IH,Ut (by simp),Ie];rfl
theorem yV(l:List Int):(mn (.lst (l.map D.int))).bind du=some l:=mS l
def l9(a:GZ):Int:=if a.1<a.2.2 then a.2.2 else a.1
def bu(ap:List GZ):Int:=1+NX.maxD (ap.map l9) 0
theorem x6{α:Type}{f:α->D}{l:List α}(h:∀a,cY (f a)=true):flatDs (l.map f)=true:=by
 rw[bB,Vi,UE];intro a _;exact h a
theorem qR(nY:LNN)(ap:List GZ)(hl:ap.length<=16777216):dS [G0 nY ap]=.ok (.f,.int (bu ap)):=by
 unfold dS lK;rw[bj (h:=by rfl)];simp only[pv,seval,op,G0];rw[bo (r:=fun a:GZ=>D.int (l9 a)) (fun env=>∃t1 t2 t3,env=[t1,t2,t3]) ap ?_ _ ⟨_,_,_,rfl⟩]
 ·rw[Ie,Ut (aQ (by rw[bc];exact hl)),Ie,x6 fun a=>gF _];simp only[pv,seval,op];have e:(some (ap.map fun a=>D.int (l9 a))).bind du=some (ap.map l9):=by
   have:=yV (ap.map l9);rw[UC]at this;exact this
  rw[e];rfl
 ·rintro a _ env ⟨t1,t2,t3,rfl⟩;refine⟨_,qQ a t1 t2 t3 _,?_⟩;simp only[pv,seval,op];exact⟨_,_,rfl,_,_,_,rfl⟩
def sj(n:Nd):D:=.tup (n.2.map D.str)
theorem qS:∀(N:List Nd) (k:Nat) (n:Nd),(N.map (·.1)).Nodup->N[k]?=some n->getD (N.map fun n=>D.int n.1) (N.map sj) (.int n.1)=some (sj n)
 |[],_,_,_,h=>by simp at h
 |m::N,0,n,_,h=>by
  simp at h;subst h;unfold getD;rw[fD,fD,VF,List.find?_cons_of_pos (by show eqD (.int m.1) (.int m.1)=true;rw[eqD];exact Ve _)];rfl
 |m::N,k+1,n,nd,h=>by
  rw[List.getElem?_cons_succ]at h;rw[fD,US]at nd;have ih:=qS N k n nd.2 h;unfold getD at ih ⊢;have Mt:n.1≠m.1:=fun e=>nd.1 (by rw[<-e];exact UY.mpr ⟨n,Uw h,rfl⟩)
  rw[fD,fD,VF,List.find?_cons_of_neg (by show ¬ eqD (.int n.1) (.int m.1)=true;rw[eqD,UQ];exact Mt)];exact ih
theorem AW(N:List Nd)(n:Nd)(h:n.1∉N.map (·.1)):qA (N.map fun n=>D.int n.1) (N.map sj) (.int n.1) (sj n)=((N++[n]).map (fun n=>D.int n.1),(N++[n]).map sj):=by
 have e:(N.map fun n=>D.int n.1).any (eqD (.int n.1))=false:=by
  rw[VY,XF];intro m hm;show ¬ eqD (.int n.1) (.int m.1)=true;rw[eqD,UQ];intro e;exact h (by rw[e];exact UY.mpr ⟨m,hm,rfl⟩)
 unfold qA;rw[e,UD Up,Uv,Uv];rfl
theorem AX(a:GZ):cY (eA a)=true:=rfl
theorem ke(as:List GZ):flatDs (as.map eA)=true:=by
 rw[bB,Vi,UE];exact fun p _=>AX p
theorem FQ(w:LNN)(m:List Nat)(h:w.length<=1000):cK (.tup (w.map D.str)) (.tup [.str m])=.ok (.f,.tup ((w++[m]).map D.str)):=by
 rw[AS,Ut (.inl (line_le (by rw[bc,UI,VR];lia))),Uv];rfl
structure Found(ap:List GZ)(N:List Nd):Prop where
 z:N[0]?=some (0,[])
 nd:(N.map (·.1)).Nodup
 le:N.length<=12
 bd:∀n∈N,0<=n.1/\n.1<12
 wl:∀n∈N,n.2.length<=12
 par:∀n∈N,n=(0,[])\/∃a∈ap,∃m∈N,a.1=m.1/\n=(a.2.2,m.2++[a.2.1])
 clo:∀n∈N,∀a∈ap,a.1=n.1->∃m∈N,m.1=a.2.2/\m.2.length<=n.2.length+1
theorem Bfs.wlen{ap:List GZ}{i:Nat}{pre:List GZ}{N:List Nd}{T:List GZ}(b:Bfs ap i pre N T):∀(j:Nat) (n:Nd),N[j]?=some n->n.2.length<=j:=by
 intro j;induction j using Nat.strongRecOn with
 |_ j ih=>
  intro n hn;cases j with
  |zero=>
   rw[b.z]at hn;cases hn;exact Ur _
  |succ j=>
   have HN:=(jV hn).1;have hl:=b.len;obtain⟨_,k,m,hk,hm,_,MH⟩:=b.tr j T[j] (mq (by lia));rw[hn]at MH;cases MH;have:=ih k (by lia) m hm;show(m.2++[_]).length<=_;rw[iO,UI,VR];lia
theorem Bfs.found{ap:List GZ}{N:List Nd}{T:List GZ}(b:Bfs ap N.length [] N T):Found ap N:=by
 refine⟨b.z,b.nd,b.le12,b.bd,fun n hn=>?_,fun n hn=>?_,fun n hn a ha e=>?_⟩
 ·obtain⟨j,hj⟩:=U0.mp hn;have:=b.wlen j n hj;have:=(jV hj).1;have:=b.le12;lia
 ·obtain⟨j,hj⟩:=U0.mp hn;cases j with
  |zero=>
   rw[b.z]at hj;cases hj;exact .inl rfl
  |succ j=>
   have HN:=(jV hj).1;have hl:=b.len;obtain⟨ha,k,m,hk,hm,e,MH⟩:=b.tr j T[j] (mq (by lia));rw[hj]at MH;cases MH;exact .inr ⟨_,ha,m,Uw hm,e,rfl⟩
 ·obtain⟨j,hj⟩:=U0.mp hn;exact b.clo j (jV hj).1 n hj a ha e
def wayOf(N:List Nd)(s:Int):LNN:=((N.find? fun n=>n.1==s).map (·.2)).getD []
theorem jU{N:List Nd}(nd:(N.map (·.1)).Nodup){n:Nd}(h:n∈N):wayOf N n.1=n.2:=by
 unfold wayOf;induction N with
 |nil=>cases h
 |cons m N ih=>
  rw[fD,US]at nd;rcases Ux.mp h with rfl|h
  ·rw[List.find?_cons_of_pos (by exact Ve _)];rfl
  ·have Mt:m.1≠n.1:=fun e=>nd.1 (by rw[e];exact UY.mpr ⟨n,h,rfl⟩)
   rw[List.find?_cons_of_neg (by simpa using Mt)];exact ih nd.2 h
theorem wx(nY:LNN)(ap:List GZ)(hl:ap.length<=1000)(hb:∀a∈ap,0<=a.2.2/\a.2.2<12)(all:∀N,Found ap N->∀s:Int,0<=s->s<bu ap->s∈N.map (·.1))(hs:0<=bu ap/\bu ap<=100):
  ∃N T,Bfs ap N.length [] N T/\Run ap N.length T/\c5 [.lst (ap.map eA)]=.ok (.l .f,.lst (T.map eA))/\cN [G0 nY ap]=.ok (.l .f,.lst ((List.range (bu ap).toNat).map fun(s:Nat)=>.tup ((wayOf N (s:Int)).map D.str))):=by
 obtain⟨N,T,b,LO,et⟩:=wu ap hl hb;refine⟨N,T,b,LO,et,?_⟩;have F:=b.found;unfold cN pR;rw[bj (h:=by rfl)];rw[av (env':=[some (.f,G0 nY ap),some (.d,.dct false [.int 0] [.tup []]),none,none,none]) (by simp only[pv,seval,op])];have hlen:=b.len;have RP:=F.le;obtain⟨env',ef,t2,t3,t4,rfl⟩:=for_list (a:=fS 3 (aD (ay 2) (aD (ay 3) (aD (ay 4) b7)))) (g:=g8) (e:=eA) T (fun j env=>∃t2 t3 t4,env=[some (.f,G0 nY ap),some (.d,.dct false ((N.take (j+1)).map fun n=>D.int n.1) ((N.take (j+1)).map sj)),t2,t3,t4]) (by
  rintro j a env hj ⟨t2,t3,t4,rfl⟩;refine⟨[some (.f,G0 nY ap),some (.d,.dct false ((N.take (j+1)).map fun n=>D.int n.1) ((N.take (j+1)).map sj)),some (.f,.int a.1),some (.f,.str a.2.1),some (.f,.int a.2.2)],rfl,_,?_,some (.f,.int a.1),some (.f,.str a.2.1),some (.f,.int a.2.2),rfl⟩;obtain⟨_,k,n,hk,hn,e,MH⟩:=b.tr j a hj;have ht:N.take (j+1+1)=N.take (j+1)++[(a.2.2,n.2++[a.2.1])]:=by rw[Vf,MH];rfl
  have ndt:((N.take (j+1)).map (·.1)).Nodup:=by rw[WV];exact F.nd.take
  have O6:(N.take (j+1))[k]?=some n:=by rw[List.getElem?_take_of_lt (by lia)];exact hn
  have hg:=qS (N.take (j+1)) k n ndt O6;have NP:a.2.2∉(N.take (j+1)).map (·.1):=by
   have T3:((N.take (j+1+1)).map (·.1)).Nodup:=by rw[WV];exact F.nd.take
   rw[ht,Uv,U3]at T3;intro hm;exact T3.2.2 _ hm a.2.2 (by simp) rfl
  have hp:=AW (N.take (j+1)) (a.2.2,n.2++[a.2.1]) NP;have hw:=F.wl n (Uw hn);have ha:=FQ n.2 a.2.1 (by lia);have hd:K3 (.dct false ((N.take (j+1)).map fun n=>D.int n.1) ((N.take (j+1)).map sj)) (.int a.1)=.ok (.f,.tup (n.2.map D.str)):=by
   unfold K3;dsimp only;rw[Ut (show ft false (.int a.1)=true from rfl),e,hg];rfl
  have hz:(decide (((N.take (j+1)).map fun n=>D.int n.1).length<sizeLine))=true:=UW (f7 (by rw[bc,U4];lia));unfold sj at hp;dsimp only at hp;have ew:(fun n:Nd=>D.tup (n.2.map D.str))=sj:=rfl;rw[ew]at hp;rw[ht];unfold g8;simp only[pv,seval,op,hd,ha,hz,Wo,hp]) _ ⟨none,none,none,rfl⟩
 rw[show N.take (T.length+1)=N by rw[<-hlen];exact Vl]at ef;have h0:N.take (0+1)=[(0,[])]:=by rw[Vf,F.z];rfl
 rw[h0]at ef;rw[av (env':=_) (by
  unfold lO;unfold G0 at ef ⊢;simp only[pv,seval,op,et,ke];exact ef)]
 clear ef;unfold ky;have Lp:=qR nY ap (by lia);have hc:cC (ay 0) dD (aB K3 (ao 1) (ao 0)) ((List.range (bu ap).toNat).map fun(k:Nat)=>D.int (k:Int)) [none,some (.f,.dct false (N.map fun n=>D.int n.1) (N.map sj))]=.ok ((List.range (bu ap).toNat).map fun(s:Nat)=>.tup ((wayOf N (s:Int)).map D.str)):=by
  refine bo (r:=fun s:Nat=>D.tup ((wayOf N (s:Int)).map D.str)) (fun env=>∃t1,env=[t1,some (.f,.dct false (N.map fun n=>D.int n.1) (N.map sj))]) (List.range (bu ap).toNat) ?_ _ ⟨_,rfl⟩;rintro s Ln env ⟨t1,rfl⟩;rw[UR]at Ln;obtain⟨n,hn,en⟩:=kO (all N F (s:Int) (by lia) (by lia));obtain⟨k,hk⟩:=U0.mp hn;have hd:K3 (.dct false (N.map fun n=>D.int n.1) (N.map sj)) (.int (s:Int))=.ok (.f,.tup ((wayOf N (s:Int)).map D.str)):=by
   unfold K3;dsimp only;rw[Ut (show ft false (.int (s:Int))=true from rfl),<-en,qS N k n F.nd hk,jU F.nd hn];rfl
  refine⟨[some (.f,.int (s:Int)),some (.f,.dct false (N.map fun n=>D.int n.1) (N.map sj))],rfl,?_⟩;simp only[pv,seval,op,hd];exact⟨_,_,rfl,_,rfl⟩
 have hf:flatDs ((List.range (bu ap).toNat).map fun(s:Nat)=>D.tup ((wayOf N (s:Int)).map D.str))=true:=by
  rw[bB,Vi,UE];intro s _;show cY (.tup _)=true;rw[cS,PV.flat_strs]
 unfold G0 at Lp;simp only[pv,seval,op,Lp];rw[Ut (by lia)];simp only[pv,seval,op,hc];rw[Ut (aQ (by rw[bc,UM];lia)),hf];simp only[pv,seval,op]
def ak(a:GZ):List Key:=[.inl a.1,.inr (S a.2.1),.inl a.2.2]
def eV(a b:GZ):Bool:=fE (ak a) (ak b)
theorem S_inj{a b:List Nat}(h:S a=S b):a=b:=by
 have:=VC (fun s:Str=>s.cps.toList) h;simpa only[fe] using this
theorem Fp(a:GZ):kT (ak a)=eA a:=by
 unfold kT ak eA;simp only[fD,U1,kD,fe]
theorem wy{α β:Type}(f:α->β)(lt:β->β->Bool)(x:α):∀l:List α,ins lt (f x) (l.map f)=(ins (fun a b=>lt (f a) (f b)) x l).map f
 |[]=>rfl
 |y::ys=>by
  rw[fD,ins,ins];cases lt (f y) (f x) with
  |true=>rw[Ut rfl,Ut rfl,wy f lt x ys,fD]
  |false=>rw[UD Up,UD Up,fD,fD]
theorem p6{α β:Type}(f:α->β)(lt:β->β->Bool):∀l:List α,bZ lt (l.map f)=(bZ (fun a b=>lt (f a) (f b)) l).map f
 |[]=>rfl
 |x::l=>by
  show ins lt (f x) (bZ lt (l.map f))=_;rw[p6 f lt l,wy];rfl
theorem wz(as:List GZ):as.map eA=(as.map ak).map kT:=by
 rw[UC];exact Vv fun a _=>(Fp a).symm
theorem DI(a b:GZ):eqD (eA a) (eA b)=decide (a=b):=by
 obtain⟨x,y,z⟩:=a;obtain⟨x',y',z'⟩:=b;unfold eA;simp only[eqD,j3];rw[UP];simp
theorem iw:∀(l:List Int) (b:Int),b<=l.foldl max b/\(∀x∈l,x<=l.foldl max b)/\(l.foldl max b=b\/l.foldl max b∈l)
 |[],b=>⟨Int.le_refl _,fun _ h=>(nomatch h),.inl rfl⟩
 |a::l,b=>by
  obtain⟨h1,h2,h3⟩:=iw l (max b a);rw[Wv];refine⟨by lia,fun x hx=>?_,?_⟩
  ·rcases Ux.mp hx with rfl|hx
   ·lia
   ·exact h2 x hx
  ·rcases h3 with h3|h3
   ·rw[h3];by_cases h:b<=a
    ·exact .inr (by rw[Int.max_eq_right h];exact Uq)
    ·exact .inl (Int.max_eq_left (by lia))
   ·exact .inr (Uy _ h3)
theorem oF{ns:List Int}{x:Int}(h:x∈ns):x<=fO ns:=(iw ns _).2.1 x h
theorem sk{ns:List Int}(h:ns≠[]):fO ns∈ns:=by
 cases ns with
 |nil=>exact absurd rfl h
 |cons a l=>
  rcases(iw (a::l) a).2.2 with e|e
  ·show List.foldl max a (a::l)∈a::l;rw[e];exact Uq
  ·exact e
theorem AY{ns:List Int}{d x:Int}(h:x∈ns):x<=NX.maxD ns d:=by
 unfold NX.maxD;rw[UD (List.ne_nil_of_mem h)];exact oF h
theorem wA(ns:List Int)(d:Int):(ns=[]/\NX.maxD ns d=d)\/NX.maxD ns d∈ns:=by
 unfold NX.maxD;by_cases h:ns=[]
 ·exact .inl ⟨h,Ut h⟩
 ·rw[UD h];exact .inr (sk h)
theorem ma(a:GZ):a.1<=l9 a/\a.2.2<=l9 a/\(l9 a=a.1\/l9 a=a.2.2):=by
 unfold l9;split
 ·exact⟨by lia,by lia,.inr rfl⟩
 ·exact⟨by lia,by lia,.inl rfl⟩
theorem wB{ap:List GZ}{a:GZ}(h:a∈ap):a.1<bu ap/\a.2.2<bu ap:=by
 have h1:=AY (d:=0) (UY.mpr ⟨a,h,rfl⟩:l9 a∈ap.map l9);obtain⟨h2,h3,_⟩:=ma a;unfold bu;lia
theorem tV{ap:List GZ}(h:∀a∈ap,0<=a.1/\0<=a.2.2):1<=bu ap:=by
 unfold bu;rcases wA (ap.map l9) 0 with⟨_,e⟩|e
 ·lia
 ·obtain⟨a,ha,e2⟩:=kO e;have:=h a ha;obtain⟨h1,h2,_⟩:=ma a;lia
theorem p7{α:Type}(lt:α->α->Bool){l:List α}{a:α}:a∈bZ lt l<->a∈l:=(eX lt l).mem_iff
theorem Found.zero{ap:List GZ}{N:List Nd}(F:Found ap N):(0:Int)∈N.map (·.1):=UY.mpr ⟨(0,[]),Uw F.z,rfl⟩
structure Ch(nY:LNN)(ap:List GZ):Prop where
 al:ap.length<=60
 bd:∀a∈ap,(0<=a.1/\a.1<12)/\0<=a.2.2/\a.2.2<12
 nm:∀a∈ap,a.2.1∈nY
 st:1<=bu ap/\bu ap<=12
 all:∀N,Found ap N->∀s:Int,0<=s->s<bu ap->s∈N.map (·.1)
structure Ra(nY:LNN)(as:List GZ)(many:Nat):Prop where
 mm:1<=many/\many<=12
 len:as.length<=60
 bd:∀a∈as,(0<=a.1/\a.1<(many:Int))/\0<=a.2.2/\a.2.2<(many:Int)
 nm:∀a∈as,a.2.1∈nY
 rc:∀j:Nat,1<=j->j<many->∃a∈as,a.2.2=(j:Int)/\∃b:Nat,b<j/\a.1=(b:Int)
theorem p8{ap:List GZ}{many:Nat}(hm:1<=many)(h:∀a∈ap,(0<=a.1/\a.1<(many:Int))/\0<=a.2.2/\a.2.2<(many:Int)):1<=bu ap/\bu ap<=(many:Int):=by
 refine⟨tV fun a ha=>?_,?_⟩
 ·have:=h a ha;lia
 ·unfold bu;rcases wA (ap.map l9) 0 with⟨_,e⟩|e
  ·lia
  ·obtain⟨a,ha,e2⟩:=kO e;have:=h a ha;obtain⟨h1,h2,h3⟩:=ma a;lia
theorem Ra.sort{nY:LNN}{as:List GZ}{many:Nat}(r:Ra nY as many):Ra nY (bZ eV as) many:=by
 have mem:∀{a:GZ},a∈bZ eV as<->a∈as:=p7 eV;refine⟨r.mm,by rw[ir];exact r.len,fun a ha=>r.bd a (mem.mp ha),fun a ha=>r.nm a (mem.mp ha),fun j h1 h2=>?_⟩;obtain⟨a,ha,q⟩:=r.rc j h1 h2;exact⟨a,mem.mpr ha,q⟩
theorem Ra.ch{nY:LNN}{as:List GZ}{many:Nat}(r:Ra nY as many):Ch nY as:=by
 have hm:=r.mm;have Lp:=p8 hm.1 r.bd;refine⟨r.len,fun a ha=>?_,r.nm,by lia,fun N F s h0 h1=>?_⟩
 ·have:=r.bd a ha;lia
 ·have key:∀j:Nat,j<many->(j:Int)∈N.map (·.1):=by
   intro j;induction j using Nat.strongRecOn with
   |_ j ih=>
    intro hj;cases j with
    |zero=>exact F.zero
    |succ j=>
     obtain⟨a,ha,e1,b,SY,e2⟩:=r.rc (j+1) (by lia) hj;obtain⟨n,hn,en⟩:=kO (ih b SY (by lia));obtain⟨m,hm,em,_⟩:=F.clo n hn a ha (by rw[e2,en]);exact UY.mpr ⟨m,hm,by rw[em,e1]⟩
  obtain⟨k,rfl⟩:=UN h0;exact key k (by lia)
theorem qT(as:List GZ)(h:as.length<64):fJ [.lst (as.map eA)]=.ok (.l .f,.lst ((bZ eV as).map eA)):=by
 have key:lD (as.map eA)=some ((bZ eV as).map eA):=by
  cases as with
  |nil=>rfl
  |cons a as=>
   have e1:ko ((a::as).map eA)=some ((a::as).map ak):=by rw[wz,j4]
   have e2:sameKinds (ak a) (as.map ak)=true:=by
    unfold sameKinds;rw[Vi,Uz,UE];exact⟨rfl,fun b _=>rfl⟩
   unfold lD;rw[e1,fD,fD];dsimp only[eA,du,fU];rw[Ut e2,<-fD,p6 ak fE,wz];rfl
 unfold fJ;dsimp only;rw[Ut (by rw[bc];exact h),key]
def cell(ns:List Int)(k:Nat):Int:=ns.getD k 0
theorem iy(ns:List Int)(k:Nat):ax [.lst (ns.map D.int),.int (k:Int)]=.ok (.f,.int (cell ns k)):=by
 unfold ax iR cell;rw[bj (h:=by rfl)];simp only[pv,seval,op,bc];by_cases h:k<ns.length
 ·have h1:(k:Int)<(ns.length:Int):=by lia
  simp only[h1,Wc,pv,seval,fZ h]
 ·have h1:¬ (k:Int)<(ns.length:Int):=by lia
  simp only[h1,VS,pv,seval,gG,List.getD_eq_getElem?_getD,List.getElem?_eq_none (Nat.le_of_not_lt h),XR]
theorem DJ(x y:Int)(h:cE x=true):Ak (.int x) (.int y)=.ok (.f,.int (x*y)):=by rw[oC,h,Xp,Ut rfl]
theorem Fq(x y:Int)(h:cE y=true):Ak (.int x) (.int y)=.ok (.f,.int (x*y)):=by rw[oC,h,Bool.or_true,Ut rfl]
theorem so(x:Int)(h:0<=x)(h2:x<=4294967296):cE x=true:=by
 unfold cE;rw[UL];lia
def wC(c k:Int):Int:=((((c%2147483647+48271*(k+1))*(c%2147483647+48271*(k+1))+69621*k)%2147483647)*(((c%2147483647+48271*(k+1))*(c%2147483647+48271*(k+1))+69621*k)%2147483647)+16807*k+1)%2147483647
theorem me(c k:Int)(hk:0<=k)(O6:k<=1000):aU [.int c,.int k]=.ok (.f,.int (wC c k)):=by
 have b1:=eE c 2147483647 (by decide);have b2:=eE ((c%2147483647+48271*(k+1))*(c%2147483647+48271*(k+1))+69621*k) 2147483647 (by decide);unfold aU kB wC;rw[bj (h:=by rfl)];rw[av (env':=[some (.f,.int c),some (.f,.int k),some (.f,.int (c%2147483647+48271*(k+1)))]) (by simp only[pv,seval,op,gT _ 2147483647 (by decide),DJ 48271 (k+1) (by decide)])];have hs:cE (c%2147483647+48271*(k+1))=true:=so _ (by lia) (by lia);generalize c%2147483647+48271*(k+1)=x at *;rw[av (env':=[some (.f,.int c),some (.f,.int k),some (.f,.int ((x*x+69621*k)%2147483647))]) (by simp only[pv,seval,op,gT _ 2147483647 (by decide),DJ x x hs,DJ 69621 k (by decide)])];generalize (x*x+69621*k)%2147483647=y at *;have hs:cE y=true:=so _ (by lia) (by lia);simp only[pv,seval,op,gT _ 2147483647 (by decide),DJ y y hs,DJ 16807 k (by decide)]
theorem sr:∀l:List Nat,joinL [] (l.map fun c=>[c])=l
 |[]=>rfl
 |[c]=>rfl
 |c::d::l=>by
  have ih:=sr (d::l);show[c]++[]++joinL [] ((d::l).map fun c=>[c])=_;rw[ih];rfl
theorem wF:∀l:List Nat,((l.map fun c=>[c]).map List.length).sum=l.length
 |[]=>rfl
 |c::l=>by
  rw[fD,fD,XO,wF l];show 1+l.length=l.length+1;lia
theorem AZ(l:List Nat)(h:l.length<=1000):vS [] [.lst ((l.map fun c=>[c]).map D.str)]=.ok (.f,.str l):=by
 unfold vS;dsimp only;rw[e7];dsimp only;rw[Ut (by rw[wF,VR,Nat.mul_zero];lia),sr]
theorem su(a:List Nat)(l:LNN):Mv (.str a) (.lst (l.map D.str))=.ok (.f,.bl (decide (a∈l))):=by
 unfold Mv;dsimp only;rw[m7,xW,plainD];all_goals simp
def Mz(base:List Int)(wd sp:Nat)(tk:Bool)(k:Nat):List Int:=if tk then base.take (k+1) else(base.take wd).set sp ((base.getD sp 0+(k:Int))%26)
def Ke(base:List Int)(wd sp:Nat)(tk:Bool)(k:Nat):List Nat:=(Mz base wd sp tk k).map fun j=>97+j.toNat
theorem A3(l:List Int)(hb:∀j∈l,0<=j/\j<26):cC (ay 0) dD (aB Hf (ao 1) (ao 0)) (l.map D.int) [none,some (.f,.str Kd)]=.ok (((l.map fun j=>97+j.toNat).map fun c=>[c]).map D.str):=by
 rw[bo (r:=fun j:Int=>D.str [97+j.toNat]) (fun env=>∃t,env=[t,some (.f,.str Kd)]) l ?_ _ ⟨none,rfl⟩]
 ·rw[UC,UC];rfl
 ·rintro j hj env ⟨t,rfl⟩;obtain⟨h0,h1⟩:=hb j hj;refine⟨[some (.f,.int j),some (.f,.str Kd)],rfl,.f,[some (.f,.int j),some (.f,.str Kd)],?_,_,rfl⟩;simp only[pv,seval,op,DF j h0 h1]
theorem Fs(base:List Int)(hb:∀j∈base,0<=j/\j<26)(wd sp:Nat)(tk:Bool)(k:Nat):∀j∈Mz base wd sp tk k,0<=j/\j<26:=by
 intro j hj;unfold Mz at hj;split at hj
 ·exact hb j (Xc hj)
 ·rcases Xu hj with h|h
  ·exact hb j (Xc h)
  ·rw[h];exact eE _ _ (by decide)
theorem wG(base:List Int)(hl:base.length=8)(wd sp:Nat)(tk:Bool)(k:Nat):(Mz base wd sp tk k).length<=8:=by
 unfold Mz;split
 ·rw[U4];lia
 ·rw[VQ,U4];lia
theorem DK(HV:Int)(base:List Int)(hl:base.length=8)(hb:∀j∈base,0<=j/\j<26)(wd sp:Nat)(hw:wd<=8)(hs:sp<wd)(tk:Bool)(RQ:(HV / 64%4==1)=tk)(l:LNN)(hll:l.length<=10)(k:Nat)(t7:Option R):
  ∃u7,dH [some (.f,.int HV),some (.f,.str Kd),some (.l .f,.lst (base.map D.int)),some (.f,.int (wd:Int)),some (.f,.int (sp:Int)),some (.l .f,.lst (l.map D.str)),some (.f,.int (k:Int)),t7]=.ok (.nx [some (.f,.int HV),some (.f,.str Kd),some (.l .f,.lst (base.map D.int)),some (.f,.int (wd:Int)),some (.f,.int (sp:Int)),some (.l .f,.lst ((l++[Ke base wd sp tk k]).map D.str)),some (.f,.int (k:Int)),u7]):=by
 have PH:jz (base.map D.int) none (some (wd:Int))=(base.take wd).map D.int:=by rw[oE,WV]
 have K4:Ik ((base.take wd).map D.int) (sp:Int)=some (.int (base.getD sp 0)):=by
  rw[fZ (by rw[U4];lia)];congr 2
  rw[List.getD_eq_getElem?_getD,List.getD_eq_getElem?_getD,List.getElem?_take_of_lt hs]
 have IT:ixN (base.take wd).length (sp:Int)=some sp:=wq _ _ (by rw[U4];lia);have hnl:=wG base hl wd sp tk k;have Oo:=A3 (Mz base wd sp tk k) (Fs base hb wd sp tk k);have hj:=AZ (Ke base wd sp tk k) (by unfold Ke;rw[bc];lia);have hz:(l.map D.str).length<sizeLine:=f7 (by rw[bc];lia);have hzl:(((Ke base wd sp tk k).map fun c=>[c]).map D.str).length<=sizeLine:=aQ (by unfold Ke;rw[bc,bc,bc];lia);have Ld:=PV.flat_strs ((Ke base wd sp tk k).map fun c=>[c]);have Oo:cC (ay 0) dD (aB Hf (ao 1) (ao 0)) ((Mz base wd sp tk k).map D.int) [none,some (.f,.str Kd)]=.ok (((Ke base wd sp tk k).map fun c=>[c]).map D.str):=Oo;unfold dH;rw[av (env':=[some (.f,.int HV),some (.f,.str Kd),some (.l .f,.lst (base.map D.int)),some (.f,.int (wd:Int)),some (.f,.int (sp:Int)),some (.l .f,.lst (l.map D.str)),some (.f,.int (k:Int)),some (.l .f,.lst ((base.take wd).map D.int))]) (by simp only[pv,seval,op,PH])];rw[av (env':=[some (.f,.int HV),some (.f,.str Kd),some (.l .f,.lst (base.map D.int)),some (.f,.int (wd:Int)),some (.f,.int (sp:Int)),some (.l .f,.lst (l.map D.str)),some (.f,.int (k:Int)),some (.l .f,.lst (((base.take wd).set sp ((base.getD sp 0+(k:Int))%26)).map D.int))]) (by
  rw[Y7];simp only[pv,seval,op,K4,gT _ 26 (by decide),bc,IT])]
 rw[av (env':=[some (.f,.int HV),some (.f,.str Kd),some (.l .f,.lst (base.map D.int)),some (.f,.int (wd:Int)),some (.f,.int (sp:Int)),some (.l .f,.lst (l.map D.str)),some (.f,.int (k:Int)),some (.l .f,.lst ((Mz base wd sp tk k).map D.int))]) (by
  unfold Mz;cases tk with
  |true=>
   have M9:jz (base.map D.int) none (some ((k:Int)+1))=(base.take (k+1)).map D.int:=by rw[show(k:Int)+1=((k+1:Nat):Int) by lia,oE,WV]
   simp only[pv,seval,op,eU _ 64 (by decide) (by decide),gT _ 4 (by decide),RQ,M9]
  |false=>simp only[pv,seval,op,eU _ 64 (by decide) (by decide),gT _ 4 (by decide),RQ,gG])]
 refine⟨some (.l .f,.lst ((Mz base wd sp tk k).map D.int)),?_⟩;generalize Mz base wd sp tk k=W at *;generalize Ke base wd sp tk k=V at *;rw[Uv,fD,U1];generalize (aB Hf (ao 1) (ao 0))=GG at Oo ⊢;simp only[pv,seval,op,Oo,hzl,Ld,hj,hz]
theorem A4(base:List Int)(hl:base.length=8)(hb:∀j∈base,0<=j/\j<26)(wd sp:Nat)(hw:wd<=8)(hs:sp<wd)(tk:Bool)(k k':Nat)(hk:k<=5)(hk':k'<=5)(e:Ke base wd sp tk k=Ke base wd sp tk k'):k=k':=by
 unfold Ke Mz at e;cases tk with
 |true=>
  have:=VC List.length e;simp only[WN,bc,U4]at this;lia
 |false=>
  have e2:=VC (fun l=>l[sp]?) e;have HN:sp<(base.take wd).length:=by rw[U4];lia
  simp only[gG,W4,List.getElem?_map,List.getElem?_set_self HN,Option.map_some,W3]at e2;have b1:=eE (base.getD sp 0+(k:Int)) 26 (by decide);have b2:=eE (base.getD sp 0+(k':Int)) 26 (by decide);generalize base.getD sp 0=z at *;lia
theorem A5(HV:Int):∃l:LNN,l.length=5/\l.Nodup/\l.Pairwise (fun a b=>L1 b a=false)/\dy [.int HV]=.ok (.l .f,.lst (l.map D.str)):=by
 unfold dy kC;rw[bj (h:=by rfl)];rw[av (env':=[some (.f,.int HV),some (.f,.str Kd),none,none,none,none,none,none]) (by simp only[pv,seval,op];rfl)];have hc:cC (ay 0) dD (aB eW (aj (cG aU (ag (ao 1) (ag (ao 0) aA)))) (aj (aH (.int 26)))) ((List.range 8).map fun(k:Nat)=>D.int (k:Int)) [none,some (.f,.int HV)]=.ok (((List.range 8).map fun(k:Nat)=>wC HV (k:Int)%26).map D.int):=by
  rw[bo (r:=fun k:Nat=>D.int (wC HV (k:Int)%26)) (fun env=>∃t,env=[t,some (.f,.int HV)]) (List.range 8) ?_ _ ⟨none,rfl⟩]
  ·rw[UC];rfl
  ·rintro k hk env ⟨t,rfl⟩;have hk:=UR.mp hk;refine⟨[some (.f,.int (k:Int)),some (.f,.int HV)],rfl,.f,[some (.f,.int (k:Int)),some (.f,.int HV)],?_,_,rfl⟩;simp only[pv,seval,op,me HV (k:Int) (by lia) (by lia),gT _ 26 (by decide)]
 have RS:((List.range 8).map fun(k:Nat)=>wC HV (k:Int)%26).length=8:=rfl;have MG:∀j∈((List.range 8).map fun(k:Nat)=>wC HV (k:Int)%26),0<=j/\j<26:=by
  intro j hj;obtain⟨k,_,rfl⟩:=kO hj;exact eE _ _ (by decide)
 generalize ((List.range 8).map fun(k:Nat)=>wC HV (k:Int)%26)=base at hc RS MG;have hlen:(base.map D.int).length<=sizeLine:=aQ (by rw[bc];lia);have hff:=GY base;rw[av (env':=[some (.f,.int HV),some (.f,.str Kd),some (.l .f,.lst (base.map D.int)),none,none,none,none,none]) (by
  generalize (aB eW (aj (cG aU (ag (ao 1) (ag (ao 0) aA)))) (aj (aH (.int 26))))=GG at hc ⊢;simp only[pv,seval,op];rw[Ut (by decide)];simp only[pv,seval,op,show(8:Int).toNat=8 from rfl,hc,hlen,hff])]
 have m8:=eE HV 8 (by decide);obtain⟨wd,ew⟩:=UN (show 0<=1+HV%8 by lia);have msp:=eE (HV / 8) (wd:Int) (by lia);obtain⟨sp,es⟩:=UN msp.1;rw[av (env':=[some (.f,.int HV),some (.f,.str Kd),some (.l .f,.lst (base.map D.int)),some (.f,.int (wd:Int)),none,none,none,none]) (by simp only[pv,seval,op,gT _ 8 (by decide),ew])];rw[av (env':=[some (.f,.int HV),some (.f,.str Kd),some (.l .f,.lst (base.map D.int)),some (.f,.int (wd:Int)),some (.f,.int (sp:Int)),none,none,none]) (by simp only[pv,seval,op,eU _ 8 (by decide) (by decide),gT _ (wd:Int) (by lia),es])];rw[av (env':=[some (.f,.int HV),some (.f,.str Kd),some (.l .f,.lst (base.map D.int)),some (.f,.int (wd:Int)),some (.f,.int (sp:Int)),some (.l .f,.lst []),none,none]) (by simp only[pv,seval,op])];obtain⟨tk,RQ⟩:∃tk,(HV / 64%4==1)=tk:=⟨_,rfl⟩
 obtain⟨env',ef,t6,t7,rfl⟩:=oD (a:=ay 6) (g:=dH) (e:=fun k=>D.int (k:Int)) 5 (fun i env=>∃(t6 t7:Option R),env=[some (.f,.int HV),some (.f,.str Kd),some (.l .f,.lst (base.map D.int)),some (.f,.int (wd:Int)),some (.f,.int (sp:Int)),some (.l .f,.lst (((List.range i).map (Ke base wd sp tk)).map D.str)),t6,t7]) (by
  rintro k env hk ⟨t6,t7,rfl⟩;obtain⟨u7,e⟩:=DK HV base RS MG wd sp (by lia) (by lia) tk RQ ((List.range k).map (Ke base wd sp tk)) (by rw[bc,UM];lia) k t7;rw[show((List.range k).map (Ke base wd sp tk))++[Ke base wd sp tk k]=(List.range (k+1)).map (Ke base wd sp tk) by rw[List.range_succ,Uv];rfl]at e;exact⟨_,rfl,_,e,_,_,rfl⟩) _ ⟨none,none,rfl⟩
 rw[List.range_zero,U1,U1]at ef;rw[av (env':=_) (by
  unfold iS;simp only[pv,seval,op];rw[Ut (by decide)];simp only[pv,seval,op,show(5:Int).toNat=5 from rfl];exact ef)]
 unfold g9;have Na:((List.range 5).map (Ke base wd sp tk)).length=5:=by rw[bc,UM]
 have Pa:((List.range 5).map (Ke base wd sp tk)).Nodup:=iu _ 5 fun i j hi hj e=>A4 base RS MG wd sp (by lia) (by lia) tk i j (by lia) (by lia) e
 have T4:∀n∈((List.range 5).map (Ke base wd sp tk)),n.length<=8:=by
  intro n hn;obtain⟨k,_,rfl⟩:=kO hn;unfold Ke;rw[bc];exact wG base RS wd sp tk k
 generalize ((List.range 5).map (Ke base wd sp tk))=l at Na Pa T4;by_cases hm:[109,111,118,101,115]∈l
 ·have JA:cC (ay 0) dD (aB cK (aj (aH (.str [115]))) (ao 0)) (l.map D.str) [none]=.ok ((l.map fun n=>115::n).map D.str):=by
   rw[bo (r:=fun n:List Nat=>D.str (115::n)) (fun env=>∃t,env=[t]) l ?_ _ ⟨none,rfl⟩]
   ·rw[UC];rfl
   ·rintro n hn env ⟨t,rfl⟩;have:=T4 n hn;refine⟨[some (.f,.str n)],rfl,.f,[some (.f,.str n)],?_,_,rfl⟩;simp only[pv,seval,op,GD [115] n (by rw[UG];lia)]
  have S1:((l.map fun n=>115::n).map D.str).length<=sizeLine:=aQ (by rw[bc,bc];lia);have hnd2:(l.map fun n=>115::n).Nodup:=by
   rw[WB,W2];exact(WB.mp Pa).imp fun{a b} h e=>h (WQ e).2
  have Ld:=PV.flat_strs (l.map fun n=>115::n);rw[av (env':=[some (.f,.int HV),some (.f,.str Kd),some (.l .f,.lst (base.map D.int)),some (.f,.int (wd:Int)),some (.f,.int (sp:Int)),some (.l .f,.lst ((l.map fun n=>115::n).map D.str)),t6,t7]) (by
   generalize (aB cK (aj (aH (.str [115]))) (ao 0))=GG at JA ⊢;simp only[pv,seval,op,su,hm,Wc,JA,S1,Ld])]
  refine⟨bZ L1 (l.map fun n=>115::n),by rw[ir,bc];exact Na,(eX L1 _).nodup_iff.mpr hnd2,fF qz _,?_⟩;simp only[pv,seval,op,wj (l.map fun n=>115::n) (by rw[bc];lia)]
 ·rw[av (env':=[some (.f,.int HV),some (.f,.str Kd),some (.l .f,.lst (base.map D.int)),some (.f,.int (wd:Int)),some (.f,.int (sp:Int)),some (.l .f,.lst (l.map D.str)),t6,t7]) (by simp only[pv,seval,op,su,hm,VS,gG])];refine⟨bZ L1 l,by rw[ir];exact Na,(eX L1 _).nodup_iff.mpr Pa,fF qz _,?_⟩;simp only[pv,seval,op,wj l (by lia)]
theorem DL(env:PV.Env)(fo:FO)(fp G9 fq:FP):E8 fo fp G9 fq env=Res.bnd (fo env) (f:=⟨fun p=>Res.bnd (fp p.2) (f:=⟨fun q=>Res.bnd (G9 q.2) (f:=⟨fun t=>Res.bnd (fq t.2) (f:=⟨fun u=>Res.bnd (Iq u.2 p.1) (f:=⟨fun d=>Res.bnd (C4 d q.1 t.1 u.1) (f:=⟨fun r=>.ok (r,u.2)⟩)⟩)⟩)⟩)⟩)⟩):=id rfl
theorem A6(env:PV.Env)(fa fb fc:FX):Aw fa fb fc env=Res.bnd (fa env) (f:=⟨fun p=>Res.bnd (fb p.2) (f:=⟨fun q=>Res.bnd (fc q.2) (f:=⟨fun t=>.ok ((.t [.f,q.1.1,t.1.1],.tup [p.1.2,q.1.2,t.1.2]),t.2)⟩)⟩)⟩):=id rfl
theorem x9{α β:Type}(f:α->β)(l:List α)(lo hi:Option Int)(c:Int):g6 (l.map f) lo hi c=(g6 l lo hi c).map f:=by
 unfold g6;rw[bc,List.map_filterMap];congr 1
 funext i
 rw[List.getElem?_map]
theorem Ft(ds:List D)(lo hi:Option Int):C4 (.lst ds) lo hi (some 6)=.ok (.l .f,.lst (g6 ds lo hi 6)):=id rfl
theorem DM(ns:List Int)(first k:Int)(hk:0<=k/\k<=1000):∃v:Int,dX [.lst (ns.map D.int),.int first,.int k]=.ok (.f,.int v):=by
 unfold dX lR;rw[bj (h:=by rfl)];rw[av (env':=[some (.f,.lst (ns.map D.int)),some (.f,.int first),some (.f,.int k),some (.f,.int (7+k)),none]) (by simp only[pv,seval,op])];obtain⟨env',ef,v,t4,rfl⟩:=for_list (a:=ay 4) (g:=fL) (e:=D.int) (g6 ns (some (first+k)) (some (first+84)) 6) (fun j env=>∃(v:Int) (t4:Option R),env=[some (.f,.lst (ns.map D.int)),some (.f,.int first),some (.f,.int k),some (.f,.int v),t4]) (by
  rintro j c env hj ⟨v,t4,rfl⟩;refine⟨_,rfl,_,?_,wC (c+v) k,some (.f,.int c),rfl⟩;unfold fL;simp only[pv,seval,op,me (c+v) k hk.1 hk.2]) _ ⟨7+k,none,rfl⟩
 rw[av (env':=_) (by
  unfold jK;simp only[pv,seval,op,DL,Ft,x9];exact ef)]
 unfold iU;exact⟨v,by simp only[pv,seval,op]⟩
def Tk(l:List Int)(cnt:Nat):Prop:=l.length=cnt/\∀x∈l,0<=x/\x<=10
theorem Tk.app{l:List Int}{cnt:Nat}(h:Tk l cnt){x:Int}(hx:0<=x/\x<=10):Tk (l++[x]) (cnt+1):=by
 refine⟨by rw[iO,h.1];rfl,fun y hy=>?_⟩;rcases kc hy with hy|hy
 ·exact h.2 y hy
 ·rw[ka hy];exact hx
theorem A7(number:Int)(cnt:Nat)(hc:cnt<=10):∃(b:Int) (ts gs:List Int),(0<=b/\b<=10)/\Tk ts cnt/\Tk gs cnt/\dA [.int number,.int (cnt:Int)]=.ok (.t [.f,.l .f,.l .f],.tup [.int b,.lst (ts.map D.int),.lst (gs.map D.int)]):=by
 unfold dA kF;rw[bj (h:=by rfl)];rw[av (env':=[some (.f,.int number),some (.f,.int (cnt:Int)),some (.l .f,.lst []),none,none,none,none,none]) (by simp only[pv,seval,op])];rw[av (env':=[some (.f,.int number),some (.f,.int (cnt:Int)),some (.l .f,.lst []),some (.l .f,.lst []),none,none,none,none]) (by simp only[pv,seval,op])];obtain⟨env',ef,ts,gs,t4,t5,t6,t7,h1,h2,rfl⟩:=oD (a:=ay 4) (g:=fu) (e:=fun k=>D.int (k:Int)) cnt (fun i env=>∃(ts gs:List Int) (t4 t5 t6 t7:Option R),Tk ts i/\Tk gs i/\env=[some (.f,.int number),some (.f,.int (cnt:Int)),some (.l .f,.lst (ts.map D.int)),some (.l .f,.lst (gs.map D.int)),t4,t5,t6,t7]) (by
  rintro j env hj ⟨ts,gs,t4,t5,t6,t7,h1,h2,rfl⟩;have z1:(ts.map D.int).length<sizeLine:=f7 (by rw[bc,h1.1];lia);have z2:(gs.map D.int).length<sizeLine:=f7 (by rw[bc,h2.1];lia);have Mr:=me number (j:Int) (by lia) (by lia);generalize wC number (j:Int)=x at Mr;have b1:=eE x 5 (by decide);have b2:=eE (x / 8) 4 (by decide);refine⟨[some (.f,.int number),some (.f,.int (cnt:Int)),some (.l .f,.lst (ts.map D.int)),some (.l .f,.lst (gs.map D.int)),some (.f,.int (j:Int)),t5,t6,t7],rfl,_,?_,ts++[(if 0<0-(x%5-2) then 0-(x%5-2) else 0)+x / 8%4 / 3],gs++[(if 0<x%5-2 then x%5-2 else 0)+x / 8%4 / 3],some (.f,.int (j:Int)),some (.f,.int x),some (.f,.int (x%5-2)),some (.f,.int (x / 8%4 / 3)),h1.app ?_,h2.app ?_,rfl⟩
  ·unfold fu;rw[av (env':=[some (.f,.int number),some (.f,.int (cnt:Int)),some (.l .f,.lst (ts.map D.int)),some (.l .f,.lst (gs.map D.int)),some (.f,.int (j:Int)),some (.f,.int x),t6,t7]) (by simp only[pv,seval,op,Mr])];rw[av (env':=[some (.f,.int number),some (.f,.int (cnt:Int)),some (.l .f,.lst (ts.map D.int)),some (.l .f,.lst (gs.map D.int)),some (.f,.int (j:Int)),some (.f,.int x),some (.f,.int (x%5-2)),t7]) (by simp only[pv,seval,op,gT _ 5 (by decide)])];generalize x%5-2=y;rw[av (env':=[some (.f,.int number),some (.f,.int (cnt:Int)),some (.l .f,.lst (ts.map D.int)),some (.l .f,.lst (gs.map D.int)),some (.f,.int (j:Int)),some (.f,.int x),some (.f,.int y),some (.f,.int (x / 8%4 / 3))]) (by simp only[pv,seval,op,gT _ 4 (by decide),eU _ 8 (by decide) (by decide),eU _ 3 (by decide) (by decide)])];generalize x / 8%4 / 3=z;rw[Uv,Uv,fD,fD,U1];rw[av (env':=[some (.f,.int number),some (.f,.int (cnt:Int)),some (.l .f,.lst (ts.map D.int++[.int ((if 0<0-y then 0-y else 0)+z)])),some (.l .f,.lst (gs.map D.int)),some (.f,.int (j:Int)),some (.f,.int x),some (.f,.int y),some (.f,.int z)]) (by simp only[pv,seval,op,z1])];simp only[pv,seval,op,z2]
  ·split <;> lia
  ·split <;> lia) _ ⟨[],[],none,none,none,none,⟨rfl,(fun _ h=>nomatch h)⟩,⟨rfl,(fun _ h=>nomatch h)⟩,rfl⟩
 rw[U1]at ef;rw[av (env':=_) (by
  unfold iV;simp only[pv,seval,op];rw[Ut (by lia)];simp only[pv,seval,op,U2];exact ef)]
 unfold hV;have b:=eE (number / 16) 4 (by decide);exact⟨number / 16%4,ts,gs,by lia,h1,h2,by simp only[pv,seval,op,A6,eU _ 16 (by decide) (by decide),gT _ 4 (by decide)]⟩
abbrev Pl:=Int×List Int×List Int
def eP(p:Pl):D:=.tup [.int p.1,.tup (p.2.1.map D.int),.tup (p.2.2.map D.int)]
def L8(p:Pl)(cnt:Nat):Prop:=p.2.1.length=cnt/\p.2.2.length=cnt
theorem DN(f:Int)(l:List Int)(h:∀x∈l,0<=x/\x<=10):cC (ay 0) dD (aB gS (ao 1) (ao 0)) (l.map D.int) [none,some (.f,.int f)]=.ok ((l.map fun x=>f*x).map D.int):=by
 rw[bo (r:=fun x:Int=>D.int (f*x)) (fun env=>∃t,env=[t,some (.f,.int f)]) l ?_ _ ⟨none,rfl⟩]
 ·rw[UC];rfl
 ·rintro x hx env ⟨t,rfl⟩;have:=h x hx;refine⟨[some (.f,.int x),some (.f,.int f)],rfl,.f,[some (.f,.int x),some (.f,.int f)],?_,_,rfl⟩;simp only[pv,seval,op,Fq f x (l8 x (by lia) (by lia))]
theorem sv(b:Int)(hb:0<=b/\b<=10)(ts gs:List Int)(cnt:Nat)(hc:cnt<=10)(h1:Tk ts cnt)(h2:Tk gs cnt)(HV:Int):∃p:Pl,L8 p cnt/\cq [.tup [.int b,.lst (ts.map D.int),.lst (gs.map D.int)],.int HV]=.ok (.f,eP p):=by
 have p50:qw (.int 10) (.int 50)=.ok (.f,.int (10 ^ 50)):=Fn 50 (by decide);have m50:=eE HV (10 ^ 50) (by decide);unfold cq jL;rw[bj (h:=by rfl)];rw[av (env':=[some (.f,.tup [.int b,.lst (ts.map D.int),.lst (gs.map D.int)]),some (.f,.int HV),some (.f,.int (1+HV%10 ^ 50)),none,none,none]) (by simp only[pv,↓reduceIte,Nat.reduceAdd,Nat.reduceLT,Nat.reduceLeDiff,Nat.reduceEqDiff,op,p50,gT _ (10 ^ 50) (by decide)])];have hf:0<1+HV%10 ^ 50:=by
  generalize HV%10 ^ 50=q at m50;lia
 generalize 1+HV%10 ^ 50=f at hf;rw[av (env':=[some (.f,.tup [.int b,.lst (ts.map D.int),.lst (gs.map D.int)]),some (.f,.int HV),some (.f,.int f),some (.f,.int b),some (.f,.lst (ts.map D.int)),some (.f,.lst (gs.map D.int))]) (by simp only[pv,↓reduceIte,Nat.reduceAdd,Nat.reduceLT,Nat.reduceLeDiff,Nat.reduceEqDiff,op])];have c1:=DN f ts h1.2;have c2:=DN f gs h2.2;have l1:((ts.map fun x=>f*x).map D.int).length<=sizeLine:=aQ (by rw[bc,bc,h1.1];lia);have l2:((gs.map fun x=>f*x).map D.int).length<=sizeLine:=aQ (by rw[bc,bc,h2.1];lia);have f1:=GY (ts.map fun x=>f*x);have f2:=GY (gs.map fun x=>f*x);refine⟨(f*b+HV / 7%f,ts.map fun x=>f*x,gs.map fun x=>f*x),⟨by rw[bc];exact h1.1,by rw[bc];exact h2.1⟩,?_⟩;unfold eP;dsimp only;generalize (ts.map fun x=>f*x).map D.int=T1 at *;generalize (gs.map fun x=>f*x).map D.int=T2 at *;have T5:=Fq f b (l8 b (by lia) (by lia));have Rk:=gT (HV / 7) f hf;have hdiv:=eU HV 7 (by decide) (by decide);generalize f*b=fb at T5 ⊢;generalize (HV / 7)%f=cf at Rk ⊢;rw[av (env':=[some (.f,.tup [.int b,.lst (ts.map D.int),.lst (gs.map D.int)]),some (.f,.int HV),some (.f,.int f),some (.f,.int b),some (.f,.tup T1),some (.f,.lst (gs.map D.int))]) (by
  generalize (aB gS (ao 1) (ao 0))=GG at c1 ⊢;simp only[pv,↓reduceIte,Nat.reduceAdd,Nat.reduceLT,Nat.reduceLeDiff,Nat.reduceEqDiff,op,c1,l1,f1])]
 have T6:∀GG,GG=(aB gS (ao 1) (ao 0))->cC (ay 0) dD GG (gs.map D.int) [none,some (.f,.int f)]=.ok T2:=fun GG h=>by rw[h];exact c2
 rw[show(eI (jl (aJ (aB cK (aj (aB gS (ao 2) (ao 3))) (aj (aB eW (aj (aB dO (ao 1) (aj (aH (.int 7))))) (ao 2)))) (aJ (aN 4) (aJ (aV dt (ag (aj (cx (H0 (iN 5) (H0 (gQ (aN 5)) (gR (aN 5)))) [none,some 2] (ay 0) dD (aB gS (ao 1) (ao 0)))) aA)) bH)))))=(fun GG=>eI (jl (aJ (aB cK (aj (aB gS (ao 2) (ao 3))) (aj (aB eW (aj (aB dO (ao 1) (aj (aH (.int 7))))) (ao 2)))) (aJ (aN 4) (aJ (aV dt (ag (aj (cx (H0 (iN 5) (H0 (gQ (aN 5)) (gR (aN 5)))) [none,some 2] (ay 0) dD GG)) aA)) bH))))) (aB gS (ao 1) (ao 0)) from rfl];generalize eGG:(aB gS (ao 1) (ao 0))=GG;have c2:=T6 GG eGG.symm;clear eGG T6;simp only[pv,↓reduceIte,Nat.reduceAdd,Nat.reduceLT,Nat.reduceLeDiff,Nat.reduceEqDiff,op,T5,Rk,hdiv,c2,l2,f2]
theorem ya(ns:List Int)(first:Nat)(cnt:Nat)(hc:cnt<=10)(ps:List Pl)(T7:∀p∈ps,L8 p cnt)(hl:ps.length<=100)(k:Nat)(hk:k<=100)(t5 t6 t7:Option R):
  ∃(Qa:List Pl) (u5 u6 u7:Option R),(∀p∈Qa,L8 p cnt)/\ps.length+1<=Qa.length/\Qa.length<=ps.length+2/\c9 [some (.f,.lst (ns.map D.int)),some (.f,.int (first:Int)),some (.f,.int (cnt:Int)),some (.l .f,.lst (ps.map eP)),some (.f,.int (k:Int)),t5,t6,t7]=.ok (.nx [some (.f,.lst (ns.map D.int)),some (.f,.int (first:Int)),some (.f,.int (cnt:Int)),some (.l .f,.lst (Qa.map eP)),some (.f,.int (k:Int)),u5,u6,u7]):=by
 obtain⟨v,ev⟩:=DM ns (first:Int) (k:Int) (by lia);obtain⟨b,ts,gs,hb,h1,h2,ep⟩:=A7 v cnt hc;have c1:=iy ns (first+k);rw[show((first+k:Nat):Int)=(first:Int)+(k:Int) by lia]at c1;have c2:=iy ns (first+6+k);rw[show((first+6+k:Nat):Int)=(first:Int)+6+(k:Int) by lia]at c2;obtain⟨p1,S3,e1⟩:=sv b hb ts gs cnt hc h1 h2 (cell ns (first+k));have m4:=eE (v / 256) 4 (by decide);obtain⟨p2,O4,e2⟩:=sv (v / 256%4) (by lia) gs ts cnt hc h2 h1 (cell ns (first+6+k));have L0:cT (.t [.f,.l .f,.l .f]) (.tup [.int b,.lst (ts.map D.int),.lst (gs.map D.int)])=true:=by
  have f1:=GY ts;have f2:=GY gs;simp only[cT,pg,cY];rw[<-bB,<-bB,f1,f2];rfl
 have RT:∀p:Pl,cY (eP p)=true:=fun p=>by
  unfold eP;rw[cS];simp only[flatDs,cS,GY,gF];rfl
 have S4:(ps.map eP).length<sizeLine:=f7 (by rw[bc];lia);have Mw:(ps.map eP++[eP p1]).length<sizeLine:=f7 (by rw[iO,bc,UG];lia);unfold c9;rw[av (env':=[some (.f,.lst (ns.map D.int)),some (.f,.int (first:Int)),some (.f,.int (cnt:Int)),some (.l .f,.lst (ps.map eP)),some (.f,.int (k:Int)),some (.f,.int v),t6,t7]) (by simp only[pv,seval,op,ev])];rw[av (env':=[some (.f,.lst (ns.map D.int)),some (.f,.int (first:Int)),some (.f,.int (cnt:Int)),some (.l .f,.lst (ps.map eP)),some (.f,.int (k:Int)),some (.f,.int v),some (.t [.f,.l .f,.l .f],.tup [.int b,.lst (ts.map D.int),.lst (gs.map D.int)]),t7]) (by simp only[pv,seval,op,ep,L0])];rw[av (env':=[some (.f,.lst (ns.map D.int)),some (.f,.int (first:Int)),some (.f,.int (cnt:Int)),some (.l .f,.lst (ps.map eP++[eP p1])),some (.f,.int (k:Int)),some (.f,.int v),some (.t [.f,.l .f,.l .f],.tup [.int b,.lst (ts.map D.int),.lst (gs.map D.int)]),t7]) (by simp only[pv,seval,op,c1,e1,RT,S4])];by_cases h3:0<v / 64%3
 ·refine⟨ps++[p1,p2],some (.f,.int v),some (.f,.tup [.int b,.lst (ts.map D.int),.lst (gs.map D.int)]),some (.f,.tup [.int (v / 256%4),.lst (gs.map D.int),.lst (ts.map D.int)]),fun p hp=>?_,by rw[iO];simp,by rw[iO];simp,?_⟩
  ·rcases kc hp with hp|hp
   ·exact T7 p hp
   ·rcases Ux.mp hp with rfl|hp
    ·exact S3
    ·rw[ka hp];exact O4
  ·rw[Uv,fD,fD,U1,show ps.map eP++[eP p1,eP p2]=(ps.map eP++[eP p1])++[eP p2] by rw[Vo];rfl];simp only[pv,seval,op,eU _ 64 (by decide) (by decide),eU _ 256 (by decide) (by decide),gT _ 3 (by decide),gT _ 4 (by decide),gt_iff_lt,h3,Wc,at2,c2,e2,RT,Mw]
 ·refine⟨ps++[p1],some (.f,.int v),some (.t [.f,.l .f,.l .f],.tup [.int b,.lst (ts.map D.int),.lst (gs.map D.int)]),t7,fun p hp=>?_,by rw[iO];simp,by rw[iO];simp,?_⟩
  ·rcases kc hp with hp|hp
   ·exact T7 p hp
   ·rw[ka hp];exact S3
  ·rw[Uv,fD,U1];simp only[pv,seval,op,eU _ 64 (by decide) (by decide),gT _ 3 (by decide),gt_iff_lt,h3,VS,gG]
theorem yb(ns:List Int)(first:Nat)(cnt:Nat)(hc:cnt<=10):∃ps:List Pl,(∀p∈ps,L8 p cnt)/\ps≠[]/\ps.length<=8/\cQ [.lst (ns.map D.int),.int (first:Int),.int (cnt:Int)]=.ok (.l .f,.lst (ps.map eP)):=by
 have c1:ax [.lst (ns.map D.int),.int 1]=.ok (.f,.int (cell ns 1)):=iy ns 1;have m4:=eE (cell ns 1 / 4) 4 (by decide);unfold cQ jM;rw[bj (h:=by rfl)];rw[av (env':=[some (.f,.lst (ns.map D.int)),some (.f,.int (first:Int)),some (.f,.int (cnt:Int)),some (.l .f,.lst []),none,none,none,none]) (by simp only[pv,seval,op])];obtain⟨env',ef,ps,t4,t5,t6,t7,h1,h2,h3,rfl⟩:=oD (a:=ay 4) (g:=c9) (e:=fun k=>D.int (k:Int)) (1+cell ns 1 / 4%4).toNat (fun i env=>∃(ps:List Pl) (t4 t5 t6 t7:Option R),(∀p∈ps,L8 p cnt)/\i<=ps.length/\ps.length<=2*i/\env=[some (.f,.lst (ns.map D.int)),some (.f,.int (first:Int)),some (.f,.int (cnt:Int)),some (.l .f,.lst (ps.map eP)),t4,t5,t6,t7]) (by
  rintro k env hk ⟨ps,t4,t5,t6,t7,h1,h2,h3,rfl⟩;obtain⟨Qa,u5,u6,u7,h1',Sw,h3',e⟩:=ya ns first cnt hc ps h1 (by lia) k (by lia) t5 t6 t7
  exact⟨_,rfl,_,e,Qa,_,_,_,_,h1',by lia,by lia,rfl⟩) _ ⟨[],none,none,none,none,(fun _ h=>nomatch h),Ur _,Ur _,rfl⟩
 rw[U1]at ef;rw[av (env':=_) (by
  unfold hX;simp only[pv,seval,op,c1,eU _ 4 (by decide) (by decide),gT _ 4 (by decide)];rw[Ut (by lia)];simp only[pv,seval,op];exact ef)]
 unfold gJ;refine⟨ps,h1,?_,by lia,by simp only[pv,seval,op]⟩;intro h;rw[h,VR]at h2;lia
theorem DO{α:Type}{l:List α}(h:l.Nodup)(lo hi:Option Int):(jz l lo hi).Nodup:=by
 unfold jz;exact(h.sublist (List.drop_sublist _ _)).sublist (Xv _ _)
theorem DP{α:Type}{l:List α}{r:α->α->Prop}(h:l.Pairwise r)(lo hi:Option Int):(jz l lo hi).Pairwise r:=by
 unfold jz;exact(h.sublist (List.drop_sublist _ _)).sublist (Xv _ _)
theorem A9(ns:List Int):∃nY:LNN,nY≠[]/\nY.length<=3/\nY.Nodup/\nY.Pairwise (fun a b=>L1 b a=false)/\dB [.lst (ns.map D.int)]=.ok (.f,.tup (nY.map D.str)):=by
 have c0:ax [.lst (ns.map D.int),.int 0]=.ok (.f,.int (cell ns 0)):=iy ns 0;have c1:ax [.lst (ns.map D.int),.int 1]=.ok (.f,.int (cell ns 1)):=iy ns 1;obtain⟨l,hl,Pa,S5,en⟩:=A5 (cell ns 0);have m3:=eE (cell ns 1) 3 (by decide);unfold dB kG;rw[bj (h:=by rfl)];rw[av (env':=[some (.f,.lst (ns.map D.int)),some (.l .f,.lst (l.map D.str)),none,none,none]) (by simp only[pv,seval,op,c0,en])];rw[av (env':=[some (.f,.lst (ns.map D.int)),some (.l .f,.lst (l.map D.str)),some (.f,.int (cell ns 1)),none,none]) (by simp only[pv,seval,op,c1])];rw[av (env':=[some (.f,.lst (ns.map D.int)),some (.l .f,.lst (l.map D.str)),some (.f,.int (cell ns 1)),some (.f,.int (1+cell ns 1%3)),none]) (by simp only[pv,seval,op,gT _ 3 (by decide)])];obtain⟨cnt,ec⟩:=UN (show 0<=1+cell ns 1%3 by lia);rw[ec];have ms:=eE (cell ns 1 / 32) (6-(cnt:Int)) (by lia);obtain⟨st,es⟩:=UN ms.1;rw[av (env':=[some (.f,.lst (ns.map D.int)),some (.l .f,.lst (l.map D.str)),some (.f,.int (cell ns 1)),some (.f,.int (cnt:Int)),some (.f,.int (st:Int))]) (by simp only[pv,seval,op,eU _ 32 (by decide) (by decide),gT _ (6-(cnt:Int)) (by lia),es])];have PH:=AU l st (st+cnt) (by lia) (by lia);have hlen:(jz l (some (st:Int)) (some ((st+cnt:Nat):Int))).length=cnt:=by
  rw[PH,U4,Wq];lia
 rw[show((st+cnt:Nat):Int)=(st:Int)+(cnt:Int) by lia]at hlen;refine⟨jz l (some (st:Int)) (some ((st:Int)+(cnt:Int))),?_,by lia,DO Pa _ _,DP S5 _ _,?_⟩
 ·intro h;rw[h,VR]at hlen;lia
 ·simp only[pv,seval,op,AV]
theorem DQ{α:Type}{a:FG}{g:FS}{e:α->D}{r:R}{Z:Prop}(l:List α)(P:Nat->PV.Env->Prop)(h:∀k x env,l[k]?=some x->P k env->∃GQ,a (e x) env=.ok GQ/\((∃Ha,g GQ=.ok (.nx Ha)/\P (k+1) Ha)\/(g GQ=.ok (.rt r)/\Z))):
  ∀env,P 0 env->(∃env',kM a g (l.map e) env=.ok (.nx env')/\P l.length env')\/(kM a g (l.map e) env=.ok (.rt r)/\Z):=by
 have key:∀(l':List α) (k:Nat) (env:PV.Env),(∀i x,l'[i]?=some x->l[k+i]?=some x)->P k env->(∃env',kM a g (l'.map e) env=.ok (.nx env')/\P (k+l'.length) env')\/(kM a g (l'.map e) env=.ok (.rt r)/\Z):=by
  intro l';induction l' with
  |nil=>exact fun k env _ hp=>.inl ⟨env,rfl,hp⟩
  |cons d l' ih=>
   intro k env hd hp;obtain⟨GQ,h1,⟨Ha,h2,h3⟩|⟨h2,hz⟩⟩:=h k d env (hd 0 d rfl) hp
   ·rw[fD,jk,h1,Ie,h2,Ie];rcases ih (k+1) Ha (fun i x e=>by have:=hd (i+1) x (by simpa using e);rw[show k+1+i=k+(i+1) by lia];exact this) h3 with⟨env',h4,h5⟩|h4
    ·exact .inl ⟨env',h4,by rw[UI,show k+(l'.length+1)=k+1+l'.length by lia];exact h5⟩
    ·exact .inr h4
   ·right;rw[fD,jk,h1,Ie,h2,Ie];exact⟨rfl,hz⟩
 intro env hp;have:=key l 0 env (fun i x e=>by rw[Yj];exact e) hp
 rwa [Yj]at this
theorem sx{c:FT}{g:FS}{r:R}{Z:Prop}(P:Nat->PV.Env->Prop)(fin:PV.Env->Prop)(h:∀k env,P k env->(∃GQ,c env=.ok (false,GQ)/\fin GQ)\/(∃GQ,c env=.ok (true,GQ)/\((∃Ha k',g GQ=.ok (.nx Ha)/\k'<k/\P k' Ha)\/(g GQ=.ok (.rt r)/\Z)))):
  ∀n k env,k<n->P k env->(∃env',cZ c g n env=.ok (.nx env')/\fin env')\/(cZ c g n env=.ok (.rt r)/\Z)
 | 0,k,env,hk,_=>absurd hk (WU _)
 |n+1,k,env,hk,hp=>by
  rcases h k env hp with⟨GQ,h1,h2⟩|⟨GQ,h1,⟨Ha,k',h2,h3,h4⟩|⟨h2,hz⟩⟩
  ·exact .inl ⟨GQ,by rw[jS,h1,Ie];rfl,h2⟩
  ·have e:cZ c g (n+1) env=cZ c g n Ha:=by
    rw[jS,h1,Ie];dsimp only;rw[Ut rfl,h2,Ie]
   rw[e];exact sx P fin h n k' Ha (by lia) h4
  ·right;refine⟨?_,hz⟩;rw[jS,h1,Ie];dsimp only;rw[Ut rfl,h2,Ie]
def iz(k:Nat):List (Int×Pl)->Option (List Int)
 |[]=>some []
 |z::zs=>if z.1<z.2.2.1.getD k 0 then none else(iz k zs).map fun r=>(z.1-z.2.2.1.getD k 0+z.2.2.2.getD k 0)::r
theorem qa(k:Nat):∀{zs:List (Int×Pl)}{r:List Int},iz k zs=some r->r.length=zs.length
 |[],r,h=>by cases h;rfl
 |z::zs,r,h=>by
  rw[iz]at h;split at h
  ·cases h
  ·rw[UX]at h;obtain⟨r',h1,rfl⟩:=h;rw[UI,UI,qa k h1]
theorem sy(k:Nat):∀{zs:List (Int×Pl)}{r:List Int}{j:Nat}{z:Int×Pl},iz k zs=some r->zs[j]?=some z->¬ z.1<z.2.2.1.getD k 0/\r[j]?=some (z.1-z.2.2.1.getD k 0+z.2.2.2.getD k 0)
 |[],r,j,z,h,e=>by cases e
 |y::zs,r,j,z,h,e=>by
  rw[iz]at h;split at h
  ·cases h
  ·rename_i hn;rw[UX]at h;obtain⟨r',h1,rfl⟩:=h;cases j with
   |zero=>
    rw[List.getElem?_cons_zero]at e;cases e;exact⟨hn,rfl⟩
   |succ j=>
    rw[List.getElem?_cons_succ]at e ⊢;exact sy k h1 e
theorem DR(A0 A1 A2:Option R)(k cnt:Nat)(hk:k<cnt)(acc:List Int)(hl:acc.length<=1000)(z:Int×Pl)(hz:L8 z.2 cnt):c7 [A0,A1,A2,some (.f,.int (k:Int)),some (.l .f,.lst (acc.map D.int)),some (.f,.int z.1),some (.f,eP z.2)]=if z.1<z.2.2.1.getD k 0 then .ok (.rt (.f,.non)) else .ok (.nx [A0,A1,A2,some (.f,.int (k:Int)),some (.l .f,.lst ((acc++[z.1-z.2.2.1.getD k 0+z.2.2.2.getD k 0]).map D.int)),some (.f,.int z.1),some (.f,eP z.2)]):=by
 have h1:Ik (z.2.2.1.map D.int) (k:Int)=some (.int (z.2.2.1.getD k 0)):=fZ (by rw[hz.1];exact hk);have h2:Ik (z.2.2.2.map D.int) (k:Int)=some (.int (z.2.2.2.getD k 0)):=fZ (by rw[hz.2];exact hk);have S1:(acc.map D.int).length<sizeLine:=f7 (by rw[bc];lia);unfold c7 eP;by_cases h:z.1<z.2.2.1.getD k 0
 ·rw[Ut h];simp only[pv,seval,op,h1,h,Wc]
 ·rw[UD h,Uv,fD,U1];simp only[pv,seval,op,h1,h2,at2,h,VS,gG,S1]
theorem qb(A0 A1 A2:Option R)(k cnt:Nat)(hk:k<cnt):∀(zs:List (Int×Pl)) (acc:List Int) (t5 t6:Option R),acc.length+zs.length<=1000->(∀z∈zs,L8 z.2 cnt)->
  (iz k zs=none/\kM (fS 2 (aD (ay 5) (aD (ay 6) b7))) c7 (zs.map fun z:Int×Pl=>D.tup [D.int z.1,eP z.2]) [A0,A1,A2,some (.f,.int (k:Int)),some (.l .f,.lst (acc.map D.int)),t5,t6]=.ok (.rt (.f,.non)))\/
  ∃r u5 u6,iz k zs=some r/\kM (fS 2 (aD (ay 5) (aD (ay 6) b7))) c7 (zs.map fun z:Int×Pl=>D.tup [D.int z.1,eP z.2]) [A0,A1,A2,some (.f,.int (k:Int)),some (.l .f,.lst (acc.map D.int)),t5,t6]=.ok (.nx [A0,A1,A2,some (.f,.int (k:Int)),some (.l .f,.lst ((acc++r).map D.int)),u5,u6])
 |[],acc,t5,t6,_,_=>.inr ⟨[],t5,t6,rfl,by rw[Vd];rfl⟩
 |z::zs,acc,t5,t6,hl,hp=>by
  have h1:=DR A0 A1 A2 k cnt hk acc (by rw[UI]at hl;lia) z (hp z Uq);have ha:fS 2 (aD (ay 5) (aD (ay 6) b7)) (D.tup [D.int z.1,eP z.2]) [A0,A1,A2,some (.f,.int (k:Int)),some (.l .f,.lst (acc.map D.int)),t5,t6]=.ok [A0,A1,A2,some (.f,.int (k:Int)),some (.l .f,.lst (acc.map D.int)),some (.f,.int z.1),some (.f,eP z.2)]:=by simp only[pv,seval]
  rw[fD,jk,ha,Ie,h1,iz];by_cases h:z.1<z.2.2.1.getD k 0
  ·left;rw[Ut h,Ut h];exact⟨rfl,by rw[Ie]⟩
  ·rw[UD h,UD h,Ie];rcases qb A0 A1 A2 k cnt hk zs (acc++[z.1-z.2.2.1.getD k 0+z.2.2.2.getD k 0]) (some (.f,.int z.1)) (some (.f,eP z.2)) (by rw[UI]at hl;rw[iO,UG];lia) (fun y hy=>hp y (Uy _ hy)) with⟨e1,e2⟩|⟨r,u5,u6,e1,e2⟩
   ·left;exact⟨by rw[e1];rfl,e2⟩
   ·right;refine⟨_,u5,u6,by rw[e1];rfl,?_⟩;rw[Vo]at e2;exact e2
def eN(nY:LNN)(ps:List Pl):D:=.tup [.tup (nY.map D.str),.lst (ps.map eP)]
def eM(m:List Int):D:=.tup (m.map D.int)
theorem qU {nY : LNN} {m : List Nat} (h : m ∈ nY) : mE (nY.map D.str) [.str m] = .ok (.f, .int ((nY.idxOf m : Nat) : Int)) := by
  first
    | (unfold mE
       dsimp only
       rw [e7]
       dsimp only
       rw [Ut h])
    | (unfold mE
       simp only [e7, h, WN])
theorem k4{α β:Type}(f:α->D)(g:β->D)(xs:List α)(ys:List β):((xs.map f).zip (ys.map g)).map (fun z=>D.tup [z.1,z.2])=(xs.zip ys).map fun z=>D.tup [f z.1,g z.2]:=by
 rw[List.zip_map,UC];rfl
theorem DS(nY:LNN)(ps:List Pl)(hl:ps.length<=100)(hp:∀p∈ps,L8 p nY.length)(m:List Int)(mv:List Nat)(hm:mv∈nY):
  (iz (nY.idxOf mv) (m.zip ps)=none/\dk [eN nY ps,eM m,.str mv]=.ok (.f,.non))\/∃r,iz (nY.idxOf mv) (m.zip ps)=some r/\dk [eN nY ps,eM m,.str mv]=.ok (.f,eM r):=by
 have IT:=qU hm;have hk:=VI hm;generalize nY.idxOf mv=k at IT hk;unfold dk lQ eN eM;rw[bj (h:=by rfl)];rw[av (env':=[some (.f,.tup [.tup (nY.map D.str),.lst (ps.map eP)]),some (.f,.tup (m.map D.int)),some (.f,.str mv),some (.f,.int (k:Int)),none,none,none]) (by simp only[pv,seval,op,IT])];rw[av (env':=[some (.f,.tup [.tup (nY.map D.str),.lst (ps.map eP)]),some (.f,.tup (m.map D.int)),some (.f,.str mv),some (.f,.int (k:Int)),some (.l .f,.lst []),none,none]) (by simp only[pv,seval,op])];rcases qb (some (.f,.tup [.tup (nY.map D.str),.lst (ps.map eP)])) (some (.f,.tup (m.map D.int))) (some (.f,.str mv)) k nY.length hk (m.zip ps) [] none none (by rw[VR,WS];lia) (fun z hz=>hp _ (WL (show(z.1,z.2)∈m.zip ps from hz)).2) with⟨e1,e2⟩|⟨r,u5,u6,e1,e2⟩
 ·left;refine⟨e1,?_⟩;rw[U1]at e2;unfold gw;simp only[pv,seval,op,k4,e2]
 ·right;refine⟨r,e1,?_⟩;rw[U1,Xm]at e2;unfold gw iT;simp only[pv,seval,op,k4,e2]
theorem eqDs_ints:∀a b:List Int,j3 (a.map D.int) (b.map D.int)=decide (a=b)
 |[],[]=>rfl
 |[],_::_=>rfl
 |_::_,[]=>rfl
 |x::a,y::b=>by
  rw[fD,fD,j3,eqDs_ints a b,eqD,UP];simp
theorem Ba(a b:List Int):eqD (eM a) (eM b)=decide (a=b):=by
 unfold eM;rw[eqD,eqDs_ints]
theorem oG(a:List Int):plainD 40 (eM a)=true:=xZ a
theorem oH(l:List (List Int)):plainDs 40 (l.map eM)=true:=by
 induction l with
 |nil=>rfl
 |cons a l ih=>
  rw[fD,plainDs,ih,XN];exact oG a
theorem S6{α:Type}[DecidableEq α]{e:α->D}(he:∀a b,eqD (e a) (e b)=decide (a=b))(hp:∀l:List α,plainDs 40 (l.map e)=true)(hq:∀a,plainD 40 (e a)=true)(l:List α)(a:α)(h:a∈l):∃i:Nat,l[i]?=some a/\oh (l.map e) [e a]=.ok (.f,.int (i:Int)):=by
 have e1:(l.map e).any (fun d=>eqD d (e a))=true:=by
  rw[VY,U8];exact⟨a,h,by show eqD (e a) (e a)=true;rw[he,UW rfl]⟩
 have e2:(l.map e).findIdx (fun d=>eqD d (e a))=l.findIdx fun x=>decide (x=a):=by
  rw[List.findIdx_map];congr 1
  funext x
  exact he x a
 have h3:(l.findIdx fun x=>decide (x=a))<l.length:=List.findIdx_lt_length_of_exists ⟨a,h,UW rfl⟩;have h4:=Yr (p:=fun x=>decide (x=a)) (xs:=l) (w:=h3);refine⟨l.findIdx fun x=>decide (x=a),by rw[mq h3];congr 1;simpa using h4,?_⟩;unfold oh;dsimp only;rw[hq,hp,e1,e2];rfl
theorem mf{α:Type}[DecidableEq α](a:α):∀l:List α,a∉l->((l++[a]).findIdx fun x=>decide (x=a))=l.length
 |[],_=>by simp
 |x::l,h=>by
  rw[Ux,not_or]at h;rw[XU,List.findIdx_cons,mf a l h.2,UO (fun e=>h.1 e.symm)];rfl
theorem Fu{α:Type}[DecidableEq α]{e:α->D}(he:∀a b,eqD (e a) (e b)=decide (a=b))(hp:∀l:List α,plainDs 40 (l.map e)=true)(hq:∀a,plainD 40 (e a)=true)(l:List α)(a:α)(h:a∉l):oh (l.map e++[e a]) [e a]=.ok (.f,.int (l.length:Int)):=by
 have e0:l.map e++[e a]=(l++[a]).map e:=by rw[Uv];rfl
 have e1:((l++[a]).map e).any (fun d=>eqD d (e a))=true:=by
  rw[VY,U8];exact⟨a,Us _ (UJ.mpr rfl),by show eqD (e a) (e a)=true;rw[he,UW rfl]⟩
 have e2:((l++[a]).map e).findIdx (fun d=>eqD d (e a))=l.length:=by
  rw[List.findIdx_map];rw[<-mf a l h];congr 1
  funext x
  exact he x a
 unfold oh;dsimp only;rw[e0,hq,hp,e1,e2];rfl
theorem GF{α:Type}[DecidableEq α]{e:α->D}(he:∀a b,eqD (e a) (e b)=decide (a=b))(hp:∀l:List α,plainDs 40 (l.map e)=true)(hq:∀a,plainD 40 (e a)=true)(l:List α)(a:α):ub (e a) (.lst (l.map e))=.ok (.f,.bl (!decide (a∈l))):=by
 have e1:ua (e a) (l.map e)=decide (a∈l):=by
  unfold ua;rw[VY,UP,U8,UL];constructor
  ·rintro⟨x,hx,e1⟩;have e1:eqD (e x) (e a)=true:=e1;rw[he,UL]at e1;rw[<-e1];exact hx
  ·intro h;refine⟨a,h,?_⟩;show eqD (e a) (e a)=true;rw[he,UL]
 unfold ub Mv;dsimp only;rw[hq,hp,Wo,Ut rfl,e1];rfl
structure Rm(nY:LNN)(ps:List Pl)(S:List (List Int))(A:List GZ)(m:Nat):Prop where
 nd:S.Nodup
 z:S[0]?=some (ps.map (·.1))
 ln:∀s∈S,s.length=ps.length
 le:S.length<=8
 ab:∀a∈A,a.2.1∈nY/\∃i j:Nat,i<m/\a.1=(i:Int)/\a.2.2=(j:Int)/\∃s t,S[i]?=some s/\S[j]?=some t/\iz (nY.idxOf a.2.1) (s.zip ps)=some t
 rc:∀j:Nat,1<=j->j<S.length->∃a∈A,a.2.2=(j:Int)/\∃b:Nat,b<j/\a.1=(b:Int)
theorem Rm.more{nY:LNN}{ps:List Pl}{S:List (List Int)}{A:List GZ}{m m':Nat}(r:Rm nY ps S A m)(h:m<=m'):Rm nY ps S A m':=⟨r.nd,r.z,r.ln,r.le,fun a ha=>by
 obtain⟨h1,i,j,h2,h3⟩:=r.ab a ha;exact⟨h1,i,j,by lia,h3⟩,r.rc⟩
theorem Rm.old{nY:LNN}{ps:List Pl}{S:List (List Int)}{A:List GZ}{d:Nat}(r:Rm nY ps S A (d+1)){mv:List Nat}(hn:mv∈nY){s t:List Int}(hs:S[d]?=some s){i:Nat}(ht:S[i]?=some t)(hf:iz (nY.idxOf mv) (s.zip ps)=some t):Rm nY ps S (A++[((d:Int),mv,(i:Int))]) (d+1):=by
 refine⟨r.nd,r.z,r.ln,r.le,fun a ha=>?_,fun j j1 j2=>?_⟩
 ·rcases kc ha with ha|ha
  ·exact r.ab a ha
  ·rw[ka ha];exact⟨hn,d,i,by lia,rfl,rfl,s,t,hs,ht,hf⟩
 ·obtain⟨a,ha,q⟩:=r.rc j j1 j2;exact⟨a,UA _ ha,q⟩
theorem Rm.new{nY:LNN}{ps:List Pl}{S:List (List Int)}{A:List GZ}{d:Nat}(r:Rm nY ps S A (d+1)){mv:List Nat}(hn:mv∈nY){s t:List Int}(hs:S[d]?=some s)(ht:t∉S)(hf:iz (nY.idxOf mv) (s.zip ps)=some t)(h8:S.length<8):Rm nY ps (S++[t]) (A++[((d:Int),mv,(S.length:Int))]) (d+1):=by
 have hd:=(jV hs).1;have hl:(S++[t]).length=S.length+1:=by rw[iO];rfl
 have up:∀{i:Nat}{x:List Int},S[i]?=some x->(S++[t])[i]?=some x:=fun{i x} h=>by
  rw[List.getElem?_append_left (jV h).1];exact h
 refine⟨U3.mpr ⟨r.nd,US.mpr ⟨U9,Vm⟩,fun x hx y hy=>?_⟩,up r.z,fun x hx=>?_,by lia,fun a ha=>?_,fun j j1 j2=>?_⟩
 ·rw[ka hy];rintro rfl;exact ht hx
 ·rcases kc hx with hx|hx
  ·exact r.ln x hx
  ·rw[ka hx,qa _ hf,WS,r.ln s (Uw hs),Nat.min_self]
 ·rcases kc ha with ha|ha
  ·obtain⟨h1,i,j,h2,h3,h4,x,y,h5,h6,h7⟩:=r.ab a ha;exact⟨h1,i,j,h2,h3,h4,x,y,up h5,up h6,h7⟩
  ·rw[ka ha];exact⟨hn,d,S.length,by lia,rfl,rfl,s,t,up hs,by rw[List.getElem?_append_right (Ur _),Yk];rfl,hf⟩
 ·by_cases e:j=S.length
  ·subst e;exact⟨_,Us _ (UJ.mpr rfl),rfl,d,hd,rfl⟩
  ·obtain⟨a,ha,q⟩:=r.rc j j1 (by lia);exact⟨a,UA _ ha,q⟩
theorem DT(t:List Int):cY (eM t)=true:=by
 unfold eM;rw[cS,GY]
theorem DU(nY:LNN)(ps:List Pl)(hl:ps.length<=100)(hp:∀p∈ps,L8 p nY.length)(S:List (List Int))(A:List GZ)(hA:A.length<=1000)(d:Nat)(r:Rm nY ps S A (d+1))(hd:d<S.length)(mv:List Nat)(hn:mv∈nY)(t6:Option R):
  (∃(S':List (List Int)) (A':List GZ) (u6:Option R),Rm nY ps S' A' (d+1)/\S.length<=S'.length/\A'.length<=A.length+1/\dI [some (.f,eN nY ps),some (.f,.int 8),some (.l .f,.lst (S.map eM)),some (.l .f,.lst (A.map eA)),some (.f,.int ((d:Nat):Int)),some (.f,.str mv),t6]=.ok (.nx [some (.f,eN nY ps),some (.f,.int 8),some (.l .f,.lst (S'.map eM)),some (.l .f,.lst (A'.map eA)),some (.f,.int ((d:Nat):Int)),some (.f,.str mv),u6]))\/
  (dI [some (.f,eN nY ps),some (.f,.int 8),some (.l .f,.lst (S.map eM)),some (.l .f,.lst (A.map eA)),some (.f,.int ((d:Nat):Int)),some (.f,.str mv),t6]=.ok (.rt (.f,.non))/\∃S A m,Rm nY ps S A m/\S.length=8):=by
 have S7:S[d]?=some S[d]:=mq hd;have K4:Ik (S.map eM) (d:Int)=some (eM S[d]):=e9 (by rw[List.getElem?_map,S7];rfl);have h8:=r.le;have hzA:(A.map eA).length<sizeLine:=f7 (by rw[bc];lia);have hzS:(S.map eM).length<sizeLine:=f7 (by rw[bc];lia);have Qb:cY .non=true:=rfl;unfold dI;rcases DS nY ps hl hp S[d] mv hn with⟨hf,e⟩|⟨t,hf,e⟩
 ·refine .inl ⟨S,A,some (.f,.non),r,Ur _,by lia,?_⟩;rw[av (env':=[some (.f,eN nY ps),some (.f,.int 8),some (.l .f,.lst (S.map eM)),some (.l .f,.lst (A.map eA)),some (.f,.int ((d:Nat):Int)),some (.f,.str mv),some (.f,.non)]) (by simp only[pv,seval,op,K4,e,Qb])];simp only[pv,seval,op,si,gG]
 ·have hft:=DT t;have PJ:=GF Ba oH oG S t;have S8:isnO (eM t) .non=.ok (.f,.bl true):=id rfl;rw[av (env':=[some (.f,eN nY ps),some (.f,.int 8),some (.l .f,.lst (S.map eM)),some (.l .f,.lst (A.map eA)),some (.f,.int ((d:Nat):Int)),some (.f,.str mv),some (.f,eM t)]) (by simp only[pv,seval,op,K4,e,hft])];by_cases hm:t∈S
  ·obtain⟨i,hi,IT⟩:=S6 Ba oH oG S t hm;refine .inl ⟨S,A++[((d:Int),mv,(i:Int))],some (.f,eM t),r.old hn S7 hi hf,Ur _,by rw[iO];exact Ur _,?_⟩;rw[Uv];simp only[pv,seval,op,S8,PJ,hm,Wc,Vu,gG,sf,IT,hzA];rfl
  ·by_cases h9:S.length=8
   ·right;refine⟨?_,S,A,d+1,r,h9⟩;have he:((S.length:Int)==8)=true:=by rw[h9];rfl
    simp only[pv,seval,op,S8,PJ,hm,VS,Vn,bc,he]
   ·have he:((S.length:Int)==8)=false:=by
     rw[U7];lia
    have IT:=Fu Ba oH oG S t hm;refine .inl ⟨S++[t],A++[((d:Int),mv,(S.length:Int))],some (.f,eM t),r.new hn S7 hm hf (by lia),by rw[iO];lia,by rw[iO];exact Ur _,?_⟩;rw[Uv,Uv,fD,U1];have hzS':S.length<sizeLine:=f7 (by lia);have hzA':A.length<sizeLine:=f7 (by lia);simp only[pv,seval,op,S8,PJ,hm,VS,Vn,gG,bc,he,sf,IT,hzA',hzS'];rfl
theorem Bb(nY:LNN)(hn:nY.length<=3)(ps:List Pl)(hl:ps.length<=100)(hp:∀p∈ps,L8 p nY.length):
  (∃S A m,Rm nY ps S A m/\A.length<=24/\bK [eN nY ps,.int 8]=.ok (.f,.tup [.lst ((bZ eV A).map eA),.lst (S.map eM)]))\/(bK [eN nY ps,.int 8]=.ok (.f,.non)/\∃S A m,Rm nY ps S A m/\S.length=8):=by
 unfold bK mZ;rw[bj (h:=by rfl)];have hc:cC (fS 3 (aD (ay 0) (aD (ay 1) (aD (ay 2) b7)))) dD (aN 0) (ps.map eP) [none,none,none]=.ok ((ps.map (·.1)).map D.int):=by
  rw[bo (r:=fun p:Pl=>D.int p.1) (fun env=>∃t u w,env=[t,u,w]) ps ?_ _ ⟨none,none,none,rfl⟩]
  ·rw[UC];rfl
  ·rintro p _ env ⟨t,u,w,rfl⟩;exact⟨[some (.f,.int p.1),some (.f,.tup (p.2.1.map D.int)),some (.f,.tup (p.2.2.map D.int))],by unfold eP;simp only[pv,seval],.f,_,rfl,_,_,_,rfl⟩
 have hlen:((ps.map (·.1)).map D.int).length<=sizeLine:=aQ (by rw[bc,bc];lia);have Ld:=GY (ps.map (·.1));rw[av (env':=[some (.f,eN nY ps),some (.f,.int 8),some (.l .f,.lst [eM (ps.map (·.1))]),none,none,none,none]) (by
  unfold eN eM;simp only[pv,seval,op,hc,hlen,Ld])]
 rw[av (env':=[some (.f,eN nY ps),some (.f,.int 8),some (.l .f,.lst [eM (ps.map (·.1))]),some (.l .f,.lst []),none,none,none]) (by simp only[pv,seval,op])];rw[av (env':=[some (.f,eN nY ps),some (.f,.int 8),some (.l .f,.lst [eM (ps.map (·.1))]),some (.l .f,.lst []),some (.f,.int 0),none,none]) (by simp only[pv,seval,op])];rcases sx (c:=(HD (aB Mx (ao 4) (aj (aV g5 (ag (ao 2) aA)))))) (g:=dJ) (r:=(.f,.non)) (Z:=∃S A m,Rm nY ps S A m/\S.length=8)
  (fun k env=>∃S A d t5 t6,Rm nY ps S A d/\d<=S.length/\A.length<=3*d/\k=9-d/\env=[some (.f,eN nY ps),some (.f,.int 8),some (.l .f,.lst (S.map eM)),some (.l .f,.lst (A.map eA)),some (.f,.int ((d:Nat):Int)),t5,t6]) (fun env=>∃S A d t5 t6,Rm nY ps S A d/\d=S.length/\A.length<=3*d/\env=[some (.f,eN nY ps),some (.f,.int 8),some (.l .f,.lst (S.map eM)),some (.l .f,.lst (A.map eA)),some (.f,.int ((d:Nat):Int)),t5,t6]) (by
  rintro k env ⟨S,A,d,t5,t6,r,hd,hA,rfl,rfl⟩;have h8:=r.le;by_cases HN:d<S.length
  ·refine .inr ⟨[some (.f,eN nY ps),some (.f,.int 8),some (.l .f,.lst (S.map eM)),some (.l .f,.lst (A.map eA)),some (.f,.int ((d:Nat):Int)),t5,t6],?_,?_⟩
   ·have:(d:Int)<(S.length:Int):=by lia
    simp only[pv,seval,op,bc,this,Wc]
   ·rcases DQ (a:=ay 5) (g:=dI) (e:=D.str) (r:=(.f,.non)) (Z:=∃S A m,Rm nY ps S A m/\S.length=8) nY (fun j env=>∃S' A' t5 t6,Rm nY ps S' A' (d+1)/\S.length<=S'.length/\A'.length<=3*d+j/\env=[some (.f,eN nY ps),some (.f,.int 8),some (.l .f,.lst (S'.map eM)),some (.l .f,.lst (A'.map eA)),some (.f,.int ((d:Nat):Int)),t5,t6]) (by
     rintro j mv env hj ⟨S',A',t5,t6,r',OO,hA',rfl⟩;have RL:=(jV hj).1;have h8:=r'.le;refine⟨[some (.f,eN nY ps),some (.f,.int 8),some (.l .f,.lst (S'.map eM)),some (.l .f,.lst (A'.map eA)),some (.f,.int ((d:Nat):Int)),some (.f,.str mv),t6],rfl,?_⟩;rcases DU nY ps hl hp S' A' (by lia) d r' (by lia) mv (Uw hj) t6 with⟨S2,A2,u6,r2,hd2,hA2,e⟩|e
     ·exact .inl ⟨_,e,S2,A2,_,_,r2,by lia,by lia,rfl⟩
     ·exact .inr e) _ ⟨S,A,t5,t6,r.more (by lia),Ur _,by lia,rfl⟩ with⟨env',ef,S',A',S9,t6',r',OO,hA',rfl⟩|⟨ef,hz⟩
    ·have h8':=r'.le;refine .inl ⟨_,9-(d+1),?_,by lia,S',A',d+1,S9,t6',r',by lia,by lia,rfl,rfl⟩;unfold dJ;rw[av (env':=_) (by
      unfold hJ;unfold eN at ef ⊢;simp only[pv,seval,op];exact ef)]
     unfold jI;simp only[pv,seval,op,Yl,Xq];rfl
    ·refine .inr ⟨?_,hz⟩;unfold dJ;rw[IW];unfold hJ;unfold eN at ef ⊢;simp only[pv,seval,op,ef]
  ·refine .inl ⟨_,?_,S,A,d,t5,t6,r,by lia,hA,rfl⟩;have:¬ (d:Int)<(S.length:Int):=by lia
   simp only[pv,seval,op,bc,this,VS]) 100000 9 _ (by decide) ⟨[ps.map (·.1)],[],0,none,none,⟨US.mpr ⟨U9,Vm⟩,rfl,fun x hx=>by rw[ka hx,bc],by simp,(fun _ h=>nomatch h),fun j j1 j2=>by rw[UG]at j2;lia⟩,U6 _,Ur _,rfl,rfl⟩ with⟨env',ew,S,A,d,t5,t6,r,hd,hA,rfl⟩|⟨ew,hz⟩
 ·have h8:=r.le;left;refine⟨S,A,d,r,by lia,?_⟩;rw[av (env':=_) (by
   unfold hU;exact ew)]
  unfold jJ;simp only[pv,seval,op,qT A (by lia)]
 ·right;refine⟨?_,hz⟩;rw[IW];unfold hU;have ew2:(cZ (HD (aB Mx (ao 4) (aj (aV g5 (ag (ao 2) aA))))) dJ 100000) [some (.f,eN nY ps),some (.f,.int 8),some (.l .f,.lst [eM (ps.map (·.1))]),some (.l .f,.lst []),some (.f,.int 0),none,none]=.ok (.rt (.f,.non)):=ew;rw[ew2];simp only[pv,seval]
theorem DV(p:Pl):cY (eP p)=true:=by
 unfold eP;rw[cS];simp only[flatDs,cS,GY,gF];rfl
theorem Bc(ps:List Pl):flatDs (ps.map eP)=true:=by
 rw[bB,Vi,UE];exact fun p _=>DV p
theorem qV{α:Type}[DecidableEq α]:∀(l m:List α),l.Nodup->(∀x∈l,x∈m)->l.length<=m.length
 |[],m,_,_=>U6 _
 |a::l,m,nd,h=>by
  rw[US]at nd;have ha:=h a Uq;have:=qV l (m.erase a) nd.2 fun x hx=>(List.mem_erase_of_ne (fun e=>nd.1 (by rw[<-e];exact hx))).mpr (h x (Uy _ hx))
  rw[XE ha]at this;have:=X5 ha;rw[UI];lia
def oJ(nY:LNN)(b:Int):Pl:=(b,nY.map fun _=>1,nY.map fun _=>0)
theorem sH(nY:LNN)(c:Int){k:Nat}(h:k<nY.length):(nY.map fun _=>c).getD k 0=c:=by
 rw[List.getD_eq_getElem?_getD,List.getElem?_map,mq h];rfl
theorem wH{nY:LNN}{ps:List Pl}{b:Int}{k:Nat}(hk:k<nY.length){s t:List Int}(hs:s.length=(ps++[oJ nY b]).length)(hf:iz k (s.zip (ps++[oJ nY b]))=some t):1<=s.getD ps.length 0/\t.getD ps.length 0=s.getD ps.length 0-1:=by
 rw[iO,UG]at hs;have HN:ps.length<s.length:=by lia
 have e:(s.zip (ps++[oJ nY b]))[ps.length]?=some (s[ps.length],oJ nY b):=by
  rw[List.getElem?_zip_eq_some];exact⟨mq HN,by rw[List.getElem?_append_right (Ur _),Yk];rfl⟩
 obtain⟨h1,h2⟩:=sy k hf e;have e1:(oJ nY b).2.1.getD k 0=1:=sH nY 1 hk;have e2:(oJ nY b).2.2.getD k 0=0:=sH nY 0 hk;dsimp only at h1 h2;rw[e1]at h1;rw[e1,e2]at h2;have e3:s.getD ps.length 0=s[ps.length]:=by rw[List.getD_eq_getElem?_getD,mq HN];rfl
 rw[e3,List.getD_eq_getElem?_getD,h2];exact⟨by lia,by show _=_;simp⟩
theorem yc{nY:LNN}{ps:List Pl}{S:List (List Int)}{A:List GZ}{m:Nat}(r:Rm nY (ps++[oJ nY 1]) S A m):S.length<=1+nY.length:=by
 have hz:=r.z;cases hS:S with
 |nil=>exact U6 _
 |cons s0 tl=>
  rw[hS,List.getElem?_cons_zero,W3]at hz;have h0:s0.getD ps.length 0=1:=by
   rw[hz,List.getD_eq_getElem?_getD,List.getElem?_map,List.getElem?_append_right (Ur _),Yk];rfl
  have key:∀j:Nat,1<=j->∀s,S[j]?=some s->s.getD ps.length 0=0/\∃mv∈nY,iz (nY.idxOf mv) (s0.zip (ps++[oJ nY 1]))=some s:=by
   intro j;induction j using Nat.strongRecOn with
   |_ j ih=>
    intro hj s hs;obtain⟨a,ha,e1,b,hb,e2⟩:=r.rc j hj (jV hs).1;obtain⟨hn,i',j',_,e3,e4,x,y,hx,hy,hf⟩:=r.ab a ha;have:i'=b:=by lia
    subst this;have:j'=j:=by lia
    subst this;rw[hs]at hy;cases hy;have hd:=wH (VI hn) (r.ln x (Uw hx)) hf;cases i' with
    |zero=>
     rw[hS,List.getElem?_cons_zero,W3]at hx;subst hx;exact⟨by lia,_,hn,hf⟩
    |succ i'=>
     have:=(ih (i'+1) hb (by lia) x hx).1;lia
  have nd:=r.nd;rw[hS]at nd;have:=qV tl (nY.filterMap fun mv=>iz (nY.idxOf mv) (s0.zip (ps++[oJ nY 1]))) (US.mp nd).2 fun s hs=>by
   obtain⟨i,hi⟩:=U0.mp hs;obtain⟨_,mv,RU,hf⟩:=key (i+1) (by lia) s (by rw[hS,List.getElem?_cons_succ];exact hi);exact Wa.mpr ⟨mv,RU,hf⟩
  have h2:=List.length_filterMap_le (fun mv=>iz (nY.idxOf mv) (s0.zip (ps++[oJ nY 1]))) nY;rw[UI];lia
theorem qc(nY:LNN)(c:Int):cC (ay 0) dD (aH (.int c)) (nY.map D.str) [none]=.ok ((nY.map fun _=>c).map D.int):=by
 rw[bo (r:=fun _:List Nat=>D.int c) (fun env=>∃t,env=[t]) nY ?_ _ ⟨none,rfl⟩]
 ·rw[UC];rfl
 ·rintro n _ env ⟨t,rfl⟩;exact⟨[some (.f,.str n)],rfl,.f,_,rfl,_,rfl⟩
theorem GH(ps:List Pl)(hl:ps.length<=100)(d:D):cK (.lst (ps.map eP)) (.lst [d])=.ok (.l .f,.lst (ps.map eP++[d])):=by
 rw[we,Ut (line_le (by rw[bc,UG];lia))]
structure Nt(nY:LNN)(ps:List Pl)(S:List (List Int))(A:List GZ):Prop where
 n0:nY≠[]
 n3:nY.length<=3
 nn:nY.Nodup
 nw:nY.Pairwise (fun a b=>L1 b a=false)
 p0:ps≠[]
 p9:ps.length<=9
 po:∀p∈ps,L8 p nY.length
 al:A.length<=24
 rm:∃m,Rm nY ps S A m
theorem Fv(ns:List Int)(first:Nat):∃nY ps S A,Nt nY ps S A/\dY [.lst (ns.map D.int),.int (first:Int)]=.ok (.f,eN nY ps)/\bK [eN nY ps,.int 8]=.ok (.f,.tup [.lst ((bZ eV A).map eA),.lst (S.map eM)]):=by
 obtain⟨nY,n0,n3,nn,nw,en⟩:=A9 ns;obtain⟨ps,Rl,Ta,hp8,ep⟩:=yb ns first nY.length (by lia)
 have RT:=Bc ps;have Nv:cY (.tup (nY.map D.str))=true:=by rw[cS,PV.flat_strs]
 have Qb:cY .non=true:=rfl;have L9:∀(x y:List D),flatDs [.lst x,.lst y]=false:=fun _ _=>rfl
 unfold dY m6;rw[bj (h:=by rfl)];rw[av (env':=[some (.f,.lst (ns.map D.int)),some (.f,.int (first:Int)),some (.f,.tup (nY.map D.str)),none,none,none,none]) (by simp only[pv,seval,op,en,Nv])];rw[av (env':=[some (.f,.lst (ns.map D.int)),some (.f,.int (first:Int)),some (.f,.tup (nY.map D.str)),some (.f,.int (nY.length:Int)),none,none,none]) (by simp only[pv,seval,op,bc])];rw[av (env':=[some (.f,.lst (ns.map D.int)),some (.f,.int (first:Int)),some (.f,.tup (nY.map D.str)),some (.f,.int (nY.length:Int)),some (.l .f,.lst (ps.map eP)),none,none]) (by simp only[pv,seval,op,ep,RT])];rcases Bb nY n3 ps (by lia) Rl with⟨S,A,m,r,hA,er⟩|⟨er,_⟩
 ·refine⟨nY,ps,S,A,⟨n0,n3,nn,nw,Ta,by lia,Rl,hA,m,r⟩,?_,er⟩;unfold eN at er ⊢;simp only[pv,seval,op,er,L9,gG,o_isnT,Ec,Ed]
 ·unfold eN at er;rw[av (env':=[some (.f,.lst (ns.map D.int)),some (.f,.int (first:Int)),some (.f,.tup (nY.map D.str)),some (.f,.int (nY.length:Int)),some (.f,.lst (ps.map eP)),none,none]) (by simp only[pv,seval,op,er,Qb,si,gG])];have c1:=qc nY 1;have c0:=qc nY 0;have l1:((nY.map fun _=>(1:Int)).map D.int).length<=sizeLine:=aQ (by rw[bc,bc];lia);have l0:((nY.map fun _=>(0:Int)).map D.int).length<=sizeLine:=aQ (by rw[bc,bc];lia);have f1:=GY (nY.map fun _=>(1:Int));have f0:=GY (nY.map fun _=>(0:Int));rw[av (env':=[some (.f,.lst (ns.map D.int)),some (.f,.int (first:Int)),some (.f,.tup (nY.map D.str)),some (.f,.int (nY.length:Int)),some (.f,.lst (ps.map eP)),some (.f,.tup ((nY.map fun _=>(1:Int)).map D.int)),none]) (by simp only[pv,seval,op,c1,l1,f1])];rw[av (env':=[some (.f,.lst (ns.map D.int)),some (.f,.int (first:Int)),some (.f,.tup (nY.map D.str)),some (.f,.int (nY.length:Int)),some (.f,.lst (ps.map eP)),some (.f,.tup ((nY.map fun _=>(1:Int)).map D.int)),some (.f,.tup ((nY.map fun _=>(0:Int)).map D.int))]) (by simp only[pv,seval,op,c0,l0,f0])];have OJ:∀b:Int,(ps++[oJ nY b]).map eP=ps.map eP++[.tup [.int b,.tup ((nY.map fun _=>(1:Int)).map D.int),.tup ((nY.map fun _=>(0:Int)).map D.int)]]:=fun b=>by
   rw[Uv];rfl
  have Oq:∀b:Int,∀p∈ps++[oJ nY b],L8 p nY.length:=fun b p hp=>by
   rcases kc hp with hp|hp
   ·exact Rl p hp
   ·rw[ka hp];exact⟨bc _,bc _⟩
  have Ma:∀b:Int,(ps++[oJ nY b]).length<=9:=fun b=>by
   rw[iO,UG];lia
  have Rn:∀b:Int,ps++[oJ nY b]≠[]:=fun b h=>by simp at h
  have Tb:=fun d=>GH ps (by lia) d
  have lo:((ps.map eP).length)<=100:=by rw[bc];lia
  rcases Bb nY n3 (ps++[oJ nY 2]) (by have:=Ma 2;lia) (Oq 2) with⟨S,A,m,r,hA,er2⟩|⟨er2,_⟩
  ·refine⟨nY,ps++[oJ nY 2],S,A,⟨n0,n3,nn,nw,Rn 2,Ma 2,Oq 2,hA,m,r⟩,?_,er2⟩;unfold eN at er2 ⊢;rw[OJ]at er2 ⊢;simp only[pv,seval,op,Tb,er2,L9,gG,o_isnT,Ec,Ed]
  ·rcases Bb nY n3 (ps++[oJ nY 1]) (by have:=Ma 1;lia) (Oq 1) with⟨S,A,m,r,hA,er3⟩|⟨_,S,A,m,r,h8⟩
   ·refine⟨nY,ps++[oJ nY 1],S,A,⟨n0,n3,nn,nw,Rn 1,Ma 1,Oq 1,hA,m,r⟩,?_,er3⟩;unfold eN at er2 ⊢;rw[OJ]at er2 ⊢;rw[av (env':=[some (.f,.lst (ns.map D.int)),some (.f,.int (first:Int)),some (.f,.tup (nY.map D.str)),some (.f,.int (nY.length:Int)),some (.f,.lst (ps.map eP)),some (.f,.tup ((nY.map fun _=>(1:Int)).map D.int)),some (.f,.tup ((nY.map fun _=>(0:Int)).map D.int))]) (by simp only[pv,seval,op,Tb,er2,Qb,si,gG])];simp only[pv,seval,op,Tb]
   ·have:=yc r;lia
theorem Nt.ra{nY:LNN}{ps:List Pl}{S:List (List Int)}{A:List GZ}(n:Nt nY ps S A):Ra nY A S.length:=by
 obtain⟨m,r⟩:=n.rm;have h8:=r.le;have Ka:=n.al;have h0:=(jV r.z).1;refine⟨by lia,by lia,fun a ha=>?_,fun a ha=>(r.ab a ha).1,r.rc⟩;obtain⟨_,i,j,_,e1,e2,s,t,hs,ht,_⟩:=r.ab a ha;have h1:=(jV hs).1;have h2:=(jV ht).1;lia
def wD(w:LNN):D:=.tup (w.map D.str)
theorem DW(w:LNN)(m:List Nat):Bv (w.map D.str) [.str m]=.ok (.f,.int ((w.count m:Nat):Int)):=by
 unfold Bv;dsimp only;rw[e7]
def row(nY w:LNN):List Int:=nY.map fun m=>((w.count m:Nat):Int)
theorem mh(nY w:LNN)(hl:nY.length<=1000):c6 [.tup (nY.map D.str),.tup (w.map D.str)]=.ok (.f,.tup ((row nY w).map D.int)):=by
 unfold c6 pS;rw[bj (h:=by rfl)];have hc:cC (ay 0) dD (xN Bv (ao 1) (ag (ao 0) aA)) (nY.map D.str) [none,some (.f,.tup (w.map D.str))]=.ok ((row nY w).map D.int):=by
  rw[bo (r:=fun m:List Nat=>D.int ((w.count m:Nat):Int)) (fun env=>∃t1,env=[t1,some (.f,.tup (w.map D.str))]) nY ?_ _ ⟨_,rfl⟩]
  ·unfold row;rw[UC];rfl
  ·rintro m _ env ⟨t1,rfl⟩;refine⟨[some (.f,.str m),some (.f,.tup (w.map D.str))],rfl,?_⟩;simp only[pv,seval,op,DW];exact⟨_,_,rfl,_,rfl⟩
 simp only[pv,seval,op,hc];rw[Ut (aQ (by unfold row;rw[bc,bc];lia))];simp only[pv,seval,op]
theorem Be(ws:List (LNN)):flatDs (ws.map wD)=true:=by
 rw[bB,Vi,UE];intro s _;show cY (.tup _)=true;rw[cS,PV.flat_strs]
theorem DX(l:List (Int×Int))(hl:l.length<=1000):lJ [.tup (l.map fun p=>.int p.1),.tup (l.map fun p=>.int p.2)]=.ok (.f,.tup ((l.map fun p=>p.1-p.2).map D.int)):=by
 unfold lJ yS;rw[bj (h:=by rfl)];have ez:((l.map fun p=>D.int p.1).zip (l.map fun p=>D.int p.2)).map (fun z=>D.tup [z.1,z.2])=l.map fun p=>D.tup [.int p.1,.int p.2]:=by
  rw[List.zip_map',UC];rfl
 have hc:cC (fS 2 (aD (ay 0) (aD (ay 1) b7))) dD (aB pA (ao 0) (ao 1)) (l.map fun p=>D.tup [.int p.1,.int p.2]) [none,none]=.ok ((l.map fun p=>p.1-p.2).map D.int):=by
  rw[bo (r:=fun p:Int×Int=>D.int (p.1-p.2)) (fun env=>∃t1 t2,env=[t1,t2]) l ?_ _ ⟨_,_,rfl⟩]
  ·rw[UC];rfl
  ·rintro p _ env ⟨t1,t2,rfl⟩;refine⟨_,qP _ _ t1 t2 [],?_⟩;simp only[pv,seval,op];exact⟨_,_,rfl,_,_,rfl⟩
 simp only[pv,seval,op,ez,hc];rw[Ut (aQ (by rw[bc,bc];lia))];simp only[pv,seval,op]
def qe(nY:LNN)(N:List Nd)(a:GZ):List Int:=(nY.map fun m=>((((wayOf N a.1++[a.2.1]).count m:Nat):Int),(((wayOf N a.2.2).count m:Nat):Int))).map fun p=>p.1-p.2
theorem Bf(nY w w':LNN)(hl:nY.length<=1000):lJ [.tup ((row nY w).map D.int),.tup ((row nY w').map D.int)]=.ok (.f,.tup (((nY.map fun m=>(((w.count m:Nat):Int),((w'.count m:Nat):Int))).map fun p=>p.1-p.2).map D.int)):=by
 have h:=DX (nY.map fun m=>(((w.count m:Nat):Int),((w'.count m:Nat):Int))) (by rw[bc];exact hl);rw[<-h];unfold row;rw[UC,UC,UC,UC];rfl
theorem wI{N:List Nd}{many:Nat}{s:Int}(h0:0<=s)(h:s<(many:Int)):Ik (((List.range many).map fun(s:Nat)=>wayOf N (s:Int)).map wD) s=some (.tup ((wayOf N s).map D.str)):=by
 obtain⟨k,rfl⟩:=UN h0;exact e9 (by rw[List.getElem?_map,List.getElem?_map,List.getElem?_range (by lia)];rfl)
theorem kg(n:Nat)(ap:List GZ):plainDs (n+3) (ap.map eA)=true:=by
 induction ap with
 |nil=>rfl
 |cons a l ih=>
  rw[fD,plainDs,ih];rfl
theorem sI(T:List GZ)(a:GZ):ub (eA a) (.lst (T.map eA))=.ok (.f,.bl (!decide (a∈T))):=by
 have e:ua (eA a) (T.map eA)=decide (a∈T):=by
  unfold ua;rw[VY,UP,U8,UL];constructor
  ·rintro⟨x,hx,e⟩;have e:eqD (eA x) (eA a)=true:=e;rw[DI,UL]at e;rw[<-e];exact hx
  ·intro h;refine⟨a,h,?_⟩;show eqD (eA a) (eA a)=true;rw[DI,UL]
 unfold ub Mv;dsimp only;rw[show plainD 40 (eA a)=true from rfl,kg 37 T,Wo,Ut rfl,e];rfl
def JP(nY:LNN)(N:List Nd)(T ap:List GZ):List (List Int):=(ap.filter fun a=>!decide (a∈T)).map (qe nY N)
theorem Bg(nY:LNN)(N:List Nd)(T l:List GZ)(a:GZ):JP nY N T (l++[a])=if a∈T then JP nY N T l else JP nY N T l++[qe nY N a]:=by
 unfold JP;rw[List.filter_append,Uv];by_cases h:a∈T
 ·rw[Ut h,List.filter_cons_of_neg (by simpa using h)];simp
 ·rw[UD h,List.filter_cons_of_pos (by simpa using h)];rfl
theorem wJ(nY:LNN)(N:List Nd)(T l:List GZ):(JP nY N T l).length<=l.length:=by
 unfold JP;rw[bc];exact List.length_filter_le _ _
theorem tW{nY:LNN}{ap:List GZ}{N:List Nd}{T:List GZ}{many:Nat}(ew:cN [G0 nY ap]=.ok (.l .f,.lst (((List.range many).map fun(s:Nat)=>wayOf N (s:Int)).map wD)))(et:c5 [.lst (ap.map eA)]=.ok (.l .f,.lst (T.map eA)))
  (hb:∀a∈ap,(0<=a.1/\a.1<(many:Int))/\0<=a.2.2/\a.2.2<(many:Int)) (hw:∀s:Int,(wayOf N s).length<=1000) (hn:nY.length<=1000) (hl:ap.length<=1000):dU [G0 nY ap]=.ok (.l .f,.lst ((JP nY N T ap).map fun r=>D.tup (r.map D.int))):=by
 unfold dU mX;rw[bj (h:=by rfl)];have hf:=Be ((List.range many).map fun(s:Nat)=>wayOf N (s:Int));rw[av (env':=[some (.f,G0 nY ap),some (.l .f,.lst (((List.range many).map fun(s:Nat)=>wayOf N (s:Int)).map wD)),none,none,none]) (by simp only[pv,seval,op,ew,hf])];rw[av (env':=[some (.f,G0 nY ap),some (.l .f,.lst (((List.range many).map fun(s:Nat)=>wayOf N (s:Int)).map wD)),some (.l .f,.lst (T.map eA)),none,none]) (by unfold G0;simp only[pv,seval,op,et,ke])];rw[av (env':=[some (.f,G0 nY ap),some (.l .f,.lst (((List.range many).map fun(s:Nat)=>wayOf N (s:Int)).map wD)),some (.l .f,.lst (T.map eA)),some (.l .f,.lst []),none]) (by simp only[pv,seval,op])];obtain⟨env',ef,t4,rfl⟩:=for_list (a:=ay 4) (g:=gv) (e:=eA) ap (fun j env=>∃t4,env=[some (.f,G0 nY ap),some (.l .f,.lst (((List.range many).map fun(s:Nat)=>wayOf N (s:Int)).map wD)),some (.l .f,.lst (T.map eA)),some (.l .f,.lst ((JP nY N T (ap.take j)).map fun r=>D.tup (r.map D.int))),t4]) (by
  rintro j a env hj ⟨t4,rfl⟩;have My:=Uw hj;have Km:=hb a My;have ht:ap.take (j+1)=ap.take j++[a]:=by rw[Vf,hj];rfl
  refine⟨[some (.f,G0 nY ap),some (.l .f,.lst (((List.range many).map fun(s:Nat)=>wayOf N (s:Int)).map wD)),some (.l .f,.lst (T.map eA)),some (.l .f,.lst ((JP nY N T (ap.take j)).map fun r=>D.tup (r.map D.int))),some (.f,eA a)],rfl,_,?_,some (.f,eA a),rfl⟩;have RV:=sI T a;rw[ht,Bg];unfold gv;by_cases h:a∈T
  ·rw[Ut h];simp only[pv,seval,op,RV,h,Wc,Vu,gG]
  ·rw[UD h];have w1:=wI (N:=N) (many:=many) (s:=a.1) Km.1.1 Km.1.2;have w2:=wI (N:=N) (many:=many) (s:=a.2.2) Km.2.1 Km.2.2;have hz:((JP nY N T (ap.take j)).map fun r=>D.tup (r.map D.int)).length<sizeLine:=f7 (by
    have:=wJ nY N T (ap.take j);rw[U4]at this;rw[bc];lia)
   have hr:=Bf nY (wayOf N a.1++[a.2.1]) (wayOf N a.2.2) hn;have RX:=mh nY (wayOf N a.1++[a.2.1]) hn;have JA:=mh nY (wayOf N a.2.2) hn;have ha:=FQ (wayOf N a.1) a.2.1 (hw _);have hrr:((nY.map fun m=>((((wayOf N a.1++[a.2.1]).count m:Nat):Int),(((wayOf N a.2.2).count m:Nat):Int))).map fun p=>p.1-p.2)=qe nY N a:=rfl;rw[hrr]at hr;rw[Uv,fD,U1];generalize ((JP nY N T (ap.take j)).map fun r=>D.tup (r.map D.int))=RR at hz ⊢;generalize (((List.range many).map fun(s:Nat)=>wayOf N (s:Int)).map wD)=WW at w1 w2 ⊢;generalize ((wayOf N a.1++[a.2.1]).map D.str)=WA at ha RX;generalize (row nY (wayOf N a.1++[a.2.1]))=R1 at hr RX;generalize (row nY (wayOf N a.2.2))=R2 at hr JA;generalize T.map eA=TT at RV ⊢;unfold G0;rw[show eA a=.tup [.int a.1,.str a.2.1,.int a.2.2] from rfl]at RV ⊢;simp only[pv,seval,op,RV,h,VS,Vn,w1,w2,at2,ha,RX,JA,hr,hz]) _ ⟨none,rfl⟩
 rw[Vl]at ef;rw[av (env':=_) (by
  unfold kz;unfold G0 at ef ⊢;simp only[pv,seval,op];exact ef)]
 unfold jH;simp only[pv,seval,op]
theorem DY(nY:LNN)(N:List Nd)(many:Nat):flatDs ((List.range many).map fun(s:Nat)=>D.tup ((row nY (wayOf N (s:Int))).map D.int))=true:=by
 rw[bB,Vi,UE];intro s _;show cY (.tup _)=true;rw[cS,GY]
theorem DZ(N:List Nd)(many:Nat):flatDs ((List.range many).map fun(s:Nat)=>D.tup ((wayOf N (s:Int)).map D.str))=true:=by
 rw[bB,Vi,UE];intro s _;show cY (.tup _)=true;rw[cS,PV.flat_strs]
theorem qW{nY:LNN}{ap:List GZ}{N:List Nd}{many:Nat}(hm:many<=12)(hl:nY.length<=1000)(ew:cN [G0 nY ap]=.ok (.l .f,.lst ((List.range many).map fun(s:Nat)=>D.tup ((wayOf N (s:Int)).map D.str)))):dj [G0 nY ap]=.ok (.l .f,.lst ((List.range many).map fun(s:Nat)=>D.tup ((row nY (wayOf N (s:Int))).map D.int))):=by
 unfold dj lP;rw[bj (h:=by rfl)];have hc:cC (ay 0) dD (cG c6 (ag (aj (aB Hf (ao 1) (aj (aH (.int 0))))) (ag (ao 0) aA))) ((List.range many).map fun(s:Nat)=>D.tup ((wayOf N (s:Int)).map D.str)) [none,some (.f,G0 nY ap)]=.ok ((List.range many).map fun(s:Nat)=>D.tup ((row nY (wayOf N (s:Int))).map D.int)):=by
  refine bo (r:=fun s:Nat=>D.tup ((row nY (wayOf N (s:Int))).map D.int)) (fun env=>∃t1,env=[t1,some (.f,G0 nY ap)]) (List.range many) ?_ _ ⟨_,rfl⟩;rintro s _ env ⟨t1,rfl⟩;refine⟨[some (.f,.tup ((wayOf N (s:Int)).map D.str)),some (.f,G0 nY ap)],rfl,?_⟩;unfold G0;simp only[pv,seval,op,mh nY _ hl];exact⟨_,_,rfl,_,rfl⟩
 simp only[pv,seval,op,ew,DZ];rw[hc,Ie,Ut (aQ (by rw[bc,UM];lia)),DY];simp only[pv,seval,op]
def pr(x y:List Int):Int:=((x.zip y).map fun p=>p.1*p.2).sum
theorem wK(x y:List Int)(hl:y.length<=1000)(hs:∀v∈y,cE v=true):cM [.tup (x.map D.int),.tup (y.map D.int)]=.ok (.f,.int (pr x y)):=by
 unfold cM pP;rw[bj (h:=by rfl)];have hc:cC (fS 2 (aD (ay 0) (aD (ay 1) b7))) dD (aB gS (ao 0) (ao 1)) ((x.zip y).map fun z=>D.tup [D.int z.1,D.int z.2]) [none,none]=.ok (((x.zip y).map fun p=>p.1*p.2).map D.int):=by
  rw[bo (r:=fun z:Int×Int=>D.int (z.1*z.2)) (fun env=>∃t u,env=[t,u]) (x.zip y) ?_ _ ⟨none,none,rfl⟩]
  ·rw[UC];rfl
  ·rintro z hz env ⟨t,u,rfl⟩;have S4:=(WL (show(z.1,z.2)∈x.zip y from hz)).2;refine⟨[some (.f,.int z.1),some (.f,.int z.2)],rfl,.f,[some (.f,.int z.1),some (.f,.int z.2)],?_,_,_,rfl⟩;simp only[pv,seval,op,Fq z.1 z.2 (hs _ S4)]
 have hlen:(((x.zip y).map fun p=>p.1*p.2).map D.int).length<=sizeLine:=aQ (by
  rw[bc,bc,WS];lia)
 have Ld:=GY ((x.zip y).map fun p=>p.1*p.2);simp only[pv,seval,op,k4,hc,hlen,Ld,DH];rfl
theorem pr_cons(a b:Int)(r s:List Int):pr (a::r) (b::s)=a*b+pr r s:=by
 unfold pr;rw[VF,fD,XO]
theorem sJ(w:LNN)(m:List Nat):∀(nY:LNN) (uZ:List Int),nY.Nodup->uZ.length=nY.length->m∈nY->pr uZ (row nY (w++[m]))=pr uZ (row nY w)+uZ.getD (nY.idxOf m) 0
 |[],_,_,_,h=>nomatch h
 |x::nY,[],_,h,_=>by simp at h
 |x::nY,b::uZ,nd,hl,hm=>by
  have nd:=US.mp nd;have e1:∀v:LNN,row (x::nY) v=((v.count x:Nat):Int)::row nY v:=fun v=>rfl
  rw[e1,e1,pr_cons,pr_cons];by_cases hx:x=m
  ·subst hx;have e2:row nY (w++[x])=row nY w:=by
    unfold row;refine Vv fun y hy=>?_
    have Mt:y≠x:=fun h=>nd.1 (h▸hy)
    rw[XG,Ym (fun h=>Mt h.symm),List.count_nil,Y5]
   rw[e2,XG,List.count_singleton_self,List.idxOf_cons_self,List.getD_cons_zero];have:(((w.count x+1:Nat)):Int)=(w.count x:Int)+1:=by lia
   rw[this,Int.mul_add];lia
  ·have hm:=(Ux.mp hm).resolve_left fun h=>hx h.symm
   have ih:=sJ w m nY uZ nd.2 (by simpa using hl) hm;rw[ih,XG,Ym (fun h=>hx h.symm),List.count_nil,Y5,Yi,beq_false_of_ne hx,cond_false,List.getD_cons_succ];lia
theorem yW:∀(uZ:List Int) (l:List (Int×Int)),pr uZ (l.map fun p=>p.1-p.2)=pr uZ (l.map fun p=>p.1)-pr uZ (l.map fun p=>p.2)
 |[],l=>rfl
 |b::uZ,[]=>rfl
 |b::uZ,p::l=>by
  rw[fD,fD,fD,pr_cons,pr_cons,pr_cons,yW uZ l,Int.mul_sub];lia
theorem wL(nY:LNN)(N:List Nd)(a:GZ)(uZ:List Int)(nd:nY.Nodup)(hl:uZ.length=nY.length)(hm:a.2.1∈nY):pr uZ (qe nY N a)=pr uZ (row nY (wayOf N a.1))+uZ.getD (nY.idxOf a.2.1) 0-pr uZ (row nY (wayOf N a.2.2)):=by
 rw[<-sJ _ _ nY uZ nd hl hm];unfold qe;rw[yW,UC,UC];rfl
theorem pr_nil:∀(nY:LNN) (uZ:List Int),pr uZ (row nY [])=0
 |[],uZ=>by
  unfold pr row;rw[U1,List.zip_nil_right];rfl
 |x::nY,[]=>rfl
 |x::nY,b::uZ=>by
  show pr (b::uZ) (((0:Nat):Int)::row nY [])=0;rw[pr_cons,pr_nil nY uZ];simp
structure Ck(nY:LNN)(ap:List GZ)(many:Nat)(N:List Nd)(T:List GZ):Prop where
 m1:1<=many/\many<=12
 nn:nY.Nodup
 n3:nY.length<=1000
 al:ap.length<=60
 nm:∀a∈ap,a.2.1∈nY
 hb:∀a∈ap,(0<=a.1/\a.1<(many:Int))/\0<=a.2.2/\a.2.2<(many:Int)
 hw:∀s:Int,(wayOf N s).length<=1000
 F:Found ap N
 all:∀s:Int,0<=s->s<(many:Int)->s∈N.map (·.1)
 er:dU [G0 nY ap]=.ok (.l .f,.lst ((JP nY N T ap).map fun r=>D.tup (r.map D.int)))
 ec:dj [G0 nY ap]=.ok (.l .f,.lst ((List.range many).map fun(s:Nat)=>D.tup ((row nY (wayOf N (s:Int))).map D.int)))
theorem Ra.states{nY:LNN}{as:List GZ}{many:Nat}(r:Ra nY as many):bu as=(many:Int):=by
 have hm:=r.mm;have h1:=p8 hm.1 r.bd;by_cases h:many=1
 ·lia
 ·obtain⟨a,ha,e,_⟩:=r.rc (many-1) (by lia) (by lia);have:=wB ha;lia
theorem tY(nY:LNN)(N:List Nd)(a:GZ)(hw:∀s:Int,(wayOf N s).length<=1000):∀x∈qe nY N a,cE x=true:=by
 intro x hx;unfold qe at hx;obtain⟨p,hp,rfl⟩:=kO hx;obtain⟨m,_,rfl⟩:=kO hp;have h1:=Ys (a:=m) (l:=wayOf N a.1++[a.2.1]);have h2:=Ys (a:=m) (l:=wayOf N a.2.2);have h3:=hw a.1;have h4:=hw a.2.2;rw[iO,UG]at h1;refine l8 _ ?_ ?_ <;> dsimp only <;> lia
theorem wM(rows:List (List Int)):flatDs (rows.map fun r=>D.tup (r.map D.int))=true:=by
 rw[bB,Vi,UE];intro s _;show cY (.tup _)=true;rw[cS,GY]
def th(nY:LNN)(N:List Nd)(uZ:List Int)(s:Int):Int:=pr uZ (row nY (wayOf N s))
theorem wN(bs:List Bool):Bt [.lst (bs.map D.bl)]=.ok (.f,.bl (bs.any id)):=by
 unfold Bt;show(match mD (bs.map D.bl) with|some bs=>_|none=>_)=_;rw[pB]
section
variable{nY:LNN}{ap:List GZ}{many:Nat}{N:List Nd}{T:List GZ}
theorem Ck.has_arcs(c:Ck nY ap many N T)(m:List Nat):dw [G0 nY ap,.str m]=.ok (.f,.bl (ap.any fun a=>a.2.1==m)):=by
 have Ka:=c.al;unfold dw mY;rw[bj (h:=by rfl)];have hc:cC (fS 3 (aD (ay 0) (aD (ay 1) (aD (ay 2) b7)))) dD (bE Ir (ao 1) (ao 3)) (ap.map eA) [none,none,none,some (.f,.str m)]=.ok ((ap.map fun a=>a.2.1==m).map D.bl):=by
  rw[bo (r:=fun a:GZ=>D.bl (a.2.1==m)) (fun env=>∃t u v,env=[t,u,v,some (.f,.str m)]) ap ?_ _ ⟨none,none,none,rfl⟩]
  ·rw[UC];rfl
  ·rintro a _ env ⟨t,u,v,rfl⟩;refine⟨[some (.f,.int a.1),some (.f,.str a.2.1),some (.f,.int a.2.2),some (.f,.str m)],by unfold eA;simp only[pv,seval],.f,[some (.f,.int a.1),some (.f,.str a.2.1),some (.f,.int a.2.2),some (.f,.str m)],?_,_,_,_,rfl⟩;simp only[pv,seval,op]
 have hlen:((ap.map fun a=>a.2.1==m).map D.bl).length<=sizeLine:=aQ (by rw[bc,bc];lia);have Ld:=oB (ap.map fun a=>a.2.1==m);unfold G0;generalize (bE Ir (ao 1) (ao 3))=GG at hc ⊢;simp only[pv,seval,op,hc,hlen,Ld,wN,VY];rfl
def hv(B:Int->Int)(ap:List GZ)(m:List Nat):List Int:=(ap.filter fun a=>a.2.1==m).map fun a=>B a.1
def tk(B:Int->Int)(ap:List GZ)(bs:List Int)(m:List Nat):Int:=NX.minD (hv B ap m) (fO bs+1)
end
theorem for_all{α:Type}{a:FG}{g:FS}{e:α->D}{r:R}(P:PV.Env->Prop)(ok:α->Bool):∀(l:List α),(∀x∈l,∀env,P env->∃GQ,a (e x) env=.ok GQ/\if ok x then ∃Ha,g GQ=.ok (.nx Ha)/\P Ha else g GQ=.ok (.rt r))->
  ∀env,P env->if l.all ok then ∃env',kM a g (l.map e) env=.ok (.nx env')/\P env' else kM a g (l.map e) env=.ok (.rt r)
 |[],_,env,hp=>by rw[List.all_nil,Ut rfl];exact⟨env,rfl,hp⟩
 |x::l,h,env,hp=>by
  obtain⟨GQ,h1,h2⟩:=h x Uq env hp;rw[Xg,fD,jk,h1,Ie];cases hk:ok x with
  |false=>
   rw[hk,UD Up]at h2;rw[Yt,UD Up,h2,Ie]
  |true=>
   rw[hk,Ut rfl]at h2;obtain⟨Ha,h2,h3⟩:=h2;rw[Bool.true_and,h2,Ie];exact for_all P ok l (fun y hy=>h y (Uy _ hy)) Ha h3
section
variable{nY:LNN}{ap:List GZ}{many:Nat}{N:List Nd}{T:List GZ}
theorem Ck.pot(c:Ck nY ap many N T)(uZ:List Int)(hl:uZ.length=nY.length)(f:Int->Int)(hf:∀a∈ap,f a.2.2=f a.1+uZ.getD (nY.idxOf a.2.1) 0):∀s:Int,0<=s->s<(many:Int)->th nY N uZ s=f s-f 0:=by
 have key:∀(k:Nat) (n:Nd),n∈N->n.2.length=k->pr uZ (row nY n.2)=f n.1-f 0:=by
  intro k;induction k using Nat.strongRecOn with
  |_ k ih=>
   intro n hn hk;rcases c.F.par n hn with rfl|⟨a,ha,m,hm,e1,rfl⟩
   ·show pr uZ (row nY [])=f 0-f 0;rw[pr_nil];lia
   ·have:=ih m.2.length (by rw[<-hk];show _<(m.2++[a.2.1]).length;rw[iO,UG];lia) m hm rfl;show pr uZ (row nY (m.2++[a.2.1]))=f a.2.2-f 0;rw[sJ _ _ nY uZ c.nn hl (c.nm a ha),this,hf a ha,e1];lia
 intro s h0 h1;obtain⟨n,hn,rfl⟩:=kO (c.all s h0 h1);unfold th;rw[jU c.F.nd hn];exact key _ n hn rfl
end
theorem eqD_I(a b:Int):eqD (.int a) (.int b)=decide (a=b):=by
 rw[eqD,UP];simp
theorem wO(a:Int):plainD 40 (.int a)=true:=rfl
theorem sL(l:List Int):plainDs 40 (l.map D.int)=true:=j9 _ _
structure Bd(nY:LNN)(ap:List GZ):Prop where
 b:∀a∈ap,(0<=a.1/\a.1<12)/\0<=a.2.2/\a.2.2<12
 n:∀a∈ap,a.2.1∈nY
structure Od(ap:List GZ)(O1:List Int)(d:Nat)(pre:List GZ):Prop where
 nd:O1.Nodup
 z:O1[0]?=some 0
 bd:∀x∈O1,0<=x/\x<12
 rc:∀j:Nat,1<=j->∀x,O1[j]?=some x->∃a∈ap,a.2.2=x/\∃b:Nat,b<j/\O1[b]?=some a.1
 clo:∀i:Nat,i<d->∀x,O1[i]?=some x->∀a∈ap,a.1=x->a.2.2∈O1
 cur:∀x,O1[d]?=some x->∀a∈pre,a.1=x->a.2.2∈O1
theorem Od.le{ap:List GZ}{O1:List Int}{d:Nat}{pre:List GZ}(o:Od ap O1 d pre):O1.length<=12:=kZ 12 o.nd o.bd
theorem Od.skip{ap:List GZ}{O1:List Int}{d:Nat}{pre:List GZ}(o:Od ap O1 d pre){a:GZ}{c:Int}(hc:O1[d]?=some c)(h:a.1≠c\/a.2.2∈O1):Od ap O1 d (pre++[a]):=by
 refine⟨o.nd,o.z,o.bd,o.rc,o.clo,fun x hx b hb e=>?_⟩;rw[hc,W3]at hx;subst hx;rcases kc hb with hb|hb
 ·exact o.cur c hc b hb e
 ·rw[UJ]at hb;subst hb;exact h.resolve_left fun n=>n e
theorem Od.take{ap:List GZ}{O1:List Int}{d:Nat}{pre:List GZ}(o:Od ap O1 d pre){a:GZ}{c:Int}(hc:O1[d]?=some c)(ha:a∈ap)(hb:0<=a.2.2/\a.2.2<12)(h1:a.1=c)(h2:a.2.2∉O1):Od ap (O1++[a.2.2]) d (pre++[a]):=by
 have up:∀{i:Nat}{x:Int},O1[i]?=some x->(O1++[a.2.2])[i]?=some x:=fun h=>gH h
 have hd:=(jV hc).1;refine⟨U3.mpr ⟨o.nd,US.mpr ⟨U9,Vm⟩,fun x hx y hy=>?_⟩,up o.z,fun x hx=>?_,fun j j1 x hx=>?_,fun i hi x hx b hb e=>?_,fun x hx b hb e=>?_⟩
 ·rw[ka hy];rintro rfl;exact h2 hx
 ·rcases kc hx with hx|hx
  ·exact o.bd x hx
  ·rw[ka hx];exact hb
 ·rcases e8 hx with hx|⟨rfl,rfl⟩
  ·obtain⟨b,hb,e1,k,hk,e2⟩:=o.rc j j1 x hx;exact⟨b,hb,e1,k,hk,up e2⟩
  ·exact⟨a,ha,rfl,d,hd,by rw[h1];exact up hc⟩
 ·rw[List.getElem?_append_left (by lia)]at hx;exact UA _ (o.clo i hi x hx b hb e)
 ·rw[List.getElem?_append_left hd]at hx;rcases kc hb with hb|hb
  ·exact UA _ (o.cur x hx b hb e)
  ·rw[UJ]at hb;subst hb;exact Us _ (UJ.mpr rfl)
theorem Od.next{ap:List GZ}{O1:List Int}{d:Nat}{L:List GZ}(o:Od ap O1 d L)(hL:∀a∈ap,a∈L):Od ap O1 (d+1) []:=by
 refine⟨o.nd,o.z,o.bd,o.rc,fun i hi x hx b hb e=>?_,fun x _ b hb=>nomatch hb⟩;by_cases h:i=d
 ·subst h;exact o.cur x hx b (hL b hb) e
 ·exact o.clo i (by lia) x hx b hb e
theorem D0(ap:List GZ)(O1:List Int)(hO:O1.length<=12)(d:Nat)(c:Int)(hc:O1[d]?=some c)(a:GZ):df [some (.f,.lst (ap.map eA)),some (.l .f,.lst (O1.map D.int)),some (.f,.int (d:Int)),some (.f,.int a.1),some (.f,.str a.2.1),some (.f,.int a.2.2),none,none]=.ok (.nx [some (.f,.lst (ap.map eA)),some (.l .f,.lst ((if a.1=c/\a.2.2∉O1 then O1++[a.2.2] else O1).map D.int)),some (.f,.int (d:Int)),some (.f,.int a.1),some (.f,.str a.2.1),some (.f,.int a.2.2),none,none]):=by
 have K4:Ik (O1.map D.int) (d:Int)=some (.int c):=e9 (by rw[List.getElem?_map,hc];rfl);have hz:(O1.map D.int).length<sizeLine:=f7 (by rw[bc];lia);unfold df;by_cases h1:a.1=c
 ·have e1:(a.1==c)=true:=UQ.mpr h1;by_cases h2:a.2.2∈O1
  ·rw[UD (fun z=>z.2 h2)];simp only[pv,seval,op,K4,e1,h2,Wc,Vu,gG]
  ·rw[Ut ⟨h1,h2⟩,Uv];simp only[pv,seval,op,K4,e1,h2,VS,Vn,hz]
 ·rw[UD (fun z=>h1 z.1)];have e1:(a.1==c)=false:=U7.mpr h1;simp only[pv,seval,op,K4,e1,gG]
theorem Bh(ap:List GZ)(hl:ap.length<64)(hb:∀a∈ap,0<=a.2.2/\a.2.2<12):∃O1 t3 t4 t5,Od ap O1 O1.length []/\fw [some (.f,.lst (ap.map eA)),some (.l .f,.lst [.int 0]),some (.f,.int 0),none,none,none,none,none]=.ok (.nx [some (.f,.lst (ap.map eA)),some (.l .f,.lst (O1.map D.int)),some (.f,.int (O1.length:Int)),t3,t4,t5,none,none]):=by
 have mem:∀{a:GZ},a∈bZ eV ap<->a∈ap:=p7 eV;have T8:=qT ap hl;generalize bZ eV ap=L at mem T8;obtain⟨env',ew,O1,d,t3,t4,t5,o,hd,rfl⟩:=jT (c:=(HD (aB Mx (ao 2) (aj (aV g5 (ag (ao 1) aA)))))) (g:=eJ)
  (fun k env=>∃O1 d t3 t4 t5,Od ap O1 d []/\d<=O1.length/\k=13-d/\env=[some (.f,.lst (ap.map eA)),some (.l .f,.lst (O1.map D.int)),some (.f,.int ((d:Nat):Int)),t3,t4,t5,none,none]) (fun env=>∃O1 d t3 t4 t5,Od ap O1 d []/\d=O1.length/\env=[some (.f,.lst (ap.map eA)),some (.l .f,.lst (O1.map D.int)),some (.f,.int ((d:Nat):Int)),t3,t4,t5,none,none]) (by
  rintro k env ⟨O1,d,t3,t4,t5,o,hd,rfl,rfl⟩;have RP:=o.le;by_cases HN:d<O1.length
  ·refine .inr ⟨[some (.f,.lst (ap.map eA)),some (.l .f,.lst (O1.map D.int)),some (.f,.int ((d:Nat):Int)),t3,t4,t5,none,none],?_,?_⟩
   ·have:(d:Int)<(O1.length:Int):=by lia
    simp only[pv,seval,op,bc,this,Wc]
   ·obtain⟨c,hc⟩:∃c,O1[d]?=some c:=⟨O1[d],mq HN⟩
    obtain⟨env',ef,O2,t3',SX,S9,o',JR,rfl⟩:=for_list (a:=fS 3 (aD (ay 3) (aD (ay 4) (aD (ay 5) b7)))) (g:=df) (e:=eA) L (fun j env=>∃O1 t3 t4 t5,Od ap O1 d (L.take j)/\O1[d]?=some c/\env=[some (.f,.lst (ap.map eA)),some (.l .f,.lst (O1.map D.int)),some (.f,.int ((d:Nat):Int)),t3,t4,t5,none,none]) (by
     rintro j a env hj ⟨O1,t3,t4,t5,o,hc,rfl⟩;have My:=mem.mp (Uw hj);have ht:L.take (j+1)=L.take j++[a]:=by rw[Vf,hj];rfl
     refine⟨[some (.f,.lst (ap.map eA)),some (.l .f,.lst (O1.map D.int)),some (.f,.int ((d:Nat):Int)),some (.f,.int a.1),some (.f,.str a.2.1),some (.f,.int a.2.2),none,none],by unfold eA;simp only[pv,seval],_,D0 ap O1 o.le d c hc a,_,_,_,_,?_,?_,rfl⟩
     ·rw[ht];split
      ·rename_i h;exact o.take hc My (hb a My) h.1 h.2
      ·rename_i h;exact o.skip hc (by
        by_cases h1:a.1=c
        ·exact .inr (Decidable.not_not.mp fun h2=>h ⟨h1,h2⟩)
        ·exact .inl h1)
     ·split
      ·exact gH hc
      ·exact hc) _ ⟨O1,t3,t4,t5,by rw[Wt];exact o,hc,rfl⟩
    rw[Vl]at o';have hlt':=(jV JR).1;refine⟨_,13-(d+1),?_,by lia,O2,d+1,t3',SX,S9,o'.next fun a ha=>mem.mpr ha,by lia,rfl,rfl⟩;unfold eJ;rw[av (env':=_) (by
     unfold ia;simp only[pv,seval,op,T8];exact ef)]
    unfold gL;simp only[pv,seval,op,Yl,Xq]
  ·refine .inl ⟨_,?_,O1,d,t3,t4,t5,o,by lia,rfl⟩;have:¬ (d:Int)<(O1.length:Int):=by lia
   simp only[pv,seval,op,bc,this,VS]) 100000 13 _ (by decide) ⟨[0],0,none,none,none,⟨US.mpr ⟨U9,Vm⟩,rfl,fun x hx=>by rw[ka hx];lia,fun j j1 x hx=>by
    have:=(jV hx).1;rw[UG]at this;lia,fun i hi=>absurd hi (WU _),fun x _ b hb=>nomatch hb⟩,U6 _,rfl,rfl⟩
 subst hd;refine⟨O1,t3,t4,t5,o,?_⟩;unfold fw;exact ew
structure Kp(nY:LNN)(ap:List GZ)(O1:List Int)(pre:List GZ)(K:List GZ):Prop where
 b:∀a∈K,a.2.1∈nY/\(0<=a.1/\a.1<(O1.length:Int))/\0<=a.2.2/\a.2.2<(O1.length:Int)
 h:∀a∈pre,∀i k:Nat,O1[i]?=some a.1->O1[k]?=some a.2.2->((i:Int),a.2.1,(k:Int))∈K
 l:K.length<=pre.length
theorem yd{l:List Int}(nd:l.Nodup){i j:Nat}{x:Int}(h1:l[i]?=some x)(h2:l[j]?=some x):i=j:=by
 obtain⟨a1,e1⟩:=jV h1;obtain⟨a2,e2⟩:=jV h2;have h3:=nd.idxOf_getElem i a1;have h4:=nd.idxOf_getElem j a2;rw[e1]at h3;rw[e2]at h4;exact h3.symm.trans h4
theorem D1(nY:LNN)(ap:List GZ)(O1:List Int)(o:Od ap O1 O1.length [])(pre K:List GZ)(kp:Kp nY ap O1 pre K)(HU:pre.length<=100)(a:GZ)(ha:a∈ap)(hn:a.2.1∈nY)(D2 t7:Option R):∃K' u7,Kp nY ap O1 (pre++[a]) K'/\de [some (.f,.lst (ap.map eA)),some (.l .f,.lst (O1.map D.int)),D2,some (.f,.int a.1),some (.f,.str a.2.1),some (.f,.int a.2.2),some (.l .f,.lst (K.map eA)),t7]=.ok (.nx [some (.f,.lst (ap.map eA)),some (.l .f,.lst (O1.map D.int)),D2,some (.f,.int a.1),some (.f,.str a.2.1),some (.f,.int a.2.2),some (.l .f,.lst (K'.map eA)),u7]):=by
 have LC:=yU a.1 O1;have RY:=kp.l;unfold de;by_cases h1:a.1∈O1
 ·rw[UW h1]at LC;obtain⟨i,hi,ei⟩:=S6 eqD_I sL wO O1 a.1 h1;have h2:=o.clo i (jV hi).1 _ hi a ha rfl;obtain⟨k,hk,ek⟩:=S6 eqD_I sL wO O1 a.2.2 h2;have li:=(jV hi).1;have lk:=(jV hk).1;have KR:=sI K ((i:Int),a.2.1,(k:Int));have hz:(K.map eA).length<sizeLine:=f7 (by rw[bc];lia);have ee:eA ((i:Int),a.2.1,(k:Int))=.tup [.int (i:Int),.str a.2.1,.int (k:Int)]:=rfl;rw[ee]at KR;by_cases hm:((i:Int),a.2.1,(k:Int))∈K
  ·rw[UW hm]at KR;refine⟨K,some (.f,.tup [.int (i:Int),.str a.2.1,.int (k:Int)]),⟨kp.b,fun b hb i' k' e1 e2=>?_,by rw[iO];lia⟩,?_⟩
   ·rcases kc hb with hb|hb
    ·exact kp.h b hb i' k' e1 e2
    ·rw[UJ]at hb;subst hb;rw[yd o.nd e1 hi,yd o.nd e2 hk];exact hm
   ·simp only[pv,seval,op,LC,sf,ei,ek,KR,Vu,gG]
  ·rw[UO hm]at KR;refine⟨K++[((i:Int),a.2.1,(k:Int))],some (.f,.tup [.int (i:Int),.str a.2.1,.int (k:Int)]),⟨fun b hb=>?_,fun b hb i' k' e1 e2=>?_,by rw[iO,iO];simp only[UG];lia⟩,?_⟩
   ·rcases kc hb with hb|hb
    ·exact kp.b b hb
    ·rw[ka hb];exact⟨hn,by dsimp only;lia,by dsimp only;lia,by dsimp only;lia⟩
   ·rcases kc hb with hb|hb
    ·exact UA _ (kp.h b hb i' k' e1 e2)
    ·rw[UJ]at hb;subst hb;rw[yd o.nd e1 hi,yd o.nd e2 hk];exact Us _ (UJ.mpr rfl)
   ·rw[Uv,fD,U1,ee];simp only[pv,seval,op,LC,sf,ei,ek,KR,Vn,hz]
 ·rw[UO h1]at LC;refine⟨K,t7,⟨kp.b,fun b hb i' k' e1 e2=>?_,by rw[iO];lia⟩,?_⟩
  ·rcases kc hb with hb|hb
   ·exact kp.h b hb i' k' e1 e2
   ·rw[UJ]at hb;subst hb;exact absurd (Uw e1) h1
  ·simp only[pv,seval,op,LC,gG]
theorem sM(nY:LNN)(ap:List GZ)(hl:ap.length<=60)(bd:Bd nY ap):∃K many,Ra nY K many/\K.length<=ap.length/\cu [.lst (ap.map eA)]=.ok (.l .f,.lst ((bZ eV K).map eA)):=by
 obtain⟨O1,t3,t4,t5,o,ew⟩:=Bh ap (by lia) fun a ha=>(bd.b a ha).2
 have RP:=o.le;have hz0:=(jV o.z).1;unfold cu jN;rw[bj (h:=by rfl)];rw[av (env':=[some (.f,.lst (ap.map eA)),some (.l .f,.lst [.int 0]),none,none,none,none,none,none]) (by simp only[pv,seval,op])];rw[av (env':=[some (.f,.lst (ap.map eA)),some (.l .f,.lst [.int 0]),some (.f,.int 0),none,none,none,none,none]) (by simp only[pv,seval,op])];rw[av ew];unfold gM;rw[av (env':=[some (.f,.lst (ap.map eA)),some (.l .f,.lst (O1.map D.int)),some (.f,.int (O1.length:Int)),t3,t4,t5,some (.l .f,.lst []),none]) (by simp only[pv,seval,op])];obtain⟨env',ef,K,u3,u4,u5,u7,kp,rfl⟩:=for_list (a:=fS 3 (aD (ay 3) (aD (ay 4) (aD (ay 5) b7)))) (g:=de) (e:=eA) ap (fun j env=>∃K t3 t4 t5 t7,Kp nY ap O1 (ap.take j) K/\env=[some (.f,.lst (ap.map eA)),some (.l .f,.lst (O1.map D.int)),some (.f,.int (O1.length:Int)),t3,t4,t5,some (.l .f,.lst (K.map eA)),t7]) (by
  rintro j a env hj ⟨K,t3,t4,t5,t7,kp,rfl⟩;have My:=Uw hj;have ht:ap.take (j+1)=ap.take j++[a]:=by rw[Vf,hj];rfl
  obtain⟨K',u7,kp',e⟩:=D1 nY ap O1 o (ap.take j) K kp (by rw[U4];lia) a My (bd.n a My) (some (.f,.int (O1.length:Int))) t7;exact⟨_,by unfold eA;simp only[pv,seval],_,e,K',_,_,_,u7,by rw[ht];exact kp',rfl⟩) _ ⟨[],t3,t4,t5,none,⟨(fun _ h=>nomatch h),(fun _ h=>by rw[Wt]at h;exact nomatch h),U6 _⟩,rfl⟩
 rw[Vl]at kp;have RY:=kp.l;rw[U1]at ef;rw[av (env':=_) (by
  unfold hZ;simp only[pv,seval,op];exact ef)]
 unfold gK;refine⟨K,O1.length,⟨by lia,by lia,fun a ha=>(kp.b a ha).2,fun a ha=>(kp.b a ha).1,fun j j1 j2=>?_⟩,RY,by simp only[pv,seval,op,qT K (by lia)]⟩;obtain⟨a,ha,e1,b,SY,e2⟩:=o.rc j j1 _ (mq j2);exact⟨_,kp.h a ha b j e2 (by rw[e1];exact mq j2),rfl,b,SY,rfl⟩
theorem D3(ap:List GZ):Ir (.lst (ap.map eA)) (.lst [])=.ok (.f,.bl ap.isEmpty):=by
 unfold Ir;rw[plainD,kg 36 ap];cases ap <;> rfl
theorem ye(nY:LNN)(h0:nY≠[])(x:Int):∃m∈nY,Hf (.tup (nY.map D.str)) (.int (x%(nY.length:Int)))=.ok (.f,.str m):=by
 have hp:=Vx.mpr h0;have hb:=eE x (nY.length:Int) (by lia);obtain⟨k,ek⟩:=UN hb.1;have hk:k<nY.length:=by lia
 refine⟨nY[k],Vt hk,?_⟩;rw[ek,AK,wg hk]
theorem yf(x y:List D)(h:x.length+y.length<=1000):cK (.lst x) (.lst y)=.ok (.l .f,.lst (x++y)):=by
 rw[we,Ut (line_le (by lia))]
theorem Bi{l:List Int}(h:l≠[]):PV.maxD [.lst (l.map D.int)]=.ok (.f,.int (fO l)):=by
 unfold PV.maxD;dsimp only;rw[yV];cases l with
 |nil=>exact absurd rfl h
 |cons a l=>rfl
def mr(ap:List GZ):List Int:=0::ap.map l9
theorem D4(nY:LNN)(h0:nY≠[])(hn:nY.length<=3)(ap:List GZ)(hl:ap.length<=55)(bd:Bd nY ap)(nb:Int):∃Ko,Bd nY Ko/\Ko.length<=ap.length+1/\dZ [.tup (nY.map D.str),.lst (ap.map eA),.int nb]=.ok (.l .f,.lst (Ko.map eA)):=by
 have hc:cC (ay 0) dD (aV PV.maxD (ag (aj (aB Hf (ao 0) (aj (aH (.int 0))))) (ag (aj (aB Hf (ao 0) (aj (aH (.int 2))))) aA))) (ap.map eA) [none]=.ok ((ap.map l9).map D.int):=by
  rw[bo (r:=fun a:GZ=>D.int (l9 a)) (fun env=>∃t,env=[t]) ap ?_ _ ⟨none,rfl⟩]
  ·rw[UC];rfl
  ·rintro a _ env ⟨t,rfl⟩;refine⟨[some (.f,eA a)],rfl,.f,[some (.f,eA a)],?_,_,rfl⟩;unfold eA;simp only[pv,seval,op,at2];rfl
 have L0:((ap.map l9).map D.int).length<=sizeLine:=aQ (by rw[bc,bc];lia);have L9:=GY (ap.map l9);have Tc:=yf [.int 0] ((ap.map l9).map D.int) (by rw[bc,bc,UG];lia);have Mr:PV.maxD [.lst ([.int 0]++(ap.map l9).map D.int)]=.ok (.f,.int (fO (mr ap))):=Bi (l:=mr ap) (by unfold mr;simp);have hM0:0<=fO (mr ap):=oF (ns:=mr ap) (x:=0) (by unfold mr;exact Uq);have hM12:fO (mr ap)<12:=by
  have:=sk (ns:=mr ap) (by unfold mr;simp);unfold mr at this;rcases Ux.mp this with e|e
  ·unfold mr;lia
  ·obtain⟨a,ha,e2⟩:=kO e;have hb:=bd.b a ha;have h3:=(ma a).2.2;unfold mr;lia
 have T9:∀a∈ap,a.1<=fO (mr ap)/\a.2.2<=fO (mr ap):=fun a ha=>by
  have h1:l9 a<=fO (mr ap):=oF (by unfold mr;exact Uy _ (UY.mpr ⟨a,ha,rfl⟩));have h2:=ma a;lia
 unfold dZ lS;rw[bj (h:=by rfl)];rw[av (env':=[some (.f,.tup (nY.map D.str)),some (.f,.lst (ap.map eA)),some (.f,.int nb),some (.f,.int (1+fO (mr ap))),none,none,none,none,none,none,none]) (by
  generalize (aV PV.maxD (ag (aj (aB Hf (ao 0) (aj (aH (.int 0))))) (ag (aj (aB Hf (ao 0) (aj (aH (.int 2))))) aA)))=GG at hc ⊢;generalize (ap.map l9).map D.int=TT at *;simp only[pv,seval,op,hc,L0,L9];simp only[XU,Xm]at Tc Mr;simp only[pv,seval,op,Tc,Mr])]
 have hcb:1<=1+fO (mr ap)/\1+fO (mr ap)<=12:=by lia
 have Td:∀a∈ap,a.1<1+fO (mr ap)/\a.2.2<1+fO (mr ap):=fun a ha=>by
  have:=T9 a ha;lia
 generalize 1+fO (mr ap)=c at hcb Td;clear hM0 hM12 T9 Mr Tc hc L0 L9;have PL:0<(if 12<c+1 then 12 else c+1)/\(if 12<c+1 then 12 else c+1)<=12:=by split <;> lia
 have NK:=eE (nb / 128) (if 12<c+1 then 12 else c+1) PL.1;have Ua:=gT (nb / 128) (if 12<c+1 then 12 else c+1) PL.1;rw[av (env':=[some (.f,.tup (nY.map D.str)),some (.f,.lst (ap.map eA)),some (.f,.int nb),some (.f,.int c),some (.f,.int (nb / 128%(if 12<c+1 then 12 else c+1))),none,none,none,none,none,none]) (by simp only[pv,seval,op,eU _ 128 (by decide) (by decide),Ua])];have hot:0<=nb / 128%(if 12<c+1 then 12 else c+1)/\nb / 128%(if 12<c+1 then 12 else c+1)<12:=by lia
 generalize nb / 128%(if 12<c+1 then 12 else c+1)=ot at hot;clear NK Ua PL;obtain⟨mv,RU,emv⟩:=ye nY h0 (nb / 2048);have hp:=Vx.mpr h0;rw[av (env':=[some (.f,.tup (nY.map D.str)),some (.f,.lst (ap.map eA)),some (.f,.int nb),some (.f,.int c),some (.f,.int ot),some (.f,.str mv),none,none,none,none,none]) (by simp only[pv,seval,op,eU _ 2048 (by decide) (by decide),bc,gT _ (nY.length:Int) (by lia),emv])];have Qc:=D3 ap;have m5:=gT nb 5 (by decide);have mc:=eE (nb / 8) c (by lia);have m8:=gT (nb / 8) c (by lia);have d8:=eU nb 8 (by decide) (by decide);have app:∀(l:List GZ) (a:GZ),l.length<=60->cK (.lst (l.map eA)) (.lst [eA a])=.ok (.l .f,.lst ((l++[a]).map eA)):=fun l a h=>by
  rw[yf _ _ (by rw[bc,UG];lia),Uv];rfl
 have PM:∀(l:List GZ) (a:GZ),(∀x∈l,x∈ap)->((0<=a.1/\a.1<12)/\0<=a.2.2/\a.2.2<12)->a.2.1∈nY->Bd nY (l++[a]):=fun l a KY hb hnm=>by
  refine⟨fun x hx=>?_,fun x hx=>?_⟩
  ·rcases kc hx with hx|hx
   ·exact bd.b x (KY x hx)
   ·rw[ka hx];exact hb
  ·rcases kc hx with hx|hx
   ·exact bd.n x (KY x hx)
   ·rw[ka hx];exact hnm
 by_cases h3:ap.isEmpty=true\/(nb%5==3)=true
 ·have ha:=app ap (nb / 8%c,mv,ot) (by lia);refine⟨ap++[(nb / 8%c,mv,ot)],PM ap _ (fun x hx=>hx) (by dsimp only;lia) RU,by rw[iO];exact Ur _,?_⟩;rw[show eA (nb / 8%c,mv,ot)=.tup [.int (nb / 8%c),.str mv,.int ot] from rfl]at ha;cases hE:ap.isEmpty with
  |true=>
   rw[hE]at Qc;simp only[pv,seval,op,Qc,m8,d8,ha]
  |false=>
   rw[hE]at Qc h3;have h3:=h3.resolve_left Up;simp only[pv,seval,op,Qc,m5,h3,m8,d8,ha,gG]
 ·have hE:ap.isEmpty=false:=Wg.mpr fun h=>h3 (.inl h)
  have e3:(nb%5==3)=false:=Wg.mpr fun h=>h3 (.inr h)
  rw[hE]at Qc;have MO:0<ap.length:=by
   cases ap with
   |nil=>cases hE
   |cons _ _=>exact Nat.succ_pos _
  rw[av (env':=[some (.f,.tup (nY.map D.str)),some (.f,.lst (ap.map eA)),some (.f,.int nb),some (.f,.int c),some (.f,.int ot),some (.f,.str mv),none,none,none,none,none]) (by simp only[pv,seval,op,Qc,m5,e3,gG])];have ms:=eE (nb / 16384) (ap.length:Int) (by lia);obtain⟨sp,es⟩:=UN ms.1;have Lr:sp<ap.length:=by lia
  rw[av (env':=[some (.f,.tup (nY.map D.str)),some (.f,.lst (ap.map eA)),some (.f,.int nb),some (.f,.int c),some (.f,.int ot),some (.f,.str mv),some (.f,.int (sp:Int)),none,none,none,none]) (by simp only[pv,seval,op,eU _ 16384 (by decide) (by decide),bc,gT _ (ap.length:Int) (by lia),es])];have K4:Ik (ap.map eA) (sp:Int)=some (eA ap[sp]):=e9 (by rw[List.getElem?_map,mq Lr];rfl);have OY:=Vt Lr;generalize ap[sp]=a at K4 OY;rw[av (env':=[some (.f,.tup (nY.map D.str)),some (.f,.lst (ap.map eA)),some (.f,.int nb),some (.f,.int c),some (.f,.int ot),some (.f,.str mv),some (.f,.int (sp:Int)),some (.f,eA a),none,none,none]) (by simp only[pv,seval,op,K4])];have Ro:jz (ap.map eA) none (some (sp:Int))=(ap.take sp).map eA:=by rw[oE,WV]
  have M9:jz (ap.map eA) (some ((sp:Int)+1)) none=(ap.drop (sp+1)).map eA:=by rw[show(sp:Int)+1=((sp+1:Nat):Int) by lia,xY,List.map_drop]
  have KY:∀x∈ap.take sp++ap.drop (sp+1),x∈ap:=fun x hx=>by
   rcases kc hx with h|h
   ·exact Xc h
   ·exact List.mem_of_mem_drop h
  have OK:(ap.take sp++ap.drop (sp+1)).length<=ap.length:=by
   rw[iO,U4,Wq];lia
  have LP:=yf ((ap.take sp).map eA) ((ap.drop (sp+1)).map eA) (by rw[bc,bc];rw[iO]at OK;lia);rw[<-Uv]at LP;generalize ap.take sp++ap.drop (sp+1)=cH at *;rw[av (env':=[some (.f,.tup (nY.map D.str)),some (.f,.lst (ap.map eA)),some (.f,.int nb),some (.f,.int c),some (.f,.int ot),some (.f,.str mv),some (.f,.int (sp:Int)),some (.f,eA a),some (.l .f,.lst (cH.map eA)),none,none]) (by simp only[pv,seval,op,Ro,M9,LP])];cases e0:(nb%5==0) with
  |true=>
   refine⟨cH,⟨fun x hx=>bd.b x (KY x hx),fun x hx=>bd.n x (KY x hx)⟩,by lia,?_⟩;simp only[pv,seval,op,m5,e0]
  |false=>
   rw[av (env':=[some (.f,.tup (nY.map D.str)),some (.f,.lst (ap.map eA)),some (.f,.int nb),some (.f,.int c),some (.f,.int ot),some (.f,.str mv),some (.f,.int (sp:Int)),some (.f,eA a),some (.l .f,.lst (cH.map eA)),none,none]) (by simp only[pv,seval,op,m5,e0,gG])];have Km:=bd.b a OY;have hna:=bd.n a OY;cases e1:(nb%5==1) with
   |true=>
    have ha:=app cH (a.1,a.2.1,ot) (by lia);refine⟨cH++[(a.1,a.2.1,ot)],PM cH _ KY (by dsimp only;lia) hna,by rw[iO,UG];lia,?_⟩;rw[show eA (a.1,a.2.1,ot)=.tup [.int a.1,.str a.2.1,.int ot] from rfl]at ha;rw[show eA a=.tup [.int a.1,.str a.2.1,.int a.2.2] from rfl];simp only[pv,seval,op,m5,e1,ha]
   |false=>
    rw[av (env':=[some (.f,.tup (nY.map D.str)),some (.f,.lst (ap.map eA)),some (.f,.int nb),some (.f,.int c),some (.f,.int ot),some (.f,.str mv),some (.f,.int (sp:Int)),some (.f,eA a),some (.l .f,.lst (cH.map eA)),none,none]) (by simp only[pv,seval,op,m5,e1,gG])];by_cases h2:(nb%5==2)=true\/(c==1)=true
    ·have ha:=app cH (a.1,mv,a.2.2) (by lia);refine⟨cH++[(a.1,mv,a.2.2)],PM cH _ KY (by dsimp only;lia) RU,by rw[iO,UG];lia,?_⟩;rw[show eA (a.1,mv,a.2.2)=.tup [.int a.1,.str mv,.int a.2.2] from rfl]at ha;rw[show eA a=.tup [.int a.1,.str a.2.1,.int a.2.2] from rfl];cases e2:(nb%5==2) with
     |true=>simp only[pv,seval,op,m5,e2,at2,ha]
     |false=>
      rw[e2]at h2;have h2:=h2.resolve_left Up;simp only[pv,seval,op,m5,e2,h2,at2,ha,gG]
    ·have e2:(nb%5==2)=false:=Wg.mpr fun h=>h2 (.inl h)
     have ec:(c==1)=false:=Wg.mpr fun h=>h2 (.inr h)
     have RX:c≠1:=U7.mp ec;rw[av (env':=[some (.f,.tup (nY.map D.str)),some (.f,.lst (ap.map eA)),some (.f,.int nb),some (.f,.int c),some (.f,.int ot),some (.f,.str mv),some (.f,.int (sp:Int)),some (.f,eA a),some (.l .f,.lst (cH.map eA)),none,none]) (by simp only[pv,seval,op,m5,e2,ec,gG])];have mg:=eE (nb / 8) (c-1) (by lia);obtain⟨gn,eg⟩:=UN (show 0<=1+nb / 8%(c-1) by lia);rw[av (env':=[some (.f,.tup (nY.map D.str)),some (.f,.lst (ap.map eA)),some (.f,.int nb),some (.f,.int c),some (.f,.int ot),some (.f,.str mv),some (.f,.int (sp:Int)),some (.f,eA a),some (.l .f,.lst (cH.map eA)),some (.f,.int (gn:Int)),none]) (by simp only[pv,seval,op,d8,gT _ (c-1) (by lia),eg])];obtain⟨cn,rfl⟩:=UN (show 0<=c by lia);have hce:cC (ay 0) dD (aN 0) ((List.range cn).map fun(k:Nat)=>D.int (k:Int)) [none]=.ok (((List.range cn).map fun(k:Nat)=>(k:Int)).map D.int):=by
      rw[bo (r:=fun k:Nat=>D.int (k:Int)) (fun env=>∃t,env=[t]) (List.range cn) ?_ _ ⟨none,rfl⟩]
      ·rw[UC];rfl
      ·rintro k _ env ⟨t,rfl⟩;exact⟨[some (.f,.int (k:Int))],rfl,.f,_,rfl,_,rfl⟩
     have hle:(((List.range cn).map fun(k:Nat)=>(k:Int)).map D.int).length<=sizeLine:=aQ (by rw[bc,bc,UM];lia);have hfe:=GY ((List.range cn).map fun(k:Nat)=>(k:Int));have hel:((List.range cn).map fun(k:Nat)=>(k:Int)).length=cn:=by rw[bc,UM]
     have hev:∀x∈((List.range cn).map fun(k:Nat)=>(k:Int)),0<=x/\x<(cn:Int):=fun x hx=>by
      obtain⟨k,hk,rfl⟩:=kO hx;have:=UR.mp hk;lia
     generalize ((List.range cn).map fun(k:Nat)=>(k:Int))=en at *;rw[av (env':=[some (.f,.tup (nY.map D.str)),some (.f,.lst (ap.map eA)),some (.f,.int nb),some (.f,.int (cn:Int)),some (.f,.int ot),some (.f,.str mv),some (.f,.int (sp:Int)),some (.f,eA a),some (.l .f,.lst (cH.map eA)),some (.f,.int (gn:Int)),some (.l .f,.lst (en.map D.int))]) (by
      simp only[pv,seval,op];rw[Ut (by lia)];simp only[pv,seval,op,U2,hce,hle,hfe])]
     have IT:ixN en.length (gn:Int)=some gn:=wq _ _ (by lia);have mo:=eE ot (cn:Int) (by lia);rw[av (env':=[some (.f,.tup (nY.map D.str)),some (.f,.lst (ap.map eA)),some (.f,.int nb),some (.f,.int (cn:Int)),some (.f,.int ot),some (.f,.str mv),some (.f,.int (sp:Int)),some (.f,eA a),some (.l .f,.lst (cH.map eA)),some (.f,.int (gn:Int)),some (.l .f,.lst ((en.set gn (ot%(cn:Int))).map D.int))]) (by
      rw[Y7];simp only[pv,seval,op,gT ot (cn:Int) (by lia),bc,IT])]
     have hsl:(en.set gn (ot%(cn:Int))).length=cn:=by rw[VQ];exact hel
     have Ub:∀x∈en.set gn (ot%(cn:Int)),0<=x/\x<(cn:Int):=fun x hx=>by
      rcases Xu hx with h|h
      ·exact hev x h
      ·rw[h];exact mo
     generalize en.set gn (ot%(cn:Int))=KH at hsl Ub;have Ot:∀s:Int,0<=s->s<(cn:Int)->Ik (KH.map D.int) s=some (.int (KH.getD s.toNat 0))/\0<=KH.getD s.toNat 0/\KH.getD s.toNat 0<(cn:Int):=fun s hs0 hs1=>by
      obtain⟨k,rfl⟩:=UN hs0;have hk:k<KH.length:=by lia
      rw[U2];refine⟨fZ hk,?_⟩;rw[List.getD_eq_getElem?_getD,mq hk];exact Ub _ (Vt hk)
     have Qg:cC (fS 3 (aD (ay 0) (aD (ay 1) (aD (ay 2) b7)))) dD (jl (aJ (aB Hf (ao 3) (ao 0)) (aJ (aN 1) (aJ (aB Hf (ao 3) (ao 2)) bH)))) (ap.map eA) [none,none,none,some (.f,.lst (KH.map D.int))]=.ok ((ap.map fun a=>((KH.getD a.1.toNat 0,a.2.1,KH.getD a.2.2.toNat 0):GZ)).map eA):=by
      rw[bo (r:=fun a:GZ=>eA (KH.getD a.1.toNat 0,a.2.1,KH.getD a.2.2.toNat 0)) (fun env=>∃t u v,env=[t,u,v,some (.f,.lst (KH.map D.int))]) ap ?_ _ ⟨none,none,none,rfl⟩]
      ·rw[UC];rfl
      ·rintro b hb env ⟨t,u,v,rfl⟩;have MG:=bd.b b hb;have L4:=Td b hb;have i1:=(Ot b.1 MG.1.1 L4.1).1;have i2:=(Ot b.2.2 MG.2.1 L4.2).1;refine⟨[some (.f,.int b.1),some (.f,.str b.2.1),some (.f,.int b.2.2),some (.f,.lst (KH.map D.int))],by unfold eA;simp only[pv,seval],.f,[some (.f,.int b.1),some (.f,.str b.2.1),some (.f,.int b.2.2),some (.f,.lst (KH.map D.int))],?_,_,_,_,rfl⟩;unfold eA;simp only[pv,seval,op,i1,i2]
     refine⟨ap.map fun a=>((KH.getD a.1.toNat 0,a.2.1,KH.getD a.2.2.toNat 0):GZ),⟨fun x hx=>?_,fun x hx=>?_⟩,by rw[bc];lia,?_⟩
     ·obtain⟨b,hb,rfl⟩:=kO hx;have MG:=bd.b b hb;have L4:=Td b hb;have i1:=(Ot b.1 MG.1.1 L4.1).2;have i2:=(Ot b.2.2 MG.2.1 L4.2).2;dsimp only;lia
     ·obtain⟨b,hb,rfl⟩:=kO hx;exact bd.n b hb
     ·have Te:((ap.map fun a=>((KH.getD a.1.toNat 0,a.2.1,KH.getD a.2.2.toNat 0):GZ)).map eA).length<=sizeLine:=aQ (by rw[bc,bc];lia);have Q7:=ke (ap.map fun a=>((KH.getD a.1.toNat 0,a.2.1,KH.getD a.2.2.toNat 0):GZ));generalize (jl (aJ (aB Hf (ao 3) (ao 0)) (aJ (aN 1) (aJ (aB Hf (ao 3) (ao 2)) bH))))=GG at Qg ⊢;simp only[pv,seval,op,Qg,Te,Q7]
theorem Ra.bd'{nY:LNN}{as:List GZ}{many:Nat}(r:Ra nY as many):Bd nY as:=⟨fun a ha=>by
 have:=r.bd a ha;have:=r.mm;lia,r.nm⟩
theorem qf(ns:List Int)(first:Nat)(hf:first<=100){nY:LNN}{ps:List Pl}{S:List (List Int)}{A:List GZ}(n:Nt nY ps S A)(er:bK [eN nY ps,.int 8]=.ok (.f,.tup [.lst ((bZ eV A).map eA),.lst (S.map eM)])):∃K many,Ra nY K many/\bg [.lst (ns.map D.int),eN nY ps,.int (first:Int)]=.ok (.f,G0 nY (bZ eV K)):=by
 have Ka:=n.al;have L9:∀(x y:List D),flatDs [.lst x,.lst y]=false:=fun _ _=>rfl
 have b0:Bd nY (bZ eV A):=n.ra.sort.bd';unfold bg fV;rw[bj (h:=by rfl)];rw[av (env':=[some (.f,.lst (ns.map D.int)),some (.f,eN nY ps),some (.f,.int (first:Int)),some (.f,.lst ((bZ eV A).map eA)),none,none]) (by simp only[pv,seval,op,er,L9,gG,Ec,Ed])];obtain⟨env',ef,ap,o3,t4,t5,ho,hl,bd,rfl⟩:=oD (a:=ay 4) (g:=cV) (e:=fun k=>D.int ((first:Int)+(k:Int))) 3 (fun i env=>∃(ap:List GZ) (o3:O) (t4 t5:Option R),xD o3=true/\ap.length<=24+i/\Bd nY ap/\env=[some (.f,.lst (ns.map D.int)),some (.f,eN nY ps),some (.f,.int (first:Int)),some (o3,.lst (ap.map eA)),t4,t5]) (by
  rintro k env hk ⟨ap,o3,t4,t5,ho,hl,bd,rfl⟩;have ck:=iy ns (first+k);have Mr:=me (cell ns (first+k)) (((first+k:Nat)):Int) (by lia) (by lia);rw[show((first+k:Nat):Int)=(first:Int)+(k:Int) by lia]at ck Mr;generalize wC (cell ns (first+k)) ((first:Int)+(k:Int))=x at Mr;refine⟨[some (.f,.lst (ns.map D.int)),some (.f,eN nY ps),some (.f,.int (first:Int)),some (o3,.lst (ap.map eA)),some (.f,.int ((first:Int)+(k:Int))),t5],rfl,?_⟩;unfold cV;rw[av (env':=[some (.f,.lst (ns.map D.int)),some (.f,eN nY ps),some (.f,.int (first:Int)),some (o3,.lst (ap.map eA)),some (.f,.int ((first:Int)+(k:Int))),some (.f,.int x)]) (by simp only[pv,seval,op,ck,Mr])];cases h3:(x / 64%3==0) with
  |false=>
   refine⟨_,?_,ap,o3,some (.f,.int ((first:Int)+(k:Int))),some (.f,.int x),ho,by lia,bd,rfl⟩;simp only[pv,seval,op,eU _ 64 (by decide) (by decide),gT _ 3 (by decide),h3,gG]
  |true=>
   obtain⟨Ko,bd',P7,eb⟩:=D4 nY n.n0 n.n3 ap (by lia) bd (x / 192);obtain⟨K,many,ra,RY,et⟩:=sM nY Ko (by lia) bd';have f1:=ke Ko;have f2:=ke (bZ eV K);refine⟨[some (.f,.lst (ns.map D.int)),some (.f,eN nY ps),some (.f,.int (first:Int)),some (.l .f,.lst ((bZ eV K).map eA)),some (.f,.int ((first:Int)+(k:Int))),some (.f,.int x)],?_,bZ eV K,.l .f,some (.f,.int ((first:Int)+(k:Int))),some (.f,.int x),rfl,by rw[ir];lia,ra.sort.bd',rfl⟩;unfold eN;simp only[pv,seval,op,eU _ 64 (by decide) (by decide),eU _ 192 (by decide) (by decide),gT _ 3 (by decide),h3,eb,et,f1,f2,ho]) _ ⟨bZ eV A,.f,none,none,rfl,by rw[ir];lia,b0,rfl⟩
 rw[av (env':=_) (by
  unfold fA;simp only[pv,seval,op];rw[Ut (by lia),show((first:Int)+3-(first:Int)).toNat=3 by lia];simp only[pv,seval,op];exact ef)]
 unfold eO;obtain⟨K,many,ra,RY,et⟩:=sM nY ap (by lia) bd;have f2:=ke (bZ eV K);refine⟨K,many,ra,?_⟩;unfold eN G0;simp only[pv,seval,op,et,f2,ho]
abbrev Lv:=List (Int×Int)
def lk(L:Lv)(s:Int):Int:=((L.find? fun z=>z.1==s).map (·.2)).getD 0
def dL(L:Lv):D:=.dct false ((L.map (·.1)).map D.int) ((L.map (·.2)).map D.int)
theorem yg:∀(L:Lv) (s:Int),getD ((L.map (·.1)).map D.int) ((L.map (·.2)).map D.int) (.int s)=(L.find? fun z=>z.1==s).map fun z=>D.int z.2
 |[],s=>rfl
 |z::L,s=>by
  have ih:=yg L s;unfold getD at ih ⊢;rw[fD,fD,fD,fD,VF];by_cases e:z.1=s
  ·rw[List.find?_cons_of_pos (by show eqD (.int s) (.int z.1)=true;rw[eqD,UQ];exact e.symm),List.find?_cons_of_pos (by simpa using e)];rfl
  ·rw[List.find?_cons_of_neg (by show ¬ eqD (.int s) (.int z.1)=true;rw[eqD,UQ];exact fun q=>e q.symm),List.find?_cons_of_neg (by simpa using e)];exact ih
theorem sN{L:Lv}{s:Int}(h:s∈L.map (·.1)):(L.find? fun z=>z.1==s)=some (s,lk L s):=by
 unfold lk;cases hf:L.find? fun z=>z.1==s with
 |none=>
  rw[List.find?_eq_none]at hf;obtain⟨z,hz,e⟩:=kO h;exact absurd (UQ.mpr e) (hf z hz)
 |some z=>
  have:=List.find?_some hf;have:z.1=s:=by simpa using this
  rw[Option.map_some,XS,<-this]
theorem yX{L:Lv}{s:Int}(h:s∉L.map (·.1)):(L.find? fun z=>z.1==s)=none:=by
 rw[List.find?_eq_none];intro z hz e;exact h (UY.mpr ⟨z,hz,UQ.mp e⟩)
theorem Ee{L:Lv}{s:Int}(h:s∈L.map (·.1)):K3 (dL L) (.int s)=.ok (.f,.int (lk L s)):=by
 unfold K3 dL;dsimp only;rw[Ut (show ft false (.int s)=true from rfl),yg,sN h];rfl
theorem GI(L:Lv)(s:Int):MW (.int s) (dL L)=.ok (.f,.bl (decide (s∈L.map (·.1)))):=by
 unfold MW dL;dsimp only;rw[Ut (show ft false (.int s)=true from rfl),yg];by_cases h:s∈L.map (·.1)
 ·rw[sN h,UW h];rfl
 ·rw[yX h,UO h];rfl
theorem Fw(L:Lv)(s:Int):uc (.int s) (dL L)=.ok (.f,.bl (!decide (s∈L.map (·.1)))):=by
 unfold uc dL;dsimp only;rw[Ut (show ft false (.int s)=true from rfl),yg];by_cases h:s∈L.map (·.1)
 ·rw[sN h,UW h];rfl
 ·rw[yX h,UO h];rfl
theorem Fx{L:Lv}{s:Int}(h:s∉L.map (·.1))(v:Int):qA ((L.map (·.1)).map D.int) ((L.map (·.2)).map D.int) (.int s) (.int v)=(((L++[(s,v)]).map (·.1)).map D.int,((L++[(s,v)]).map (·.2)).map D.int):=by
 have e:((L.map (·.1)).map D.int).any (eqD (.int s))=false:=by
  rw[VY,XF];intro x hx;show ¬ eqD (.int s) (.int x)=true;rw[eqD,UQ];rintro rfl;exact h hx
 unfold qA;rw[e,UD Up,Uv,Uv,Uv,Uv];rfl
theorem Bj{L:Lv}(nd:(L.map (·.1)).Nodup){z:Int×Int}(h:z∈L):lk L z.1=z.2:=by
 have hf:=sN (UY.mpr ⟨z,h,rfl⟩);have hm:=List.mem_of_find?_eq_some hf;clear hf;induction L with
 |nil=>cases h
 |cons y L ih=>
  rw[fD,US]at nd;by_cases e:y.1=z.1
  ·have hy:z=y:=by
    rcases Ux.mp h with h|h
    ·exact h
    ·exact absurd (UY.mpr ⟨z,h,e.symm⟩) nd.1
   unfold lk;rw[hy,List.find?_cons_of_pos (by simp)];rfl
  ·have e2:lk (y::L) z.1=lk L z.1:=by
    unfold lk;rw[List.find?_cons_of_neg (by simpa using e)]
   have hz:z∈L:=(Ux.mp h).resolve_left fun q=>e (by rw[q])
   rw[e2];refine ih nd.2 hz ?_;rw[e2]at hm;exact(Ux.mp hm).resolve_left fun q=>e (by rw[<-q])
structure Ls(ap:List GZ)(st:GZ->Int)(many:Nat)(L:Lv):Prop where
 nd:(L.map (·.1)).Nodup
 z:(0,0)∈L
 bd:∀x∈L.map (·.1),0<=x/\x<(many:Int)
 pt:∀f:Int->Int,(∀a∈ap,f a.2.2=f a.1+st a)->f 0=0->∀y∈L,y.2=f y.1
theorem Ls.len{ap:List GZ}{st:GZ->Int}{many:Nat}{L:Lv}(l:Ls ap st many L):L.length<=many:=by
 have:=kZ many l.nd l.bd
 rwa [bc]at this
theorem Ls.add{ap:List GZ}{st:GZ->Int}{many:Nat}{L:Lv}(l:Ls ap st many L){a:GZ}(ha:a∈ap)(h1:a.1∈L.map (·.1))(h2:a.2.2∉L.map (·.1))(hb:0<=a.2.2/\a.2.2<(many:Int)):Ls ap st many (L++[(a.2.2,lk L a.1+st a)]):=by
 refine⟨?_,UA _ l.z,fun x hx=>?_,fun f hf h0 y hy=>?_⟩
 ·rw[Uv];refine U3.mpr ⟨l.nd,US.mpr ⟨U9,Vm⟩,fun x hx y hy=>?_⟩;rw[fD,U1,UJ]at hy;rw[hy];rintro rfl;exact h2 hx
 ·rw[Uv]at hx;rcases kc hx with hx|hx
  ·exact l.bd x hx
  ·rw[fD,U1,UJ]at hx;rw[hx];exact hb
 ·rcases kc hy with hy|hy
  ·exact l.pt f hf h0 y hy
  ·rw[ka hy];obtain⟨z,hz,ez⟩:=kO h1;have e1:=Bj l.nd hz;have e2:=l.pt f hf h0 z hz;rw[ez]at e1 e2;dsimp only;rw[hf a ha,e1,e2]
section
variable{nY:LNN}{ap:List GZ}{many:Nat}{N:List Nd}{T:List GZ}
def JQ(nY:LNN)(uZ:List Int)(a:GZ):Int:=uZ.getD (nY.idxOf a.2.1) 0
theorem Fy(c:Ck nY ap many N T)(uZ:List Int)(RD:D)(hR:∀k:Nat,k<nY.length->Hf RD (.int (k:Int))=.ok (.f,.int (uZ.getD k 0)))(L:Lv)(l:Ls ap (JQ nY uZ) many L)(fr:Bool)(a:GZ)(ha:a∈ap)(t7:Option R):
  ∃L' fr' u7,Ls ap (JQ nY uZ) many L'/\((L'=L/\fr'=fr/\(a.1∈L.map (·.1)->a.2.2∈L.map (·.1)))\/(L'.length=L.length+1/\fr'=true))/\dg [some (.f,G0 nY ap),some (.f,RD),some (.d,dL L),some (.f,.bl fr),some (.f,.int a.1),some (.f,.str a.2.1),some (.f,.int a.2.2),t7]=.ok (.nx [some (.f,G0 nY ap),some (.f,RD),some (.d,dL L'),some (.f,.bl fr'),some (.f,.int a.1),some (.f,.str a.2.1),some (.f,.int a.2.2),u7]):=by
 have hm:=c.nm a ha;have IT:=qU hm;have hr:=hR _ (VI hm);have hlen:=l.len;have hm1:=c.m1;unfold dg;have s1:(bQ 7 (aB Hf (ao 1) (aj (xN mE (aj (aB Hf (ao 0) (aj (aH (.int 0))))) (ag (ao 5) aA))))) [some (.f,G0 nY ap),some (.f,RD),some (.d,dL L),some (.f,.bl fr),some (.f,.int a.1),some (.f,.str a.2.1),some (.f,.int a.2.2),t7]=.ok (.nx [some (.f,G0 nY ap),some (.f,RD),some (.d,dL L),some (.f,.bl fr),some (.f,.int a.1),some (.f,.str a.2.1),some (.f,.int a.2.2),some (.f,.int (JQ nY uZ a))]):=by
  unfold G0 JQ;simp only[pv,seval,op,IT,hr]
 rw[av s1];have LC:=GI L a.1;have KR:=Fw L a.2.2;by_cases h1:a.1∈L.map (·.1)
 ·rw[UW h1]at LC;by_cases h2:a.2.2∈L.map (·.1)
  ·rw[UW h2]at KR;refine⟨L,fr,some (.f,.int (JQ nY uZ a)),l,.inl ⟨rfl,rfl,fun _=>h2⟩,?_⟩;simp only[pv,seval,op,LC,KR,Vu,gG]
  ·rw[UO h2]at KR;have Uc:=Ee h1;have hput:=Fx h2 (lk L a.1+JQ nY uZ a);have hz:decide (L.length<sizeLine)=true:=UW (f7 (by lia));refine⟨L++[(a.2.2,lk L a.1+JQ nY uZ a)],true,some (.f,.int (JQ nY uZ a)),l.add ha h1 h2 (c.hb a ha).2,.inr ⟨by rw[iO];rfl,rfl⟩,?_⟩;simp only[pv,seval,op,LC,KR,Vn];unfold dL at Uc ⊢;simp only[pv,seval,op,Uc,bc,hz,Wo,hput]
 ·rw[UO h1]at LC;refine⟨L,fr,some (.f,.int (JQ nY uZ a)),l,.inl ⟨rfl,rfl,fun h=>absurd h h1⟩,?_⟩;simp only[pv,seval,op,LC,gG]
def Nr(nY:LNN)(N:List Nd)(uZ:List Int)(a:GZ):Bool:=th nY N uZ a.2.2==th nY N uZ a.1+JQ nY uZ a
theorem Ck.th0(c:Ck nY ap many N T)(uZ:List Int):th nY N uZ 0=0:=by
 unfold th;have:=jU c.F.nd (Uw c.F.z);dsimp only at this;rw[this,pr_nil]
theorem Ck.levels(c:Ck nY ap many N T)(uZ:List Int)(hl:uZ.length=nY.length)(RD:D)(hR:∀k:Nat,k<nY.length->Hf RD (.int (k:Int))=.ok (.f,.int (uZ.getD k 0))):cR [G0 nY ap,RD]=if ap.all (Nr nY N uZ) then .ok (.l .f,.lst (((List.range many).map fun(s:Nat)=>th nY N uZ (s:Int)).map D.int)) else .ok (.f,.non):=by
 have hm1:=c.m1;have Ka:=c.al;unfold cR jO;rw[bj (h:=by rfl)];rw[av (env':=[some (.f,G0 nY ap),some (.f,RD),some (.d,dL [(0,0)]),none,none,none,none,none]) (by simp only[pv,seval,op];rfl)];rw[av (env':=[some (.f,G0 nY ap),some (.f,RD),some (.d,dL [(0,0)]),some (.f,.bl true),none,none,none,none]) (by simp only[pv,seval,op])];have l0:Ls ap (JQ nY uZ) many [(0,0)]:=⟨US.mpr ⟨U9,Vm⟩,UJ.mpr rfl,fun x hx=>by
  rw[fD,U1,UJ]at hx;lia,fun f hf h0 y hy=>by rw[ka hy];exact h0.symm⟩
 obtain⟨env',ew,L,t4,t5,t6,t7,l,hclo,rfl⟩:=jT (c:=HD (aN 3)) (g:=eL)
  (fun k env=>∃L fr t4 t5 t6 t7,Ls ap (JQ nY uZ) many L/\(fr=false->∀a∈ap,a.1∈L.map (·.1)->a.2.2∈L.map (·.1))/\k=(if fr=true then 14-L.length else 0)/\env=[some (.f,G0 nY ap),some (.f,RD),some (.d,dL L),some (.f,.bl fr),t4,t5,t6,t7]) (fun env=>∃L t4 t5 t6 t7,Ls ap (JQ nY uZ) many L/\(∀a∈ap,a.1∈L.map (·.1)->a.2.2∈L.map (·.1))/\env=[some (.f,G0 nY ap),some (.f,RD),some (.d,dL L),some (.f,.bl false),t4,t5,t6,t7]) (by
  rintro k env ⟨L,fr,t4,t5,t6,t7,l,L0,rfl,rfl⟩;have hlen:=l.len;cases fr with
  |false=>exact .inl ⟨[some (.f,G0 nY ap),some (.f,RD),some (.d,dL L),some (.f,.bl false),t4,t5,t6,t7],by simp only[pv,seval,op],L,t4,t5,t6,t7,l,L0 rfl,rfl⟩
  |true=>
   refine .inr ⟨[some (.f,G0 nY ap),some (.f,RD),some (.d,dL L),some (.f,.bl true),t4,t5,t6,t7],by simp only[pv,seval,op],?_⟩;obtain⟨env',ef,L2,Ou,u4,u5,u6,u7,l2,hq,rfl⟩:=for_list (a:=fS 3 (aD (ay 4) (aD (ay 5) (aD (ay 6) b7)))) (g:=dg) (e:=eA) ap (fun j env=>∃L2 Ou t4 t5 t6 t7,Ls ap (JQ nY uZ) many L2/\((Ou=false/\L2=L/\∀a∈ap.take j,a.1∈L.map (·.1)->a.2.2∈L.map (·.1))\/(Ou=true/\L.length<L2.length))/\env=[some (.f,G0 nY ap),some (.f,RD),some (.d,dL L2),some (.f,.bl Ou),t4,t5,t6,t7]) (by
    rintro j a env hj ⟨L2,Ou,t4,t5,t6,t7,l2,hq,rfl⟩;have My:=Uw hj;have ht:ap.take (j+1)=ap.take j++[a]:=by rw[Vf,hj];rfl
    obtain⟨L3,OR,u7,l3,hd,e⟩:=Fy c uZ RD hR L2 l2 Ou a My t7;refine⟨[some (.f,G0 nY ap),some (.f,RD),some (.d,dL L2),some (.f,.bl Ou),some (.f,.int a.1),some (.f,.str a.2.1),some (.f,.int a.2.2),t7],by unfold eA;simp only[pv,seval],_,e,L3,OR,_,_,_,u7,l3,?_,rfl⟩;rcases hd with⟨rfl,rfl,hd⟩|⟨hd1,hd2⟩
    ·rcases hq with⟨q1,rfl,q3⟩|hq
     ·refine .inl ⟨q1,rfl,fun b hb h=>?_⟩;rw[ht]at hb;rcases kc hb with hb|hb
      ·exact q3 b hb h
      ·rw[UJ]at hb;subst hb;exact hd h
     ·exact .inr hq
    ·refine .inr ⟨hd2,?_⟩;rcases hq with⟨_,rfl,_⟩|hq
     ·lia
     ·lia) _ ⟨L,false,t4,t5,t6,t7,l,.inl ⟨rfl,rfl,fun a ha=>by rw[Wt]at ha;exact nomatch ha⟩,rfl⟩
   rw[Vl]at hq;have Nb:=l2.len;refine⟨_,(if Ou=true then 14-L2.length else 0),?_,?_,L2,Ou,u4,u5,u6,u7,l2,?_,rfl,rfl⟩
   ·unfold eL;rw[av (env':=[some (.f,G0 nY ap),some (.f,RD),some (.d,dL L),some (.f,.bl false),t4,t5,t6,t7]) (by simp only[pv,seval,op])];unfold ib;unfold G0 at ef ⊢;simp only[pv,seval,op];exact ef
   ·rw[Ut rfl];split
    ·rename_i h2;rcases hq with⟨h,_⟩|hq
     ·rw[h]at h2;cases h2
     ·lia
    ·lia
   ·intro h;rcases hq with⟨_,rfl,q⟩|⟨q,_⟩
    ·exact q
    ·rw[q]at h;cases h) 100000 13 _ (by decide) ⟨[(0,0)],true,none,none,none,none,l0,(fun h=>nomatch h),rfl,rfl⟩
 rw[av (env':=_) (by
  unfold ic;exact ew)]
 have hlen:=l.len;have Jd:∀s:Int,0<=s->s<(many:Int)->s∈L.map (·.1):=by
  have key:∀(k:Nat) (n:Nd),n∈N->n.2.length=k->n.1∈L.map (·.1):=by
   intro k;induction k using Nat.strongRecOn with
   |_ k ih=>
    intro n hn hk;rcases c.F.par n hn with rfl|⟨a,ha,m,hm,e1,rfl⟩
    ·exact UY.mpr ⟨_,l.z,rfl⟩
    ·refine hclo a ha ?_;rw[e1];exact ih m.2.length (by rw[<-hk];show _<(m.2++[a.2.1]).length;rw[iO,UG];lia) m hm rfl
  intro s h0 h1;obtain⟨n,hn,rfl⟩:=kO (c.all s h0 h1);exact key _ n hn rfl
 have hLl:L.length=many:=by
  have:=qV ((List.range many).map fun(k:Nat)=>(k:Int)) (L.map (·.1)) (iu _ _ fun i j _ _ e=>by lia) fun x hx=>by
   obtain⟨k,hk,rfl⟩:=kO hx;have:=UR.mp hk;exact Jd _ (by lia) (by lia)
  rw[bc,bc,UM]at this;lia
 have hk0:lk L 0=0:=Bj l.nd l.z;have key:=for_all (a:=fS 3 (aD (ay 4) (aD (ay 5) (aD (ay 6) b7)))) (g:=eK) (e:=eA) (r:=(.f,.non)) (fun env=>∃t4 t5 t6 t7,env=[some (.f,G0 nY ap),some (.f,RD),some (.d,dL L),some (.f,.bl false),t4,t5,t6,t7]) (fun a=>lk L a.2.2==lk L a.1+JQ nY uZ a) ap (by
  rintro a ha env ⟨t4,t5,t6,t7,rfl⟩;have Km:=c.hb a ha;have hm:=c.nm a ha;have IT:=qU hm;have hr:=hR _ (VI hm);have g1:=Ee (Jd a.1 Km.1.1 Km.1.2);have g2:=Ee (Jd a.2.2 Km.2.1 Km.2.2);refine⟨[some (.f,G0 nY ap),some (.f,RD),some (.d,dL L),some (.f,.bl false),some (.f,.int a.1),some (.f,.str a.2.1),some (.f,.int a.2.2),t7],by unfold eA;simp only[pv,seval],?_⟩;unfold eK;have s1:(bQ 7 (aB Hf (ao 1) (aj (xN mE (aj (aB Hf (ao 0) (aj (aH (.int 0))))) (ag (ao 5) aA))))) [some (.f,G0 nY ap),some (.f,RD),some (.d,dL L),some (.f,.bl false),some (.f,.int a.1),some (.f,.str a.2.1),some (.f,.int a.2.2),t7]=.ok (.nx [some (.f,G0 nY ap),some (.f,RD),some (.d,dL L),some (.f,.bl false),some (.f,.int a.1),some (.f,.str a.2.1),some (.f,.int a.2.2),some (.f,.int (JQ nY uZ a))]):=by
   unfold G0 JQ;simp only[pv,seval,op,IT,hr]
  rw[av s1];cases hq:(lk L a.2.2==lk L a.1+JQ nY uZ a) with
  |true=>
   rw[Ut rfl];refine⟨_,?_,some (.f,.int a.1),some (.f,.str a.2.1),some (.f,.int a.2.2),some (.f,.int (JQ nY uZ a)),rfl⟩;simp only[pv,seval,op,g1,g2,hq,Vu,gG]
  |false=>
   rw[UD Up];simp only[pv,seval,op,g1,g2,hq,Vn]) _ ⟨t4,t5,t6,t7,rfl⟩
 unfold gO;cases hall2:ap.all (fun a=>lk L a.2.2==lk L a.1+JQ nY uZ a) with
 |true=>
  rw[hall2,Ut rfl]at key;obtain⟨env',ef,u4,u5,u6,u7,rfl⟩:=key;rw[UE]at hall2;have PN:=c.pot uZ hl (lk L) (fun a ha=>by have:=hall2 a ha;exact UQ.mp this);have Qd:ap.all (Nr nY N uZ)=true:=UE.mpr fun a ha=>by
   have Km:=c.hb a ha;have h1:=PN a.1 Km.1.1 Km.1.2;have h2:=PN a.2.2 Km.2.1 Km.2.2;have h3:=UQ.mp (hall2 a ha);unfold Nr;rw[UQ];lia
  rw[Qd,Ut rfl];rw[av (env':=_) (by
   unfold fB;unfold G0 at ef ⊢;simp only[pv,seval,op];exact ef)]
  have JA:cC (ay 0) dD (aB K3 (ao 1) (ao 0)) ((List.range many).map fun(k:Nat)=>D.int (k:Int)) [none,some (.f,dL L)]=.ok (((List.range many).map fun(s:Nat)=>th nY N uZ (s:Int)).map D.int):=by
   rw[bo (r:=fun s:Nat=>D.int (th nY N uZ (s:Int))) (fun env=>∃t,env=[t,some (.f,dL L)]) (List.range many) ?_ _ ⟨none,rfl⟩]
   ·rw[UC];rfl
   ·rintro s hs env ⟨t,rfl⟩;have hs:=UR.mp hs;have g:=Ee (Jd (s:Int) (by lia) (by lia));have h1:=PN (s:Int) (by lia) (by lia);rw[hk0,Int.sub_zero]at h1;rw[<-h1]at g;refine⟨[some (.f,.int (s:Int)),some (.f,dL L)],rfl,.f,[some (.f,.int (s:Int)),some (.f,dL L)],?_,_,rfl⟩;simp only[pv,seval,op,g]
  have Te:(((List.range many).map fun(s:Nat)=>th nY N uZ (s:Int)).map D.int).length<=sizeLine:=aQ (by rw[bc,bc,UM];lia);have Q7:=GY ((List.range many).map fun(s:Nat)=>th nY N uZ (s:Int));unfold gN;generalize (aB K3 (ao 1) (ao 0))=GG at JA ⊢;unfold dL at JA ⊢;simp only[pv,seval,op,bc];rw[Ut (by lia)];simp only[pv,seval,op,U2,hLl,JA,Te,Q7]
 |false=>
  rw[hall2,UD Up]at key;have Qd:ap.all (Nr nY N uZ)=false:=by
   refine Wg.mpr fun h=>?_
   rw[UE]at h;have hv:=l.pt (th nY N uZ) (fun a ha=>by have:=h a ha;unfold Nr at this;exact UQ.mp this) (c.th0 uZ);have P9:∀s:Int,0<=s->s<(many:Int)->lk L s=th nY N uZ s:=fun s h0 h1=>by
    obtain⟨z,hz,e⟩:=kO (Jd s h0 h1);rw[<-e,Bj l.nd hz];exact hv z hz
   have:ap.all (fun a=>lk L a.2.2==lk L a.1+JQ nY uZ a)=true:=UE.mpr fun a ha=>by
    have Km:=c.hb a ha;have h3:=h a ha;unfold Nr at h3;rw[P9 a.1 Km.1.1 Km.1.2,P9 a.2.2 Km.2.1 Km.2.2];exact h3
   rw[hall2]at this;cases this
  rw[Qd,UD Up,IW];unfold fB;unfold G0 at key ⊢;simp only[pv,seval,op,key]
end
theorem getD_of{α:Type}{l:List α}{i:Nat}{x d:α}(h:l[i]?=some x):l.getD i d=x:=by
 rw[List.getD_eq_getElem?_getD,h];rfl
theorem Ra.ckT{nY:LNN}{as:List GZ}{many:Nat}(r:Ra nY as many)(nn:nY.Nodup)(n3:nY.length<=1000):∃N T,Ck nY as many N T/\∀a∈T,wayOf N a.2.2=wayOf N a.1++[a.2.1]:=by
 have C:=r.ch;have Lp:=r.states;have Ka:=C.al;have hm:=r.mm;obtain⟨N,T,b,LO,et,Tf⟩:=wx nY as (by lia) (fun a ha=>(C.bd a ha).2) C.all (by lia);have F:=b.found;have P1:∀s:Int,(wayOf N s).length<=1000:=by
  intro s;unfold wayOf;cases hf:(N.find? fun n=>n.1==s) with
  |none=>exact U6 _
  |some n=>
   have:=F.wl n (List.mem_of_find?_eq_some hf);show n.2.length<=1000;lia
 have em:(bu as).toNat=many:=by lia
 rw[em]at Tf;have e2:=qW (by lia) n3 Tf;have eww2:cN [G0 nY as]=.ok (.l .f,.lst (((List.range many).map fun(s:Nat)=>wayOf N (s:Int)).map wD)):=by
  rw[Tf,UC];rfl
 have e1:=tW eww2 et r.bd P1 n3 (by lia);refine⟨N,T,⟨hm,nn,n3,Ka,r.nm,r.bd,P1,F,fun s h0 h1=>C.all N F s h0 (by lia),e1,e2⟩,fun a ha=>?_⟩;obtain⟨j,hj⟩:=U0.mp ha;obtain⟨_,k,n,_,hk,e3,Ud⟩:=b.tr j a hj;have w1:=jU b.nd (Uw hk);have w2:=jU b.nd (Uw Ud);dsimp only at w2;rw[w2,e3,w1]
section
variable{nY:LNN}{ap:List GZ}{many:Nat}{N:List Nd}{T:List GZ}
def RZ(nY:LNN)(ap:List GZ)(uZ:List Int):Bool:=(List.range uZ.length).all fun k=>uZ.getD k 0==0||decide (nY.getD k []∈ap.map (·.2.1))
def isS(nY:LNN)(ap:List GZ)(N:List Nd)(uZ:List Int):Bool:=ap.all (Nr nY N uZ)&&RZ nY ap uZ
def zB(ap:List GZ)(z:List Nat×Int):Bool:=z.2==0||ap.any fun a=>a.2.1==z.1
theorem qg(ap:List GZ):cC (fS 3 (aD (ay 0) (aD (ay 1) (aD (ay 2) b7)))) dD (aN 1) (ap.map eA) [none,none,none]=.ok ((ap.map (·.2.1)).map D.str):=by
 rw[bo (r:=fun a:GZ=>D.str a.2.1) (fun env=>∃t u v,env=[t,u,v]) ap ?_ _ ⟨none,none,none,rfl⟩]
 ·rw[UC];rfl
 ·rintro a _ env ⟨t,u,v,rfl⟩;exact⟨[some (.f,.int a.1),some (.f,.str a.2.1),some (.f,.int a.2.2)],by unfold eA;simp only[pv,seval],.f,_,rfl,_,_,_,rfl⟩
theorem Bk(a:List Nat)(l:LNN):ub (.str a) (.lst (l.map D.str))=.ok (.f,.bl (!decide (a∈l))):=by
 unfold ub;rw[su];rfl
theorem yh(c:Ck nY ap many N T)(uZ:List Int)(hl:uZ.length=nY.length):bC [G0 nY ap,.tup (uZ.map D.int)]=.ok (.f,.bl (isS nY ap N uZ)):=by
 unfold isS RZ;have Tg:=c.n3;have Ka:=c.al;have hm:=c.m1;have Th:=qg ap;have Ti:((ap.map (·.2.1)).map D.str).length<=sizeLine:=aQ (by rw[bc,bc];lia);have Tj:=PV.flat_strs (ap.map (·.2.1));have Nc:=c.levels uZ hl (.tup (uZ.map D.int)) fun k hk=>by rw[AK,fZ (by lia)]
 unfold bC fW;rw[bj (h:=by rfl)];rw[av (env':=[some (.f,G0 nY ap),some (.f,.tup (uZ.map D.int)),some (.l .f,.lst ((ap.map (·.2.1)).map D.str)),none]) (by
  unfold G0;simp only[pv,seval,op,Th,Ti,Tj])]
 have key:=for_all (a:=ay 3) (g:=cW) (e:=fun(k:Nat)=>D.int (k:Int)) (r:=(.f,.bl false)) (fun env=>∃t3,env=[some (.f,G0 nY ap),some (.f,.tup (uZ.map D.int)),some (.l .f,.lst ((ap.map (·.2.1)).map D.str)),t3]) (fun k=>uZ.getD k 0==0||decide (nY.getD k []∈ap.map (·.2.1))) (List.range uZ.length) (by
  rintro k hk env ⟨t3,rfl⟩;have hk:=UR.mp hk;have q1:Ik (uZ.map D.int) (k:Int)=some (.int (uZ.getD k 0)):=fZ hk;have Ue:Ik (nY.map D.str) (k:Int)=some (.str (nY.getD k [])):=by
   rw[wg (by lia),getD_of (mq (by lia))]
  have KR:=Bk (nY.getD k []) (ap.map (·.2.1));refine⟨[some (.f,G0 nY ap),some (.f,.tup (uZ.map D.int)),some (.l .f,.lst ((ap.map (·.2.1)).map D.str)),some (.f,.int (k:Int))],rfl,?_⟩;unfold cW G0;cases h0:(uZ.getD k 0==0) with
  |true=>
   rw[Xp,Ut rfl];refine⟨_,?_,some (.f,.int (k:Int)),rfl⟩;simp only[pv,seval,op,q1,h0,Vu,gG]
  |false=>
   rw[XH];by_cases hu:nY.getD k []∈ap.map (·.2.1)
   ·rw[UW hu]at KR ⊢;rw[Ut rfl];refine⟨_,?_,some (.f,.int (k:Int)),rfl⟩;simp only[pv,seval,op,q1,h0,Ue,KR,Vn,Vu,gG]
   ·rw[UO hu]at KR ⊢;rw[UD Up];simp only[pv,seval,op,q1,h0,Ue,KR,Vn]) _ ⟨none,rfl⟩
 cases Jd:(List.range uZ.length).all (fun k=>uZ.getD k 0==0||decide (nY.getD k []∈ap.map (·.2.1))) with
 |false=>
  rw[Jd,UD Up]at key;rw[Xt,IW];unfold dm;simp only[pv,seval,op,bc];rw[Ut (by lia)];simp only[pv,seval,op,U2,key]
 |true=>
  rw[Jd,Ut rfl]at key;obtain⟨env',ef,t3,rfl⟩:=key;rw[XN];rw[av (env':=_) (by
   unfold dm;simp only[pv,seval,op,bc];rw[Ut (by lia)];simp only[pv,seval,op,U2];exact ef)]
  unfold eQ;have Qb:cY .non=true:=rfl;cases Qd:ap.all (Nr nY N uZ) with
  |false=>
   rw[Qd,UD Up]at Nc;simp only[pv,seval,op,Nc,Qb,si]
  |true=>
   rw[Qd,Ut rfl]at Nc;have Ld:=GY ((List.range many).map fun(s:Nat)=>th nY N uZ (s:Int));generalize (((List.range many).map fun(s:Nat)=>th nY N uZ (s:Int)).map D.int)=TT at Nc Ld;have hisL:isnO (.lst TT) .non=.ok (.f,.bl true):=id rfl;simp only[pv,seval,op,Nc,Ld,hisL]
theorem Ck.rings_all(c:Ck nY ap many N T)(hT:∀a∈T,wayOf N a.2.2=wayOf N a.1++[a.2.1])(uZ:List Int)(hl:uZ.length=nY.length):(!(((JP nY N T ap).map fun r=>!(pr uZ r==0)).any id))=ap.all (Nr nY N uZ):=by
 rw[UP,Bool.not_eq_true',XF,UE];constructor
 ·intro h a ha;unfold Nr;rw[UQ];by_cases ht:a∈T
  ·unfold th JQ;rw[hT a ht,sJ _ _ nY uZ c.nn hl (c.nm a ha)]
  ·have:=h (!(pr uZ (qe nY N a)==0)) (UY.mpr ⟨qe nY N a,UY.mpr ⟨a,WJ.mpr ⟨ha,by rw[UO ht];rfl⟩,rfl⟩,rfl⟩);have h0:pr uZ (qe nY N a)=0:=by
    by_cases h0:pr uZ (qe nY N a)=0
    ·exact h0
    ·exact absurd (show id (!(pr uZ (qe nY N a)==0))=true by rw[U7.mpr h0];rfl) this
   rw[wL nY N a uZ c.nn hl (c.nm a ha)]at h0;unfold th JQ;lia
 ·intro h x hx;obtain⟨r,hr,rfl⟩:=kO hx;obtain⟨a,ha,rfl⟩:=kO hr;have ha:=(WJ.mp ha).1;have h3:=UQ.mp (h a ha);have h0:pr uZ (qe nY N a)=0:=by
   rw[wL nY N a uZ c.nn hl (c.nm a ha)];unfold th JQ at h3;lia
  rw[h0];exact Up
theorem Ck.us_all(c:Ck nY ap many N T)(uZ:List Int)(hl:uZ.length=nY.length):((nY.zip uZ).map (zB ap)).all id=RZ nY ap uZ:=by
 unfold RZ;rw[UP,UE,UE];constructor
 ·intro h k hk;have hk:=UR.mp hk;have O6:k<nY.length:=by lia
  have hz:(nY.zip uZ)[k]?=some (nY[k],uZ[k]):=List.getElem?_zip_eq_some.mpr ⟨mq O6,mq hk⟩;have:=h (zB ap (nY[k],uZ[k])) (UY.mpr ⟨_,Uw hz,rfl⟩);rw[getD_of (mq hk),getD_of (mq O6)];have this:(uZ[k]==0||ap.any fun a=>a.2.1==nY[k])=true:=this;rw[Wx]at this ⊢;refine this.imp id fun K2=>?_
  obtain⟨a,ha,e⟩:=U8.mp K2;exact UW (UY.mpr ⟨a,ha,UQ.mp e⟩)
 ·intro h x hx;obtain⟨z,hz,rfl⟩:=kO hx;obtain⟨k,hk⟩:=U0.mp hz;obtain⟨k1,k2⟩:=List.getElem?_zip_eq_some.mp (show(nY.zip uZ)[k]?=some (z.1,z.2) from hk);have:=h k (UR.mpr (jV k2).1);rw[getD_of k1,getD_of k2,Wx]at this;show(z.2==0||ap.any fun a=>a.2.1==z.1)=true;rw[Wx];refine this.imp id fun hd=>?_
  obtain⟨a,ha,e⟩:=kO (VA hd);exact U8.mpr ⟨a,ha,UQ.mpr e⟩
theorem Ck.stretchB(c:Ck nY ap many N T)(hT:∀a∈T,wayOf N a.2.2=wayOf N a.1++[a.2.1])(uZ:List Int)(hl:uZ.length=nY.length):aX [G0 nY ap,.tup (uZ.map D.int)]=.ok (.f,.bl (isS nY ap N uZ)):=by
 have ha1:=c.rings_all hT uZ hl;have NH:=c.us_all uZ hl;unfold isS;rw[<-ha1,<-NH];have Ka:=c.al;have Tg:=c.n3;have OK:=wJ nY N T ap;have L9:=wM (JP nY N T ap);have er:=c.er;unfold aX kA;rw[bj (h:=by rfl)];have hc:cC (ay 0) dD (bE Mn (aj (cG cM (ag (ao 1) (ag (ao 0) aA)))) (aj (aH (.int 0)))) ((JP nY N T ap).map fun r=>D.tup (r.map D.int)) [none,some (.f,.tup (uZ.map D.int))]=.ok (((JP nY N T ap).map fun r=>!(pr uZ r==0)).map D.bl):=by
  rw[bo (e:=fun r:List Int=>D.tup (r.map D.int)) (r:=fun r:List Int=>D.bl (!(pr uZ r==0))) (fun env=>∃t,env=[t,some (.f,.tup (uZ.map D.int))]) (JP nY N T ap) ?_ _ ⟨none,rfl⟩]
  ·rw[UC];rfl
  ·rintro r hr env ⟨t,rfl⟩;obtain⟨a,ha,rfl⟩:=kO hr;have ha:=(WJ.mp ha).1;have hp:=wK uZ (qe nY N a) (by unfold qe;rw[bc,bc];exact Tg) (tY nY N a c.hw);refine⟨[some (.f,.tup ((qe nY N a).map D.int)),some (.f,.tup (uZ.map D.int))],rfl,.f,[some (.f,.tup ((qe nY N a).map D.int)),some (.f,.tup (uZ.map D.int))],?_,_,rfl⟩;simp only[pv,seval,op,hp]
 have hlen:(((JP nY N T ap).map fun r=>!(pr uZ r==0)).map D.bl).length<=sizeLine:=aQ (by rw[bc,bc];lia);have Ld:=oB ((JP nY N T ap).map fun r=>!(pr uZ r==0));cases K2:((JP nY N T ap).map fun r=>!(pr uZ r==0)).any id with
 |true=>
  rw[Vu,Yt,IW];generalize (bE Mn (aj (cG cM (ag (ao 1) (ag (ao 0) aA)))) (aj (aH (.int 0))))=GG at hc ⊢;generalize ((JP nY N T ap).map fun r=>D.tup (r.map D.int))=RR at er hc L9;generalize ((JP nY N T ap).map fun r=>!(pr uZ r==0))=BB at hc hlen Ld K2;simp only[pv,seval,op,er,L9,hc,hlen,Ld,wN,K2]
 |false=>
 rw[Vn,Bool.true_and];rw[av (env':=[some (.f,G0 nY ap),some (.f,.tup (uZ.map D.int))]) (by
  generalize (bE Mn (aj (cG cM (ag (ao 1) (ag (ao 0) aA)))) (aj (aH (.int 0))))=GG at hc ⊢;generalize ((JP nY N T ap).map fun r=>D.tup (r.map D.int))=RR at er hc L9;generalize ((JP nY N T ap).map fun r=>!(pr uZ r==0))=BB at hc hlen Ld K2;simp only[pv,seval,op,er,L9,hc,hlen,Ld,wN,K2,gG])]
 have JA:cC (fS 2 (aD (ay 0) (aD (ay 1) b7))) dD (QC (bE Ir (ao 1) (aj (aH (.int 0)))) (cG dw (ag (ao 2) (ag (ao 0) aA)))) ((nY.zip uZ).map fun z=>D.tup [D.str z.1,D.int z.2]) [none,none,some (.f,G0 nY ap)]=.ok (((nY.zip uZ).map (zB ap)).map D.bl):=by
  rw[bo (e:=fun z:List Nat×Int=>D.tup [D.str z.1,D.int z.2]) (r:=fun z:List Nat×Int=>D.bl (zB ap z)) (fun env=>∃t u,env=[t,u,some (.f,G0 nY ap)]) (nY.zip uZ) ?_ _ ⟨none,none,rfl⟩]
  ·rw[UC];rfl
  ·rintro z hz env ⟨t,u,rfl⟩;have hh:=c.has_arcs z.1;refine⟨[some (.f,.str z.1),some (.f,.int z.2),some (.f,G0 nY ap)],rfl,.f,[some (.f,.str z.1),some (.f,.int z.2),some (.f,G0 nY ap)],?_,_,_,rfl⟩;unfold zB;cases e0:(z.2==0) with
   |true=>simp only[pv,seval,op,e0,Xp]
   |false=>simp only[pv,seval,op,e0,hh,XH]
 have Nb:(((nY.zip uZ).map (zB ap)).map D.bl).length<=sizeLine:=aQ (by rw[bc,bc,WS];lia);have Rp:=oB ((nY.zip uZ).map (zB ap));generalize ((nY.zip uZ).map (zB ap))=BB at JA Nb Rp ⊢;unfold G0 at JA ⊢;generalize (QC (bE Ir (ao 1) (aj (aH (.int 0)))) (cG dw (ag (ao 2) (ag (ao 0) aA))))=GG at JA ⊢;simp only[pv,seval,op,k4,JA,Nb,Rp]
end
def eR(r:List Int):D:=.tup (r.map D.int)
theorem Bl(env:PV.Env)(i:Nat)(fk fv:FX):xS i fk fv env=match env[i]? with
 |some (some (.l .f,.lst _))=>Res.bnd (fk env) (f:=⟨fun p=>match p.1.2,p.2[i]? with
  | .int c,some (some (.l .f,.lst ds))=>if 0<=c then(match Ik ds c with
   |some (.int old)=>Res.bnd (fv p.2) (f:=⟨fun q=>match q.1.2,q.2[i]? with
    | .int v,some (some (.l .f,.lst ds2))=>(match ixN ds2.length c with
     |some j=>.ok (.nx (q.2.set i (some (.l .f,.lst (ds2.set j (.int (old+v)))))))
     |none=>.bad)
    |_,_=>.bad⟩)
   |_=>.bad) else .bad
  |_,_=>.bad⟩)
 |_=>.bad:=id rfl
theorem wQ(rows:List (List Int))(h0:rows≠[])(x:Int):∃r∈rows,Ik (rows.map eR) (x%(rows.length:Int))=some (eR r):=by
 have hp:=Vx.mpr h0;have hb:=eE x (rows.length:Int) (by lia);obtain⟨k,ek⟩:=UN hb.1;have hk:k<rows.length:=by lia
 refine⟨rows[k],Vt hk,?_⟩;rw[ek];exact e9 (by rw[List.getElem?_map,mq hk];rfl)
section
variable{nY:LNN}{ap:List GZ}
theorem Bm(gs ts:List Int)(n:Nat)(h1:gs.length=n)(h2:ts.length=n):cC (ay 0) dD (aB pA (aj (aB Hf (ao 1) (ao 0))) (aj (aB Hf (ao 2) (ao 0)))) (((List.range (n)).map fun(k:Nat)=>D.int (k:Int))) [none,some (.f,.tup (gs.map D.int)),some (.f,.tup (ts.map D.int))]=.ok (((List.range n).map fun k=>gs.getD k 0-ts.getD k 0).map D.int):=by
 rw[bo (r:=fun k:Nat=>D.int (gs.getD k 0-ts.getD k 0)) (fun env=>∃t,env=[t,some (.f,.tup (gs.map D.int)),some (.f,.tup (ts.map D.int))]) (List.range n) ?_ _ ⟨none,rfl⟩]
 ·rw[UC];rfl
 ·rintro k hk env ⟨t,rfl⟩;have hk:=UR.mp hk;have q1:=fZ (l:=gs) (k:=k) (by lia);have q2:=fZ (l:=ts) (k:=k) (by lia);refine⟨[some (.f,.int (k:Int)),some (.f,.tup (gs.map D.int)),some (.f,.tup (ts.map D.int))],rfl,.f,[some (.f,.int (k:Int)),some (.f,.tup (gs.map D.int)),some (.f,.tup (ts.map D.int))],?_,_,rfl⟩;simp only[pv,seval,op,q1,q2]
theorem Bn(r:List Int)(h1:r.length=nY.length):cC (ay 0) dD (aB gS (aj (aB Hf (ao 1) (ao 0))) (aj (aV Bu (ag (aj (bE MW (aj (aB Hf (aj (aB Hf (ao 2) (aj (aH (.int 0))))) (ao 0))) (ao 3))) aA)))) (((List.range nY.length).map fun(k:Nat)=>D.int (k:Int))) [none,some (.f,.lst (r.map D.int)),some (.f,G0 nY ap),some (.f,.lst ((ap.map (·.2.1)).map D.str))] =
  .ok (((List.range nY.length).map fun k=>r.getD k 0*(if decide (nY.getD k []∈ap.map (·.2.1))=true then 1 else 0)).map D.int):=by
 rw[bo (r:=fun k:Nat=>D.int (r.getD k 0*(if decide (nY.getD k []∈ap.map (·.2.1))=true then 1 else 0))) (fun env=>∃t,env=[t,some (.f,.lst (r.map D.int)),some (.f,G0 nY ap),some (.f,.lst ((ap.map (·.2.1)).map D.str))]) (List.range nY.length) ?_ _ ⟨none,rfl⟩]
 ·rw[UC];rfl
 ·rintro k hk env ⟨t,rfl⟩;have hk:=UR.mp hk;have q1:=fZ (l:=r) (k:=k) (by lia);have q2:Ik (nY.map D.str) (k:Int)=some (.str (nY.getD k [])):=by
   rw[wg (by lia),getD_of (mq (by lia))]
  have q3:=su (nY.getD k []) (ap.map (·.2.1));have q4:∀b:Bool,gS (.int (r.getD k 0)) (.int (if b=true then 1 else 0))=.ok (.f,.int (r.getD k 0*(if b=true then 1 else 0))):=fun b=>GC _ _ (by cases b <;> decide)
  have q5:=q4 (decide (nY.getD k []∈ap.map (·.2.1)));generalize decide (nY.getD k []∈ap.map (·.2.1))=bb at q3 q5 ⊢;refine⟨[some (.f,.int (k:Int)),some (.f,.lst (r.map D.int)),some (.f,G0 nY ap),some (.f,.lst ((ap.map (·.2.1)).map D.str))],rfl,.f,[some (.f,.int (k:Int)),some (.f,.lst (r.map D.int)),some (.f,G0 nY ap),some (.f,.lst ((ap.map (·.2.1)).map D.str))],?_,_,rfl⟩;unfold G0;simp only[pv,seval,op,q1,q2,q3,q5]
theorem Bo(x y:Int)(hx:cE x=true)(hy:cE y=true)(r s:List Int)(n:Nat)(h1:r.length=n)(h2:s.length=n):cC (ay 0) dD (aB cK (aj (aB gS (aj (aB Hf (ao 1) (aj (aH (.int 0))))) (aj (aB Hf (ao 2) (ao 0))))) (aj (aB gS (aj (aB Hf (ao 1) (aj (aH (.int 1))))) (aj (aB Hf (ao 3) (ao 0)))))) (((List.range (n)).map fun(k:Nat)=>D.int (k:Int))) [none,some (.f,.lst [.int x,.int y]),some (.f,eR r),some (.f,eR s)] =
  .ok (((List.range n).map fun k=>x*r.getD k 0+y*s.getD k 0).map D.int):=by
 rw[bo (r:=fun k:Nat=>D.int (x*r.getD k 0+y*s.getD k 0)) (fun env=>∃t,env=[t,some (.f,.lst [.int x,.int y]),some (.f,eR r),some (.f,eR s)]) (List.range n) ?_ _ ⟨none,rfl⟩]
 ·rw[UC];rfl
 ·rintro k hk env ⟨t,rfl⟩;have hk:=UR.mp hk;have q1:=fZ (l:=r) (k:=k) (by lia);have q2:=fZ (l:=s) (k:=k) (by lia);have m1:=Fo x (r.getD k 0) hx;have m2:=Fo y (s.getD k 0) hy;refine⟨[some (.f,.int (k:Int)),some (.f,.lst [.int x,.int y]),some (.f,eR r),some (.f,eR s)],rfl,.f,[some (.f,.int (k:Int)),some (.f,.lst [.int x,.int y]),some (.f,eR r),some (.f,eR s)],?_,_,rfl⟩;unfold eR;simp only[pv,seval,op,SV,SW,q1,q2,m1,m2]
theorem D5(ns:List Int)(ps:List Pl)(hn:nY.length<=3)(rows:List (List Int))(hr:rows.length<=100)(p:Pl)(hp:L8 p nY.length)(t8 t9 MA MB MC MD:Option R):
  ∃r1 r2 u8,r1.length=nY.length/\r2.length=nY.length/\eC [some (.f,.lst (ns.map D.int)),some (.f,G0 nY ap),some (.f,eN nY ps),some (.l .f,.lst ((ap.map (·.2.1)).map D.str)),some (.l .f,.lst (rows.map eR)),some (.f,.int p.1),some (.f,.tup (p.2.1.map D.int)),some (.f,.tup (p.2.2.map D.int)),t8,t9,MA,MB,MC,MD]=.ok (.nx [some (.f,.lst (ns.map D.int)),some (.f,G0 nY ap),some (.f,eN nY ps),some (.l .f,.lst ((ap.map (·.2.1)).map D.str)),some (.l .f,.lst ((rows++[r1,r2]).map eR)),some (.f,.int p.1),some (.f,.tup (p.2.1.map D.int)),some (.f,.tup (p.2.2.map D.int)),u8,t9,MA,MB,MC,MD]):=by
 have h1:=Bm p.2.2 p.2.1 nY.length hp.2 hp.1;obtain⟨r1,e1⟩:∃r,r=(List.range nY.length).map fun k=>p.2.2.getD k 0-p.2.1.getD k 0:=⟨_,rfl⟩
 rw[<-e1]at h1;have l1:r1.length=nY.length:=by rw[e1,bc,UM]
 have h2:=Bn (ap:=ap) r1 l1;obtain⟨r2,e2⟩:∃r,r=(List.range nY.length).map fun k=>r1.getD k 0*(if decide (nY.getD k []∈ap.map (·.2.1))=true then 1 else 0):=⟨_,rfl⟩
 rw[<-e2]at h2;have l2:r2.length=nY.length:=by rw[e2,bc,UM]
 have z1:(r1.map D.int).length<=sizeLine:=aQ (by rw[bc];lia);have z2:(r2.map D.int).length<=sizeLine:=aQ (by rw[bc];lia);have f1:=GY r1;have f2:=GY r2;have zr:(rows.map eR).length<sizeLine:=f7 (by rw[bc];lia);have Ug:(rows.map eR++[eR r1]).length<sizeLine:=f7 (by rw[iO,bc,UG];lia);have hc:((nY.length:Int)).toNat=nY.length:=U2 _;have HU:p.2.1.length=nY.length:=hp.1;refine⟨r1,r2,some (.l .f,.lst (r1.map D.int)),l1,l2,?_⟩;unfold eC;have i1:∀A8,bL (aj (aV g5 (ag (ao 6) aA))) [some (.f,.lst (ns.map D.int)),some (.f,G0 nY ap),some (.f,eN nY ps),some (.l .f,.lst ((ap.map (·.2.1)).map D.str)),some (.l .f,.lst (rows.map eR)),some (.f,.int p.1),some (.f,.tup (p.2.1.map D.int)),some (.f,.tup (p.2.2.map D.int)),A8,t9,MA,MB,MC,MD]=.ok (((List.range nY.length).map fun(k:Nat)=>D.int (k:Int)),[some (.f,.lst (ns.map D.int)),some (.f,G0 nY ap),some (.f,eN nY ps),some (.l .f,.lst ((ap.map (·.2.1)).map D.str)),some (.l .f,.lst (rows.map eR)),some (.f,.int p.1),some (.f,.tup (p.2.1.map D.int)),some (.f,.tup (p.2.2.map D.int)),A8,t9,MA,MB,MC,MD]):=fun A8=>by
  have:=DG (nY.length:Int) (by lia) (by lia) (aj (aV g5 (ag (ao 6) aA))) [some (.f,.lst (ns.map D.int)),some (.f,G0 nY ap),some (.f,eN nY ps),some (.l .f,.lst ((ap.map (·.2.1)).map D.str)),some (.l .f,.lst (rows.map eR)),some (.f,.int p.1),some (.f,.tup (p.2.1.map D.int)),some (.f,.tup (p.2.2.map D.int)),A8,t9,MA,MB,MC,MD] [some (.f,.lst (ns.map D.int)),some (.f,G0 nY ap),some (.f,eN nY ps),some (.l .f,.lst ((ap.map (·.2.1)).map D.str)),some (.l .f,.lst (rows.map eR)),some (.f,.int p.1),some (.f,.tup (p.2.1.map D.int)),some (.f,.tup (p.2.2.map D.int)),A8,t9,MA,MB,MC,MD] (.val (.int (nY.length:Int))) (by simp only[pv,seval,op,bc,HU]) rfl;rw[hc]at this;exact this
 have i2:∀R4,bL (aj (aV g5 (ag (ao 8) aA))) [some (.f,.lst (ns.map D.int)),some (.f,G0 nY ap),some (.f,eN nY ps),some (.l .f,.lst ((ap.map (·.2.1)).map D.str)),R4,some (.f,.int p.1),some (.f,.tup (p.2.1.map D.int)),some (.f,.tup (p.2.2.map D.int)),some (.l .f,.lst (r1.map D.int)),t9,MA,MB,MC,MD]=.ok (((List.range nY.length).map fun(k:Nat)=>D.int (k:Int)),[some (.f,.lst (ns.map D.int)),some (.f,G0 nY ap),some (.f,eN nY ps),some (.l .f,.lst ((ap.map (·.2.1)).map D.str)),R4,some (.f,.int p.1),some (.f,.tup (p.2.1.map D.int)),some (.f,.tup (p.2.2.map D.int)),some (.l .f,.lst (r1.map D.int)),t9,MA,MB,MC,MD]):=fun R4=>by
  have:=DG (nY.length:Int) (by lia) (by lia) (aj (aV g5 (ag (ao 8) aA))) [some (.f,.lst (ns.map D.int)),some (.f,G0 nY ap),some (.f,eN nY ps),some (.l .f,.lst ((ap.map (·.2.1)).map D.str)),R4,some (.f,.int p.1),some (.f,.tup (p.2.1.map D.int)),some (.f,.tup (p.2.2.map D.int)),some (.l .f,.lst (r1.map D.int)),t9,MA,MB,MC,MD] [some (.f,.lst (ns.map D.int)),some (.f,G0 nY ap),some (.f,eN nY ps),some (.l .f,.lst ((ap.map (·.2.1)).map D.str)),R4,some (.f,.int p.1),some (.f,.tup (p.2.1.map D.int)),some (.f,.tup (p.2.2.map D.int)),some (.l .f,.lst (r1.map D.int)),t9,MA,MB,MC,MD] (.val (.int (nY.length:Int))) (by simp only[pv,seval,op,bc,l1]) rfl;rw[hc]at this;exact this
 generalize (aB pA (aj (aB Hf (ao 1) (ao 0))) (aj (aB Hf (ao 2) (ao 0))))=GA at h1 ⊢;generalize (aB gS (aj (aB Hf (ao 1) (ao 0))) (aj (aV Bu (ag (aj (bE MW (aj (aB Hf (aj (aB Hf (ao 2) (aj (aH (.int 0))))) (ao 0))) (ao 3))) aA))))=GB at h2 ⊢;generalize bL (aj (aV g5 (ag (ao 6) aA)))=IA at i1 ⊢;generalize bL (aj (aV g5 (ag (ao 8) aA)))=IB at i2 ⊢;rw[av (env':=[some (.f,.lst (ns.map D.int)),some (.f,G0 nY ap),some (.f,eN nY ps),some (.l .f,.lst ((ap.map (·.2.1)).map D.str)),some (.l .f,.lst (rows.map eR)),some (.f,.int p.1),some (.f,.tup (p.2.1.map D.int)),some (.f,.tup (p.2.2.map D.int)),some (.l .f,.lst (r1.map D.int)),t9,MA,MB,MC,MD]) (by simp only[pv,seval,op,i1,h1,z1,f1])];rw[av (env':=[some (.f,.lst (ns.map D.int)),some (.f,G0 nY ap),some (.f,eN nY ps),some (.l .f,.lst ((ap.map (·.2.1)).map D.str)),some (.l .f,.lst (rows.map eR++[eR r1])),some (.f,.int p.1),some (.f,.tup (p.2.1.map D.int)),some (.f,.tup (p.2.2.map D.int)),some (.l .f,.lst (r1.map D.int)),t9,MA,MB,MC,MD]) (by
  unfold eR at zr ⊢;simp only[pv,seval,op,zr])]
 rw[Uv,show rows.map eR++[r1,r2].map eR=(rows.map eR++[eR r1])++[eR r2] by simp];generalize rows.map eR++[eR r1]=RW at Ug ⊢;unfold eR;simp only[pv,seval,op,i2,h2,z2,f2,Ug]
end
section
variable{nY:LNN}{ap:List GZ}
theorem D6(ns:List Int)(ps:List Pl)(hn0:nY≠[])(hn:nY.length<=3)(ha:ap.length<=60)(Ta:ps≠[])(hp9:ps.length<=9)(Rl:∀p∈ps,L8 p nY.length):
  ∃rows:List (List Int),(∀r∈rows,r.length=nY.length)/\d5 [.lst (ns.map D.int),G0 nY ap,eN nY ps]=.ok (.l .f,.lst (rows.map eR)):=by
 have hn1:=Vx.mpr hn0;have S3:=Vx.mpr Ta;have Th:=qg ap;have Ti:((ap.map (·.2.1)).map D.str).length<=sizeLine:=aQ (by rw[bc,bc];lia);have Tj:=PV.flat_strs (ap.map (·.2.1));obtain⟨env',ef,rows,t5,t6,t7,t8,hl,OK,rfl⟩:=for_list (a:=fS 3 (aD (ay 5) (aD (ay 6) (aD (ay 7) b7)))) (g:=eC) (e:=eP) ps (fun j env=>∃(rows:List (List Int)) (t5 t6 t7 t8:Option R),(∀r∈rows,r.length=nY.length)/\rows.length=2*j/\env=[some (.f,.lst (ns.map D.int)),some (.f,G0 nY ap),some (.f,eN nY ps),some (.l .f,.lst ((ap.map (·.2.1)).map D.str)),some (.l .f,.lst (rows.map eR)),t5,t6,t7,t8,none,none,none,none,none]) (by
  rintro j p env hj ⟨rows,t5,t6,t7,t8,hl,OK,rfl⟩;have Ud:=(jV hj).1;obtain⟨r1,r2,u8,l1,l2,e⟩:=D5 (ap:=ap) ns ps hn rows (by lia) p (Rl p (Uw hj)) t8 none none none none none;have hl2:(rows++[r1,r2]).length=2*(j+1):=by
   rw[iO,OK];show 2*j+2=2*(j+1);lia
  have NH:fS 3 (aD (ay 5) (aD (ay 6) (aD (ay 7) b7))) (eP p) [some (.f,.lst (ns.map D.int)),some (.f,G0 nY ap),some (.f,eN nY ps),some (.l .f,.lst ((ap.map (·.2.1)).map D.str)),some (.l .f,.lst (rows.map eR)),t5,t6,t7,t8,none,none,none,none,none]=.ok [some (.f,.lst (ns.map D.int)),some (.f,G0 nY ap),some (.f,eN nY ps),some (.l .f,.lst ((ap.map (·.2.1)).map D.str)),some (.l .f,.lst (rows.map eR)),some (.f,.int p.1),some (.f,.tup (p.2.1.map D.int)),some (.f,.tup (p.2.2.map D.int)),t8,none,none,none,none,none]:=by
   generalize eN nY ps=EN;unfold eP;simp only[pv,↓reduceIte,Nat.reduceAdd,Nat.reduceLT,Nat.reduceLeDiff,Nat.reduceEqDiff]
  refine⟨_,NH,_,e,rows++[r1,r2],some (.f,.int p.1),some (.f,.tup (p.2.1.map D.int)),some (.f,.tup (p.2.2.map D.int)),u8,fun r hr=>?_,hl2,rfl⟩;rcases kc hr with hr|hr
  ·exact hl r hr
  ·rcases Ux.mp hr with rfl|hr
   ·exact l1
   ·rw[ka hr];exact l2) [some (.f,.lst (ns.map D.int)),some (.f,G0 nY ap),some (.f,eN nY ps),some (.l .f,.lst ((ap.map (·.2.1)).map D.str)),some (.l .f,.lst []),none,none,none,none,none,none,none,none,none] ⟨[],none,none,none,none,(fun _ h=>nomatch h),rfl,rfl⟩
 have Tn:rows≠[]:=fun z=>by
  rw[z]at OK;have:(0:Nat)=2*ps.length:=OK;lia
 unfold d5 lT;rw[bj (h:=by rfl)];rw[av (env':=[some (.f,.lst (ns.map D.int)),some (.f,G0 nY ap),some (.f,eN nY ps),some (.l .f,.lst ((ap.map (·.2.1)).map D.str)),none,none,none,none,none,none,none,none,none,none]) (by
  unfold G0;simp only[pv,↓reduceIte,Nat.reduceAdd,Nat.reduceLT,Nat.reduceLeDiff,Nat.reduceEqDiff,op,Th,Ti,Tj])]
 rw[av (env':=[some (.f,.lst (ns.map D.int)),some (.f,G0 nY ap),some (.f,eN nY ps),some (.l .f,.lst ((ap.map (·.2.1)).map D.str)),some (.l .f,.lst []),none,none,none,none,none,none,none,none,none]) (by simp only[pv,↓reduceIte,Nat.reduceAdd,Nat.reduceLT,Nat.reduceLeDiff,Nat.reduceEqDiff,op])];rw[av (env':=[some (.f,.lst (ns.map D.int)),some (.f,G0 nY ap),some (.f,eN nY ps),some (.l .f,.lst ((ap.map (·.2.1)).map D.str)),some (.l .f,.lst (rows.map eR)),t5,t6,t7,t8,none,none,none,none,none]) (by
  unfold jP;unfold eN at ef ⊢;simp only[pv,↓reduceIte,Nat.reduceAdd,Nat.reduceLT,Nat.reduceLeDiff,Nat.reduceEqDiff,op,SW];exact ef)]
 unfold iW;have c11:ax [.lst (ns.map D.int),.int 11]=.ok (.f,.int (cell ns 11)):=iy ns 11;have c12:ax [.lst (ns.map D.int),.int 12]=.ok (.f,.int (cell ns 12)):=iy ns 12;have c13:ax [.lst (ns.map D.int),.int 13]=.ok (.f,.int (cell ns 13)):=iy ns 13;have c14:ax [.lst (ns.map D.int),.int 14]=.ok (.f,.int (cell ns 14)):=iy ns 14;have S5:qw (.int 10) (.int 8)=.ok (.f,.int 100000000):=Fn 8 (by decide);have hpw4:qw (.int 10) (.int 40)=.ok (.f,.int (10 ^ 40)):=Fn 40 (by decide);have hml:gS (.int 2) (.int 100000000)=.ok (.f,.int 200000000):=Fo 2 100000000 (by decide);have md:∀x:Int,eW (.int x) (.int 200000000)=.ok (.f,.int (x%200000000)):=fun x=>gT x _ (by decide)
 obtain⟨t0,e0⟩:∃t,t=cell ns 11%200000000-100000000:=⟨_,rfl⟩
 obtain⟨t1,e1⟩:∃t,t=cell ns 12%200000000-100000000:=⟨_,rfl⟩
 have b0:=eE (cell ns 11) 200000000 (by decide);have b1:=eE (cell ns 12) 200000000 (by decide);have s0:cE t0=true:=UW (by lia);have s1:cE t1=true:=UW (by lia);have Uh:cC (ay 0) dD (aB pA (aj (aB eW (aj (cG ax (ag (ao 1) (ag (aj (aB cK (aj (aH (.int 11))) (ao 0))) aA)))) (aj (aB gS (aj (aH (.int 2))) (aj (aB qw (aj (aH (.int 10))) (aj (aH (.int 8))))))))) (aj (aB qw (aj (aH (.int 10))) (aj (aH (.int 8)))))) [.int 0,.int 1] [none,some (.f,.lst (ns.map D.int))]=.ok [.int t0,.int t1]:=by
  rw[e0,e1];have a0:(11:Int)+0=11:=rfl;have a1:(11:Int)+1=12:=rfl;simp only[pv,↓reduceIte,Nat.reduceAdd,Nat.reduceLT,Nat.reduceLeDiff,Nat.reduceEqDiff,op,a0,a1,c11,c12,S5,hml,md,iq,gF]
 have R0:∀env:PV.Env,bL (aj (aH (.int 2))) env=.ok ([.int 0,.int 1],env):=fun env=>DG 2 (by decide) (by decide) (aj (aH (.int 2))) env env (.val (.int 2)) rfl rfl
 have Mw:2<=sizeLine:=aQ (ds:=[.int t0,.int t1]) (by show 2<=16777216;decide);have hf2:flatDs [.int t0,.int t1]=true:=rfl;generalize (aB pA (aj (aB eW (aj (cG ax (ag (ao 1) (ag (aj (aB cK (aj (aH (.int 11))) (ao 0))) aA)))) (aj (aB gS (aj (aH (.int 2))) (aj (aB qw (aj (aH (.int 10))) (aj (aH (.int 8))))))))) (aj (aB qw (aj (aH (.int 10))) (aj (aH (.int 8))))))=GT at Uh ⊢;generalize bL (aj (aH (.int 2)))=I2 at R0 ⊢;rw[av (env':=[some (.f,.lst (ns.map D.int)),some (.f,G0 nY ap),some (.f,eN nY ps),some (.l .f,.lst ((ap.map (·.2.1)).map D.str)),some (.l .f,.lst (rows.map eR)),t5,t6,t7,t8,some (.l .f,.lst [.int t0,.int t1]),none,none,none,none]) (by simp only[pv,↓reduceIte,Nat.reduceAdd,Nat.reduceLT,Nat.reduceLeDiff,Nat.reduceEqDiff,op,R0,Uh,Mw,hf2])];have Mr:=me (cell ns 13) 2 (by decide) (by decide);generalize wC (cell ns 13) 2=v at Mr;rw[av (env':=[some (.f,.lst (ns.map D.int)),some (.f,G0 nY ap),some (.f,eN nY ps),some (.l .f,.lst ((ap.map (·.2.1)).map D.str)),some (.l .f,.lst (rows.map eR)),t5,t6,t7,t8,some (.l .f,.lst [.int t0,.int t1]),some (.f,.int v),none,none,none]) (by simp only[pv,↓reduceIte,Nat.reduceAdd,Nat.reduceLT,Nat.reduceLeDiff,Nat.reduceEqDiff,op,c13,Mr,iq,gF])];have Ui:0<(rows.length:Int):=by have:=Vx.mpr Tn;lia
 obtain⟨one,ho,a1⟩:=wQ rows Tn v;obtain⟨Nf,hq,a2⟩:=wQ rows Tn (v / 64);have m1:=gT v (rows.length:Int) Ui;have m2:=gT (v / 64) (rows.length:Int) Ui;have d2:=eU v 64 (by decide) (by decide);rw[av (env':=[some (.f,.lst (ns.map D.int)),some (.f,G0 nY ap),some (.f,eN nY ps),some (.l .f,.lst ((ap.map (·.2.1)).map D.str)),some (.l .f,.lst (rows.map eR)),t5,t6,t7,t8,some (.l .f,.lst [.int t0,.int t1]),some (.f,.int v),some (.f,eR one),none,none]) (by simp only[pv,↓reduceIte,Nat.reduceAdd,Nat.reduceLT,Nat.reduceLeDiff,Nat.reduceEqDiff,op,bc,m1,a1])];rw[av (env':=[some (.f,.lst (ns.map D.int)),some (.f,G0 nY ap),some (.f,eN nY ps),some (.l .f,.lst ((ap.map (·.2.1)).map D.str)),some (.l .f,.lst (rows.map eR)),t5,t6,t7,t8,some (.l .f,.lst [.int t0,.int t1]),some (.f,.int v),some (.f,eR one),some (.f,eR Nf),none]) (by simp only[pv,↓reduceIte,Nat.reduceAdd,Nat.reduceLT,Nat.reduceLeDiff,Nat.reduceEqDiff,op,bc,d2,m2,a2])];have h3:=Bo t0 t1 s0 s1 one Nf nY.length (hl one ho) (hl Nf hq);obtain⟨r3,e3⟩:∃r,r=(List.range nY.length).map fun k=>t0*one.getD k 0+t1*Nf.getD k 0:=⟨_,rfl⟩
 rw[<-e3]at h3;have l3:r3.length=nY.length:=by rw[e3,bc,UM]
 have z3:(r3.map D.int).length<=sizeLine:=aQ (by rw[bc];lia);have f3:=GY r3;have zr:(rows.map eR).length<sizeLine:=f7 (by rw[bc];lia);have i3:bL (aj (aV g5 (ag (ao 11) aA))) [some (.f,.lst (ns.map D.int)),some (.f,G0 nY ap),some (.f,eN nY ps),some (.l .f,.lst ((ap.map (·.2.1)).map D.str)),some (.l .f,.lst (rows.map eR)),t5,t6,t7,t8,some (.l .f,.lst [.int t0,.int t1]),some (.f,.int v),some (.f,eR one),some (.f,eR Nf),none]=.ok (((List.range nY.length).map fun(k:Nat)=>D.int (k:Int)),[some (.f,.lst (ns.map D.int)),some (.f,G0 nY ap),some (.f,eN nY ps),some (.l .f,.lst ((ap.map (·.2.1)).map D.str)),some (.l .f,.lst (rows.map eR)),t5,t6,t7,t8,some (.l .f,.lst [.int t0,.int t1]),some (.f,.int v),some (.f,eR one),some (.f,eR Nf),none]):=by
  have Rz:=hl one ho;have:=DG (nY.length:Int) (by lia) (by lia) (aj (aV g5 (ag (ao 11) aA))) [some (.f,.lst (ns.map D.int)),some (.f,G0 nY ap),some (.f,eN nY ps),some (.l .f,.lst ((ap.map (·.2.1)).map D.str)),some (.l .f,.lst (rows.map eR)),t5,t6,t7,t8,some (.l .f,.lst [.int t0,.int t1]),some (.f,.int v),some (.f,eR one),some (.f,eR Nf),none] [some (.f,.lst (ns.map D.int)),some (.f,G0 nY ap),some (.f,eN nY ps),some (.l .f,.lst ((ap.map (·.2.1)).map D.str)),some (.l .f,.lst (rows.map eR)),t5,t6,t7,t8,some (.l .f,.lst [.int t0,.int t1]),some (.f,.int v),some (.f,eR one),some (.f,eR Nf),none] (.val (.int (nY.length:Int))) (by
   generalize rows.map eR=RW;unfold eR;simp only[pv,↓reduceIte,Nat.reduceAdd,Nat.reduceLT,Nat.reduceLeDiff,Nat.reduceEqDiff,op,bc,Rz]) rfl
  rw[U2]at this;exact this
 generalize (aB cK (aj (aB gS (aj (aB Hf (ao 1) (aj (aH (.int 0))))) (aj (aB Hf (ao 2) (ao 0))))) (aj (aB gS (aj (aB Hf (ao 1) (aj (aH (.int 1))))) (aj (aB Hf (ao 3) (ao 0))))))=GM at h3 ⊢;generalize bL (aj (aV g5 (ag (ao 11) aA)))=I3 at i3 ⊢;rw[av (env':=[some (.f,.lst (ns.map D.int)),some (.f,G0 nY ap),some (.f,eN nY ps),some (.l .f,.lst ((ap.map (·.2.1)).map D.str)),some (.l .f,.lst ((rows++[r3]).map eR)),t5,t6,t7,t8,some (.l .f,.lst [.int t0,.int t1]),some (.f,.int v),some (.f,eR one),some (.f,eR Nf),none]) (by
  rw[Uv];show _=Res.ok (Out.nx [_,_,_,_,some (O.l .f,D.lst (rows.map eR++[D.tup (r3.map D.int)])),_,_,_,_,_,_,_,_,_]);simp only[pv,↓reduceIte,Nat.reduceAdd,Nat.reduceLT,Nat.reduceLeDiff,Nat.reduceEqDiff,op,i3,h3,z3,f3,zr])]
 have P7:∀r∈rows++[r3],r.length=nY.length:=fun r hr=>by
  rcases kc hr with hr|hr
  ·exact hl r hr
  ·rw[ka hr];exact l3
 have PQ:(rows++[r3]).length=2*ps.length+1:=by
  rw[iO,OK];rfl
 clear i3 h3 zr;generalize rows++[r3]=JD at P7 PQ ⊢;have hr0':JD≠[]:=fun z=>by
  rw[z]at PQ;cases PQ
 obtain⟨sp,Lr,a4⟩:=wQ JD hr0' (v / 4096);have m4:=gT (v / 4096) (JD.length:Int) (by lia);have d4:=eU v 4096 (by decide) (by decide);have d8:=eU v 8 (by decide) (by decide);have lsp:=P7 sp Lr;rw[av (env':=[some (.f,.lst (ns.map D.int)),some (.f,G0 nY ap),some (.f,eN nY ps),some (.l .f,.lst ((ap.map (·.2.1)).map D.str)),some (.l .f,.lst (JD.map eR)),t5,t6,t7,t8,some (.l .f,.lst [.int t0,.int t1]),some (.f,.int v),some (.f,eR one),some (.f,eR Nf),some (.l .f,.lst (sp.map D.int))]) (by
  unfold eR at a4 ⊢;simp only[pv,↓reduceIte,Nat.reduceAdd,Nat.reduceLT,Nat.reduceLeDiff,Nat.reduceEqDiff,op,bc,d4,m4,a4])]
 have m8:=gT (v / 8) (sp.length:Int) (by lia);have b8:=eE (v / 8) (sp.length:Int) (by lia);obtain⟨k,ek⟩:=UN b8.1;rw[ek]at m8 b8;have hk:k<sp.length:=by lia
 have a8:=fZ (l:=sp) hk;have n8:ixN sp.length (k:Int)=some k:=by
  first
   |(unfold ixN;rw[Ut (by lia)];simp;try lia)
   |simp[ixN,hk]
 have m40:=gT (cell ns 14) (10 ^ 40) (by decide);have k0:(0:Int)<=(k:Int):=by lia
 rw[av (env':=[some (.f,.lst (ns.map D.int)),some (.f,G0 nY ap),some (.f,eN nY ps),some (.l .f,.lst ((ap.map (·.2.1)).map D.str)),some (.l .f,.lst (JD.map eR)),t5,t6,t7,t8,some (.l .f,.lst [.int t0,.int t1]),some (.f,.int v),some (.f,eR one),some (.f,eR Nf),some (.l .f,.lst ((sp.set k (sp.getD k 0+(1+cell ns 14%10 ^ 40))).map D.int))]) (by
  rw[Y7];simp only[pv,↓reduceIte,Nat.reduceAdd,Nat.reduceLT,Nat.reduceLeDiff,Nat.reduceEqDiff,op,Bl,bc,d8,m8,a8,n8,k0,c14,hpw4,m40,iq,gF])]
 have hz:(JD.map eR).length+[eR (sp.set k (sp.getD k 0+(1+cell ns 14%10 ^ 40)))].length<=1000:=by
  rw[bc,UG];lia
 have LP:=yf _ _ hz;refine⟨JD++[sp.set k (sp.getD k 0+(1+cell ns 14%10 ^ 40))],fun r hr=>?_,?_⟩
 ·rcases kc hr with hr|hr
  ·exact P7 r hr
  ·rw[ka hr,VQ];exact lsp
 ·rw[Uv];generalize sp.set k (sp.getD k 0+(1+cell ns 14%10 ^ 40))=SP at LP ⊢;generalize JD.map eR=RW at LP ⊢;unfold eR at LP ⊢;simp only[pv,↓reduceIte,Nat.reduceAdd,Nat.reduceLT,Nat.reduceLeDiff,Nat.reduceEqDiff,op,LP]
variable{many:Nat}{N:List Nd}{T:List GZ}
theorem Bp{i j jc:Nat}{x:FXE}{g:FS}{b1 b2:Bool}{env e:PV.Env}(h:x env=some e):sTryI i x g j b1 jc b2 env=match e[i]?,e[jc]? with
  |some none,some (some (.f,.int c))=>if j<e.length/\i≠j/\j≠jc then .ok (.nx ((e.set j (some (.f,.bl b1))).set jc (some (.f,.int (c+if b2=true then 1 else 0))))) else .bad
  |_,_=>.bad:=by
 unfold sTryI;rw[h]<;>rfl
theorem D7{F:List D->Bool}{fs:Ih}{env e:PV.Env}{os:List Opd}{ds:List D}(h:fs env=.ok (os,e))(h2:jv e os=.ok ds):vX F fs env=if F ds then some e else none:=by
 unfold vX;rw[h];dsimp only;rw[h2]
theorem wR(uZ:List Int)(hs:aX [G0 nY ap,eR uZ]=.ok (.f,.bl false)):cP [G0 nY ap,eR uZ]=true:=by
 unfold cP qD;have hc:(yC (HD (cG aX (ag (ao 0) (ag (ao 1) aA))))) [some (.f,G0 nY ap),some (.f,eR uZ),none]=.ok (true,[some (.f,G0 nY ap),some (.f,eR uZ),none]):=by simp only[pv,seval,op,hs,iq,l7,Vn]
 show(decide (2=2)&&Q3 _ _ [some (.f,G0 nY ap),some (.f,eR uZ),none])=true;unfold Q3;rw[hc];rfl
theorem Bq(uZ:List Int)(hs:aX [G0 nY ap,eR uZ]=.ok (.f,.bl false)):dW [G0 nY ap,eR uZ]=true:=by
 unfold dW qD;show(decide (2=2)&&v5 _ _ [some (.f,G0 nY ap),some (.f,eR uZ),none,none])=true;have hf:(ag (ao 0) (ag (ao 1) aA)) [some (.f,G0 nY ap),some (.f,eR uZ),none,none]=.ok ([.var 0,.var 1],[some (.f,G0 nY ap),some (.f,eR uZ),none,none]):=rfl;have hd:jv [some (.f,G0 nY ap),some (.f,eR uZ),none,none] [.var 0,.var 1]=.ok [G0 nY ap,eR uZ]:=rfl;unfold v5;rw[hf];dsimp only;rw[hd];exact wR uZ hs
theorem wU(uZ:List Int)(hs:aX [G0 nY ap,eR uZ]=.ok (.f,.bl false)):cy [G0 nY ap,eR uZ]=.ok (.f,.bl true):=by
 have hb:=wR uZ hs;have hp:=Bq uZ hs;have st:∀(k c:Int) (hk:k=0\/k=1) (t3 t5:Option R),d7 [some (.f,G0 nY ap),some (.f,eR uZ),some (.f,.int c),some (.f,.int k),none,t5]=.ok (.nx [some (.f,G0 nY ap),some (.f,eR uZ),some (.f,.int (c+1)),some (.f,.int k),none,some (.f,.bl false)]):=fun k c hk t3 t5=>by
  unfold d7;have hf:∀F:List D->Bool,vX F (ag (ao 0) (ag (ao 1) aA)) [some (.f,G0 nY ap),some (.f,eR uZ),some (.f,.int c),some (.f,.int k),none,t5]=if F [G0 nY ap,eR uZ] then some [some (.f,G0 nY ap),some (.f,eR uZ),some (.f,.int c),some (.f,.int k),none,t5] else none:=fun F=>D7 (os:=[.var 0,.var 1]) rfl rfl
  have hx:(Dh (HD (bE Ir (ao 3) (aj (aH (.int 0))))) (vX cP (ag (ao 0) (ag (ao 1) aA))) (vX dW (ag (ao 0) (ag (ao 1) aA)))) [some (.f,G0 nY ap),some (.f,eR uZ),some (.f,.int c),some (.f,.int k),none,t5]=some [some (.f,G0 nY ap),some (.f,eR uZ),some (.f,.int c),some (.f,.int k),none,t5]:=by
   have hc:(HD (bE Ir (ao 3) (aj (aH (.int 0))))) [some (.f,G0 nY ap),some (.f,eR uZ),some (.f,.int c),some (.f,.int k),none,t5]=.ok (k==0,[some (.f,G0 nY ap),some (.f,eR uZ),some (.f,.int c),some (.f,.int k),none,t5]):=by simp only[pv,seval,op]
   unfold Dh;rw[hc];rcases hk with rfl|rfl
   ·show vX cP _ _=_;rw[hf,hb,Ut rfl]
   ·show vX dW _ _=_;rw[hf,hp,Ut rfl]
  rw[Bp hx];rfl
 unfold cy iX;rw[bj (h:=by rfl),show(List.map (fun d=>some (O.f,d)) [G0 nY ap,eR uZ]++List.replicate 4 none:PV.Env)=[some (.f,G0 nY ap),some (.f,eR uZ),none,none,none,none] from rfl];rw[av (env':=[some (.f,G0 nY ap),some (.f,eR uZ),some (.f,.int 0),none,none,none]) (by simp only[pv,seval])];have R0:∀env:PV.Env,bL (aj (aH (.int 2))) env=.ok ([.int 0,.int 1],env):=fun env=>DG 2 (by decide) (by decide) (aj (aH (.int 2))) env env (.val (.int 2)) rfl rfl
 rw[av (env':=[some (.f,G0 nY ap),some (.f,eR uZ),some (.f,.int 2),some (.f,.int 1),none,some (.f,.bl false)]) (by
  unfold gP;rw[M7,R0,Ie];dsimp only;have g1:ay 3 (.int 0) [some (.f,G0 nY ap),some (.f,eR uZ),some (.f,.int 0),none,none,none]=.ok [some (.f,G0 nY ap),some (.f,eR uZ),some (.f,.int 0),some (.f,.int 0),none,none]:=rfl;have g2:ay 3 (.int 1) [some (.f,G0 nY ap),some (.f,eR uZ),some (.f,.int (0+1)),some (.f,.int 0),none,some (.f,.bl false)]=.ok [some (.f,G0 nY ap),some (.f,eR uZ),some (.f,.int (0+1)),some (.f,.int 1),none,some (.f,.bl false)]:=rfl;rw[jk,g1,Ie,st 0 0 (.inl rfl) none none,Ie];dsimp only;rw[jk,g2,Ie,st 1 (0+1) (.inr rfl) none _,Ie];rfl)]
 unfold fX;simp only[pv,seval,op]<;>rfl
theorem yi(nY:LNN)(ap:List GZ):plainD 40 (G0 nY ap)=true:=by
 unfold G0;rw[plainD];simp only[plainDs,plainD,m7,kg 35 ap,Wo]
end
theorem law_1{nY:LNN}{ap:List GZ}{many:Nat}{N:List Nd}{T:List GZ}(c:Ck nY ap many N T)(hT:∀a∈T,wayOf N a.2.2=wayOf N a.1++[a.2.1])(ns:List Int)(ps:List Pl)(uZ:List Int)(hl:uZ.length=nY.length)(t5:Option R):
  ∃u5,kY [some (.f,.lst (ns.map D.int)),some (.f,eN nY ps),some (.f,G0 nY ap),some (.f,G0 nY ap),some (.f,eR uZ),t5]=.ok (.nx [some (.f,.lst (ns.map D.int)),some (.f,eN nY ps),some (.f,G0 nY ap),some (.f,G0 nY ap),some (.f,eR uZ),u5]):=by
 have h1:aX [G0 nY ap,eR uZ]=.ok (.f,.bl (isS nY ap N uZ)):=c.stretchB hT uZ hl;have h2:bC [G0 nY ap,eR uZ]=.ok (.f,.bl (isS nY ap N uZ)):=yh c uZ hl;have h3:=wU (nY:=nY) (ap:=ap) uZ;generalize isS nY ap N uZ=bb at h1 h2;have Mt:=wo (.bl bb) rfl;refine⟨some (.f,.bl bb),?_⟩;unfold kY;generalize G0 nY ap=CC at h1 h2 h3 ⊢;rw[av (env':=[some (.f,.lst (ns.map D.int)),some (.f,eN nY ps),some (.f,CC),some (.f,CC),some (.f,eR uZ),some (.f,.bl bb)]) (by simp only[pv,seval,op,h1,iq,l7])];rw[av (env':=[some (.f,.lst (ns.map D.int)),some (.f,eN nY ps),some (.f,CC),some (.f,CC),some (.f,eR uZ),some (.f,.bl bb)]) (by simp only[pv,seval,op,isB,h2,Mt,iq,l7,Vu,gG])];cases bb with
 |true=>simp only[pv,seval,op,Vu,gG]
 |false=>
  have h3:=h3 h1;simp only[pv,seval,op,h3,iq,l7,Vu,Vn,gG]
theorem wV:∀ns:List Int,ns.length<=63->∃o,AD [.lst (ns.map D.int)]=.ok (o,.bl true):=by
 intro ns _;obtain⟨nY,ps,S,A,n,en,er⟩:=Fv ns 5;have en:dY [.lst (ns.map D.int),.int 5]=.ok (.f,eN nY ps):=en;have Tg:=n.n3;have hp9:=n.p9;obtain⟨N0,T0,c0,hT0⟩:=n.ra.sort.ckT n.nn (by lia);obtain⟨K,many,ra,eb⟩:=qf ns 2 (by decide) n er;have eb:bg [.lst (ns.map D.int),eN nY ps,.int 2]=.ok (.f,G0 nY (bZ eV K)):=eb;have c1:ax [.lst (ns.map D.int),.int 1]=.ok (.f,.int (cell ns 1)):=iy ns 1;obtain⟨Le,e0⟩:∃Le,Le=bZ eV A:=⟨_,rfl⟩
 rw[<-e0]at er;have L9:∀(x y:List D),flatDs [.lst x,.lst y]=false:=fun _ _=>rfl
 unfold AD Dk;rw[bj (h:=by rfl)];rw[av (env':=[some (.f,.lst (ns.map D.int)),some (.f,eN nY ps),none,none,none,none]) (by
  simp only[pv,seval,op,en];cases cY (eN nY ps) <;> rfl)]
 rw[av (env':=[some (.f,.lst (ns.map D.int)),some (.f,eN nY ps),some (.f,G0 nY Le),none,none,none]) (by
  have i0:Hf (eN nY ps) (.int 0)=.ok (.f,.tup (nY.map D.str)):=rfl;unfold G0;generalize eN nY ps=EN at er i0 ⊢;simp only[pv,seval,op,er,i0,L9,SV,gG,Ec,Ed])]
 obtain⟨ap,many,N,T,c,hT,s3⟩:∃ap many N T,Ck nY ap many N T/\(∀a∈T,wayOf N a.2.2=wayOf N a.1++[a.2.1])/\(II (HD (bE Ir (aj (aB eW (aj (aB dO (aj (cG ax (ag (ao 0) (ag (aj (aH (.int 1))) aA)))) (aj (aH (.int 256))))) (aj (aH (.int 2))))) (aj (aH (.int 1)))))
  (bQ 2 (cG bg (ag (ao 0) (ag (ao 1) (ag (aj (aH (.int 2))) aA)))))
  dh) [some (.f,.lst (ns.map D.int)),some (.f,eN nY ps),some (.f,G0 nY Le),none,none,none]=.ok (.nx [some (.f,.lst (ns.map D.int)),some (.f,eN nY ps),some (.f,G0 nY ap),none,none,none]):=by
  cases h:(cell ns 1 / 256%2==1) with
  |false=>
   refine⟨Le,S.length,N0,T0,by rw[e0];exact c0,hT0,?_⟩;simp only[pv,seval,op,c1,eU _ 256 (by decide) (by decide),gT _ 2 (by decide),h,gG]
  |true=>
   obtain⟨N,T,c,hT⟩:=ra.sort.ckT n.nn (by lia);refine⟨bZ eV K,many,N,T,c,hT,?_⟩;simp only[pv,seval,op,c1,eU _ 256 (by decide) (by decide),gT _ 2 (by decide),h,eb];cases cY (G0 nY (bZ eV K)) <;> rfl
 rw[av s3];rw[av (env':=[some (.f,.lst (ns.map D.int)),some (.f,eN nY ps),some (.f,G0 nY ap),some (.f,G0 nY ap),none,none]) (by
  unfold G0;simp only[pv,seval,op])]
 obtain⟨rows,hlr,R3⟩:=D6 (ap:=ap) ns ps n.n0 n.n3 c.al n.p0 n.p9 n.po;have Qp:flatDs (rows.map eR)=true:=by
  rw[bB,Vi,UE];intro r _;show cY (.tup (r.map D.int))=true;rw[cS,GY]
 obtain⟨env',ef,t4,t5,rfl⟩:=for_list (a:=ay 4) (g:=kY) (e:=eR) rows (fun i env=>∃t4 t5,env=[some (.f,.lst (ns.map D.int)),some (.f,eN nY ps),some (.f,G0 nY ap),some (.f,G0 nY ap),t4,t5]) (by
  rintro j r env hj ⟨t4,t5,rfl⟩;obtain⟨u5,e⟩:=law_1 c hT ns ps r (hlr r (Uw hj)) t5;exact⟨_,rfl,_,e,_,_,rfl⟩) [some (.f,.lst (ns.map D.int)),some (.f,eN nY ps),some (.f,G0 nY ap),some (.f,G0 nY ap),none,none] ⟨none,none,rfl⟩
 have Uj:=wm _ (yi nY ap);rw[av (env':=[some (.f,.lst (ns.map D.int)),some (.f,eN nY ps),some (.f,G0 nY ap),some (.f,G0 nY ap),t4,t5]) (by
  unfold v9;generalize G0 nY ap=CC at R3 ef ⊢;generalize eN nY ps=EN at R3 ef ⊢;generalize rows.map eR=RR at R3 Qp ef;simp only[pv,seval,op,R3,sd,Qp];exact ef)]
 unfold r9;generalize G0 nY ap=CC at Uj ⊢;exact⟨.f,by simp only[pv,seval,op,Uj]⟩
end LW
namespace FIN
open PySem PySem.Spec PyProof.Rows L2 NX PV LW
theorem D8{l:PySem.W.OpenLaw}{w:World}{K:W.Frag}{h:Heap}{mg:Str->Option Value}{fa f:Addr}{od an:Option Addr}{sl:Array (Option Value)}{oc kV dc pm cd ct:Value}(X:K.In h)(G:h.Ns mainGlobals mg)(hfa:mg "law" = some (.ref fa))
  (aL:PySem.W.nsIn K mainGlobals "law" = some (some (.ref f))) (lL:K.lookup f=some ⟨oc,od,.func (PySem.W.fnOf "law" "law" (f9 oz) (dE oz) (defScope oz) .none kV dc pm an cd ct),sl⟩) (cL:PySem.W.codeIn K cd "law" = true) (kL:PySem.W.keepIn K (.ref f)=true)
  (Kq:Def K mg "product" lU) (Ng:Def K mg "less" wa) (JE:Def K mg "states_of" jb) (Kr:Def K mg "tree_of" lV) (Ks:Def K mg "ways_of" lW) (Kt:Def K mg "counted" lX) (JF:Def K mg "counts_of" jd) (J0:Def K mg "rings_of" j5) (J2:Def K mg "has_arcs" j6) (Jh:Def K mg "is_stretch" ie) (IX:Def K mg "beads_of" iK) (Mc:Def K mg "taken" qI) (IY:Def K mg "place_of" iL) (ID:Def K mg "_law_cell_at" fM) (Ji:Def K mg "_law_mixed" ig) (Jj:Def K mg "_law_names" ij) (JG:Def K mg "_law_step" jg) (J3:Def K mg "_law_run" j7) (JH:Def K mg "_law_fold" jh) (Jk:Def K mg "_law_place" ik) (IM:Def K mg "_law_scaled" gB) (IP:Def K mg "_law_places" gC) (Jl:Def K mg "_law_moves" il) (J4:Def K mg "_law_net" j8) (IQ:Def K mg "_law_tidied" gD) (JI:Def K mg "_law_bent" ji) (HW:Def K mg "_law_bent_chart" eh) (IS:Def K mg "_law_levels" gE) (HX:Def K mg "_law_is_stretch" eB) (JJ:Def K mg "_law_rows" jj) (IE:Def K mg "_law_refused" fN)
  (HL:PySem.W.nsIn K mainGlobals "ValueError" = some none) (L6:PySem.W.nsIn K mainGlobals "all" = some none) (Kj:PySem.W.nsIn K mainGlobals "any" = some none) (KG:PySem.W.nsIn K mainGlobals "bool" = some none) (Kk:PySem.W.nsIn K mainGlobals "int" = some none) (Hq:PySem.W.nsIn K mainGlobals "isinstance" = some none) (Hr:PySem.W.nsIn K mainGlobals "len" = some none) (Jy:PySem.W.nsIn K mainGlobals "list" = some none) (Ia:PySem.W.nsIn K mainGlobals "max" = some none) (JC:PySem.W.nsIn K mainGlobals "min" = some none) (Hc:PySem.W.nsIn K mainGlobals "range" = some none) (HB:PySem.W.nsIn K mainGlobals "sorted" = some none) (L5:PySem.W.nsIn K mainGlobals "sum" = some none) (Hb:PySem.W.nsIn K mainGlobals "tuple" = some none) (Im:PySem.W.nsIn K mainGlobals "zip" = some none) {HI:Addr}(IZ:PySem.W.nsIn K mainGlobals "NetError" = some (some (.ref HI))) {Ib:Addr}(J5:PySem.W.nsIn K mainGlobals "NoCase" = some (some (.ref Ib))) {HR:Addr}(Jz:PySem.W.nsIn K mainGlobals "NoChart" = some (some (.ref HR))) {Iz:Addr}(KI:PySem.W.nsIn K mainGlobals "NoNet" = some (some (.ref Iz))) {IC:Addr}(KJ:PySem.W.nsIn K mainGlobals "NoRun" = some (some (.ref IC))) {GR:Addr}(Hu:PySem.W.nsIn K mainGlobals "NoStretch" = some (some (.ref GR))) {Ic:Addr}(J6:PySem.W.nsIn K mainGlobals "NoText" = some (some (.ref Ic))) {Hx:Addr}(Ii:PySem.W.nsIn K mainGlobals "OtherMoves" = some (some (.ref Hx))) {HJ:Addr}(I0:PySem.W.nsIn K mainGlobals "TooGreat" = some (some (.ref HJ))) (IF:PySem.W.excIn K GR [.type "ValueError",.type "Exception",.type "BaseException",.type "object"] "ValueError.__new__" = true) (He:PySem.W.kitOne K (.ref GR) (.type "ValueError")=some true) (GP:PySem.W.kitAny K (.ref GR) [.ref Ib,.ref HR,.ref Iz,.ref IC,.ref Ic,.ref Hx,.ref HJ]=some false) (Hh:PySem.W.kitOne K (.ref GR) (.ref HI)=some true) (Hv:Asks K GR):
  ∃fd:FuncData,(∀(s:Shared) (v:Value),BindsTo s fd ⟨[v],[]⟩ [("_law_script",v)])/\∀base:Heap,K.In base->base.Ns mainGlobals mg->FnOk l.prog w K mg base MI 8 fa fd ["_law_script"] (xM K):=by
 have e:=hfa.symm.trans (VG X G aL);cases e;have F:=yp (st:=oz) lL cL kL;have KL:=UZ X G HL;have Rq:=UZ X G L6;have OL:=UZ X G Kj;have y_bool:=UZ X G KG;have OM:=UZ X G Kk;have Jm:=UZ X G Hq;have Jn:=UZ X G Hr;have Nh:=UZ X G Jy;have Md:=UZ X G Ia;have Ni:=UZ X G JC;have HG:=UZ X G Hc;have J7:=UZ X G HB;have Rr:=UZ X G L5;have HM:=UZ X G Hb;have Lf:=UZ X G Im;have LQ:=VG X G IZ;have Nj:=VG X G J5;have Ms:=VG X G Jz;have Ov:=VG X G KI;have Ow:=VG X G KJ;have ON:=VG X G Hu;have Nk:=VG X G J6;have KN:=VG X G Ii;have LR:=VG X G I0;refine⟨PySem.W.fnOf "law" "law" (f9 oz) (dE oz) (defScope oz) .none kV dc pm an cd ct,fun s v=>.of_eq rfl,fun base KB GB=>?_⟩;have JK:O7 mg base "NoStretch" GR:=⟨_,_,_,_,PySem.F.excBase_ValueError,Co KB GB Hu IF⟩
 have Ku:Ct l.prog w K mg base "product" 1 (spF K cM):=tM Kq Rr Lf;have PR:Ct l.prog w K mg base "less" 1 (spF K lJ):=AG Ng HM Lf;have Lg:Ct l.prog w K mg base "states_of" 1 (spF K dS):=pU JE Md;have Kv:Ct l.prog w K mg base "tree_of" 1 (spF K c5):=tN Kr Jn;have Kw:Ct l.prog w K mg base "ways_of" 2 (spF K cN):=tP Ks Lg Kv HG;have Kx:Ct l.prog w K mg base "counted" 1 (spF K c6):=tS Kt HM;have Lh:Ct l.prog w K mg base "counts_of" 3 (spF K dj):=pW JF Kx Kw;have LS:Ct l.prog w K mg base "rings_of" 3 (spF K dU):=qE J0 Kx PR Kv Kw;have LU:Ct l.prog w K mg base "has_arcs" 1 (spF K dw):=qG J2 OL;have Ij:Ct l.prog w K mg base "is_stretch" 4 (spF K aX):=oq Jh LU Ku LS Rq OL Lf;have J8:Ct l.prog w K mg base "beads_of" 5 (spF K eY):=qH IX Lh Ij Ku Ni;have JL:=pX (P:=l.prog) (w:=w) (K:=K) (mg:=mg) (base:=base) IX Ij JK;have Ox:Ct l.prog w K mg base "taken" 1 (spF K oj):=xT Mc Md Ni;have LV:Ct l.prog w K mg base "place_of" 6 (spF K iJ):=qJ IY J8 Ox HM Lf;have Li:=pY (P:=l.prog) (w:=w) (K:=K) (mg:=mg) (base:=base) IY JL;have Hw:Ct l.prog w K mg base "_law_cell_at" 1 (spF K ax):=lZ ID Jn;have HC:Ct l.prog w K mg base "_law_mixed" 1 (spF K aU):=ou Ji;have KO:Ct l.prog w K mg base "_law_names" 2 (spF K dy):=ow Jj HC HG J7;have Lj:Ct l.prog w K mg base "_law_step" 1 (spF K dk):=pZ JG HM Lf;have Ja:Ct l.prog w K mg base "_law_run" 2 (spF K bK):=qK J3 Lj Jn J7 HM;have Lk:Ct l.prog w K mg base "_law_fold" 2 (spF K dX):=p3 JH HC;have KP:Ct l.prog w K mg base "_law_place" 2 (spF K dA):=ox Jk HC Md HG;have Kf:Ct l.prog w K mg base "_law_scaled" 1 (spF K cq):=mG IM HM;have Kg:Ct l.prog w K mg base "_law_places" 3 (spF K cQ):=mH IP Hw Lk KP Kf HG;have KQ:Ct l.prog w K mg base "_law_moves" 3 (spF K dB):=oy Jl Hw KO HM;have LX:Ct l.prog w K mg base "_law_net" 4 (spF K dY):=qL J4 KQ Kg Ja Jn HM;have Kh:Ct l.prog w K mg base "_law_tidied" 1 (spF K cu):=mI IQ Jn J7;have Ll:Ct l.prog w K mg base "_law_bent" 1 (spF K dZ):=p4 JI Jn Md Ni HG;have Jo:Ct l.prog w K mg base "_law_bent_chart" 3 (spF K bg):=jQ HW Ll Hw HC Ja Kh HG;have Ki:Ct l.prog w K mg base "_law_levels" 1 (spF K cR):=mJ IS Jn HG;have Jp:Ct l.prog w K mg base "_law_is_stretch" 2 (spF K bC):=jR HX Ki Jn HG;have Lm:Ct l.prog w K mg base "_law_rows" 2 (spF K d5):=p5 JJ Hw HC OM Jn Nh HG HM;have J9:Ct l.prog w K mg base "_law_refused" 7 (spF K cy):=l5 IE JL Li J8 LV LQ Nj Ms Ov Ow Nk KN LR He GP Hh Hv JK KL OM Jm HG;exact(Dl F Jo Hw Jp LX J9 Lm Ja Ij y_bool Jm Nh).imp (CS wV)
end FIN
def PySem.W.Fast.tw10213844050783306614:=0
def PySem.W.Fast.tw661160104197763114:=0
def PySem.W.Fast.tw6073563335029100891:=0
def PySem.W.Fast.tw9612756051327250770:=0
def PySem.W.Fast.tw12238819890484951309:=0
def PySem.W.Fast.tw17646179328055119550:=0
def PySem.W.Fast.tw692974078977211128:=0
def PySem.W.Fast.tw2807309241766073645:=0
def PySem.W.Fast.tw17177381353420042532:=0
def PySem.W.Fast.tw13680072751458198290:=0
def PySem.W.Fast.tw15302398804633506252:=0
def PySem.W.Fast.tw10815461372537552856:=0
def PySem.W.Fast.tw6340657281994405952:=0
def PySem.W.Fast.tw7113424820061756795:=0
def PySem.W.Fast.tw16761882536759330361:=0
def PySem.W.Fast.tw9658042243030396602:=0
def PySem.W.Fast.tw12426132909054791485:=0
def PySem.W.Fast.tw1574182863235019656:=0
def PySem.W.Fast.tw8604957718276298847:=0
def PySem.W.Fast.tw11503656337691267319:=0
def PySem.W.Fast.tw824657577222957898:=0
def PySem.W.Fast.tw15913737122947715606:=0
def PySem.W.Fast.tw4117871850278703834:=0
def PySem.W.Fast.tw15306704711764070285:=0
def PySem.W.Fast.tw2567213158905956502:=0
def PySem.W.Fast.tw1669255167005543453:=0
def PySem.W.Fast.tw1475168989460305454:=0
def PySem.W.Fast.tw10248958503487449405:=0
def PySem.W.Fast.tw11179316929063492348:=0
def PySem.W.Fast.tw1374331137081952769:=0
def PySem.W.Fast.tw8316382377540119442:=0
def PySem.W.Fast.tw7245719998307443011:=0
def PySem.W.Fast.tw17943251060767326718:=0
def PySem.W.Fast.tw11817057350923815445:=0
def PySem.W.Fast.tw15570194129770139890:=0
def PySem.W.Fast.tw11190831269305894263:=0
def PySem.W.Fast.tw2597099996889889764:=0
def PySem.W.Fast.tw15912135777062594769:=0
def PySem.W.Fast.tw1516179217500916281:=0
def PySem.W.Fast.tw13048225152818332774:=0
def PySem.W.Fast.tw15776840763733134449:=0
def PySem.W.Fast.tw54200985733748541:=0
def PySem.W.Fast.tw10349818759403025513:=0
def PySem.W.Fast.tw16576170009566815086:=0
def PySem.W.Fast.tw613742834005753067:=0
def PySem.W.Fast.tw6182539491598333950:=0
def PySem.W.Fast.tw8014583693083416121:=0
def PySem.W.Fast.tw9923612466632399872:=0
def PySem.W.Fast.tw13672578765216566109:=0
def PySem.W.Fast.tw4883371790212765513:=0
open PySem PySem.W PyProof.Rows
set_option maxRecDepth 100000 in
set_option maxHeartbeats 0 in
theorem PySem.Challenge.cw_netfinder_k51_rows_that_are_stretches_holds : PySem.Challenge.rw_netfinder_k51_rows_that_are_stretches.Holds := by
  w_on; o_law; k_head; (case hw => w_witness2)
  k_fill
  refine PV.Gr (l := PySem.Challenge.rw_netfinder_k51_rows_that_are_stretches) (k := 8) (x := "_law_script") rfl rfl ⟨rfl, by decide, by decide⟩ (fun w h Y => PySem.W.kIn_of Y) ?F
  case F =>
    intro w mg fa h KX G Qn
    refine' FIN.D8 KX G Qn ?aL ?lL ?cL ?kL ?Kq ?Ng ?JE ?Kr ?Ks ?Kt ?JF ?J0 ?J2 ?Jh ?IX ?Mc ?IY ?ID ?Ji ?Jj ?JG ?J3 ?JH ?Jk ?IM ?IP ?Jl ?J4 ?IQ ?JI ?HW ?IS ?HX ?JJ ?IE ?HL ?L6 ?Kj ?KG ?Kk ?Hq ?Hr ?Jy ?Ia ?JC ?Hc ?HB ?L5 ?Hb ?Im ?IZ ?J5 ?Jz ?KI ?KJ ?Hu ?J6 ?Ii ?I0 ?IF ?He ?GP ?Hh ?Hv
    (case aL => k_is); (case lL => k_is); (case cL => k_is); (case kL => k_is)
    iterate 31 (refine' PV.CW KX G ?a ?l ?c ?k; (case a => k_is); (case l => k_is); (case c => k_is); (case k => k_is))
    iterate 15 k_is
    (case IZ => k_is)
    (case J5 => k_is)
    (case Jz => k_is)
    (case KI => k_is)
    (case KJ => k_is)
    (case Hu => k_is)
    (case J6 => k_is)
    (case Ii => k_is)
    (case I0 => k_is)
    (case IF => k_exc)
    (case He => kit_is)
    (case GP => kit_is)
    (case Hh => kit_is)
    (case Hv => (refine' NX.Asks.mk ?a ?b ?c ?d ?e ?f ?g ?h; (case a => k_is); (case b => k_is); (case c => k_is); (case d => k_is); (case e => k_is); (case f => k_is); (case g => k_is); (case h => k_is)))
