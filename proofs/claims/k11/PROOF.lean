import PyProof.Rows.All
import Wide.All
import OpenK.AllK
import Wide.FinOn
import Lean
import PyProof.EqAt
import PyProof.EqKinds
import PyProof.TupleCall
import PySem.Challenge.RW_netfinder_k11_nets_read_and_shown
set_option Elab.async false
set_option linter.all false
set_option maxRecDepth 100000
set_option compiler.extract_closed false
set_option bootstrap.genMatcherCode false
noncomputable section
theorem Zz{a b:Prop}(x:a)(y:b):a∧b:=⟨x,y⟩
def RO:=@PySem.wpAny_bind
def RP:=@List.getElem?_eq_getElem
def RQ:=@List.mem_cons_self
def RS:=@PySem.Heap.get?_push_of_some
def RT:=@PySem.wpAny_pure
def RU:=@List.length_map
def RV:=@List.mem_cons
def RX:=@List.mem_append_right
def RY:=@List.size_toArray
def RZ:=@List.mem_cons_of_mem
def R0:=@PySem.Heap.lt_size
def R1:=@Nat.le_refl
def R4:=@Bool.false_ne_true
def R5:=@PySem.Heap.get?_push_size
def R6:=@List.length_cons
def R7:=@List.append_assoc
def R8:=@decide_eq_true_eq
def R9:=@List.mem_append_left
def Sa:=@if_pos
def Sb:=@decide_eq_false
def Sd:=@Nat.lt_of_lt_of_le
def Se:=@List.getElem?_eq_some_iff
def Sf:=@if_neg
def Sg:=@List.append_nil
def Sh:=@List.length_range
def Si:=@Bool.and_eq_true
def Sj:=@List.getD_eq_getElem?_getD
def Sk:=@List.map_append
def Sl:=@Nat.ne_of_lt
def Sm:=@List.getElem?_map
def Sn:=@List.not_mem_nil
def So:=@List.map_cons
def Sq:=@decide_eq_true
def Sr:=@PySem.wpAny_callSpecial?_slot
def Ss:=@List.mem_append
def Su:=@Array.getElem?_eq_getElem
def Sv:=@List.nodup_cons
def Sw:=@PySem.wpAny_field
def Sy:=@Option.map_eq_some_iff
def Sz:=@PySem.PassesOwn.never
def SA:=@List.length_take
def SD:=@List.all_eq_true
def SE:=@List.map_map
def SF:=@PySem.wpAny_call_entry
def SG:=@List.mem_of_getElem?
def SH:=@Bool.eq_iff_iff
def SI:=@List.take_succ_eq_append_getElem
def SJ:=@Bool.not_true
def SK:=@List.flatMap_cons
def SM:=@List.length_append
def SN:=@PySem.wpAny_seqItems
def SO:=@Ne.symm
def SQ:=@beq_self_eq_true
def SR:=@beq_iff_eq
def SS:=@PySem.wpAny_setField_rec
def SU:=@decide_eq_false_iff_not
def SV:=@PySem.W.mg_none_of
def SW:=@List.getElem_mem
def SX:=@Option.some.inj
def SY:=@PyProof.Rows.callWith_type1
def S1:=@PySem.F.slot_zip_next
def S2:=@List.nodup_append
def S3:=@PySem.wpAny_pyIter_tuple
def S4:=@Bool.false_eq_true
def S5:=@List.length_singleton
def S6:=@List.getElem?_append_right
def S7:=@List.eq_nil_of_length_eq_zero
def S8:=@PySem.Heap.get?_update_other
def S9:=@List.mem_singleton
def Ta:=@Nat.le_trans
def Tb:=@Array.length_toList
def Tc:=@PySem.sizeLine_eq
def Td:=@PySem.wpAny_newObj_type
def Te:=@List.take_of_length_le
def Tf:=@List.mem_range
def Th:=@PySem.Heap.size_push
def Ti:=@List.lookup_cons
def Tj:=@List.take_length
def Tn:=@beq_eq_false_iff_ne
def To:=@List.getElem_of_mem
def Tp:=@PySem.Heap.get?_update_self
def Tq:=@congrArg
def Tt:=@Bool.not_false
def Tu:=@Nat.zero_le
def Tv:=@PySem.wpAny_holding
def Tw:=@Int.eq_ofNat_of_zero_le
def Tx:=@List.length_drop
def Tz:=@or_false
def TB:=@PySem.wpAny_truthy_bool
def TC:=@Int.toNat_natCast
def TF:=@PyProof.Rows.slot_tuple_getitem
def TH:=@List.map_congr_left
def TK:=@PySem.Heap.IsTuple.push
def TL:=@decide_true
def TM:=@List.mem_map
def TN:=@List.length_filter_le
def TR:=@PySem.wpAny_Call_Name_kw
def TU:=@Option.isSome_iff_exists
def TV:=@List.getElem_range
def TY:=@List.pairwise_cons
def TZ:=@Nat.lt_succ_self
def T4:=@PySem.wpAny_typeNameOfWhole_keyiter
def T5:=@List.cons_append
def T6:=@Nat.lt_irrefl
def T7:=@PySem.F.slot_dict_keyiterator_next
def T8:=@PySem.F.plainAttrs_list
def T9:=@Option.bind_eq_some_iff
def Ua:=@Nat.ne_of_gt
def Ub:=@decide_false
def Uc:=@PySem.wpAny_pyIter_list
def Ud:=@PySem.F.args_zip_next_1
def Ue:=@List.mem_filter
def Ug:=@PySem.mem_of_lookup
def Uh:=@PyProof.Rows.KeyOrd.kle_refl
def Ui:=@List.length_zip
def Uj:=@PySem.W.kia_one
def Uk:=@PySem.F.slot_tuple_iterator_next
def Ul:=@PySem.F.entry_zip_next
def Um:=@List.getElem_map
def Uo:=@PySem.wpAny_attempt
def Up:=@List.getElem?_zip_eq_some
def Uq:=@PySem.F.plain_extend_loop
def Ur:=@PySem.wpAny_passesOwn
def Us:=@List.flatten_cons
def Ut:=@List.forIn_cons
def Uu:=@PySem.F.slot_list_append
def Uv:=@PySem.F.type_list_append
def Uw:=@List.all_map
def Ux:=@PySem.Heap.SameBut.update
def Uy:=@PySem.wpAny_onRaise
def Uz:=@Bool.and_self
def UA:=@List.filter_cons_of_neg
def UB:=@List.filter_cons_of_pos
def UC:=@List.any_eq_true
def UD:=@Bool.false_and
def UE:=@List.nodup_nil
def UG:=@List.getElem?_set_self
def UH:=@List.find?_cons_of_pos
def UI:=@List.find?_cons_of_neg
def UJ:=@List.zip_cons_cons
def UK:=@if_true
def UL:=@PySem.wpAny_typeOf
def UM:=@List.length_nil
def UN:=@List.mem_iff_getElem?
def UO:=@List.find?_cons
def UP:=@List.length_set
def UQ:=@PySem.F.slot_str_join
def UR:=@PySem.F.type_str_join
def US:=@of_decide_eq_true
def UT:=@List.forIn_nil
def UU:=@PySem.Calls.call_function_entry
def UW:=@List.drop_eq_getElem_cons
def UX:=@PySem.wpAny_isInstance
def UY:=@PySem.wpAny_pyIter_zip
def UZ:=@Nat.le_succ
def U0:=@PySem.wpAny_letGo
def U1:=@List.length_pos_iff
def U2:=@List.flatMap_append
def U3:=@List.map_nil
def U4:=@List.set_set
def U5:=@PySem.Calls.spliced_cons
def U6:=@PySem.Obj.data_mapFields
def U7:=@List.cons.inj
def U8:=@PySem.wpAny_updateSeq
def U9:=@Bool.true_and
def Va:=@Int.emod_lt_of_pos
def Vb:=@List.filter_append
def Vc:=@PyProof.Rows.KeyOrd.kle_of_klt
def Vd:=@List.ext_getElem?
def Ve:=@PySem.wpAny_dictEntries
def Vf:=@PySem.isSubtype_stop
def Vg:=@List.take_zero
def Vh:=@PySem.F.slot_dict_get
def Vi:=@PySem.F.args_dict_keyiterator_next_1
def Vj:=@Array.getElem?_toList
def Vk:=@List.getElem?_toArray
def Vl:=@PySem.W.KIN.signs_num
def Vm:=@Nat.le_of_not_lt
def Vn:=@List.zipIdx_cons
def Vo:=@Nat.le_add_right
def Vp:=@PyProof.Rows.KeyOrd.kle_trans
def Vq:=@PySem.F.entry_dict_keyiterator_next
def Vr:=@forall_eq_or_imp
def Vs:=@List.getElem_zip
def Vt:=@List.getElem?_set_ne
def Vu:=@PySem.wpAny_updateSeq_pair
def Vv:=@List.mem_of_mem_take
def Vx:=@PySem.Paired.length
def Vy:=@PySem.F.args_tuple_iterator_next_1
def Vz:=@List.all_cons
def VA:=@PySem.wpAny_rule
def VB:=@List.filterMap_cons
def VC:=@PySem.wpAny_execs_nil
def VD:=@List.toList_toArray
def VE:=@List.foldl_cons
def VF:=@PySem.F.entry_tuple_iterator_next
def VG:=@List.zipIdx_nil
def VH:=@Array.getD_eq_getD_getElem?
def VI:=@List.nil_append
def VJ:=@Nat.min_eq_left
def VL:=@Int.emod_nonneg
def VM:=@PySem.Calls.Name_function_global
def VN:=@if_false
def VO:=@PySem.tupleKind_room_in1
def VP:=@List.any_map
def VQ:=@List.getElem?_eq_none_iff
def VR:=@List.getElem?_append_left
def VS:=@PySem.wpAny_setField
def VT:=@PySem.wpAny_newTuple
def VU:=@PySem.wpAny_letOwnedTupleGo_zip
def VW:=@List.pairwise_iff_getElem
def VX:=@PySem.F.entry_extend_loop
def VY:=@PySem.wpAny_mono
def VZ:=@PySem.Calls.spliced_nil
def V0:=@PySem.F.args_tuple_add_2
def V1:=@PySem.typeIs_str
def V3:=@List.take_add_one
def V4:=@bne_self_eq_false
def V5:=@PySem.wpAny_comprehension_free
def V6:=@Nat.lt_succ_of_lt
def V7:=@not_false_eq_true
def V8:=@Array.getElem?_push_size
def V9:=@List.pairwise_map
def Wa:=@List.filterMap_cons_none
def Wb:=@List.filterMap_cons_some
def Wc:=@PySem.F.entry_tuple_add
def We:=@List.not_lt
def Wf:=@PySem.F.args_dict_get_3
def Wg:=@List.getElem?_cons_succ
def Wh:=@List.getElem_inj
def Wi:=@Option.getD_none
def Wj:=@List.flatten_nil
def Wl:=@List.ext_getElem
def Wo:=@PySem.W.cellsFrom_some
def Wq:=@PySem.F.slot_tuple_add
def Wt:=@PySem.F.entry_dict_get
def Wu:=@Array.getElem?_eq_none
def Wv:=@Array.getElem?_push_lt
def Wx:=@List.Perm.append_right
def Wy:=@PySem.F.slot_str_index
def WA:=@List.drop_eq_nil_of_le
def WB:=@Nat.le_of_lt
def WD:=@List.of_mem_zip
def WE:=@List.range_succ
def WG:=@Bool.or_eq_true
def WI:=@PySem.wpAny_dictEpoch
def WK:=@List.Perm.append_left
def WL:=@List.perm_append_comm
def WN:=@Nat.not_lt_zero
def WO:=@Bool.or_true
def WQ:=@Nat.sub_self
def WR:=@List.take_append_drop
def WT:=@Array.getElem_toList
def WV:=@List.drop_zero
def WW:=@Bool.and_false
def WZ:=@List.take_succ_cons
def W0:=@List.drop_succ_cons
def W2:=@List.filter_sublist
def W6:=@List.mem_filterMap
def W8:=@Nat.lt_of_le_of_lt
def Xa:=@PySem.wpAny_newList
def Xb:=@of_decide_eq_false
def Xc:=@List.any_cons
def Xd:=@Array.forIn_toList
def Xe:=@PySem.call_int_int
def Xf:=@PySem.W.mg_of
def Xg:=@List.sum_cons
def Xh:=@List.take_nil
def Xi:=@List.find?_eq_none
def Xj:=@List.Nodup.sublist
def Xt:=@Nat.le_of_eq
def Xv:=@List.zip_map
def XO:=@forall_eq
def XT:=@Nat.log2_lt
def Ys:=@bne_iff_ne
def YD:=@Prod.ext
def ZK:=@not_or
namespace L2
open PySem PySem.Spec PyProof.Rows
def IsTupN(h:Heap)(a:Addr)(items:Array Value):Prop:=∃o,h.get? a=some o/\o.cls=.type "tuple"/\(∃n,o.data=.seq items n)/\o.dict=none
theorem IsTupN.tup{h:Heap}{a:Addr}{items:Array Value}(p:IsTupN h a items):IsTup h a items:=by
 obtain⟨o,e,c,n,_⟩:=p;exact⟨o,e,c,n⟩
theorem IsTupN.new(h:Heap)(items:Array Value):IsTupN (h.push {cls:=.type "tuple",data:=.seq items}) h.objs.size items:=⟨_,R5 _ rfl,rfl,⟨_,rfl⟩,rfl⟩
abbrev Key:=Sum Int Str
def q0:Key->Value->Bool
 | .inl k,v=>Value.isInt k v
 | .inr x,v=>Value.isStrOf x v
def EV(w:World):Key->Int
 | .inl k=>hashInt k
 | .inr x=>hashStr w x
theorem bO:∀{k:Key}{v:Value},q0 k v=true->(∃i t,k=Sum.inl i/\v=Value.int i t)\/(∃x t,k=Sum.inr x/\v=Value.str x t)
 | .inl i,v,h=>by
  obtain⟨t,e⟩:=Value.isInt_shape (k:=i) (v:=v) h;exact .inl ⟨i,t,rfl,e⟩
 | .inr x,v,h=>by
  obtain⟨t,e⟩:=Value.isStrOf_shape (x:=x) (v:=v) h;exact .inr ⟨x,t,rfl,e⟩
theorem sx(i:Int)(t:Tok):q0 (.inl i) (.int i t)=true:=by simp[q0,Value.isInt]
theorem sy(x:Str)(t:Tok):q0 (.inr x) (.str x t)=true:=by simp[q0,Value.isStrOf]
theorem AD(a b:Int):decide ((Sum.inl a:Key)=Sum.inl b)=(a==b):=by
 by_cases e:a=b
 ·subst e;simp
 ·have h:¬ (Sum.inl a:Key)=Sum.inl b:=fun q=>e (Sum.inl.inj q)
  rw[Sb h];exact(Tn.mpr e).symm
theorem AE(a b:Str):decide ((Sum.inr a:Key)=Sum.inr b)=decide (a=b):=by
 by_cases e:a=b
 ·subst e;simp
 ·have h:¬ (Sum.inr a:Key)=Sum.inr b:=fun q=>e (Sum.inr.inj q)
  rw[Sb h,Sb e]
theorem AF(a:Int)(b:Str):decide ((Sum.inl a:Key)=Sum.inr b)=false:=Sb (fun q=>nomatch q)
theorem AG(a:Str)(b:Int):decide ((Sum.inr a:Key)=Sum.inl b)=false:=Sb (fun q=>nomatch q)
noncomputable def mixKind(prog:Program)(w:World):PySem.KeyKind prog w Key where
 is:=q0
 hash:=EV w
 inj:=fun v a b ha hb=>by
  rcases bO ha with⟨i,t,rfl,rfl⟩|⟨x,t,rfl,rfl⟩
  ·rcases bO hb with⟨j,u,rfl,e⟩|⟨y,u,rfl,e⟩
   ·injection e with e1 _;rw[e1]
   ·exact nomatch e
  ·rcases bO hb with⟨j,u,rfl,e⟩|⟨y,u,rfl,e⟩
   ·exact nomatch e
   ·injection e with e1 _;rw[e1]
 byValue:=fun k v h=>by
  rcases bO h with⟨i,t,rfl,rfl⟩|⟨x,t,rfl,rfl⟩ <;> rfl
 pyHash:=fun hv h=>by
  rcases bO hv with⟨i,t,rfl,rfl⟩|⟨x,t,rfl,rfl⟩
  ·exact wpAny_pyHash_int h
  ·exact wpAny_pyHash_str h
 eqBool:=fun hu hv h=>by
  rcases bO hu with⟨i,t,rfl,rfl⟩|⟨x,t,rfl,rfl⟩
  ·rcases bO hv with⟨j,u,rfl,rfl⟩|⟨y,u,rfl,rfl⟩
   ·rw[AD]at h;exact wpAny_eqBool_int h
   ·rw[AF]at h;exact SeqAt.EqAt.int_str i t y u _ _ _ _ h
  ·rcases bO hv with⟨j,u,rfl,rfl⟩|⟨y,u,rfl,rfl⟩
   ·rw[AG]at h;exact SeqAt.EqAt.str_int x t j u _ _ _ _ h
   ·rw[AE]at h;exact wpAny_eqBool_str h
 «strs»:=fun k x t v h=>by
  rcases bO h with⟨i,u,rfl,e⟩|⟨y,u,rfl,e⟩
  ·exact nomatch e
  ·injection e with e1 _;subst e1;cases v <;> rfl
theorem pf(prog:Program)(w:World)(i:Int)(t:Tok):(mixKind prog w).is (.inl i) (.int i t)=true:=sx i t
theorem ph(prog:Program)(w:World)(x:Str)(t:Tok):(mixKind prog w).is (.inr x) (.str x t)=true:=sy x t
inductive V where
 |non|bl (b:Bool)|int (i:Int)|str (x:Str)|byt (b:Array UInt8)|flt (b:UInt64)|ref (a:Addr)|ty (n:String)
 deriving DecidableEq
noncomputable def RelV:V->Value->Prop
 | .non,u=>u=Value.none
 | .bl b,u=>u=Value.bool b
 | .int i,u=>∃t,u=Value.int i t
 | .str x,u=>∃t,u=Value.str x t
 | .byt b,u=>∃t,u=Value.bytes b t
 | .flt b,u=>∃t,u=Value.float b t
 | .ref a,u=>u=Value.ref a
 | .ty n,u=>u=Value.type n
abbrev Vals:List V->List Value->Prop:=Paired RelV
theorem Vals.length{xs:List V}{us:List Value}(r:Vals xs us):xs.length=us.length:=Vx r
theorem Vals.get:∀{xs:List V}{us:List Value}{i:Nat}{x:V},Vals xs us->xs[i]?=some x->∃u,us[i]?=some u/\RelV x u
 |_,_,_,_,.nil,e=>by simp at e
 |_,_,0,_,.cons r _,e=>by simp at e;subst e;exact⟨_,rfl,r⟩
 |_,_,i+1,x,.cons _ t,e=>by
  obtain⟨u,h1,h2⟩:=Vals.get (i:=i) (x:=x) t (by simpa using e);exact⟨u,by simpa using h1,h2⟩
theorem Vals.append:∀{xs ys:List V}{us ws:List Value},Vals xs us->Vals ys ws->Vals (xs++ys) (us++ws)
 |_,_,_,_,.nil,s=>s
 |_,_,_,_,.cons r t,s=>.cons r (Vals.append t s)
theorem Vals.take:∀{xs:List V}{us:List Value}(n:Nat),Vals xs us->Vals (xs.take n) (us.take n)
 |_,_,0,_=>.nil
 |_,_,_+1,.nil=>.nil
 |_,_,n+1,.cons r t=>.cons r (Vals.take n t)
theorem Vals.drop:∀{xs:List V}{us:List Value}(n:Nat),Vals xs us->Vals (xs.drop n) (us.drop n)
 |_,_,0,r=>r
 |_,_,_+1,.nil=>.nil
 |_,_,n+1,.cons _ t=>Vals.drop n t
theorem Vals.none_of:∀{xs:List V}{us:List Value}{i:Nat},Vals xs us->xs[i]?=none->us[i]?=none:=fun{xs us i} r e=>by
 have h1:=r.length;have h2:xs.length<=i:=VQ.mp e;exact VQ.mpr (by lia)
def RelO:Option V->Option Value->Prop
 |some v,some u=>RelV v u
 |none,none=>True
 |_,_=>False
def KV{κ:Type}:List (κ×V)->List (κ×Value)->Prop:=Paired fun(p:κ×V) (q:κ×Value)=>p.1=q.1/\RelV p.2 q.2
def kV:Key->V
 | .inl i=>.int i
 | .inr x=>.str x
inductive HO where
 |lst (xs:List V)
 |tup (xs:List V)
 |dK (F5:List (Key×V))|dT (F5:List (List Key×V))
 |set (S:Int->Bool) (n:Nat)
 |ins (C dx:Addr) (fs:List (Str×V))
 |own (x:Addr)
 |xd (fs:List (Str×V))
 |met (f x:Addr)
 |rng (lo hi:Int)
 |frz (o:Obj) (u:HO)
 |tbl (ps:Array Value)
 |ext (φ:Heap->Prop)
abbrev Hp:=Addr->Option HO
def upd(H:Hp)(a:Addr)(o:HO):Hp:=fun b=>if b=a then some o else H b
theorem aW{H:Hp}{a:Addr}{o:HO}:upd H a o a=some o:=by unfold upd;rw[Sa rfl]
theorem az{H:Hp}{a b:Addr}{o:HO}(h:b≠a):upd H a o b=H b:=by unfold upd;rw[Sf h]
theorem Dr{H:Hp}{a b:Addr}{o u:HO}(h:H a=some o)(h':H b=some u)(d:o≠u):a≠b:=by
 intro e;subst e;rw[h]at h';exact d (SX h')
theorem aH{H:Hp}{a b:Addr}{o:HO}(h:H a=some o)(h':H b=none):a≠b:=by
 intro e;subst e;rw[h]at h';cases h'
section
variable(P:Program)(w:World)
noncomputable def ObjOk(H:Hp)(h:Heap)(a:Addr):HO->Prop
 | .lst xs=>xs.length<=sizeLine/\∃(F6:List Value) (n:Nat),Vals xs F6/\h.get? a=some {cls:=.type "list",data:=.seq F6.toArray n}
 | .tup xs=>xs.length<=sizeLine/\∃F6:List Value,Vals xs F6/\IsTupN h a F6.toArray
 | .dK F5=>F5.length<=sizeLine/\(a==sysModules)=false/\∃vs,KV F5 vs/\h.DictOf (mixKind P w) a vs
 | .dT F5=>F5.length<=sizeLine/\(a==sysModules)=false/\∃xs:List (List Key×Addr×Value),
   Paired (fun(p:List Key×V) (q:List Key×Addr×Value)=>p.1=q.1/\H q.2.1=some (.tup (p.1.map kV))/\RelV p.2 q.2.2) F5 xs/\
   ∃o es ep,h.get? a=some o/\o.ExactDict/\o.data=.dict es ep/\es.toList=xs.map (entryOfKey (tupleKind (mixKind P w)))/\(xs.map (·.1)).Nodup
 | .set S n=>h.SetOf (intKind P w) a S n
 | .ins C dx fs=>H dx=some (.own a)/\fs.length<=1000/\dx≠a/\h.get? a=some (PySem.W.instObj C dx)/\
   ∃mA,h.Ns1 dx mA/\(∀f,RelO (fs.lookup f) (mA f))/\PySem.Within mA (fs.map (·.1))
 | .own _=>∃o,h.get? a=some o
 | .xd fs=>∃mA,h.Ns1 a mA/\∀f,RelO (fs.lookup f) (mA f)
 | .rng lo hi=>∃t u v,h.get? a=some {cls:=.type "range",data:=.fields #[.int lo t,.int hi u,.int 1 v]}
 | .frz o u=>h.get? a=some o/\ObjOk H h a u
 | .tbl ps=>h.get? a=some {cls:=.none,data:=.fields ps}
 | .met f x=>h.get? a=some (PySem.W.methodObj (.ref f) (.ref x))
 | .ext φ=>φ h/\(∃o,h.get? a=some o)/\∀h1 h2:Heap,φ h1->(∀o,h1.get? a=some o->h2.get? a=some o)->φ h2
def HOk(H:Hp)(h:Heap):Prop:=∀a o,H a=some o->ObjOk P w H h a o
end
section
variable{P:Program}{w:World}{H H':Hp}{h h':Heap}{a:Addr}{o:HO}
theorem ObjOk.lt(x:ObjOk P w H h a o):a<h.objs.size:=by
 cases o with
 |lst xs=>obtain⟨_,_,_,_,e⟩:=x;exact R0 e
 |tup xs=>obtain⟨_,_,_,p⟩:=x;exact p.tup.lt
 |dK F5=>obtain⟨_,_,_,_,o,_,_,e,_⟩:=x;exact R0 e
 |dT F5=>obtain⟨_,_,_,_,o,_,_,e,_⟩:=x;exact R0 e
 |set S n=>obtain⟨o,_,_,_,e,_⟩:=x;exact R0 e
 |ins C dx fs=>obtain⟨_,_,_,e,_⟩:=x;exact R0 e
 |own y=>obtain⟨_,e⟩:=x;exact R0 e
 |xd fs=>obtain⟨_,⟨_,_,_,e,_⟩,_⟩:=x;exact R0 e
 |rng lo hi=>obtain⟨_,_,_,e⟩:=x;exact R0 e
 |frz ob u=>obtain⟨e,_⟩:=x;exact R0 e
 |tbl ps=>exact R0 (show h.get? a=some _ from x)
 |met f y=>exact R0 (show h.get? a=some _ from x)
 |ext φ=>obtain⟨_,⟨_,e⟩,_⟩:=x;exact R0 e
theorem Paired.mapP{α β:Type}{F G:α->β->Prop}:∀{l₁:List α}{l₂:List β},Paired F l₁ l₂->(∀a b,F a b->G a b)->Paired G l₁ l₂
 |_,_,.nil,_=>.nil
 |_,_,.cons r t,f=>.cons (f _ _ r) (Paired.mapP t f)
theorem ObjOk.stay(x:ObjOk P w H h a o)(k:∀b u,(b=a\/H b=some (.own a))->h.get? b=some u->h'.get? b=some u)
  (ho:∀b,H b=some (.own a)->H' b=some (.own a)) (ht:∀b xs,H b=some (.tup xs)->H' b=some (.tup xs)):ObjOk P w H' h' a o:=by
 induction o with
 |lst xs=>obtain⟨z,F6,n,r,e⟩:=x;exact⟨z,F6,n,r,k _ _ (.inl rfl) e⟩
 |tup xs=>obtain⟨z,F6,r,ob,e,c⟩:=x;exact⟨z,F6,r,ob,k _ _ (.inl rfl) e,c⟩
 |dK F5=>obtain⟨z,y,vs,r,ob,es,ep,e,c⟩:=x;exact⟨z,y,vs,r,ob,es,ep,k _ _ (.inl rfl) e,c⟩
 |dT F5=>
  obtain⟨z,y,xs,r,ob,es,ep,e,c⟩:=x;exact⟨z,y,xs,Paired.mapP r fun p q z=>⟨z.1,ht _ _ z.2.1,z.2.2⟩,ob,es,ep,k _ _ (.inl rfl) e,c⟩
 |set S n=>obtain⟨ob,es,ep,t,e,c⟩:=x;exact⟨ob,es,ep,t,k _ _ (.inl rfl) e,c⟩
 |ins C dx fs=>
  obtain⟨d,z,ne,e,mA,⟨od,es,ep,e2,c⟩,r⟩:=x;exact⟨ho _ d,z,ne,k _ _ (.inl rfl) e,mA,⟨od,es,ep,k _ _ (.inr d) e2,c⟩,r⟩
 |own y=>obtain⟨ob,e⟩:=x;exact⟨ob,k _ _ (.inl rfl) e⟩
 |xd fs=>obtain⟨mA,⟨od,es,ep,e,c⟩,r⟩:=x;exact⟨mA,⟨od,es,ep,k _ _ (.inl rfl) e,c⟩,r⟩
 |rng lo hi=>obtain⟨t,u,v,e⟩:=x;exact⟨t,u,v,k _ _ (.inl rfl) e⟩
 |frz ob u ih=>obtain⟨e,q⟩:=x;exact⟨k _ _ (.inl rfl) e,ih q⟩
 |tbl ps=>
  have e:h.get? a=some {cls:=.none,data:=.fields ps}:=x;show h'.get? a=some {cls:=.none,data:=.fields ps};exact k a _ (.inl rfl) e
 |met f y=>
  have e:h.get? a=some (PySem.W.methodObj (.ref f) (.ref y)):=x;show h'.get? a=some (PySem.W.methodObj (.ref f) (.ref y));exact k a _ (.inl rfl) e
 |ext φ=>obtain⟨p,⟨o,e⟩,st⟩:=x;exact⟨st _ _ p fun o q=>k _ _ (.inl rfl) q,⟨o,k _ _ (.inl rfl) e⟩,st⟩
theorem HOk.lt(x:HOk P w H h)(e:H a=some o):a<h.objs.size:=(x a o e).lt
theorem HOk.fresh(x:HOk P w H h)(e:h.objs.size<=a):H a=none:=by
 cases q:H a with
 |none=>rfl
 |some u=>exact absurd (Sd (x.lt q) e) (T6 _)
theorem HOk.kept(x:HOk P w H h)(k:∀b u,h.get? b=some u->h'.get? b=some u):HOk P w H h':=fun a o e=>
 (x a o e).stay (fun b u _ q=>k b u q) (fun _ q=>q) fun _ _ q=>q
theorem HOk.laid(x:HOk P w H h)(k:∀b u,h.get? b=some u->h'.get? b=some u)(hp:h.objs.size<=a)(new:ObjOk P w (upd H a o) h' a o):HOk P w (upd H a o) h':=fun b u e=>by
 have hn:=x.fresh hp;by_cases hb:b=a
 ·subst hb;rw[aW]at e;cases e;exact new
 ·rw[az hb]at e;exact(x b u e).stay (fun c v _ q=>k c v q) (fun c q=>by rw[az (aH q hn)];exact q) fun c xs q=>by rw[az (aH q hn)];exact q
end
def Rd(H:Hp)(a:Addr)(u:HO):Prop:=H a=some u\/∃o,H a=some (.frz o u)
theorem Rd.ok{P:Program}{w:World}{H:Hp}{h:Heap}{a:Addr}{u:HO}(r:Rd H a u)(x:HOk P w H h):ObjOk P w H h a u:=by
 rcases r with r|⟨o,r⟩
 ·exact x a u r
 ·obtain⟨_,q⟩:=x a _ r;exact q
def NR:Option HO->Prop
 |some (.lst _)=>True
 |some (.dK _)=>True
 |some (.dT _)=>True
 |some (.set _ _)=>True
 |some (.ins _ _ _)=>True
 |some (.ext _)=>True
 |_=>False
section
variable{P:Program}{w:World}{H:Hp}{h h':Heap}{x e:Addr}{o':HO}
theorem HOk.write(ok:HOk P w H h)(mu:NR (H x))(he:e=x\/H e=some (.own x))(k:∀b u,b≠e->h.get? b=some u->h'.get? b=some u)(Nx:∃u,h'.get? e=some u)
  (new:ObjOk P w (upd H x o') h' x o'):HOk P w (upd H x o') h':=fun b u q=>by
 have Ku:∀c y,H c=some (.own y)->c≠x:=fun c y r z=>by subst z;rw[r]at mu;exact mu
 have ntup:∀c xs,H c=some (.tup xs)->c≠x:=fun c xs r z=>by subst z;rw[r]at mu;exact mu
 by_cases hb:b=x
 ·subst hb;rw[aW]at q;cases q;exact new
 ·rw[az hb]at q;by_cases hbe:b=e
  ·have q':H b=some (.own x):=by
    rcases he with z|z
    ·exact absurd (hbe.trans z) hb
    ·rw[hbe];exact z
   rw[q]at q';cases q';obtain⟨v,hv⟩:=Nx;exact⟨v,by rw[hbe];exact hv⟩
  ·refine(ok b u q).stay (fun c v hc r=>k c v ?_ r) (fun c r=>by rw[az (Ku c b r)];exact r) fun c xs r=>by rw[az (ntup c xs r)];exact r
   rcases hc with rfl|hc
   ·exact hbe
   ·rintro rfl;rcases he with z|z
    ·exact Ku c b hc z
    ·rw[hc]at z;cases z;exact hb rfl
end
structure Un(fs ex:List Addr)(H H':Hp)(h h':Heap):Prop where
 keep:∀b o,h.get? b=some o->H b=none->b∉fs->b∉ex->h'.get? b=some o
 slot:∀b o,h.get? b=some o->H b=none->b∈fs->b∉ex->∃sl,h'.get? b=some {o with slots:=sl}
 free:∀b o,h.get? b=some o->H b=none->b∉ex->H' b=none
 there:∀b o,h.get? b=some o->b∉ex->∃o',h'.get? b=some o'
 tups:∀b xs,H b=some (.tup xs)->H' b=some (.tup xs)
 frzs:∀b o u,H b=some (.frz o u)->H' b=some (.frz o u)
 tbls:∀b ps,H b=some (.tbl ps)->∃more,H' b=some (.tbl (ps++more))
section
variable{fs fs' ex ex':List Addr}{H H1 H2:Hp}{h h1 h2 h':Heap}{a x e:Addr}{o:HO}
theorem Un.any(u:Un fs ex H H1 h h1){b:Addr}{ob:Obj}(q:h.get? b=some ob)(n:H b=none)(hx:b∉ex):∃sl,h1.get? b=some {ob with slots:=sl}:=by
 by_cases hb:b∈fs
 ·exact u.slot b ob q n hb hx
 ·exact⟨ob.slots,u.keep b ob q n hb hx⟩
theorem Un.kept(k:∀b u,h.get? b=some u->h'.get? b=some u):Un fs ex H H h h':=
 ⟨fun b ob q _ _ _=>k b ob q,fun b ob q _ _ _=>⟨ob.slots,k b ob q⟩,fun _ _ _ n _=>n,fun b ob q _=>⟨ob,k b ob q⟩,fun _ _ q=>q,fun _ _ _ q=>q,fun _ ps q=>⟨#[],by rw[q];simp⟩⟩
theorem Un.refl:Un fs ex H H h h:=Un.kept fun _ _ q=>q
theorem Un.laid(k:∀b u,h.get? b=some u->h'.get? b=some u)(hp:h.objs.size<=a)(hn:H a=none):Un fs ex H (upd H a o) h h' where
 keep:=fun b u q _ _ _=>k b u q
 slot:=fun b u q _ _ _=>⟨u.slots,k b u q⟩
 free:=fun b u q n _=>by rw[az (Sl (Sd (R0 q) hp))];exact n
 there:=fun b u q _=>⟨u,k b u q⟩
 tups:=fun b xs q=>by rw[az (aH q hn)];exact q
 frzs:=fun b u xs q=>by rw[az (aH q hn)];exact q
 tbls:=fun b ps q=>⟨#[],by rw[az (aH q hn),q];simp⟩
theorem Un.write(mu:NR (H x))(he:e=x\/H e=some (.own x))(k:∀b u,b≠e->h.get? b=some u->h'.get? b=some u)(Nx:∃u,h'.get? e=some u):Un fs ex H (upd H x o) h h':=by
 have hx:∀b,H b=none->b≠x:=fun b n z=>by subst z;rw[n]at mu;exact mu
 have hb:∀b,H b=none->b≠e:=fun b n z=>by
  subst z;rcases he with r|r
  ·exact hx b n r
  ·rw[n]at r;cases r
 have hm:∀b u,H b=some u->¬ NR (some u)->b≠x:=fun b u q nm z=>by subst z;rw[q]at mu;exact nm mu
 refine⟨fun b u q n _ _=>k b u (hb b n) q,fun b u q n _ _=>⟨u.slots,k b u (hb b n) q⟩,fun b u q n _=>by rw[az (hx b n)];exact n,fun b u q _=>?_,
  fun b xs q=>by rw[az (hm b _ q fun z=>z)];exact q,fun b u xs q=>by rw[az (hm b _ q fun z=>z)];exact q,fun b ps q=>⟨#[],by rw[az (hm b _ q fun z=>z),q];simp⟩⟩
 by_cases hbe:b=e
 ·subst hbe;exact Nx
 ·exact⟨u,k b u hbe q⟩
end
def trk(h:Heap)(H:Hp):List Addr:=(List.range h.objs.size).filter fun a=>(H a).isSome
def vV(h:Heap)(H:Hp):Heap:=PySem.W.hideAll h (trk h H)
theorem sH(h:Heap)(H:Hp):(vV h H).objs.size=h.objs.size:=PySem.W.hideAll_size _ _
theorem vW{h:Heap}{H:Hp}{b:Addr}{o:Obj}(e:h.get? b=some o)(n:H b=none):(vV h H).get? b=some o:=
 PySem.W.hideAll_get _ e fun hm=>by
  have q:(H b).isSome=true:=(Ue.mp hm).2;rw[n]at q;simp at q
theorem yt{h:Heap}{H:Hp}{b:Addr}{o:Obj}(e:(vV h H).get? b=some o):h.get? b=some o/\H b=none:=by
 have e':h.get? b=some o:=PySem.W.of_hideAll (trk h H) e;refine⟨e',?_⟩;cases q:H b with
 |none=>rfl
 |some x=>
  have hm:b∈trk h H:=Ue.mpr ⟨Tf.mpr (R0 e'),by simp[q]⟩;have z:(vV h H).get? b=none:=PySem.W.hideAll_none (trk h H) hm;rw[z]at e;cases e
def yu(g h:Heap)(L:Addr):List (Addr×Obj):=(List.range h.objs.size).filterMap fun a=>if a=L\/(g.get? a).isSome=true then none else(h.get? a).map fun o=>(a,o)
def dY(g h:Heap)(L d:Addr):List (Addr×Obj):=(yu g h L).filter fun p=>decide (p.1≠d)
structure Mod(K:W.Frag)(mg:Str->Option Value)(base:Heap):Prop where
 kin:K.In base
 glob:base.Ns mainGlobals mg
 blt:∃mb,base.Ns builtinsNs mb/\∀x:Str,x≠"__name__"->mb x=bootBuiltins x
 nolimit:base.NoLimit
structure Cx where
 prog:Program
 w:World
 K:W.Frag
 mg:Str->Option Value
 base:Heap
 A:Around
 N:List Str
 s₀:Shared
 H₀:Hp
 env:Env
 outer:List Env
 stack:List Env
 ex:List Addr
 fn:Str->Bool
 calm:Bool
 pn:List (Addr×Obj)
 xe:Value->Shared->Prop
def Kf(l:List Env):List Addr:=l.filterMap (·.frame)
abbrev Cx.fs(X:Cx):List Addr:=Kf X.outer
def PN(sc:Scope)(x:Str):Prop:=sc.names.lookup x=some .local\/sc.names.lookup x=some .cell\/sc.names.lookup x=some .free
def Loc(sc:Scope)(x:Str):Prop:=sc.names.lookup x=some .local\/sc.names.lookup x=some .cell
def EB(sc:Scope)(x:Str):Bool:=match sc.names.lookup x with
 |some .local=>true
 |some .cell=>true
 |_=>false
theorem lo{sc:Scope}{x:Str}(h:EB sc x=true):Loc sc x:=by
 unfold EB at h;split at h
 ·exact .inl (by assumption)
 ·exact .inr (by assumption)
 ·cases h

def EY(env:Env)(h:Heap)(m:Str->Option Value)(x:Str)(u:Value):Prop:=
 (env.kindOf x=some .local/\m x=some u)\/((env.kindOf x=some .cell\/env.kindOf x=some .free)/\∃c,env.cells.lookup x=some c/\h.IsCell c (some u))
structure Cx.Ok(X:Cx):Prop where
 mod:Mod X.K X.mg X.base
 kind:X.env.scope.kind=.function
 glob:X.env.globals=mainGlobals
 blt:X.env.builtins=builtinsNs
 above:X.s₀.heap.objs.size<=X.env.locals
 inj:∀x y c,X.env.cells.lookup x=some c->X.env.cells.lookup y=some c->x=y
 has:∀x,(X.env.kindOf x=some .cell\/X.env.kindOf x=some .free)->∃c,X.env.cells.lookup x=some c
 cab:∀x c,X.fn x=true->X.env.cells.lookup x=some c->X.s₀.heap.objs.size<=c
 hd:X.calm=true->X.A.handled=none
 frames:X.A.frames=some X.stack
 stk:X.stack=X.outer\/(X.stack=X.env::X.outer/\X.env.frame=some X.env.locals)
 exf:∀b∈X.ex,b≠X.env.locals/\∀x c,X.env.cells.lookup x=some c->c≠b
 bs:∀b o,X.base.get? b=some o->X.s₀.heap.get? b=some o/\X.H₀ b=none
 bsz:X.base.objs.size<=X.s₀.heap.objs.size
 noex:∀b o,X.base.get? b=some o->b∉X.ex
 exfs:∀b∈X.ex,b∉X.fs
 funs:X.s₀.heap.FunFrames X.base X.outer
 frf:∀b∈X.fs,X.H₀ b=none
structure Inv(X:Cx)(pr:List (Addr×Obj))(σ:List (Option V))(H:Hp)(s:Shared):Prop where
 ok:X.Ok
 os:s.os=X.s₀.os
 bare:AllBare s.gens
 base:Un X.fs X.ex X.H₀ H X.s₀.heap s.heap
 loc:∃m,s.heap.Ns X.env.locals m/\∀(i:Nat) (x:Str) (v:V),X.N[i]?=some x->σ[i]?=some (some v)->PN X.env.scope x->∃u,RelV v u/\EY X.env s.heap m x u
 cell:∀x c,X.env.cells.lookup x=some c->∃v,s.heap.IsCell c v
 free:H X.env.locals=none
 freeC:∀x c,X.env.cells.lookup x=some c->H c=none
 pin:∀p∈X.pn++pr,s.heap.get? p.1=some p.2/\H p.1=none/\p.1≠X.env.locals/\p.1∉X.fs/\∀v,p.2.data≠.cell v
 hok:HOk X.prog X.w H s.heap
 len:σ.length=X.N.length
section
variable{X:Cx}{pr:List (Addr×Obj)}{σ:List (Option V)}{H H':Hp}{s:Shared}{h':Heap}
theorem Cx.Ok.nofr(ok:X.Ok){b:Addr}{o:Obj}(e:X.base.get? b=some o):b∉X.fs:=fun hb=>by
 have:=(ok.funs.mem hb).1;rw[e]at this;cases this
theorem Inv.bs(I:Inv X pr σ H s):∀b o,X.base.get? b=some o->s.heap.get? b=some o/\H b=none:=fun b o e=>
 ⟨I.base.keep b o (I.ok.bs b o e).1 (I.ok.bs b o e).2 (I.ok.nofr e) (I.ok.noex b o e),I.base.free b o (I.ok.bs b o e).1 (I.ok.bs b o e).2 (I.ok.noex b o e)⟩
theorem Inv.bk(I:Inv X pr σ H s):∀b o,X.base.get? b=some o->s.heap.get? b=some o:=fun b o e=>(I.bs b o e).1
theorem Inv.mod(I:Inv X pr σ H s):Mod X.K X.mg X.base:=I.ok.mod
theorem Inv.kIn(I:Inv X pr σ H s):X.K.In s.heap:=I.ok.mod.kin.keeps I.bk
theorem Inv.lt(I:Inv X pr σ H s):X.env.locals<s.heap.objs.size:=let⟨_,hn,_⟩:=I.loc;hn.lt
theorem Inv.sz(I:Inv X pr σ H s):X.s₀.heap.objs.size<=s.heap.objs.size:=Ta I.ok.above (WB I.lt)
theorem Inv.nofs(I:Inv X pr σ H s){a:Addr}(h:s.heap.objs.size<=a):a∉X.fs:=fun hb=>by
 obtain⟨_,o,ho,_⟩:=I.ok.funs.mem hb;exact absurd (Sd (R0 ho) (Ta I.sz h)) (T6 _)
theorem Inv.cne(I:Inv X pr σ H s):∀x c,X.env.cells.lookup x=some c->c≠X.env.locals:=fun x c e z=>by
 obtain⟨v,o,ho,hd⟩:=I.cell x c e;obtain⟨m,⟨o',es,ep,JE,LA,_⟩,_⟩:=I.loc;rw[z,JE]at ho;cases ho;rw[LA]at hd;cases hd
theorem Inv.funs(I:Inv X pr σ H s):s.heap.FunFrames X.base X.outer:=by
 have all:∀(l:List Env),(∀b∈Kf l,b∈X.fs)->X.s₀.heap.FunFrames X.base l->s.heap.FunFrames X.base l:=by
  intro l;induction l with
  |nil=>intro _ _;trivial
  |cons env r ih=>
   intro hs hl;obtain⟨hk,⟨L,o,hf,hn,ho,hd⟩,hr⟩:=hl;have hL:L∈X.fs:=hs L (by unfold Kf;rw[VB,hf];exact RQ);obtain⟨sl,e⟩:=I.base.slot L o ho (I.ok.frf L hL) hL fun z=>I.ok.exfs L z hL
   exact⟨hk,⟨L,_,hf,hn,e,hd⟩,ih (fun b hb=>hs b (by unfold Kf;rw[VB,hf];exact RZ _ hb)) hr⟩
 exact all X.outer (fun _ hb=>hb) I.ok.funs
theorem Inv.stack(I:Inv X pr σ H s):s.heap.FunFrames X.base X.stack:=by
 rcases I.ok.stk with e|⟨e,hf⟩
 ·rw[e];exact I.funs
 ·rw[e];obtain⟨m,hn,_⟩:=I.loc;refine .cons (by rw[I.ok.kind];decide) hf hn ?_ I.funs;exact Heap.get?_none_of_le (Ta I.ok.bsz I.ok.above)
theorem Inv.stkSub(I:Inv X pr σ H s):∀b∈Kf X.stack,b∈X.env.locals::X.fs:=fun b hb=>by
 rcases I.ok.stk with e|⟨e,hf⟩
 ·rw[e]at hb;exact RZ _ hb
 ·rw[e]at hb;unfold Kf at hb;rw[VB,hf]at hb;exact hb
theorem Inv.stkFree(I:Inv X pr σ H s):∀b∈Kf X.stack,H b=none:=fun b hb=>by
 rcases RV.mp (I.stkSub b hb) with e|hb
 ·rw[e];exact I.free
 ·obtain⟨_,o,ho,_⟩:=I.ok.funs.mem hb;exact I.base.free b o ho (I.ok.frf b hb) fun z=>I.ok.exfs b z hb
theorem Inv.step{g':Array GenState}{t':Nat}{d':Drawn}{ch:List Addr}(I:Inv X pr σ H s)
  (Lo:∀b∈ch,(b∈X.ex\/X.s₀.heap.objs.size<=b)/\b≠X.env.locals/\(∀x c,X.env.cells.lookup x=some c->c≠b)/\∀p∈X.pn++pr,p.1≠b)
  (keep:∀b o,b≠X.env.locals->b∉X.fs->b∉ch->s.heap.get? b=some o->H b=none->h'.get? b=some o)
  (slot:∀b o,b≠X.env.locals->b∈X.fs->b∉ch->s.heap.get? b=some o->H b=none->∃sl,h'.get? b=some {o with slots:=sl}) (free:∀b o,b∉ch->s.heap.get? b=some o->H b=none->H' b=none)
  (there:∀b o,b∉ch->s.heap.get? b=some o->∃o',h'.get? b=some o')
  (tups:∀b xs,H b=some (.tup xs)->H' b=some (.tup xs)) (frzs:∀b o u,H b=some (.frz o u)->H' b=some (.frz o u)) (tbls:∀b ps,H b=some (.tbl ps)->∃more,H' b=some (.tbl (ps++more)))
  (ns:∀m,s.heap.Ns X.env.locals m->h'.Ns X.env.locals m) (hok:HOk X.prog X.w H' h') (hg:AllBare g'):
  Inv X pr σ H' {s with heap:=h',gens:=g',drawn:=d',toks:=t'}:=by
 have Q7:∀b o,X.s₀.heap.get? b=some o->b≠X.env.locals:=fun b o e=>Sl (Sd (R0 e) I.ok.above)
 have O9:∀b o,X.s₀.heap.get? b=some o->b∉X.ex->b∉ch:=fun b o e hx hb=>by
  rcases(Lo b hb).1 with z|z
  ·exact hx z
  ·exact absurd (Sd (R0 e) z) (T6 _)
 have cellK:∀x c,X.env.cells.lookup x=some c->∀v,s.heap.IsCell c v->h'.IsCell c v:=fun x c e v Gd=>by
  obtain⟨o,ho,hd⟩:=Gd;have NT:c∉ch:=fun z=>(Lo c z).2.2.1 x c e rfl
  by_cases hc:c∈X.fs
  ·obtain⟨sl,q⟩:=slot c o (I.cne x c e) hc NT ho (I.freeC x c e);exact⟨_,q,hd⟩
  ·exact⟨o,keep c o (I.cne x c e) hc NT ho (I.freeC x c e),hd⟩
 refine⟨I.ok,I.os,hg,⟨fun b o e n hb hx=>?_,fun b o e n hb hx=>?_,fun b o e n hx=>?_,fun b o e hx=>?_,fun b xs e=>tups b xs (I.base.tups b xs e),fun b o xs e=>frzs b o xs (I.base.frzs b o xs e),fun b ps e=>?_⟩,?_,fun x c e=>?_,?_,fun x c e=>?_,fun p hp=>?_,hok,I.len⟩
 ·exact keep b o (Q7 b o e) hb (O9 b o e hx) (I.base.keep b o e n hb hx) (I.base.free b o e n hx)
 ·obtain⟨sl,e1⟩:=I.base.slot b o e n hb hx;obtain⟨sl',e2⟩:=slot b _ (Q7 b o e) hb (O9 b o e hx) e1 (I.base.free b o e n hx);exact⟨sl',e2⟩
 ·obtain⟨o',e1⟩:=I.base.there b o e hx;exact free b o' (O9 b o e hx) e1 (I.base.free b o e n hx)
 ·obtain⟨o',e1⟩:=I.base.there b o e hx;exact there b o' (O9 b o e hx) e1
 ·obtain⟨m1,e1⟩:=I.base.tbls b ps e;obtain⟨m2,e2⟩:=tbls b _ e1;exact⟨m1++m2,by rw[e2,Array.append_assoc]⟩
 ·obtain⟨m,hn,hl⟩:=I.loc;refine⟨m,ns m hn,fun i x v e1 e2 e3=>?_⟩;obtain⟨u,r,l⟩:=hl i x v e1 e2 e3;refine⟨u,r,?_⟩;rcases l with l|⟨k,c,e,z⟩
  ·exact .inl l
  ·exact .inr ⟨k,c,e,cellK x c e _ z⟩
 ·obtain⟨v,z⟩:=I.cell x c e;exact⟨v,cellK x c e v z⟩
 ·obtain⟨m,⟨o,_,_,ho,_⟩,_⟩:=I.loc;exact free _ o (fun z=>(Lo _ z).2.1 rfl) ho I.free
 ·obtain⟨v,o,ho,hd⟩:=I.cell x c e;exact free c o (fun z=>(Lo c z).2.2.1 x c e rfl) ho (I.freeC x c e)
 ·obtain⟨e,n,ne,nf,d⟩:=I.pin p hp;have NT:p.1∉ch:=fun z=>(Lo p.1 z).2.2.2 p hp rfl
  exact⟨keep p.1 p.2 ne nf NT e n,free p.1 p.2 NT e n,ne,nf,d⟩
theorem Inv.un{t':Nat}(I:Inv X pr σ H s)(u:Un X.fs [] H H' s.heap h')(hok:HOk X.prog X.w H' h'):Inv X pr σ H' {s with heap:=h',toks:=t'}:=by
 obtain⟨m,⟨o,es,ep,ho,r⟩,_⟩:=id I.loc;obtain⟨sl,hL⟩:=u.any ho I.free (by simp);exact I.step (g':=s.gens) (d':=s.drawn) (ch:=[]) (fun _ z=>nomatch z) (fun b o _ hb _ e n=>u.keep b o e n hb (by simp)) (fun b o _ hb _ e n=>u.slot b o e n hb (by simp)) (fun b o _ e n=>u.free b o e n (by simp)) (fun b o _ e=>u.there b o e (by simp)) u.tups u.frzs u.tbls (fun m' hm=>by
  obtain⟨o',Jc,PQ,JE,r'⟩:=hm;rw[ho]at JE;cases JE;exact⟨_,Jc,PQ,hL,r'⟩) hok I.bare
theorem Inv.call{g':Array GenState}{t':Nat}{d':Drawn}{ch:List Addr}(I:Inv X pr σ H s)(u:Un (Kf X.stack) ch H H' s.heap h')(hok:HOk X.prog X.w H' h')(hg:AllBare g')
  (Lo:∀b∈ch,(b∈X.ex\/X.s₀.heap.objs.size<=b)/\b≠X.env.locals/\(∀x c,X.env.cells.lookup x=some c->c≠b)/\∀p∈X.pn++pr,p.1≠b):
  Inv X pr σ H' {s with heap:=h',gens:=g',drawn:=d',toks:=t'}:=by
 obtain⟨m,⟨o,es,ep,ho,r⟩,_⟩:=id I.loc;obtain⟨sl,hL⟩:=u.any ho I.free fun z=>(Lo _ z).2.1 rfl
 exact I.step (ch:=ch) Lo (fun b o hL hb hc e n=>u.keep b o e n (fun z=>(RV.mp (I.stkSub b z)).elim hL hb) hc) (fun b o _ _ hc e n=>u.any e n hc) (fun b o hc e n=>u.free b o e n hc) (fun b o hc e=>u.there b o e hc) u.tups u.frzs u.tbls (fun m' hm=>by
  obtain⟨o',Jc,PQ,JE,r'⟩:=hm;rw[ho]at JE;cases JE;exact⟨_,Jc,PQ,hL,r'⟩) hok hg
theorem Inv.turned{t':Nat}{it:Addr}(I:Inv X pr σ H s)(k:∀b o,b≠it->s.heap.get? b=some o->h'.get? b=some o)(hn:H it=none)(hL:it≠X.env.locals)
  (h1:it∈X.ex\/X.s₀.heap.objs.size<=it) (h2:∀x c,X.env.cells.lookup x=some c->c≠it) (h3:∀p∈X.pn++pr,p.1≠it):Inv X pr σ H {s with heap:=h',toks:=t'}:=by
 have Q8:∀b u,H b=some u->b≠it:=fun b u e z=>by rw[z,hn]at e;cases e
 refine I.step (g':=s.gens) (d':=s.drawn) (ch:=[it]) (fun b hb=>?_) (fun b o _ _ hc e _=>k b o (fun z=>hc (by simp[z])) e) (fun b o _ _ hc e _=>⟨o.slots,k b o (fun z=>hc (by simp[z])) e⟩) (fun _ _ _ _ n=>n)
  (fun b o hc e=>⟨o,k b o (fun z=>hc (by simp[z])) e⟩) (fun _ _ e=>e) (fun _ _ _ e=>e) (fun b ps e=>⟨#[],by rw[e];simp⟩) (fun m hm=>?_) (fun b u e=>?_) I.bare
 ·have e:b=it:=by simpa using hb
  subst e;exact⟨h1,hL,h2,h3⟩
 ·obtain⟨o,es,ep,ho,r⟩:=hm;exact⟨o,es,ep,k _ o (SO hL) ho,r⟩
 ·refine(I.hok b u e).stay (fun c v hc q=>k c v ?_ q) (fun _ q=>q) fun _ _ q=>q
  rcases hc with z|z
  ·rw[z];exact Q8 b u e
  ·exact Q8 c _ z
theorem Inv.tok(I:Inv X pr σ H s)(t:Nat):Inv X pr σ H {s with toks:=t}:=I.un (h':=s.heap) (t':=t) Un.refl I.hok
theorem Inv.kept{t':Nat}(I:Inv X pr σ H s)(k:∀b u,s.heap.get? b=some u->h'.get? b=some u):Inv X pr σ H {s with heap:=h',toks:=t'}:=I.un (Un.kept k) (I.hok.kept k)
theorem Inv.laid{a:Addr}{o:HO}{t':Nat}(I:Inv X pr σ H s)(k:∀b u,s.heap.get? b=some u->h'.get? b=some u)(hp:s.heap.objs.size<=a)(new:ObjOk X.prog X.w (upd H a o) h' a o):
  Inv X pr σ (upd H a o) {s with heap:=h',toks:=t'}:=I.un (Un.laid k hp (I.hok.fresh hp)) (I.hok.laid k hp new)
theorem Inv.write{x e:Addr}{o:HO}{t':Nat}(I:Inv X pr σ H s)(mu:NR (H x))(he:e=x\/H e=some (.own x))(k:∀b u,b≠e->s.heap.get? b=some u->h'.get? b=some u)(Nx:∃u,h'.get? e=some u)
  (new:ObjOk X.prog X.w (upd H x o) h' x o):Inv X pr σ (upd H x o) {s with heap:=h',toks:=t'}:=I.un (Un.write mu he k Nx) (I.hok.write mu he k Nx new)
theorem Inv.pins_of{Mp:List (Addr×Obj)}(I:Inv X pr σ H s)(h:∀p∈Mp,s.heap.get? p.1=some p.2/\H p.1=none/\p.1≠X.env.locals/\p.1∉X.fs/\∀v,p.2.data≠.cell v):Inv X Mp σ H s:=
 ⟨I.ok,I.os,I.bare,I.base,I.loc,I.cell,I.free,I.freeC,fun p hp=>(Ss.mp hp).elim (fun z=>I.pin p (R9 _ z)) (h p),I.hok,I.len⟩
theorem p9{N:List Str}(hN:N.Nodup){i j:Nat}{x:Str}(a:N[i]?=some x)(b:N[j]?=some x):i=j:=by
 obtain⟨h1,e1⟩:=Se.mp a;obtain⟨h2,e2⟩:=Se.mp b;exact(Wh hN).mp (e1.trans e2.symm)
theorem ny{M:Model}{A:Around}{E:Value->Shared->Prop}{i:Nat}{x:Str}{v:V}{u:Value}{Q:Unit->Shared->Prop}(I:Inv X pr σ H s)(hN:X.N.Nodup)(hi:X.N[i]?=some x)(hx:Loc X.env.scope x)(r:RelV v u)
  (h:∀s',Inv X pr (σ.set i (some v)) H s'->(∃a,Heap.SameBut a s.heap s'.heap/\(a=X.env.locals\/X.env.cells.lookup x=some a))->Q () s') (hf:X.fn x=true\/X.env.scope.names.lookup x=some .local:=by first|exact .inl rfl|exact .inr rfl|assumption):wpAny M A (storeName X.env x u) Q E s:=by
 obtain⟨m,hn,hl⟩:=id I.loc;have hcls:(X.env.scope.kind==.class||(X.env.scope.kind==.module&&X.env.locals != X.env.globals))=false:=by rw[I.ok.kind];rfl
 have hiσ:i<σ.length:=by rw[I.len];exact(Se.mp hi).1
 have cne:=I.cne;have tracked:∀{a:Addr}{h':Heap},(∃o,s.heap.get? a=some o/\H a=none)->Heap.SameBut a s.heap h'->HOk X.prog X.w H h':=fun{a h'} ha hs b ob e=>by
  obtain⟨_,_,Mq⟩:=ha;refine(I.hok b ob e).stay (fun c w' hc q=>(hs.2 c ?_).trans q) (fun _ q=>q) fun _ _ q=>q
  rintro rfl;rcases hc with rfl|hc
  ·rw[Mq]at e;cases e
  ·rw[Mq]at hc;cases hc
 rcases hx with hk|hk
 ·refine wpAny_storeName_local hk hn (fun h' hn' hs=>?_) hcls;obtain⟨oL,_,_,hoL,_⟩:=id hn;refine h _ ⟨I.ok,I.os,I.bare,⟨fun b o e n hb hx=>?_,fun b o e n hb hx=>?_,I.base.free,fun b o e hx=>?_,I.base.tups,I.base.frzs,I.base.tbls⟩,⟨_,hn',fun j y v' e1 e2 e3=>?_⟩,fun y c e=>?_,I.free,I.freeC,fun p hp=>?_,tracked ⟨oL,hoL,I.free⟩ hs,by simpa using I.len⟩ ⟨_,hs,.inl rfl⟩
  ·exact(hs.2 b (Sl (Sd (R0 e) I.ok.above))).trans (I.base.keep b o e n hb hx)
  ·obtain⟨sl,e1⟩:=I.base.slot b o e n hb hx;exact⟨sl,(hs.2 b (Sl (Sd (R0 e) I.ok.above))).trans e1⟩
  ·obtain⟨o',e1⟩:=I.base.there b o e hx;exact⟨o',(hs.2 b (Sl (Sd (R0 e) I.ok.above))).trans e1⟩
  ·by_cases hj:j=i
   ·subst hj;rw[hi]at e1;cases e1;rw[UG hiσ]at e2;cases e2;exact⟨u,r,.inl ⟨hk,by simp⟩⟩
   ·rw[Vt (SO hj)]at e2;obtain⟨u',r',q⟩:=hl j y v' e1 e2 e3;refine⟨u',r',?_⟩;rcases q with⟨k,e⟩|⟨k,c,e,z⟩
    ·refine .inl ⟨k,?_⟩;have:y≠x:=fun e=>hj (p9 hN e1 (e▸hi))
     simp[this,e]
    ·exact .inr ⟨k,c,e,z.sameBut hs (cne y c e)⟩
  ·obtain⟨w',z⟩:=I.cell y c e;exact⟨w',z.sameBut hs (cne y c e)⟩
  ·obtain⟨e,n,ne,nf,d⟩:=I.pin p hp;exact⟨(hs.2 p.1 ne).trans e,n,ne,nf,d⟩
 ·have KS:X.fn x=true:=by
   rcases hf with z|z
   ·exact z
   ·rw[z]at hk;cases hk
  obtain⟨c,hc⟩:=I.ok.has x (.inl hk);obtain⟨w',z⟩:=I.cell x c hc;refine wpAny_storeName_cell I.ok.kind hk hc z (fun h' Pa hs=>?_);obtain⟨oc,Q9,hocd⟩:=id z;refine h {s with heap:=h'} ⟨I.ok,I.os,I.bare,⟨fun b o e n hb hx=>?_,fun b o e n hb hx=>?_,I.base.free,fun b o e hx=>?_,I.base.tups,I.base.frzs,I.base.tbls⟩,⟨m,hn.sameBut hs (SO (cne x c hc)),fun j y v' e1 e2 e3=>?_⟩,fun y c' e=>?_,I.free,I.freeC,fun p hp=>?_,tracked ⟨oc,Q9,I.freeC x c hc⟩ hs,by simpa using I.len⟩ ⟨c,hs,.inr hc⟩
  ·exact(hs.2 b (Sl (Sd (R0 e) (I.ok.cab x c KS hc)))).trans (I.base.keep b o e n hb hx)
  ·obtain⟨sl,e1⟩:=I.base.slot b o e n hb hx;exact⟨sl,(hs.2 b (Sl (Sd (R0 e) (I.ok.cab x c KS hc)))).trans e1⟩
  ·obtain⟨o',e1⟩:=I.base.there b o e hx;exact⟨o',(hs.2 b (Sl (Sd (R0 e) (I.ok.cab x c KS hc)))).trans e1⟩
  ·by_cases hj:j=i
   ·subst hj;rw[hi]at e1;cases e1;rw[UG hiσ]at e2;cases e2;exact⟨u,r,.inr ⟨.inl hk,c,hc,Pa⟩⟩
   ·rw[Vt (SO hj)]at e2;obtain⟨u',r',q⟩:=hl j y v' e1 e2 e3;refine⟨u',r',?_⟩;rcases q with q|⟨k,c',e,z'⟩
    ·exact .inl q
    ·refine .inr ⟨k,c',e,z'.sameBut hs ?_⟩;rintro rfl;exact hj (p9 hN e1 (I.ok.inj _ _ _ e hc▸hi))
  ·by_cases Mr:c'=c
   ·subst Mr;exact⟨_,Pa⟩
   ·obtain⟨w2,z2⟩:=I.cell y c' e;exact⟨w2,z2.sameBut hs Mr⟩
  ·obtain⟨e,n,ne,nf,d⟩:=I.pin p hp;refine⟨(hs.2 p.1 ?_).trans e,n,ne,nf,d⟩;intro q;rw[q,Q9]at e;have q':oc=p.2:=SX e;exact d w' (by rw[<-q'];exact hocd)
theorem qa{M:Model}{A:Around}{E:Value->Shared->Prop}{i:Nat}{x:Str}{v:V}{u:Value}{Q:Unit->Shared->Prop}(I:Inv X pr σ H s)(hN:X.N.Nodup)(hi:X.N[i]?=some x)(hx:Loc X.env.scope x)(r:RelV v u)
  (h:∀s',Inv X pr (σ.set i (some v)) H s'->Q () s') (hf:X.fn x=true\/X.env.scope.names.lookup x=some .local:=by first|exact .inl rfl|exact .inr rfl|assumption):wpAny M A (storeName X.env x u) Q E s:=
 ny I hN hi hx r (fun s' I' _=>h s' I') hf
theorem Inv.call'{s':Shared}{ch:List Addr}(I:Inv X pr σ H s)(ho:s'.os=s.os)(u:Un (Kf X.stack) ch H H' s.heap s'.heap)(hok:HOk X.prog X.w H' s'.heap)(hg:AllBare s'.gens)
  (Lo:∀b∈ch,(b∈X.ex\/X.s₀.heap.objs.size<=b)/\b≠X.env.locals/\(∀x c,X.env.cells.lookup x=some c->c≠b)/\∀p∈X.pn++pr,p.1≠b):Inv X pr σ H' s':=by
 obtain⟨h',g',d',t',o'⟩:=s';have e:o'=s.os:=ho;subst e;exact I.call (g':=g') (t':=t') (d':=d') u hok hg Lo
end
abbrev XK:=Value->Option Addr->Hp->Prop
abbrev St:=List (Option V)
abbrev VK:=V->Hp->Prop
abbrev TE:=St->Hp->VK->Prop
abbrev TT:=St->Hp->(Bool->Hp->Prop)->Prop
abbrev TA:=St->Hp->(List V->Hp->Prop)->Prop
structure Ends where
 nx:St->Hp->Prop
 rt:VK
 bk:St->Hp->Prop:=fun _ _=>False
 ct:St->Hp->Prop:=fun _ _=>False
abbrev TS:=Ends->St->Hp->Prop
def EP(X:Cx)(pr:List (Addr×Obj))(σ:St)(Q:VK)(u:Value)(s':Shared):Prop:=∃v H',Inv X pr σ H' s'/\RelV v u/\Q v H'
def TP(X:Cx)(pr:List (Addr×Obj))(σ:St)(Q:Bool->Hp->Prop)(b:Bool)(s':Shared):Prop:=∃H',Inv X pr σ H' s'/\Q b H'
def AP(X:Cx)(pr:List (Addr×Obj))(σ:St)(Q:List V->Hp->Prop)(us:List Value)(s':Shared):Prop:=∃vs H',Inv X pr σ H' s'/\Vals vs us/\Q vs H'
def SP(X:Cx)(pr:List (Addr×Obj))(D:Ends)(f:Flow)(s':Shared):Prop:=
 match f with
 | .next=>∃σ' H',Inv X pr σ' H' s'/\D.nx σ' H'
 | .brk=>∃σ' H',Inv X pr σ' H' s'/\D.bk σ' H'
 | .cont=>∃σ' H',Inv X pr σ' H' s'/\D.ct σ' H'
 | .ret u=>∃v σ' H',Inv X pr σ' H' s'/\RelV v u/\D.rt v H'
def PE(X:Cx)(e:Expr)(t:TE):Prop:=
 ∀(pr:List (Addr×Obj)) (s:Shared) (σ:St) (H:Hp) (Q:VK),Inv X pr σ H s->t σ H Q->wpAny (model X.prog X.w) X.A (eval e X.env) (EP X pr σ Q) X.xe s
def PT(X:Cx)(e:Expr)(t:TT):Prop:=
 ∀(pr:List (Addr×Obj)) (s:Shared) (σ:St) (H:Hp) (Q:Bool->Hp->Prop),Inv X pr σ H s->t σ H Q->wpAny (model X.prog X.w) X.A (isTrue e X.env (eval e X.env)) (TP X pr σ Q) X.xe s
def PW(X:Cx)(e:Expr)(t:TT):Prop:=
 ∀(whole:Sem Value) (pr:List (Addr×Obj)) (s:Shared) (σ:St) (H:Hp) (Q:Bool->Hp->Prop),Inv X pr σ H s->t σ H Q->wpAny (model X.prog X.w) X.A (isTrue e X.env whole) (TP X pr σ Q) X.xe s
theorem PW.pt{X:Cx}{e:Expr}{t:TT}(h:PW X e t):PT X e t:=h _
def PA(X:Cx)(es:List Expr)(t:TA):Prop:=
 ∀(pos:Pos) (pr:List (Addr×Obj)) (s:Shared) (σ:St) (H:Hp) (Q:List V->Hp->Prop),Inv X pr σ H s->t σ H Q->wpAny (model X.prog X.w) X.A (spliced (backTo pos (starEach es X.env))) (AP X pr σ Q) X.xe s
def PS(X:Cx)(st:Stmt)(t:TS):Prop:=
 ∀(pr:List (Addr×Obj)) (s:Shared) (σ:St) (H:Hp) (D:Ends),Inv X pr σ H s->t D σ H->wpAny (model X.prog X.w) X.A (exec st X.env) (SP X pr D) X.xe s
def PSs(X:Cx)(st:List Stmt)(t:TS):Prop:=
 ∀(pr:List (Addr×Obj)) (s:Shared) (σ:St) (H:Hp) (D:Ends),Inv X pr σ H s->t D σ H->wpAny (model X.prog X.w) X.A (execs st X.env) (SP X pr D) X.xe s
theorem Gp{α:Type}{t:Sem α}{Q Q':α->Shared->Prop}{M:Model}{A:Around}{E:Value->Shared->Prop}{s:Shared}(h:wpAny M A t Q E s)(hQ:∀a s,Q a s->Q' a s):wpAny M A t Q' E s:=VY h hQ fun _ _ x=>x
section
variable{X:Cx}
theorem bin{a b:Expr}{ta tb:TE}(ha:PE X a ta)(hb:PE X b tb){pr:List (Addr×Obj)}{s:Shared}{σ:St}{H:Hp}{R:V->V->Hp->Prop}(I:Inv X pr σ H s)(h:ta σ H fun x H1=>tb σ H1 fun y H2=>R x y H2)
  {α:Type}{Q:α->Shared->Prop}{f:Value->Value->Sem α}
  (hf:∀v u s2 x y H2,Inv X pr σ H2 s2->RelV x v->RelV y u->R x y H2->wpAny (model X.prog X.w) X.A (f v u) Q X.xe s2):
  wpAny (model X.prog X.w) X.A (eval a X.env) (fun v s₁=>wpAny (model X.prog X.w) X.A (eval b X.env) (fun u s₂=>wpAny (model X.prog X.w) X.A (f v u) Q X.xe s₂) X.xe s₁) X.xe s:=by
 refine Gp (ha pr s σ H _ I h) fun v s1 Gk=>?_
 obtain⟨x,H1,I1,r1,q1⟩:=Gk;refine Gp (hb pr s1 σ H1 _ I1 q1) fun u s2 Gk=>?_
 obtain⟨y,H2,I2,r2,q2⟩:=Gk;exact hf v u s2 x y H2 I2 r1 r2 q2
def rg(i:Nat):TE:=fun σ H Q=>∃v,σ[i]?=some (some v)/\Q v H
def tC(v:V):TE:=fun _ H Q=>Q v H
theorem AH{i:Nat}{x:Str}{pos:Pos}(hN:X.N[i]?=some x)(hv:PN X.env.scope x)(hd:(x==("__debug__" : Str))=false:=by decide)(KU:(x==("__classdict__" : Str))=false:=by decide):PE X (.Name x pos) (rg i):=by
 intro pr s σ H Q I h;obtain⟨v,e,h⟩:=h;obtain⟨m,hn,hl⟩:=I.loc;obtain⟨u,r,l⟩:=hl i x v hN e hv;have fin:EP X pr σ Q u s:=⟨v,H,I,r,h⟩
 rcases l with⟨hk,hm⟩|⟨hk,c,hc,GN⟩
 ·exact wpAny_Name (wpAny_loadName_local I.ok.kind hk hn hm fin) hd
 ·rcases hk with hk|hk
  ·exact wpAny_Name (wpAny_loadName_cell I.ok.kind hk hc GN fin) hd
  ·exact wpAny_Name (wpAny_loadName_free I.ok.kind hk hc GN fin KU) hd
theorem sJ{i j pos}:PE X (.Constant (.int i) j pos) (tC (.int i)):=fun _ _ _ H _ I h=>wpAny_Constant_int ⟨.int i,H,I.tok _,⟨_,rfl⟩,h⟩
theorem Ds{b j pos}:PE X (.Constant (.bool b) j pos) (tC (.bl b)):=fun _ _ _ H _ I h=>Constant_bool ⟨.bl b,H,I,rfl,h⟩
theorem AI{x j pos}:PE X (.Constant (.str x) j pos) (tC (.str x)):=fun _ _ _ H _ I h=>Calls.Constant_str ⟨.str x,H,I.tok _,⟨_,rfl⟩,h⟩
def Gl(X:Cx)(x:Str):Prop:=X.env.kindOf x=some .globalImplicit
theorem sL{E:Value->Shared->Prop}{pr:List (Addr×Obj)}{s:Shared}{σ:St}{H:Hp}{x:Str}{u:Value}{pos:Pos}{Q:Value->Shared->Prop}(I:Inv X pr σ H s)(hg:Gl X x)(hm:X.mg x=some u)(h:Q u s)
  (hd:(x==("__debug__" : Str))=false:=by decide):wpAny (model X.prog X.w) X.A (eval (.Name x pos) X.env) Q E s:=
 VM I.ok.kind hg (Calls.loadGlobal_global (by rw[I.ok.glob];exact I.mod.glob.keeps I.bk) hm h) hd
theorem hZ{E:Value->Shared->Prop}{pr:List (Addr×Obj)}{s:Shared}{σ:St}{H:Hp}{x:Str}{u:Value}{pos:Pos}{Q:Value->Shared->Prop}(I:Inv X pr σ H s)(hg:Gl X x)(hm:X.mg x=none)(hv:bootBuiltins x=some u)(h:Q u s)
  (hn:x≠"__name__":=by decide) (hd:(x==("__debug__" : Str))=false:=by decide):wpAny (model X.prog X.w) X.A (eval (.Name x pos) X.env) Q E s:=by
 obtain⟨mb,h1,h2⟩:=I.mod.blt;exact VM I.ok.kind hg (Calls.loadGlobal_builtin (by rw[I.ok.glob];exact I.mod.glob.keeps I.bk) hm (by rw[I.ok.blt];exact h1.keeps I.bk) ((h2 x hn).trans hv) h) hd
theorem yv{x:Str}{v:V}{u:Value}{pos:Pos}(hg:Gl X x)(hm:X.mg x=some u)(r:RelV v u)(hd:(x==("__debug__" : Str))=false:=by decide):PE X (.Name x pos) (tC v):=
 fun _ _ _ H _ I h=>sL I hg hm ⟨v,H,I,r,h⟩ hd
theorem yw{x:Str}{v:V}{u:Value}{pos:Pos}(hg:Gl X x)(hm:X.mg x=none)(hv:bootBuiltins x=some u)(r:RelV v u)(hn:x≠"__name__":=by decide)(hd:(x==("__debug__" : Str))=false:=by decide):PE X (.Name x pos) (tC v):=
 fun _ _ _ H _ I h=>hZ I hg hm hv ⟨v,H,I,r,h⟩ hn hd
variable{a b:Expr}{ta tb:TE}{pos:Pos}
def PC(X:Cx)(op:CmpOp)(a b:Expr)(t:TE):Prop:=
 ∀(pr:List (Addr×Obj)) (s:Shared) (σ:St) (H:Hp) (Q:VK),Inv X pr σ H s->t σ H Q->
  wpAny (model X.prog X.w) X.A (eval a X.env) (fun v s₁=>wpAny (model X.prog X.w) X.A (eval b X.env) (fun u s₂=>wpAny (model X.prog X.w) X.A (compareOp op v u) (EP X pr σ Q) X.xe s₂) X.xe s₁) X.xe s
theorem vX(b:Expr){op:CmpOp}(h:op≠.In)(h2:op≠.NotIn):behindInMarks op b=false:=by
 have e1:(op==CmpOp.In)=false:=by cases op <;> first|rfl|exact absurd rfl h
 have e2:(op==CmpOp.NotIn)=false:=by cases op <;> first|rfl|exact absurd rfl h2
 cases b <;> simp[behindInMarks,e1,e2]
def tB(t:TE):TT:=fun σ H Q=>t σ H fun x H1=>∃c,x=.bl c/\Q c H1
theorem ED{op:CmpOp}{t:TE}(h:PC X op a b t)(h1:behindInMarks op b=false:=by first|exact vX _ (by decide) (by decide)|rfl):PT X (.Compare a [op] [b] pos) (tB t):=by
 intro pr s σ H Q I hw;refine wpAny_isTrue_Compare1 (Gp (h pr s σ H _ I hw) fun v s1 h1=>Gp h1 fun u s2 h2=>Gp h2 fun c s3 ⟨x,H1,I1,r1,q1⟩=>?_) h1;obtain⟨d,rfl,q⟩:=q1;cases r1;exact TB ⟨H1,I1,q⟩
theorem AJ{e:Expr}{t:TE}(h:PE X e t)(he:∀whole,isTrue e X.env whole=(do let v <-whole;standAt e.pos;holding [v] (truthy v)):=by intro _;rfl):PT X e (tB t):=by
 intro pr s σ H Q I hw;refine isTrue_plain (Gp (h pr s σ H _ I hw) fun v s1 ⟨x,H1,I1,r1,q1⟩=>?_) (he _);obtain⟨d,rfl,q⟩:=q1;cases r1;exact TB ⟨H1,I1,q⟩
variable{tA Pb:TT}{dY:List Expr}
def EZ(t u:TT):TT:=fun σ H Q=>t σ H fun c H1=>if c=true then u σ H1 Q else Q false H1
def tOr(t u:TT):TT:=fun σ H Q=>t σ H fun c H1=>if c=true then Q true H1 else u σ H1 Q
def E1(t:TT):TT:=fun σ H Q=>t σ H fun c H1=>Q (!c) H1
theorem yx(ha:PT X a tA):PW X (.BoolOp .And [a] pos) tA:=by
 intro wh pr s σ H Q I h;refine isTrue_and (Gp (ha pr s σ H Q I h) fun c s1 e=>?_);cases c with
 |true=>exact isTrue_and_nil e
 |false=>exact e
theorem AK(ha:PT X a tA):PW X (.BoolOp .Or [a] pos) tA:=by
 intro wh pr s σ H Q I h;refine isTrue_or (Gp (ha pr s σ H Q I h) fun c s1 e=>?_);cases c with
 |false=>exact isTrue_or_nil e
 |true=>exact e
theorem AL(ha:PT X a tA)(hb:PW X (.BoolOp .And (b::dY) pos) Pb):PW X (.BoolOp .And (a::b::dY) pos) (EZ tA Pb):=by
 intro wh pr s σ H Q I h;refine isTrue_and (Gp (ha pr s σ H _ I h) fun c s1 Gk=>?_);obtain⟨H1,I1,q1⟩:=Gk;cases c with
 |true=>exact hb wh pr s1 σ H1 Q I1 q1
 |false=>exact⟨H1,I1,q1⟩
theorem Dt(ha:PT X a tA)(hb:PW X (.BoolOp .Or (b::dY) pos) Pb):PW X (.BoolOp .Or (a::b::dY) pos) (tOr tA Pb):=by
 intro wh pr s σ H Q I h;refine isTrue_or (Gp (ha pr s σ H _ I h) fun c s1 Gk=>?_);obtain⟨H1,I1,q1⟩:=Gk;cases c with
 |true=>exact⟨H1,I1,q1⟩
 |false=>exact hb wh pr s1 σ H1 Q I1 q1
theorem AM(ha:PT X a tA):PT X (.UnaryOp .Not a pos) (E1 tA):=by
 intro pr s σ H Q I h;exact isTrue_not (ha pr s σ H (fun c H1=>Q (!c) H1) I h)
def Du(ta tb:TE):TE:=fun σ H Q=>ta σ H fun x H1=>∃c,x=.bl c/\if c=true then tb σ H1 Q else Q (.bl false) H1
theorem AN{op}{t:TE}(h:PE X a t):PE X (.BoolOp op [a] pos) t:=fun pr s σ H Q I hw=>BoolOp_one (h pr s σ H Q I hw)
theorem AO(ha:PE X a ta)(hb:PE X (.BoolOp .And (b::dY) pos) tb):PE X (.BoolOp .And (a::b::dY) pos) (Du ta tb):=by
 intro pr s σ H Q I h;refine BoolOp_and (Gp (ha pr s σ H _ I h) fun v s1 Gk=>?_);obtain⟨x,H1,I1,r1,q1⟩:=Gk;obtain⟨c,rfl,q1⟩:=q1;cases r1;refine TB ?_;cases c with
 |true=>exact hb pr s1 σ H1 Q I1 q1
 |false=>exact⟨.bl false,H1,I1,rfl,q1⟩
end
def SqL(K:W.Frag)(H:Hp)(a:Addr)(xs:List V):Prop:=
 Rd H a (.lst xs)\/
  ∃(o:Obj) (F6:Array Value) (n:Nat),K.lookup a=some o/\o.cls=.type "list"/\o.dict=none/\o.data=.seq F6 n/\F6.size<=sizeLine/\Vals xs F6.toList
def SqT(K:W.Frag)(H:Hp)(a:Addr)(xs:List V):Prop:=
 Rd H a (.tup xs)\/
  ∃(o:Obj) (F6:Array Value) (n:Nat),K.lookup a=some o/\o.cls=.type "tuple"/\o.dict=none/\o.data=.seq F6 n/\F6.size<=sizeLine/\Vals xs F6.toList
def E2:Value->Option V
 | .none=>some .non
 | .bool b=>some (.bl b)
 | .int i _=>some (.int i)
 | .str x _=>some (.str x)
 | .bytes b _=>some (.byt b)
 | .float b _=>some (.flt b)
 | .ref a=>some (.ref a)
 | .type n=>some (.ty n)
 |_=>none
theorem RelV.abs{x:V}{u:Value}(r:RelV x u):E2 u=some x:=by
 cases x with
 |non=>cases r;rfl
 |bl _=>cases r;rfl
 |int _=>obtain⟨t,rfl⟩:=r;rfl
 |str _=>obtain⟨t,rfl⟩:=r;rfl
 |byt _=>obtain⟨t,rfl⟩:=r;rfl
 |flt _=>obtain⟨t,rfl⟩:=r;rfl
 |ref _=>cases r;rfl
 |ty _=>cases r;rfl
theorem RelV.inj{x y:V}{u:Value}(r:RelV x u)(q:RelV y u):x=y:=SX (r.abs.symm.trans q.abs)
theorem Vals.inj:∀{xs ys:List V}{us:List Value},Vals xs us->Vals ys us->xs=ys
 |_,_,_,.nil,.nil=>rfl
 |_,_,_,.cons r t,.cons r' t'=>by rw[r.inj r',Vals.inj t t']
section
variable{X:Cx}{pr:List (Addr×Obj)}{σ:St}{H:Hp}{s:Shared}{a:Addr}{xs ys:List V}
theorem SqL.of{K:W.Frag}(h:H a=some (.lst xs)):SqL K H a xs:=.inl (.inl h)
theorem SqT.of{K:W.Frag}(h:H a=some (.tup xs)):SqT K H a xs:=.inl (.inl h)
theorem Inv.list(I:Inv X pr σ H s)(h:SqL X.K H a xs):∃F6:List Value,Vals xs F6/\PlainL s.heap a F6.toArray/\xs.length<=sizeLine:=by
 rcases h with h|⟨o,F6,n,hk,hc,hd,hs,hz,r⟩
 ·obtain⟨z,F6,n,r,e⟩:=h.ok I.hok;exact⟨F6,r,⟨_,n,e,rfl,rfl,rfl⟩,z⟩
 ·refine⟨F6.toList,r,⟨o,n,I.kIn a o hk,hc,hd,by simpa using hs⟩,?_⟩;have e:=r.length;simp only[Tb]at e;lia
theorem Inv.tupleN(I:Inv X pr σ H s)(h:SqT X.K H a xs):∃F6:List Value,Vals xs F6/\IsTupN s.heap a F6.toArray/\xs.length<=sizeLine:=by
 rcases h with h|⟨o,F6,n,hk,hc,hdn,hs,hz,r⟩
 ·obtain⟨z,F6,r,p⟩:=h.ok I.hok;exact⟨F6,r,p,z⟩
 ·refine⟨F6.toList,r,⟨o,I.kIn a o hk,hc,⟨n,by simpa using hs⟩,hdn⟩,?_⟩;have e:=r.length;simp only[Tb]at e;lia
theorem Inv.tuple(I:Inv X pr σ H s)(h:SqT X.K H a xs):∃F6:List Value,Vals xs F6/\IsTup s.heap a F6.toArray/\xs.length<=sizeLine:=by
 obtain⟨F6,r,p,z⟩:=I.tupleN h;exact⟨F6,r,p.tup,z⟩
theorem Inv.list_inj(I:Inv X pr σ H s)(h:SqL X.K H a xs)(h':SqL X.K H a ys):xs=ys:=by
 obtain⟨F6,r,⟨o,n,e,_,_,d⟩,_⟩:=I.list h;obtain⟨its',r',⟨o',n',e',_,_,d'⟩,_⟩:=I.list h';rw[e]at e';cases e';rw[d]at d';injection d' with d1 _;have:F6=its':=by simpa using Tq Array.toList d1
 subst this;exact r.inj r'
theorem Inv.tuple_inj(I:Inv X pr σ H s)(h:SqT X.K H a xs)(h':SqT X.K H a ys):xs=ys:=by
 obtain⟨F6,r,⟨o,e,_,n,d⟩,_⟩:=I.tuple h;obtain⟨its',r',⟨o',e',_,n',d'⟩,_⟩:=I.tuple h';rw[e]at e';cases e';rw[d]at d';injection d' with d1 _;have:F6=its':=by simpa using Tq Array.toList d1
 subst this;exact r.inj r'
end
abbrev Cx.wish(X:Cx)(E:Value->Shared->Prop):Cx:={X with xe:=E}
abbrev Cx.nox(X:Cx):Cx:=X.wish fun _ _=>False
theorem Cx.Ok.wish{X:Cx}(ok:X.Ok)(E:Value->Shared->Prop):(X.wish E).Ok:=
 ⟨ok.mod,ok.kind,ok.glob,ok.blt,ok.above,ok.inj,ok.has,ok.cab,ok.hd,ok.frames,ok.stk,ok.exf,ok.bs,ok.bsz,ok.noex,ok.exfs,ok.funs,ok.frf⟩
theorem Cx.Ok.unwish{X:Cx}{E:Value->Shared->Prop}(ok:(X.wish E).Ok):X.Ok:=
 ⟨ok.mod,ok.kind,ok.glob,ok.blt,ok.above,ok.inj,ok.has,ok.cab,ok.hd,ok.frames,ok.stk,ok.exf,ok.bs,ok.bsz,ok.noex,ok.exfs,ok.funs,ok.frf⟩
section
variable{X:Cx}{pr:List (Addr×Obj)}{σ:St}{H:Hp}{s:Shared}{E:Value->Shared->Prop}
theorem Inv.wish(I:Inv X pr σ H s)(E:Value->Shared->Prop):Inv (X.wish E) pr σ H s:=⟨I.ok.wish E,I.os,I.bare,I.base,I.loc,I.cell,I.free,I.freeC,I.pin,I.hok,I.len⟩
theorem Inv.unwish(I:Inv (X.wish E) pr σ H s):Inv X pr σ H s:=⟨I.ok.unwish,I.os,I.bare,I.base,I.loc,I.cell,I.free,I.freeC,I.pin,I.hok,I.len⟩
theorem SP.unwish{D:Ends}{f:Flow}{s':Shared}(h:SP (X.wish E) pr D f s'):SP X pr D f s':=by
 cases f with
 |next=>obtain⟨σ',H',I,q⟩:=h;exact⟨σ',H',I.unwish,q⟩
 |brk=>obtain⟨σ',H',I,q⟩:=h;exact⟨σ',H',I.unwish,q⟩
 |cont=>obtain⟨σ',H',I,q⟩:=h;exact⟨σ',H',I.unwish,q⟩
 |ret u=>obtain⟨v,σ',H',I,r,q⟩:=h;exact⟨v,σ',H',I.unwish,r,q⟩
theorem PSs.nox{st:List Stmt}{t:TS}(h:PSs X.nox st t):PSs X st t:=fun pr s σ H D I hw=>
 VY (h pr s σ H D (I.wish _) hw) (fun _ _ q=>q.unwish) fun _ _ z=>False.elim z
end
section
variable{X:Cx}{st:Stmt}{dY:List Stmt}{t u:TS}{e:Expr}{te:TE}{pos:Pos}
def Dv:TS:=fun D σ H=>D.nx σ H
def E3(t u:TS):TS:=fun D σ H=>t {D with nx:=u D} σ H
theorem yy:PSs X [] Dv:=fun _ _ σ H _ I h=>VC ⟨σ,H,I,h⟩
theorem vY(h1:PS X st t)(h2:PSs X dY u):PSs X (st::dY) (E3 t u):=by
 intro pr s σ H D I h;refine wpAny_execs_cons (Gp (h1 pr s σ H {D with nx:=u D} I h) fun f s1 q=>?_);cases f with
 |next=>
  obtain⟨σ',H',I',q⟩:=q;exact h2 pr s1 σ' H' D I' q
 |ret v=>exact q
 |brk=>exact q
 |cont=>exact q
theorem yz(h1:PS X st t):PSs X [st] t:=by
 intro pr s σ H D I h;refine wpAny_execs_cons (Gp (h1 pr s σ H D I h) fun f s1 q=>?_);cases f with
 |next=>exact VC q
 |ret v=>exact q
 |brk=>exact q
 |cont=>exact q
theorem Inv.quiet{pr:List (Addr×Obj)}{σ:St}{H:Hp}{s:Shared}(I:Inv X pr σ H s):interactive X.env=false:=by simp[interactive,I.ok.kind]
def Dw(te:TE):TS:=fun D σ H=>te σ H fun _ H1=>D.nx σ H1
theorem yG(he:PE X e te)(hs:swapsWith e none pos.line X.env=pure false:=by rfl):PS X (.Expr e pos) (Dw te):=by
 intro pr s σ H D I h;exact wpAny_Expr_any (Gp (he pr s σ H _ I h) fun v s1 ⟨x,H1,I1,r1,q1⟩=>⟨σ,H1,I1,q1⟩) I.quiet hs
def E4(te:TE):TS:=fun D σ H=>te σ H D.rt
theorem AQ(he:PE X e te):PS X (.Return (some e) pos) (E4 te):=by
 intro pr s σ H D I h;exact wpAny_Return_some (Gp (he pr s σ H _ I h) fun v s1 ⟨x,H1,I1,r1,q1⟩=>⟨x,σ,H1,I1,r1,q1⟩)
def E5(c:TT)(t u:TS):TS:=fun D σ H=>c σ H fun b H1=>if b=true then t D σ H1 else u D σ H1
theorem Dx{c:Expr}{a b:List Stmt}{tc:TT}(hc:PT X c tc)(ha:PSs X a t)(hb:PSs X b u):PS X (.If c a b pos) (E5 tc t u):=by
 intro pr s σ H D I h;refine wpAny_If (Gp (hc pr s σ H _ I h) fun d s1 Gk=>?_);obtain⟨H1,I1,q1⟩:=Gk;cases d with
 |true=>exact ha pr s1 σ H1 D I1 q1
 |false=>exact hb pr s1 σ H1 D I1 q1
def AS:TS:=fun _ _ _=>False
theorem vZ:PS X st AS:=fun _ _ _ _ _ _ h=>h.elim
end
abbrev TG:=V->St->Hp->(St->Hp->Prop)->Prop
abbrev Ms:=List V->St->Hp->(St->Hp->Prop)->Prop
def PG(X:Cx)(target:Expr)(t:TG):Prop:=
 ∀(pr:List (Addr×Obj)) (s:Shared) (σ:St) (H:Hp) (v:V) (u:Value) (Q:St->Hp->Prop),Inv X pr σ H s->RelV v u->t v σ H Q->
  wpAny (model X.prog X.w) X.A (assign target X.env u) (fun _ s'=>∃σ' H',Inv X pr σ' H' s'/\Q σ' H') X.xe s
def MF(X:Cx)(ts:List Expr)(t:Ms):Prop:=
 ∀(pr:List (Addr×Obj)) (s:Shared) (σ:St) (H:Hp) (vs:List V) (us:List Value) (Q:St->Hp->Prop),Inv X pr σ H s->Vals vs us->t vs σ H Q->
  wpAny (model X.prog X.w) X.A (assignInOrder ((assignEach ts X.env).map (·.2)) us) (fun _ s'=>∃σ' H',Inv X pr σ' H' s'/\Q σ' H') X.xe s
section
variable{X:Cx}{pos:Pos}
def AU(i:Nat):TG:=fun v σ H Q=>Q (σ.set i (some v)) H
theorem yH{i:Nat}{x:Str}(hN:X.N.Nodup)(hi:X.N[i]?=some x)(hx:Loc X.env.scope x)(hf:X.fn x=true\/X.env.scope.names.lookup x=some .local:=by first|exact .inl rfl|exact .inr rfl|assumption):PG X (.Name x pos) (AU i):=by
 intro pr s σ H v u Q I r h;exact wpAny_assign_Name (qa I hN hi hx r (fun s' I'=>⟨_,H,I',h⟩) hf)
def E6:Ms:=fun vs σ H Q=>vs=[]/\Q σ H
def Dy(t:TG)(u:Ms):Ms:=fun vs σ H Q=>∃v r,vs=v::r/\t v σ H fun σ' H'=>u r σ' H' Q
theorem yI:MF X [] E6:=by
 intro pr s σ H vs us Q I r h;obtain⟨e,h⟩:=h;subst e;cases r;exact assignInOrder_nil ⟨σ,H,I,h⟩
theorem wa{e:Expr}{es:List Expr}{t:TG}{u:Ms}(h1:PG X e t)(h2:MF X es u)
  (hs:(assignEach (e::es) X.env).map (·.2)=assign e X.env::(assignEach es X.env).map (·.2):=by rfl):MF X (e::es) (Dy t u):=by
 intro pr s σ H vs us Q I r h;obtain⟨v,vr,e1,h⟩:=h;subst e1;cases r with
 |cons r rr=>
  rw[hs];refine assignInOrder_cons (Gp (h1 pr s σ H _ _ _ I r h) fun _ s1 Gk=>?_);obtain⟨σ1,H1,I1,q1⟩:=Gk;exact h2 pr s1 σ1 H1 _ _ Q I1 rr q1
def E7(K:W.Frag)(n:Nat)(t:Ms):TG:=fun v σ H Q=>∃a xs,v=.ref a/\SqT K H a xs/\xs.length=n/\t xs σ H Q
theorem AV{es:List Expr}{k:Nat}{t:Ms}{n:Nat}(hc:X.calm=true)(h:MF X es t)
  (hn:(assignEach es X.env).length=n:=by rfl) (JF:(assignEach es X.env).findIdx? (·.1)=none:=by rfl):PG X (.Tuple es k pos) (E7 X.K n t):=by
 intro pr s σ H v u Q I r hw;obtain⟨a,xs,e1,hq,hl,hw⟩:=hw;subst e1;cases r;obtain⟨F6,rv,ht,hz⟩:=I.tuple hq;refine assign_Tuple_tuple (I.ok.hd hc) ht (by simp[hn,<-hl,rv.length]) JF fun h' hx=>?_
 have I1:Inv X pr σ H {s with heap:=h'}:=I.kept (t':=s.toks) fun b o e=>hx b o (Sl (R0 e)) e
 exact h pr _ σ H xs _ Q I1 (by simpa using rv) hw
def E8(te:TE)(g:TG):TS:=fun D σ H=>te σ H fun x H1=>g x σ H1 D.nx
theorem AX{i:Nat}{x:Str}{e:Expr}{te:TE}{pos':Pos}(hN:X.N.Nodup)(hi:X.N[i]?=some x)(hx:Loc X.env.scope x)(he:PE X e te)(hs:swapsWith e (some (.Name x pos')) pos.line X.env=pure false:=by rfl)(hf:X.fn x=true\/X.env.scope.names.lookup x=some .local:=by first|exact .inl rfl|exact .inr rfl|assumption):
  PS X (.Assign [.Name x pos'] e pos) (E8 te (AU i)):=by
 intro pr s σ H D I h;refine wpAny_Assign_Name (Gp (he pr s σ H _ I h) fun v s1 ⟨y,H1,I1,r1,q1⟩=>?_) hs;exact qa I1 hN hi hx r1 (fun s2 I2=>⟨_,H1,I2,q1⟩) hf
end
section
variable{X:Cx}{pos:Pos}
def AY(c:TT)(tb:TS):TS:=fun D σ H=>∃W:Nat->St->Hp->Prop,(∃m,W m σ H)/\∀m σ H,W m σ H->
 c σ H fun b H1=>if b=true then ∃N:St->Hp->Prop,(∀σ' H',N σ' H'->∃m',m'<m/\W m' σ' H')/\tb {D with nx:=N,ct:=N,bk:=D.nx} σ H1 else D.nx σ H1
theorem wb{c:Expr}{body:List Stmt}{tc:TT}{tb:TS}(hp:PassesOwn (model X.prog X.w) X.A X.env X.xe)(hc:PT X c tc)(hb:PSs X body tb):PS X (.While c body [] pos) (AY tc tb):=by
 intro pr s σ H D I h;obtain⟨W,⟨m0,w0⟩,turn⟩:=h;refine wpAny_While (codeAny_whileLoop (fun n s'=>∃σ' H',Inv X pr σ' H' s'/\W n σ' H') ?_ m0 ⟨σ,H,I,w0⟩);rintro n s1 ⟨σ1,H1,I1,w1⟩;refine Ur hp (Gp (hc pr s1 σ1 H1 _ I1 (turn n σ1 H1 w1)) fun b s2 Gk=>?_);obtain⟨H2,I2,q2⟩:=Gk;cases b with
 |true=>
  obtain⟨N,hN,q2⟩:=q2;rw[Sa rfl];refine Ur hp (Gp (hb pr s2 σ1 H2 _ I2 q2) fun f s3 q3=>?_);cases f with
  |next=>
   obtain⟨σ3,H3,I3,n3⟩:=q3;obtain⟨m',hm,w3⟩:=hN σ3 H3 n3;exact⟨m',hm,σ3,H3,I3,w3⟩
  |cont=>
   obtain⟨σ3,H3,I3,n3⟩:=q3;obtain⟨m',hm,w3⟩:=hN σ3 H3 n3;exact⟨m',hm,σ3,H3,I3,w3⟩
  |brk=>exact q3
  |ret v=>exact q3
 |false=>
  rw[Sf R4];exact VC ⟨σ1,H2,I2,q2⟩
end
structure It where
 go:Nat->Hp->Prop
 yld:Nat->Hp->V->Hp->Prop
 stop:Nat->Hp->Prop
def rh(X:Cx)(pr:List (Addr×Obj))(H:Hp)(b:Addr):Prop:=
 H b=none/\b≠X.env.locals/\b∉X.fs/\(b∈X.ex\/X.s₀.heap.objs.size<=b)/\(∀x c,X.env.cells.lookup x=some c->c≠b)/\∀p∈X.pn++pr,p.1≠b
theorem Inv.fpOk{X:Cx}{pr:List (Addr×Obj)}{σ:St}{H H':Hp}{s:Shared}{b:Addr}(I:Inv X pr σ H s)(hb:s.heap.objs.size<=b)(hn:H' b=none):rh X pr H' b:=by
 refine⟨hn,Ua (Sd I.lt hb),I.nofs hb,.inr (Ta I.sz hb),fun x c e z=>?_,fun p hp z=>?_⟩
 ·obtain⟨v,q⟩:=I.cell x c e;exact absurd (Sd q.lt (by rw[z];exact hb)) (T6 _)
 ·exact absurd (Sd (R0 (I.pin p hp).1) (by rw[z];exact hb)) (T6 _)
structure Turn(P:Program)(w:World)(K:W.Frag)(tg:Expr)(J:It)(fp:List Addr)(it:Addr)(tn:Nat->Heap->Prop):Prop where
 mem:it∈fp
 obj:∀i h,tn i h->∀b∈fp,∃o,h.get? b=some o/\∀v,o.data≠.cell v
 keep:∀i h h',tn i h->(∀b∈fp,∀o,h.get? b=some o->h'.get? b=some o)->tn i h'
 item:∀(X:Cx),X.prog=P->X.w=w->X.K=K->X.calm=true->∀(i:Nat) (pr:List (Addr×Obj)) (s:Shared) (σ:St) (H:Hp) (E:Value->Shared->Prop),Inv X pr σ H s->(∀b∈fp,rh X pr H b)->tn i s.heap->J.go i H->
  wpAny (model P w) X.A (pyNext (.ref it)) (fun r s1=>∃u,r=some u/\
   wpAny (model P w) X.A (letOwnedTupleGo tg (.ref it) u) (fun _ s2=>∃x H',Inv X pr σ H' s2/\RelV x u/\J.yld i H x H'/\tn (i+1) s2.heap/\∀b∈fp,H' b=none) E s1) E s
 done:∀(X:Cx),X.prog=P->X.w=w->X.K=K->X.calm=true->∀(i:Nat) (pr:List (Addr×Obj)) (s:Shared) (σ:St) (H:Hp) (E:Value->Shared->Prop),Inv X pr σ H s->(∀b∈fp,rh X pr H b)->tn i s.heap->J.stop i H->
  wpAny (model P w) X.A (pyNext (.ref it)) (fun r s1=>r=none/\Inv X pr σ H s1) E s
 self:∀(A:Around) (i:Nat) (s:Shared) (Q:Value->Shared->Prop) (E:Value->Shared->Prop),tn i s.heap->Q (.ref it) s->wpAny (model P w) A (pyIter (.ref it)) Q E s
abbrev TI:=St->Hp->(It->Hp->Prop)->Prop
def PR(X:Cx)(pr:List (Addr×Obj))(σ:St)(tg:Expr)(R:It->Hp->Prop)(Pc:Value)(s2:Shared):Prop:=
 ∃(it:Addr) (fp:List Addr) (tn:Nat->Heap->Prop) (J:It) (H':Hp),Pc=.ref it/\Inv X pr σ H' s2/\Turn X.prog X.w X.K tg J fp it tn/\tn 0 s2.heap/\(∀b∈fp,rh X pr H' b)/\R J H'
def PI(X:Cx)(tg iter:Expr)(wi:TI):Prop:=
 ∀(pr:List (Addr×Obj)) (s:Shared) (σ:St) (H:Hp) (R:It->Hp->Prop),Inv X pr σ H s->wi σ H R->
  wpAny (model X.prog X.w) X.A (eval iter X.env) (fun v s1=>wpAny (model X.prog X.w) X.A (pyIter v) (PR X pr σ tg R) X.xe s1) X.xe s
theorem sM {M : Model} {A : Around} {E : Value -> Shared -> Prop} {s : Shared} {tg : Expr} {it : Addr} {u : Value} {o : Obj} {n : String} {vs : Array Value} {Q : Unit -> Shared -> Prop} (ho : s.heap.get? it = some o) (hc : o.cls = .type n) (hd : o.data = .fields vs)
    (hn : ["enumerate", "zip", "dict_itemiterator", "dict_reverseitemiterator", "odict_iterator", "itertools.zip_longest", "itertools.pairwise"].contains n = false) (hQ : Q () s) : wpAny M A (letOwnedTupleGo tg (.ref it) u) Q E s := by
  unfold letOwnedTupleGo
  cases tg <;> first
    | exact RT hQ
    | (cases u <;> first
        | exact RT hQ
        | (refine RO (wpAny_load ho ?_)
           rw [hc, hd]
           show wpAny M A (if (["enumerate", "zip", "dict_itemiterator", "dict_reverseitemiterator", "odict_iterator", "itertools.zip_longest", "itertools.pairwise"].contains n && vs[0]? == some (rawInt _)) = true then _ else _) Q E s
           rw [Sf (by intro h; rw [hn, UD] at h; cases h)]
           exact RT hQ))
def Ny(K:W.Frag)(a:Addr):It:=
 ⟨fun i H=>∃xs x,SqL K H a xs/\xs[i]?=some x,fun i H x H'=>H'=H/\∀xs,SqL K H a xs->xs[i]?=some x,fun i H=>∃xs,SqL K H a xs/\xs.length<=i⟩
def PU(K:W.Frag)(a:Addr):It:=
 ⟨fun i H=>∃xs x,SqT K H a xs/\xs[i]?=some x,fun i H x H'=>H'=H/\∀xs,SqT K H a xs->xs[i]?=some x,fun i H=>∃xs,SqT K H a xs/\xs.length<=i⟩
def Pd(lo:Int)(n:Nat):It:=⟨fun i _=>i<n,fun i H x H'=>H'=H/\x=.int (lo+i),fun i _=>n<=i⟩
theorem sN{P:Program}{w:World}{K:W.Frag}{tg:Expr}(a it:Addr):Turn P w K tg (Ny K a) [it] it (fun i h=>h.IsListIter it a i) where
 mem:=by simp
 obj:=fun i h st b hb=>by
  have e:b=it:=by simpa using hb
  subst e;obtain⟨o,e,c,d⟩:=st;exact⟨o,e,fun v z=>by rw[d]at z;cases z⟩
 keep:=fun i h h' st k=>st.at fun o e=>k it (by simp) o e
 item:=by
  intro X hP hw hK hc i pr s σ H E I hf st hg;subst hP hw hK;obtain⟨xs,x,hq,hx⟩:=hg;obtain⟨F6,rv,p,hz⟩:=I.list hq;obtain⟨u,hu,ru⟩:=rv.get hx;obtain⟨f0,f1,f2,f3,f4,f5⟩:=hf it (by simp);refine wpAny_pyNext_list_item st p.isList (x:=u) (by simpa using hu) fun h' Im sb=>?_
  have I1:Inv X pr σ H {s with heap:=h'}:=I.turned (t':=s.toks) (fun b o hb e=>(sb.2 b hb).trans e) f0 f1 f3 f4 f5;obtain⟨o,e,c,d⟩:=id Im;exact⟨u,rfl,sM (s:={s with heap:=h'}) e c d (by decide) ⟨x,H,I1,ru,⟨rfl,fun ys hy=>by rw[I.list_inj hy hq];exact hx⟩,Im,fun b hb=>(hf b hb).1⟩⟩
 done:=by
  intro X hP hw hK hc i pr s σ H E I hf st hg;subst hP hw hK;obtain⟨xs,hq,hx⟩:=hg;obtain⟨F6,rv,p,hz⟩:=I.list hq;obtain⟨f0,f1,f2,f3,f4,f5⟩:=hf it (by simp);have hl:=rv.length;exact wpAny_pyNext_list_end (I.ok.hd hc) st p.isList (by simp;lia) fun h' eb=>⟨rfl,I.turned (t':=s.toks) (fun b o hb e=>eb b o hb e) f0 f1 f3 f4 f5⟩
 self:=fun _ _ _ _ _ st h=>wpAny_pyIter_listiter st h
theorem ri{P:Program}{w:World}{K:W.Frag}{tg:Expr}(a it:Addr):Turn P w K tg (PU K a) [it] it (fun i h=>h.IsTupleIter it a i) where
 mem:=by simp
 obj:=fun i h st b hb=>by
  have e:b=it:=by simpa using hb
  subst e;obtain⟨o,e,c,d⟩:=st;exact⟨o,e,fun v z=>by rw[d]at z;cases z⟩
 keep:=fun i h h' st k=>st.at fun o e=>k it (by simp) o e
 item:=by
  intro X hP hw hK hc i pr s σ H E I hf st hg;subst hP hw hK;obtain⟨xs,x,hq,hx⟩:=hg;obtain⟨F6,rv,p,hz⟩:=I.tuple hq;obtain⟨u,hu,ru⟩:=rv.get hx;obtain⟨f0,f1,f2,f3,f4,f5⟩:=hf it (by simp);refine wpAny_pyNext_tuple_item st (show s.heap.IsTuple a F6.toArray from p) (x:=u) (by simpa using hu) fun h' Im sb=>?_
  have I1:Inv X pr σ H {s with heap:=h'}:=I.turned (t':=s.toks) (fun b o hb e=>(sb.2 b hb).trans e) f0 f1 f3 f4 f5;obtain⟨o,e,c,d⟩:=id Im;exact⟨u,rfl,sM (s:={s with heap:=h'}) e c d (by decide) ⟨x,H,I1,ru,⟨rfl,fun ys hy=>by rw[I.tuple_inj hy hq];exact hx⟩,Im,fun b hb=>(hf b hb).1⟩⟩
 done:=by
  intro X hP hw hK hc i pr s σ H E I hf st hg;subst hP hw hK;obtain⟨xs,hq,hx⟩:=hg;obtain⟨F6,rv,p,hz⟩:=I.tuple hq;obtain⟨f0,f1,f2,f3,f4,f5⟩:=hf it (by simp);have hl:=rv.length;exact wpAny_pyNext_tuple_end (I.ok.hd hc) st (show s.heap.IsTuple a F6.toArray from p) (by simp;lia) fun h' eb=>⟨rfl,I.turned (t':=s.toks) (fun b o hb e=>eb b o hb e) f0 f1 f3 f4 f5⟩
 self:=fun _ _ _ _ _ st h=>wpAny_pyIter_tupleiter st h
theorem rj{P:Program}{w:World}{K:W.Frag}{tg:Expr}(it:Addr)(lo:Int)(n:Nat):Turn P w K tg (Pd lo n) [it] it (fun i h=>IsRangeIter h it (lo+(i:Nat)*1) ((n:Int)-(i:Nat)) 1) where
 mem:=by simp
 obj:=fun i h st b hb=>by
  have e:b=it:=by simpa using hb
  subst e;exact⟨_,st,fun v z=>by
   have z':Data.fields _=Data.cell v:=z;cases z'⟩
 keep:=fun i h h' st k=>k it (by simp) _ st
 item:=by
  intro X hP hw hK hc i pr s σ H E I hf st hg;subst hP hw hK;obtain⟨f0,f1,f2,f3,f4,f5⟩:=hf it (by simp);have W:=Walks.range (prog:=X.prog) (w:=X.w) (I.ok.hd hc) it lo 1 n;refine W.item i s _ _ hg st fun v h' tk hv Im kk=>?_
  obtain⟨t,rfl⟩:=hv;have I1:Inv X pr σ H {s with heap:=h',toks:=tk}:=I.turned (fun b o hb e=>kk b o (by simpa using hb) e) f0 f1 f3 f4 f5;refine⟨_,rfl,sM (s:={s with heap:=h',toks:=tk}) (n:="range_iterator") Im rfl rfl (by decide) ⟨.int (lo+i),H,I1,⟨t,?_⟩,⟨rfl,rfl⟩,Im,fun b hb=>(hf b hb).1⟩⟩;rw[Int.mul_one]
 done:=by
  intro X hP hw hK hc i pr s σ H E I hf st hg;subst hP hw hK;obtain⟨f0,f1,f2,f3,f4,f5⟩:=hf it (by simp);exact wpAny_pyNext_range_end (I.ok.hd hc) st (by have:n<=i:=hg;lia) fun h' eb=>⟨rfl,I.turned (t':=s.toks) (fun b o hb e=>eb b o hb e) f0 f1 f3 f4 f5⟩
 self:=fun _ _ _ _ _ st h=>wpAny_pyIter_rangeiter st h
section
variable{X:Cx}{tg:Expr}
def Dz(K:W.Frag)(tl:TE):TI:=fun σ H R=>tl σ H fun x H1=>∃a,x=.ref a/\(∃xs,SqL K H1 a xs)/\R (Ny K a) H1
def E9(K:W.Frag)(tl:TE):TI:=fun σ H R=>tl σ H fun x H1=>∃a,x=.ref a/\(∃xs,SqT K H1 a xs)/\R (PU K a) H1
theorem sO{l:Expr}{tl:TE}(hl:PE X l tl):PI X tg l (Dz X.K tl):=by
 intro pr s σ H R I h;refine Gp (hl pr s σ H _ I h) fun v s1 Gk=>?_
 obtain⟨x,H1,I1,r1,q1⟩:=Gk;obtain⟨a,e,⟨xs,hq⟩,q⟩:=q1;subst e;cases r1;obtain⟨F6,rv,p,hz⟩:=I1.list hq;refine Uc p.isList ?_;refine⟨s1.heap.objs.size,[s1.heap.objs.size],_,_,H1,rfl,I1.kept (t':=s1.toks) fun b o e=>RS _ e,sN a _,⟨_,R5 _ rfl,rfl,rfl⟩,fun b hb=>?_,q⟩;have e:b=s1.heap.objs.size:=by simpa using hb
 subst e;exact I1.fpOk (R1 _) (I1.hok.fresh (R1 _))
theorem AZ{l:Expr}{tl:TE}(hl:PE X l tl):PI X tg l (E9 X.K tl):=by
 intro pr s σ H R I h;refine Gp (hl pr s σ H _ I h) fun v s1 Gk=>?_
 obtain⟨x,H1,I1,r1,q1⟩:=Gk;obtain⟨a,e,⟨xs,hq⟩,q⟩:=q1;subst e;cases r1;obtain⟨F6,rv,p,hz⟩:=I1.tuple hq;refine S3 (show s1.heap.IsTuple a F6.toArray from p) ?_;refine⟨s1.heap.objs.size,[s1.heap.objs.size],_,_,H1,rfl,I1.kept (t':=s1.toks) fun b o e=>RS _ e,ri a _,⟨_,R5 _ rfl,rfl,rfl⟩,fun b hb=>?_,q⟩;have e:b=s1.heap.objs.size:=by simpa using hb
 subst e;exact I1.fpOk (R1 _) (I1.hok.fresh (R1 _))
theorem wc{pr:List (Addr×Obj)}{σ:St}{H:Hp}{s:Shared}{R:It->Hp->Prop}{E:Value->Shared->Prop}{lo hi:Int}{t u v:Tok}{tk:Nat}(I:Inv X pr σ H s)(h1:-(2 ^ 62)<=lo)(h2:lo<2 ^ 62)(h3:-(2 ^ 62)<=hi)(h4:hi<2 ^ 62)
  (q:R (Pd lo (hi-lo).toNat) H):wpAny (model X.prog X.w) X.A (pyIter (.ref s.heap.objs.size)) (PR X pr σ tg R) E {s with heap:=s.heap.push {cls:=.type "range",data:=.fields #[.int lo t,.int hi u,.int 1 v]},toks:=tk}:=by
 refine wpAny_pyIter_range (IsRange.new ..) (small_one h1 h2 h3 h4) ?_;have I1:Inv X pr σ H {s with heap:=s.heap.push {cls:=.type "range",data:=.fields #[.int lo t,.int hi u,.int 1 v]},toks:=tk}:=I.kept fun b o e=>RS _ e
 refine⟨(s.heap.push {cls:=.type "range",data:=.fields #[.int lo t,.int hi u,.int 1 v]}).objs.size,[(s.heap.push {cls:=.type "range",data:=.fields #[.int lo t,.int hi u,.int 1 v]}).objs.size],_,_,H,rfl,
  I1.kept (t':=tk) fun b o e=>RS _ e,rj _ lo (hi-lo).toNat,?_,fun b hb=>?_,q⟩
 ·have e1:lo+((0:Nat):Int)*1=lo:=by simp
  have e2:(((hi-lo).toNat:Nat):Int)-((0:Nat):Int)=Builtin.Range.rangeSize lo hi 1:=by rw[rangeSize_one];split <;> lia
  show IsRangeIter _ _ (lo+((0:Nat):Int)*1) ((((hi-lo).toNat:Nat):Int)-((0:Nat):Int)) 1;rw[e1,e2];exact R5 _ rfl
 ·have e:b=(s.heap.push {cls:=.type "range",data:=.fields #[.int lo t,.int hi u,.int 1 v]}).objs.size:=by simpa using hb
  subst e;exact I1.fpOk (R1 _) (I1.hok.fresh (R1 _))
def DA(ta:TA):TI:=fun σ H R=>ta σ H fun vs H1=>∃j:Int,vs=[.int j]/\-(2 ^ 62)<=j/\j<2 ^ 62/\R (Pd 0 j.toNat) H1
theorem sP{a:Expr}{ta:TA}{p pos:Pos}(hg:Gl X "range")(hm:X.mg "range" = none)(ha:PA X [a] ta)(hs:starEach [a] X.env=[(false,eval a X.env)]:=by rfl):PI X tg (.Call (.Name "range" p) [a] [] pos) (DA ta):=by
 intro pr s σ H R I h;refine Call_ (hZ I hg hm boot_range (SY (Gp (ha pos pr s σ H _ I h) fun us s1 ⟨vs,H1,I1,r1,q1⟩=>?_) hs rfl));obtain⟨j,e,q1,q2,q⟩:=q1;subst e;cases r1 with
 |cons r rr=>
  cases rr;obtain⟨t,rfl⟩:=r;exact call_range_1 (wc I1 (by lia) (by lia) q1 q2 (by simpa using q))
noncomputable def Fb(wi:TI)(g:TG)(tb:TS):TS:=fun D σ H=>wi σ H fun J H1=>∃W:Nat->Nat->St->Hp->Prop,(∃m,W 0 m σ H1)/\∀i m σ H,W i m σ H->
 (J.stop i H/\D.nx σ H)\/(J.go i H/\∃N:St->Hp->Prop,(∀σ' H',N σ' H'->∃m',m'<m/\W (i+1) m' σ' H')/\∀x H',J.yld i H x H'->g x σ H' fun σ2 H2=>tb {D with nx:=N,ct:=N,bk:=D.nx} σ2 H2)
def nF(fp:List Addr)(h:Heap):List (Addr×Obj):=fp.filterMap fun b=>(h.get? b).map fun o=>(b,o)
theorem gu{fp:List Addr}{h:Heap}{b:Addr}{o:Obj}(hb:b∈fp)(e:h.get? b=some o):(b,o)∈nF fp h:=W6.mpr ⟨b,hb,by rw[e];rfl⟩
theorem sQ{fp:List Addr}{h:Heap}{p:Addr×Obj}(hp:p∈nF fp h):p.1∈fp/\h.get? p.1=some p.2:=by
 obtain⟨b,hb,e⟩:=W6.mp hp;cases q:h.get? b with
 |none=>rw[q]at e;cases e
 |some o=>
  rw[q]at e;have e':(b,o)=p:=SX e;subst e';exact⟨hb,q⟩
theorem Inv.pinned{pr:List (Addr×Obj)}{σ:St}{H:Hp}{s:Shared}{fp:List Addr}(I:Inv X pr σ H s)(hf:∀b∈fp,rh X pr H b)(ho:∀b∈fp,∃o,s.heap.get? b=some o/\∀v,o.data≠.cell v):Inv X (pr++nF fp s.heap) σ H s:=
 I.pins_of fun p hp=>(Ss.mp hp).elim (fun z=>I.pin p (RX _ z)) fun z=>by
  obtain⟨hb,e⟩:=sQ z;obtain⟨f0,f1,f2,_⟩:=hf p.1 hb;obtain⟨o,e',d⟩:=ho p.1 hb;rw[e]at e';cases e';exact⟨e,f0,f1,f2,d⟩
theorem Inv.unpinned{pr pl:List (Addr×Obj)}{σ:St}{H:Hp}{s:Shared}(I:Inv X (pr++pl) σ H s):Inv X pr σ H s:=I.pins_of fun p hp=>I.pin p (RX _ (R9 _ hp))
theorem A4{iter:Expr}{body:List Stmt}{wi:TI}{g:TG}{tb:TS}{pos:Pos}(hp:PassesOwn (model X.prog X.w) X.A X.env X.xe)(hc:X.calm=true)(hi:PI X tg iter wi)(hg:PG X tg g)(hb:PSs X body tb)
  (hs:∀x,foldedSetIterable iter X.env x=pure x:=by intro _;rfl):PS X (.For tg iter body [] pos) (Fb wi g tb):=by
 intro pr s σ H D I h;refine wpAny_For (Gp (hi pr s σ H _ I h) fun v s1 h1=>Gp h1 fun Pc s2 h2=>?_) hs;obtain⟨it,fp,tn,J,H2,e,I2,T,F8,f2,W,⟨m0,w0⟩,turn⟩:=h2;subst e;have JS:∀{H':Hp},(∀b∈fp,H' b=none)->∀b∈fp,rh X pr H' b:=fun hn b hb=>⟨hn b hb,(f2 b hb).2⟩
 refine codeAny_forLoop_any (fun n s'=>∃i σ' H',Inv X pr σ' H' s'/\tn i s'.heap/\(∀b∈fp,H' b=none)/\W i n σ' H') ?_ m0 ⟨0,σ,H2,I2,F8,fun b hb=>(f2 b hb).1,w0⟩;rintro n s3 ⟨i,σ3,H3,I3,GA,NU,w3⟩;rcases turn i n σ3 H3 w3 with⟨stop,qn⟩|⟨go,N,hN,step⟩
 ·refine Ur hp (Gp (T.done X rfl rfl rfl hc i pr s3 σ3 H3 X.xe I3 (JS NU) GA stop) fun r s4 Gk=>?_);obtain⟨hr,I4⟩:=Gk;subst hr;exact VC ⟨σ3,H3,I4,qn⟩
 ·refine Ur hp (Gp (T.item X rfl rfl rfl hc i pr s3 σ3 H3 X.xe I3 (JS NU) GA go) fun r s4 Gk=>?_);obtain⟨u,hr,h4⟩:=Gk;subst hr;refine Ur hp (Gp h4 fun _ s5 Gk=>?_);obtain⟨x,H5,I5,r5,y5,Iz,PX⟩:=Gk;have PY:=I5.pinned (JS PX) (T.obj _ _ Iz);refine Ur hp (Gp (hg _ s5 σ3 H5 x u _ PY r5 (step x H5 y5)) fun _ s6 Gk=>?_);obtain⟨σ6,H6,I6,q6⟩:=Gk;refine Ur hp (Gp (hb _ s6 σ6 H6 _ I6 q6) fun f s7 q7=>?_);have again:∀{σ7:St}{H7:Hp},Inv X (pr++nF fp s5.heap) σ7 H7 s7->N σ7 H7->∃m,m<n/\∃i σ' H',Inv X pr σ' H' s7/\tn i s7.heap/\(∀b∈fp,H' b=none)/\W i m σ' H':=fun{σ7 H7} I7 n7=>by
   obtain⟨m',hm,w7⟩:=hN σ7 H7 n7;refine⟨m',hm,i+1,σ7,H7,I7.unpinned,T.keep _ _ _ Iz fun b hb o e=>(I7.pin (b,o) (RX _ (RX _ (gu hb e)))).1,fun b hb=>?_,w7⟩;obtain⟨o,e,d⟩:=T.obj _ _ Iz b hb;exact(I7.pin (b,o) (RX _ (RX _ (gu hb e)))).2.1
  cases f with
  |next=>obtain⟨σ7,H7,I7,n7⟩:=q7;exact again I7 n7
  |cont=>obtain⟨σ7,H7,I7,n7⟩:=q7;exact again I7 n7
  |brk=>obtain⟨σ7,H7,I7,q7⟩:=q7;exact⟨σ7,H7,I7.unpinned,q7⟩
  |ret v=>obtain⟨x7,σ7,H7,I7,r7,q7⟩:=q7;exact⟨x7,σ7,H7,I7.unpinned,r7,q7⟩
end
theorem for_list{K:W.Frag}{a:Addr}{xs:List V}{g:TG}{tb:TS}{D:Ends}{σ:St}{H:Hp}(Pv:Nat->St->Hp->Prop)(h0:Pv 0 σ H)(hl:∀i σ H,i<=xs.length->Pv i σ H->SqL K H a xs)
  (hs:∀i x σ H,xs[i]?=some x->Pv i σ H->g x σ H fun σ2 H2=>tb {D with nx:=Pv (i+1),ct:=Pv (i+1),bk:=D.nx} σ2 H2) (hd:∀σ H,Pv xs.length σ H->D.nx σ H):
  ∃W:Nat->Nat->St->Hp->Prop,(∃m,W 0 m σ H)/\∀i m σ H,W i m σ H->
   ((Ny K a).stop i H/\D.nx σ H)\/((Ny K a).go i H/\∃N:St->Hp->Prop,(∀σ' H',N σ' H'->∃m',m'<m/\W (i+1) m' σ' H')/\∀x H',(Ny K a).yld i H x H'->g x σ H' fun σ2 H2=>tb {D with nx:=N,ct:=N,bk:=D.nx} σ2 H2):=by
 refine⟨fun i m σ H=>m=xs.length-i/\i<=xs.length/\Pv i σ H,⟨xs.length,by simp,Tu _,h0⟩,?_⟩;rintro i m σ H ⟨rfl,hi,p⟩;have q:=hl i σ H hi p;by_cases He:i<xs.length
 ·refine .inr ⟨⟨xs,xs[i],q,by simp[He]⟩,Pv (i+1),fun σ' H' p'=>⟨xs.length-(i+1),by lia,rfl,He,p'⟩,fun x H' y=>?_⟩;obtain⟨e,y⟩:=y;subst e;exact hs i x σ _ (y xs q) p
 ·have e:i=xs.length:=by lia
  subst e;exact .inl ⟨⟨xs,q,R1 _⟩,hd σ H p⟩
abbrev R2:=V->V->Hp->VK->Prop
def GH(X:Cx)(f:Value->Value->Sem Value)(r:R2):Prop:=
 ∀(pr:List (Addr×Obj)) (s:Shared) (σ:St) (H:Hp) (x y:V) (v u:Value) (Q:VK),Inv X pr σ H s->RelV x v->RelV y u->r x y H Q->
  wpAny (model X.prog X.w) X.A (f v u) (EP X pr σ Q) X.xe s
def PZ(X:Cx)(f:Value->Sem Value)(r:V->Hp->VK->Prop):Prop:=
 ∀(pr:List (Addr×Obj)) (s:Shared) (σ:St) (H:Hp) (x:V) (v:Value) (Q:VK),Inv X pr σ H s->RelV x v->r x H Q->
  wpAny (model X.prog X.w) X.A (f v) (EP X pr σ Q) X.xe s
def cU(X:Cx)(f:Value)(r:List V->Hp->VK->Prop):Prop:=
 ∀(pr:List (Addr×Obj)) (s:Shared) (σ:St) (H:Hp) (xs:List V) (us:List Value) (Q:VK),Inv X pr σ H s->Vals xs us->r xs H Q->
  wpAny (model X.prog X.w) X.A (call f us) (EP X pr σ Q) X.xe s
def Nz(r:R2)(ta tb:TE):TE:=fun σ H Q=>ta σ H fun x H1=>tb σ H1 fun y H2=>r x y H2 Q
def tUn(r:V->Hp->VK->Prop)(ta:TE):TE:=fun σ H Q=>ta σ H fun x H1=>r x H1 Q
def rI(C:Int->Int->Prop)(g:Int->Int->V):R2:=fun x y H Q=>∃i j,x=.int i/\y=.int j/\C i j/\Q (g i j) H
def MG(g:Int->Int->V):R2:=fun x y H Q=>∃i j,x=.int i/\y=.int j/\Q (g i j) H
def rU(g:Int->V):V->Hp->VK->Prop:=fun x H Q=>∃i,x=.int i/\Q (g i) H
section
variable{X:Cx}{a b c:Expr}{ta tb tc:TE}{pos:Pos}
theorem DB(ha:PE X a ta)(hb:PE X b tb){pr:List (Addr×Obj)}{s:Shared}{σ:St}{H:Hp}{R:V->V->Hp->Prop}(I:Inv X pr σ H s)
  (h:ta σ H fun x H1=>tb σ H1 fun y H2=>R x y H2) {Q:Value->Shared->Prop}{f:Value->Value->Sem Value}
  (hf:∀v u s2 x y H2,Inv X pr σ H2 s2->RelV x v->RelV y u->R x y H2->wpAny (model X.prog X.w) X.A (f v u) Q X.xe s2):
  wpAny (model X.prog X.w) X.A (eval a X.env) (fun v s₁=>wpAny (model X.prog X.w) X.A (eval b X.env) (fun u s₂=>wpAny (model X.prog X.w) X.A (f v u) Q X.xe s₂) X.xe s₁) X.xe s:=by
 refine Gp (ha pr s σ H _ I h) fun v s1 Gk=>?_
 obtain⟨x,H1,I1,r1,q1⟩:=Gk;refine Gp (hb pr s1 σ H1 _ I1 q1) fun u s2 Gk=>?_
 obtain⟨y,H2,I2,r2,q2⟩:=Gk;exact hf v u s2 x y H2 I2 r1 r2 q2
theorem DD{op:Operator}{r:R2}(ho:GH X (binaryOp op) r)(ha:PE X a ta)(hb:PE X b tb):PE X (.BinOp a op b pos) (Nz r ta tb):=by
 intro pr s σ H Q I h;exact wpAny_BinOp (DB ha hb I h fun v u s2 x y H2 I2 rx ry q=>ho pr s2 σ H2 x y v u Q I2 rx ry q)
theorem DE{op:UnaryOp}{r:V->Hp->VK->Prop}(ho:PZ X (unaryOp op) r)(ha:PE X a ta):PE X (.UnaryOp op a pos) (tUn r ta):=by
 intro pr s σ H Q I h;exact UnaryOp_ (Gp (ha pr s σ H _ I h) fun v s1 ⟨x,H1,I1,r1,q1⟩=>ho pr s1 σ H1 x v Q I1 r1 q1)
theorem NV{f:Value->Value->Sem Value}{C:Int->Int->Prop}{g:Int->Int->Int}
  (rule:∀(i j:Int) (t u:Tok) (s:Shared) (Q:Value->Shared->Prop) (E:Value->Shared->Prop),C i j->Q (.int (g i j) s.toks) {s with toks:=s.toks+1}->wpAny (model X.prog X.w) X.A (f (.int i t) (.int j u)) Q E s):
  GH X f (rI C fun i j=>.int (g i j)):=by
 intro pr s σ H x y v u Q I rx ry h;obtain⟨i,j,rfl,rfl,hc,q⟩:=h;obtain⟨t,rfl⟩:=rx;obtain⟨t',rfl⟩:=ry;exact rule i j t t' s _ _ hc ⟨.int (g i j),H,I.tok _,⟨_,rfl⟩,q⟩
theorem EE{f:Value->Value->Sem Value}{g:Int->Int->Int}
  (rule:∀(i j:Int) (t u:Tok) (s:Shared) (Q:Value->Shared->Prop) (E:Value->Shared->Prop),Q (.int (g i j) s.toks) {s with toks:=s.toks+1}->wpAny (model X.prog X.w) X.A (f (.int i t) (.int j u)) Q E s):
  GH X f (MG fun i j=>.int (g i j)):=by
 intro pr s σ H x y v u Q I rx ry h;obtain⟨i,j,rfl,rfl,q⟩:=h;obtain⟨t,rfl⟩:=rx;obtain⟨t',rfl⟩:=ry;exact rule i j t t' s _ _ ⟨.int (g i j),H,I.tok _,⟨_,rfl⟩,q⟩
theorem DF{f:Value->Value->Sem Value}{g:Int->Int->Bool}
  (rule:∀(i j:Int) (t u:Tok) (s:Shared) (Q:Value->Shared->Prop) (E:Value->Shared->Prop),Q (.bool (g i j)) s->wpAny (model X.prog X.w) X.A (f (.int i t) (.int j u)) Q E s):
  GH X f (MG fun i j=>.bl (g i j)):=by
 intro pr s σ H x y v u Q I rx ry h;obtain⟨i,j,rfl,rfl,q⟩:=h;obtain⟨t,rfl⟩:=rx;obtain⟨t',rfl⟩:=ry;exact rule i j t t' s _ _ ⟨.bl (g i j),H,I,rfl,q⟩
def Fc(i j:Int):Prop:=0<j/\j<1073741824
def Fd(i j:Int):Prop:=0<=j/\j<=1000000/\i.natAbs<2 ^ 64
def CMul(i j:Int):Prop:=(-(2 ^ 64)<i/\i<2 ^ 64)\/(-(2 ^ 64)<j/\j<2 ^ 64)
theorem CMul.ok{i j:Int}(h:CMul i j):IntMulOk i j:=by
 rcases h with⟨h1,h2⟩|⟨h1,h2⟩
 ·exact .of_left (intBits_le_64 h1 h2)
 ·exact .of_right (intBits_le_64 h1 h2)
theorem A7:GH X (binaryOp .Add) (MG fun i j=>.int (i+j)):=EE fun _ _ _ _ _ _ _ q=>add_int q
theorem A8:GH X (binaryOp .Sub) (MG fun i j=>.int (i-j)):=EE fun _ _ _ _ _ _ _ q=>sub_int q
theorem Ba:GH X (binaryOp .Mult) (rI CMul fun i j=>.int (i*j)):=NV fun _ _ _ _ _ _ _ hc q=>mul_int q hc.ok
theorem yJ:GH X (binaryOp .FloorDiv) (rI Fc fun i j=>.int (i / j)):=NV fun i j _ _ _ _ _ hc q=>by
 have h1:(0:Int)<j:=hc.1;have h2:j<1073741824:=hc.2;exact floordiv_int (by lia) (by rw[Int.fdiv_eq_ediv_of_nonneg i (by lia)];exact q) (.inl (PyProof.noPylong_small (by lia)))
theorem Bb:GH X (binaryOp .Mod) (rI (fun _ j=>0<j) fun i j=>.int (i%j)):=NV fun i j _ _ _ _ _ hc q=>by
 have h1:(0:Int)<j:=hc;exact mod_int' (by lia) (by rw[Int.fmod_eq_emod_of_nonneg i (by lia)];exact q)
theorem Bc:GH X (binaryOp .Pow) (rI Fd fun i j=>.int (i ^ j.toNat)):=NV fun _ _ _ _ _ _ _ hc q=>pow_int_small hc.1 hc.2.1 hc.2.2 q
theorem unI{f:Value->Sem Value}{g:Int->Int}
  (rule:∀(i:Int) (t:Tok) (s:Shared) (Q:Value->Shared->Prop) (E:Value->Shared->Prop),Q (.int (g i) s.toks) {s with toks:=s.toks+1}->wpAny (model X.prog X.w) X.A (f (.int i t)) Q E s):
  PZ X f (rU fun i=>.int (g i)):=by
 intro pr s σ H x v Q I rx h;obtain⟨i,rfl,q⟩:=h;obtain⟨t,rfl⟩:=rx;exact rule i t s _ _ ⟨.int (g i),H,I.tok _,⟨_,rfl⟩,q⟩
theorem Bd:PZ X (unaryOp .USub) (rU fun i=>.int (-i)):=unI fun _ _ _ _ _ q=>neg_int q
end
section
variable{X:Cx}{a b c:Expr}{ta tb tc:TE}{pos:Pos}
theorem qb{pr:List (Addr×Obj)}{σ:St}{H:Hp}{s:Shared}{Q:VK}{k k':Bool}(I:Inv X pr σ H s)(q:Q (.bl k) H)(e:k=k'):EP X pr σ Q (.bool k') s:=by
 subst e;exact⟨.bl k,H,I,rfl,q⟩
theorem DH:GH X (compareOp .Lt) (MG fun i j=>.bl (decide (i<j))):=DF fun _ _ _ _ _ _ _ q=>lt_int q
theorem DI:GH X (compareOp .LtE) (MG fun i j=>.bl (decide (i<=j))):=DF fun _ _ _ _ _ _ _ q=>le_int q
theorem DJ:GH X (compareOp .Gt) (MG fun i j=>.bl (decide (j<i))):=DF fun _ _ _ _ _ _ _ q=>gt_int q
theorem sR:GH X (compareOp .Lt) (fun x y H Q=>∃i j,x=.str i/\y=.str j/\Q (.bl (decide (i.cps.toList<j.cps.toList))) H):=by
 intro pr s σ H x y v u Q I rx ry h;obtain⟨i,j,rfl,rfl,q⟩:=h;obtain⟨t,rfl⟩:=rx;obtain⟨t',rfl⟩:=ry;exact lt_str (qb I q rfl)
theorem sS:GH X (compareOp .In) (fun x y H Q=>∃i j,x=.str i/\y=.str j/\Q (.bl (!(Builtin.Str.occurrences j i 0 j.length 1).isEmpty)) H):=by
 intro pr s σ H x y v u Q I rx ry h;obtain⟨i,j,rfl,rfl,q⟩:=h;obtain⟨t,rfl⟩:=rx;obtain⟨t',rfl⟩:=ry;exact in_str (qb I q rfl)
theorem nG:GH X (compareOp .NotIn) (fun x y H Q=>∃i j,x=.str i/\y=.str j/\Q (.bl (!(!(Builtin.Str.occurrences j i 0 j.length 1).isEmpty))) H):=by
 intro pr s σ H x y v u Q I rx ry h;obtain⟨i,j,rfl,rfl,q⟩:=h;obtain⟨t,rfl⟩:=rx;obtain⟨t',rfl⟩:=ry;exact notIn_str (qb I q rfl)
theorem aY(b:Expr){op:CmpOp}(h:op≠.In:=by decide)(h2:op≠.NotIn:=by decide):behindInMarks op b=false:=by
 have e1:(op==CmpOp.In)=false:=by cases op <;> first|rfl|exact absurd rfl h
 have e2:(op==CmpOp.NotIn)=false:=by cases op <;> first|rfl|exact absurd rfl h2
 cases b <;> simp[behindInMarks,e1,e2]
theorem sT{op:CmpOp}{r:R2}(ho:GH X (compareOp op) r)(ha:PE X a ta)(hb:PE X b tb)(hm:behindInMarks op b=false):PE X (.Compare a [op] [b] pos) (Nz r ta tb):=by
 intro pr s σ H Q I h;exact wpAny_Compare1 (DB ha hb I h fun v u s2 x y H2 I2 rx ry q=>ho pr s2 σ H2 x y v u Q I2 rx ry q) hm
def Be(t:TE):TT:=fun σ H Q=>t σ H fun x H'=>∃k,x=.bl k/\Q k H'
theorem sU{op:CmpOp}{r:R2}(ho:GH X (compareOp op) r)(ha:PE X a ta)(hb:PE X b tb)(hm:behindInMarks op b=false):PT X (.Compare a [op] [b] pos) (Be (Nz r ta tb)):=by
 intro pr s σ H Q I h;refine wpAny_isTrue_Compare1 (Gp (ha pr s σ H _ I h) fun v s1 ⟨x,H1,I1,r1,q1⟩=>Gp (hb pr s1 σ H1 _ I1 q1) fun u s2 ⟨y,H2,I2,r2,q2⟩=>
  Gp (ho pr s2 σ H2 x y v u _ I2 r1 r2 q2) fun c s3 ⟨z,H3,I3,r3,k,e,q3⟩=>?_) hm
 subst e;cases r3;exact TB ⟨H3,I3,q3⟩
def sV(r r':R2)(ta tb tc:TE):TE:=fun σ H Q=>ta σ H fun x H1=>tb σ H1 fun y H2=>r x y H2 fun z H3=>∃k,z=.bl k/\
 (if k=true then tc σ H3 fun w' H4=>r' y w' H4 Q else Q (.bl false) H3)
theorem we{op JC:CmpOp}{r r':R2}(ho:GH X (compareOp op) r)(JE:GH X (compareOp JC) r')(ha:PE X a ta)(hb:PE X b tb)(hc:PE X c tc)
  (hm:lastMarks [op,JC] [b,c]=false:=by with_unfolding_all rfl):PE X (.Compare a [op,JC] [b,c] pos) (sV r r' ta tb tc):=by
 intro pr s σ H Q I h;refine Compare_chain (Gp (ha pr s σ H _ I h) fun v s1 ⟨x,H1,I1,r1,q1⟩=>chain_link (Gp (hb pr s1 σ H1 _ I1 q1) fun u s2 ⟨y,H2,I2,r2,q2⟩=>
  Gp (ho pr s2 σ H2 x y v u _ I2 r1 r2 q2) fun d s3 ⟨z,H3,I3,r3,k,e,q3⟩=>?_)) hm
 subst e;cases r3;refine TB ?_;cases k with
 |false=>exact ite_ff ⟨.bl false,H3,I3,rfl,q3⟩
 |true=>exact ite_tt (chain_last (Gp (hc pr s3 σ H3 _ I3 q3) fun w' s4 ⟨z',H4,I4,r4,q4⟩=>JE pr s4 σ H4 y z' u w' Q I4 r2 r4 q4))
theorem wg{op JC:CmpOp}{r r':R2}(ho:GH X (compareOp op) r)(JE:GH X (compareOp JC) r')(ha:PE X a ta)(hb:PE X b tb)(hc:PE X c tc)
  (hm:lastMarks [op,JC] [b,c]=false:=by with_unfolding_all rfl):PT X (.Compare a [op,JC] [b,c] pos) (Be (sV r r' ta tb tc)):=by
 intro pr s σ H Q I h;refine isTrue_chain (Gp (ha pr s σ H _ I h) fun v s1 ⟨x,H1,I1,r1,q1⟩=>test_link (Gp (hb pr s1 σ H1 _ I1 q1) fun u s2 ⟨y,H2,I2,r2,q2⟩=>
  Gp (ho pr s2 σ H2 x y v u _ I2 r1 r2 q2) fun d s3 ⟨z,H3,I3,r3,k,e,q3⟩=>?_)) hm
 subst e;cases r3;refine TB ?_;cases k with
 |false=>
  obtain⟨k',e',q'⟩:=q3;cases e';exact ite_ff ⟨H3,I3,q'⟩
 |true=>
  refine ite_tt (test_last (Gp (hc pr s3 σ H3 _ I3 q3) fun w' s4 ⟨z',H4,I4,r4,q4⟩=>Gp (JE pr s4 σ H4 y z' u w' _ I4 r2 r4 q4) fun d' s5 Gk=>?_));obtain⟨z2,H5,I5,r5,k2,e2,q5⟩:=Gk;subst e2;cases r5;exact TB ⟨H5,I5,q5⟩
theorem nH:(sizeLine:Nat)<2 ^ 63:=by rw[Tc];decide
theorem rk:GH X (binaryOp .Add) (fun x y H Q=>∃i j,x=.str i/\y=.str j/\i.length+j.length<=sizeLine/\Q (.str (i++j)) H):=by
 intro pr s σ H x y v u Q I rx ry h;obtain⟨i,j,rfl,rfl,hz,q⟩:=h;obtain⟨t,rfl⟩:=rx;obtain⟨t',rfl⟩:=ry;exact add_str (fun t' tk=>⟨.str (i++j),H,I.tok _,⟨_,rfl⟩,q⟩) hz
theorem fE{x:V}{us:List Value}(r:Vals [x] us):∃u,us=[u]/\RelV x u:=by
 cases r with
 |cons r1 r2=>cases r2;exact⟨_,rfl,r1⟩
theorem yK{x y:V}{us:List Value}(r:Vals [x,y] us):∃u w',us=[u,w']/\RelV x u/\RelV y w':=by
 cases r with
 |cons r1 r2=>
  cases r2 with
  |cons r3 r4=>cases r4;exact⟨_,_,rfl,r1,r3⟩
theorem sW(hc:X.calm=true):cU X (.builtin "min") (fun xs H Q=>∃i j,xs=[.int i,.int j]/\Q (.int (if j<i then j else i)) H):=by
 intro pr s σ H xs us Q I r h;obtain⟨i,j,rfl,q⟩:=h;obtain⟨u,w',rfl,⟨t,rfl⟩,⟨t',rfl⟩⟩:=yK r;refine min_two_ints (I.ok.hd hc) fun h' tk k=>⟨_,H,I.kept k,?_,q⟩
 by_cases hj:j<i
 ·rw[Sa hj,Sa hj];exact⟨_,rfl⟩
 ·rw[Sf hj,Sf hj];exact⟨_,rfl⟩
end
section
variable{prog:Program}{w:World}{A:Around}{E:Value->Shared->Prop}{s:Shared}{K:W.Frag}{x dx C f:Addr}{mA:Str->Option Value}{name:Str}{v:Value}
end
theorem RelO.none_of{o:Option Value}(r:RelO none o):o=none:=by
 cases o with
 |none=>rfl
 |some u=>exact(show False from r).elim
section
variable{P:Program}{w:World}{H H':Hp}{h h':Heap}{a C dx:Addr}{fs fs':List (Str×V)}
end
structure Cls(K:W.Frag)(C:Addr):Prop where
 pg:PySem.W.plainGet K C Str.empty=true
 hd:PySem.W.hasDictIn K C=true
 po:PySem.W.plainOver K C=true
 sa:PySem.W.findIn K (.ref C) "__setattr__" = some (some (.builtin "object.__setattr__"))
theorem Cls.get{K:W.Frag}{C:Addr}(c:Cls K C)(f:Str):PySem.W.plainGet K C f=true:=c.pg
section
variable{X:Cx}{pr:List (Addr×Obj)}{σ:St}{H:Hp}{s:Shared}{a C dx:Addr}{fs:List (Str×V)}{f:Str}{v:V}{A:Around}{E:Value->Shared->Prop}
end
section
variable{X:Cx}{o e value:Expr}{f:Str}{pos pos' MH:Pos}{ta tv:TE}
end
section
variable{X:Cx}{pr:List (Addr×Obj)}{σ:St}{H:Hp}{s:Shared}{A:Around}{E:Value->Shared->Prop}{Q:Value->Shared->Prop}{c:Value}{b:Bool}
end
structure Room(k:Nat)(A:Around):Prop where
 hd:A.handled=none
 dp:A.depth+3*k+5<recursionLimit
 un:A.units+16*k+200<cLine
theorem Room.mono{j k:Nat}{A:Around}(r:Room k A)(h:j<=k):Room j A:=⟨r.hd,by have:=r.dp;lia,by have:=r.un;lia⟩
theorem Room.m{j k:Nat}{A:Around}(r:Room k A)(h:j<=k:=by decide):Room j A:=r.mono h
theorem Room.deeper{k:Nat}{A:Around}(r:Room (k+1) A)(env:Env):Room k (A.deeper env):=
 ⟨r.hd,by have:=r.dp;show A.depth+1+3*k+5<_;lia,by have:=r.un;show A.units+3+16*k+200<_;lia⟩
theorem Room.depth{k:Nat}{A:Around}(r:Room k A):A.depth<recursionLimit:=by have:=r.dp;lia
theorem Room.units{k:Nat}{A:Around}(r:Room k A):A.units+64<cLine:=by have:=r.un;lia
theorem Room.units0{k:Nat}{A:Around}(r:Room k A):A.units<cLine:=by have:=r.un;lia
def Fe:TA:=fun _ H Q=>Q [] H
def DK(ta:TE)(tr:TA):TA:=fun σ H Q=>ta σ H fun x H1=>tr σ H1 fun xs H2=>Q (x::xs) H2
section
variable{X:Cx}{e:Expr}{es:List Expr}{te:TE}{t:TA}{pos:Pos}
theorem jS:PA X [] Fe:=fun _ _ _ _ H Q I h=>VZ ⟨[],H,I,.nil,h⟩
theorem eK(ha:PE X e te)(hr:PA X es t)(hs:starEach (e::es) X.env=(false,eval e X.env)::starEach es X.env:=by rfl):PA X (e::es) (DK te t):=by
 intro pos pr s σ H Q I h;rw[hs];show wpAny _ _ (spliced ((false,eval e X.env)::backTo pos (starEach es X.env))) _ _ s;refine U5 (Gp (ha pr s σ H _ I h) fun u s1 Gk=>?_);obtain⟨x,H1,I1,r1,q1⟩:=Gk;exact Gp (hr pos pr s1 σ H1 _ I1 q1) fun us s2 ⟨xs,H2,I2,r2,q2⟩=>⟨x::xs,H2,I2,.cons r1 r2,q2⟩
def Ff(t:TA):TE:=fun σ H Q=>t σ H fun xs H1=>xs.length<=sizeLine/\∀p,H1 p=none->Q (.ref p) (upd H1 p (.tup xs))
def Fg(t:TA):TE:=fun σ H Q=>t σ H fun xs H1=>xs.length<=sizeLine/\∀p,H1 p=none->Q (.ref p) (upd H1 p (.lst xs))
theorem xD{x1}(h:PA X es t):PE X (.Tuple es x1 pos) (Ff t):=by
 intro pr s σ H Q I hq;refine wpAny_Tuple_spliced (Gp (h pos pr s σ H _ I hq) fun us s1 ⟨xs,H1,I1,r,z,q⟩=>⟨by rw[<-r.length];exact z,?_⟩);have hf:H1 s1.heap.objs.size=none:=I1.hok.fresh (R1 _);refine⟨.ref s1.heap.objs.size,upd H1 s1.heap.objs.size (.tup xs),I1.laid (t':=s1.toks) (fun b u e=>RS _ e) (R1 _) ?_,rfl,q _ hf⟩;exact⟨z,us,r,⟨_,R5 _ rfl,rfl,⟨_,rfl⟩,rfl⟩⟩
theorem xE(h:PA X es t):PE X (.List es pos) (Fg t):=by
 intro pr s σ H Q I hq;refine wpAny_List_spliced (Gp (h pos pr s σ H _ I hq) fun us s1 ⟨xs,H1,I1,r,z,q⟩=>⟨by rw[<-r.length];exact z,?_⟩);have hf:H1 s1.heap.objs.size=none:=I1.hok.fresh (R1 _);refine⟨.ref s1.heap.objs.size,upd H1 s1.heap.objs.size (.lst xs),I1.laid (t':=s1.toks) (fun b u e=>RS _ e) (R1 _) ?_,rfl,q _ hf⟩;exact⟨z,us,0,r,R5 _ rfl⟩
end
abbrev Sp:=List V->Hp->VK->XK->Prop
abbrev CXT:=List Env->Hp->Shared->XK->Value->Shared->Prop
structure Env0(P:Program)(w:World)(K:W.Frag)(mg:Str->Option Value)(base:Heap)(A:Around)(outer:List Env)(s:Shared)(H:Hp):Prop where
 frames:A.frames=some outer
 mod:Mod K mg base
 bs:∀b o,base.get? b=some o->s.heap.get? b=some o/\H b=none
 bsz:base.objs.size<=s.heap.objs.size
 funs:s.heap.FunFrames base outer
 frf:∀b∈Kf outer,H b=none
 hok:HOk P w H s.heap
 bare:AllBare s.gens
def CE(outer:List Env)(P:Program)(w:World)(H:Hp)(s:Shared)(Q:VK)(u:Value)(s':Shared):Prop:=
 ∃v H',s'.os=s.os/\AllBare s'.gens/\Un (Kf outer) [] H H' s.heap s'.heap/\HOk P w H' s'.heap/\RelV v u/\Q v H'
def CR(CX:CXT)(outer:List Env)(P:Program)(w:World)(H:Hp)(s:Shared)(Q:VK)(E:XK)(r:Result)(s':Shared):Prop:=
 match r with
 | .ok (.ret u)=>CE outer P w H s Q u s'
 | .ok _=>False
 | .error e=>CX outer H s E e s'
structure FnOk(P:Program)(w:World)(K:W.Frag)(mg:Str->Option Value)(base:Heap)(CX:CXT)(k:Nat)(f:Addr)(fd:FuncData)(ps:List Str)(sp:Sp):Prop where
 len:∀vs H Q E,sp vs H Q E->vs.length=ps.length
 run:∀(A:Around) (outer:List Env) (s:Shared) (H:Hp) (args:Args) (us:List Value) (vs:List V) (Q:VK) (E:XK),Room k A->Env0 P w K mg base A outer s H->BindsTo s fd args (ps.zip us)->Vals vs us->sp vs H Q E->
  codeAny (model P w) A (.call (.ref f) args) (CR CX outer P w H s Q E) s
theorem FnOk.imp{P:Program}{w:World}{K:W.Frag}{mg:Str->Option Value}{base:Heap}{CX:CXT}{k:Nat}{f:Addr}{fd:FuncData}{ps:List Str}{sp Ra:Sp}(F:FnOk P w K mg base CX k f fd ps sp)
  (h:∀vs H Q E,Ra vs H Q E->sp vs H Q E):FnOk P w K mg base CX k f fd ps Ra:=
 ⟨fun vs H Q E q=>F.len vs H Q E (h _ _ _ _ q),fun A outer s H args us vs Q E hr he hb hv hs=>F.run A outer s H args us vs Q E hr he hb hv (h _ _ _ _ hs)⟩
section
variable{X:Cx}{pr:List (Addr×Obj)}{σ:St}{H:Hp}{s s':Shared}
theorem Inv.env0(I:Inv X pr σ H s):Env0 X.prog X.w X.K X.mg X.base X.A X.stack s H:=
 ⟨I.ok.frames,I.ok.mod,I.bs,Ta I.ok.bsz I.sz,I.stack,I.stkFree,I.hok,I.bare⟩
theorem Inv.after{Q:VK}{u:Value}(I:Inv X pr σ H s)(h:CE X.stack X.prog X.w H s Q u s'):EP X pr σ Q u s':=by
 obtain⟨v,H',os,bare,un,hok,r,q⟩:=h;obtain⟨hh,g,d,t,os'⟩:=s';obtain rfl:os'=s.os:=os;exact⟨v,H',I.call (h':=hh) (g':=g) (d':=d) (t':=t) (ch:=[]) un hok bare (fun b z=>absurd z (by simp)),r,q⟩
end
def tCall(sp:Sp)(Mt:List V)(E:XK)(t:TA):TE:=fun σ H Q=>t σ H fun vs H1=>sp (vs++Mt) H1 Q E
def Binds(K:W.Frag)(fd:FuncData)(ps:List Str)(ds:List Value):Prop:=
 ∀(s:Shared) (us:List Value),K.In s.heap->(us++ds).length=ps.length->BindsTo s fd ⟨us,[]⟩ (ps.zip (us++ds))
theorem Binds.all{K:W.Frag}{fd:FuncData}{ps:List Str}(h:∀us:List Value,us.length=ps.length->bindArgs fd ⟨us,[]⟩=pure (ps.zip us)):Binds K fd ps []:=fun s us _ hl=>by
 rw[Sg]at hl ⊢;exact .of_eq (h us hl)
def sX(CX:CXT)(X:Cx)(E:XK):Prop:=∀(pr:List (Addr×Obj)) (σ:St) (H:Hp) (s:Shared) (e:Value) (s':Shared),Inv X pr σ H s->CX X.stack H s E e s'->X.xe e s'
section
variable{X:Cx}{CX:CXT}{k:Nat}{f C:Addr}{fd:FuncData}{ps:List Str}{sp:Sp}{Mt:List V}{ds:List Value}{E:XK}{x m:Str}{p pos apos:Pos}{e o:Expr}{es:List Expr}{ta:TE}{t:TA}
theorem Bf{pr:List (Addr×Obj)}{σ:St}{H:Hp}{s:Shared}{Q:VK}{us:List Value}{vs:List V}(F:FnOk X.prog X.w X.K X.mg X.base CX k f fd ps sp)(hr:Room k X.A)(hb:Binds X.K fd ps ds)(hd:Vals Mt ds)(hx:sX CX X E)
  (I:Inv X pr σ H s) (r:Vals vs us) (h:sp (vs++Mt) H Q E):wpAny (model X.prog X.w) X.A (call (.ref f) us) (EP X pr σ Q) X.xe s:=by
 have r2:Vals (vs++Mt) (us++ds):=r.append hd;have hl:(us++ds).length=ps.length:=by rw[<-r2.length];exact F.len _ _ _ _ h
 refine wpAny_call (codeAny_mono (F.run X.A X.stack s H ⟨us,[]⟩ (us++ds) (vs++Mt) Q E hr I.env0 (hb s us I.kIn hl) r2 h) fun r s' hq=>?_);cases r with
 |error e=>exact hx pr σ H s e s' I hq
 |ok fl=>
  cases fl with
  |ret u=>exact I.after hq
  |next=>exact False.elim hq
  |brk=>exact False.elim hq
  |cont=>exact False.elim hq
theorem yL(F:FnOk X.prog X.w X.K X.mg X.base CX k f fd ps sp)(hr:Room k X.A)(hg:Gl X x)(hm:X.mg x=some (.ref f))(hk:PySem.W.keepIn X.K (.ref f)=true)(hb:Binds X.K fd ps ds)(hd:Vals Mt ds)(hx:sX CX X E)
  (ha:PA X (e::es) t) (IA:(x==("__debug__" : Str))=false:=by decide) (he:starEach (e::es) X.env=(false,eval e X.env)::starEach es X.env:=by rfl) (Ha:(backTo pos (starEach es X.env)).any (·.1)=false:=by rfl):
  PE X (.Call (.Name x p) (e::es) [] pos) (tCall sp Mt E t):=by
 intro pr s σ H Q I h;refine TR (sL I hg hm ?_ IA);refine PySem.W.callWith_K (h₀:=X.base) I.ok.mod.kin hk (Gp (ha pos pr s σ H _ I h) fun us s1 ⟨vs,H1,I1,r,q⟩=>⟨I1.kIn,?_⟩) he Ha;exact Bf F hr hb hd hx I1 r q
end
section
variable{X:Cx}{CX:CXT}{k:Nat}{f C:Addr}{fd:FuncData}{ps ks:List Str}{sp:Sp}{E:XK}{x m:Str}{p pos apos NW:Pos}{e o:Expr}{es:List Expr}{kws:List Keyword}{te ta:TE}{t tk:TA}{nm:Option Str}
variable{g:List Value->List Value->List Value}{gV:List V->List V->List V}
end
structure FnScope(N P:List Str)(sc:Scope):Prop where
 kind:sc.kind=.function
 co:sc.isCoroutine=false
 gen:sc.isGenerator=false
 nd:N.Nodup
 pre:N.take P.length=P
 par:∀x∈P,sc.names.lookup x=some .local\/sc.names.lookup x=some .cell
 nofree:∀y∈sc.names,y.2≠.free
theorem fs{N P:List Str}{sc:Scope}(a:sc.kind=.function:=by rfl)(b:sc.isCoroutine=false:=by rfl)(c:sc.isGenerator=false:=by rfl)(d:N.Nodup:=by decide +kernel)(e:N.take P.length=P:=by rfl)(f:∀x∈P,sc.names.lookup x=some .local\/sc.names.lookup x=some .cell:=by decide +kernel)(g:∀y∈sc.names,y.2≠.free:=by decide +kernel):FnScope N P sc:=⟨a,b,c,d,e,f,g⟩
theorem nI{kindOf:Str->Option NameKind}{x:Str}:∀{binds:List (Str×Value)}{m:Str->Option Value},(∀v,(x,v)∉binds)->bindL kindOf binds m x=m x
 |[],_,_=>rfl
 |(n,v)::r,m,h=>by
  unfold bindL;rw[nI fun w hw=>h w (RZ _ hw)];split
  ·have:x≠n:=by rintro rfl;exact h v RQ
   simp[this]
  ·rfl
theorem nJ{kindOf:Str->Option NameKind}{x:Str}:∀{binds:List (Str×Value)}{m:Str->Option Value},(∀v,(x,v)∉binds)->bindC kindOf binds m x=m x
 |[],_,_=>rfl
 |(n,v)::r,m,h=>by
  unfold bindC;rw[nJ fun w hw=>h w (RZ _ hw)];split
  ·rfl
  ·have:x≠n:=by rintro rfl;exact h v RQ
   simp[this]
theorem nK{kindOf:Str->Option NameKind}{x:Str}{v:Value}:∀{P:List Str}{vs:List Value}{i:Nat}{m:Str->Option Value},P.Nodup->P[i]?=some x->vs[i]?=some v->kindOf x=some .local->
  bindL kindOf (P.zip vs) m x=some v
 |[],_,_,_,_,h,_,_=>by simp at h
 |_::_,[],_,_,_,_,h,_=>by simp at h
 |p::P,w::vs,0,m,nd,h1,h2,hk=>by
  simp at h1 h2;subst h1;subst h2;show bindL kindOf ((p,w)::P.zip vs) m p=_;unfold bindL;rw[nI fun v hv=>(Sv.mp nd).1 (WD hv).1,Sa hk];simp
 |p::P,w::vs,i+1,m,nd,h1,h2,hk=>by
  show bindL kindOf ((p,w)::P.zip vs) m x=_;unfold bindL;exact nK (i:=i) (Sv.mp nd).2 (by simpa using h1) (by simpa using h2) hk
theorem nM{kindOf:Str->Option NameKind}{x:Str}{v:Value}:∀{P:List Str}{vs:List Value}{i:Nat}{m:Str->Option Value},P.Nodup->P[i]?=some x->vs[i]?=some v->kindOf x≠some .local->
  bindC kindOf (P.zip vs) m x=some v
 |[],_,_,_,_,h,_,_=>by simp at h
 |_::_,[],_,_,_,_,h,_=>by simp at h
 |p::P,w::vs,0,m,nd,h1,h2,hk=>by
  simp at h1 h2;subst h1;subst h2;show bindC kindOf ((p,w)::P.zip vs) m p=_;unfold bindC;rw[nJ fun v hv=>(Sv.mp nd).1 (WD hv).1,Sf hk];simp
 |p::P,w::vs,i+1,m,nd,h1,h2,hk=>by
  show bindC kindOf ((p,w)::P.zip vs) m x=_;unfold bindC;exact nM (i:=i) (Sv.mp nd).2 (by simpa using h1) (by simpa using h2) hk
def ll(N:List Str)(vs:List V):St:=vs.map some++List.replicate (N.length-vs.length) none
noncomputable def xF(CX:CXT)(P:Program)(w:World)(K:W.Frag)(mg:Str->Option Value)(base:Heap)(N:List Str)(qual:Str)(scope:Scope)(f:Addr)(cd:Value)(A:Around)(outer:List Env)(s:Shared)(H:Hp)(E:XK):Cx where
 prog:=P
 w:=w
 K:=K
 mg:=mg
 base:=base
 A:=A.deeper (envOfC qual scope s.heap.objs.size f cd)
 N:=N
 s₀:=s
 H₀:=H
 env:=envOfC qual scope s.heap.objs.size f cd
 outer:=outer
 stack:=envOfC qual scope s.heap.objs.size f cd::outer
 ex:=[]
 calm:=true
 fn:=fun _=>true
 pn:=[]
 xe:=fun e s'=>wpAny (model P w) (A.deeper (envOfC qual scope s.heap.objs.size f cd)) (leaving (envOfC qual scope s.heap.objs.size f cd) e) (fun _ P0=>CX outer H s E e P0) (fun e' P0=>CX outer H s E e' P0) s'
theorem qc{sc:Scope}{n:Nat}{x:Str}(h:sc.names.lookup x=some .cell):∃c,(cellsFrom n sc.names []).lookup x=some c:=by
 have q:=Wo sc.names n [] (.inl h);exact TU.mp q
theorem sY{CX:CXT}{P:Program}{w:World}{K:W.Frag}{mg:Str->Option Value}{base:Heap}{N ps:List Str}{qual:Str}{scope:Scope}{f:Addr}{cd:Value}{A:Around}{outer:List Env}{s s1:Shared}{H:Hp}{E:XK}{us:List Value}{vs:List V}
  (S:FnScope N ps scope) (hd:A.handled=none) (e0:Env0 P w K mg base A outer s H) (hl:vs.length=ps.length) (r:Vals vs us)
  (x:InCallC s s.heap.objs.size (bindL (envOfC qual scope s.heap.objs.size f cd).kindOf (ps.zip us) fun _=>none) (cellsFrom (s.heap.objs.size+1) scope.names []) (bindC (envOfC qual scope s.heap.objs.size f cd).kindOf (ps.zip us) fun _=>none) s1):
  Inv (xF CX P w K mg base N qual scope f cd A outer s H E) [] (ll N vs) H s1:=by
 have Ha:ps.length<=N.length:=by have:=Tq List.length S.pre;rw[SA]at this;lia
 obtain⟨h1,tk,rfl,hk⟩:=x.done;have NY:∀b:Addr,b∉(xF CX P w K mg base N qual scope f cd A outer s H E).ex:=fun b z=>absurd (show b∈([]:List Addr) from z) (by simp)
 refine⟨⟨e0.mod,S.kind,rfl,rfl,R1 _,fun y z c h1 h2=>?_,fun y hy=>?_,fun y c _ h=>?_,fun _=>hd,Around.frames_deeper e0.frames,.inr ⟨rfl,rfl⟩,fun b z=>absurd z (NY b),e0.bs,e0.bsz,fun b _ _=>NY b,fun b z=>absurd z (NY b),e0.funs,e0.frf⟩,
  rfl,e0.bare,Un.kept hk,⟨_,x.toInCall.ns,fun i y v h1 h2 h3=>?_⟩,fun y c h=>⟨_,x.cell y c h⟩,e0.hok.fresh (R1 _),fun y c h=>?_,fun p hp=>absurd (show p∈([]:List (Addr×Obj)) from hp) (by simp),e0.hok.kept hk,?_⟩
 ·exact name_of_addr x.apart (Ug h1) (Ug h2)
 ·have hy:scope.names.lookup y=some .cell\/scope.names.lookup y=some .free:=hy;rcases hy with hy|hy
  ·exact qc hy
  ·exact absurd rfl (S.nofree _ (Ug hy))
 ·exact WB (x.above y c (Ug h))
 ·have hi:i<vs.length:=by
   unfold ll at h2;by_cases hi:i<vs.length
   ·exact hi
   ·rw[S6 (by simpa using hi)]at h2;rw[List.getElem?_replicate]at h2;split at h2 <;> cases h2
  have ha:vs[i]?=some v:=by
   unfold ll at h2;rw[VR (by simpa using hi),Sm]at h2;cases e:vs[i]? with
   |none=>rw[e]at h2;cases h2
   |some a=>rw[e]at h2;cases h2;rfl
  obtain⟨u,hu,rv⟩:=r.get ha;have hp:ps[i]?=some y:=by
   rw[<-S.pre,List.getElem?_take_of_lt (by lia)];exact h1
  have Rb:ps.Nodup:=by rw[<-S.pre];exact S.nd.sublist (List.take_sublist _ _)
  refine⟨u,rv,?_⟩;rcases S.par y (SG hp) with k|k
  ·exact .inl ⟨k,nK Rb hp hu k⟩
  ·obtain⟨c,e⟩:=qc (n:=s.heap.objs.size+1) k;refine .inr ⟨.inl k,c,e,?_⟩;have q:=x.cell y c e;rw[nM Rb hp hu (by show scope.names.lookup y≠_;rw[k];decide)]at q;exact q
 ·exact e0.hok.fresh (WB (x.above y c (Ug h)))
 ·unfold ll;show _=N.length;rw[SM,RU,List.length_replicate];lia
theorem DL{CX:CXT}{P:Program}{w:World}{K:W.Frag}{mg:Str->Option Value}{base:Heap}{k:Nat}{f:Addr}{name qual:Str}{params:Arguments}{body:List Stmt}{scope:Scope}{dV kV doc pm Gw ct oc:Value}{an od:Option Addr}
  {Lp:Array (Option Value)}{N ps:List Str}{sp:Sp}(lk:K.lookup f=some ⟨oc,od,.func (PySem.W.fnOf name qual params body scope dV kV doc pm an Gw ct),Lp⟩) (KU:PySem.W.codeIn K Gw qual=true) (S:FnScope N ps scope)
  (len:∀vs H Q E,sp vs H Q E->vs.length=ps.length)
  (KW:∀(A:Around) (outer:List Env) (s:Shared) (H:Hp) (vs:List V) (Q:VK) (E:XK),Room k (A.deeper (envOfC qual scope s.heap.objs.size f Gw))->sp vs H Q E->
   ∃t,PSs (xF CX P w K mg base N qual scope f Gw A outer s H E) body t/\t {nx:=fun _ H'=>Q .non H',rt:=Q} (ll N vs) H):
  FnOk P w K mg base CX (k+1) f (PySem.W.fnOf name qual params body scope dV kV doc pm an Gw ct) ps sp:=by
 refine⟨len,fun A outer s H args us vs Q E hr e0 hb r JO=>?_⟩;have hl:=len _ _ _ _ JO;have KX:K.In s.heap:=e0.mod.kin.keeps fun b o e=>(e0.bs b o e).1
 have lim:s.heap.NoLimit:=e0.mod.nolimit.keeps fun b o e=>(e0.bs b o e).1
 have IB:∀y∈ps.zip us,scope.names.lookup y.1=some .local\/(scope.names.lookup y.1=some .cell/\((cellsFrom (s.heap.objs.size+1) scope.names []).lookup y.1).isSome=true):=fun Gd hy=>by
  obtain⟨n,v⟩:=Gd;rcases S.par n (WD hy).1 with q|q
  ·exact .inl q
  ·exact .inr ⟨q,Wo _ _ _ (.inl q)⟩
 refine codeAny_call_function hr.depth (KX _ _ lk) rfl S.co S.gen rfl (PySem.W.codeRec_of KX KU) (hb _ _ _ _ ?_);refine wpAny_newFunctionEnv_cells S.kind IB fun env he s1 x=>?_
 subst he;refine⟨lim.keeps x.toInCall.keep,codeAny_func ?_⟩;obtain⟨t,ht,hq⟩:=KW A outer s H vs Q E (hr.deeper _) JO;have I:Inv (xF CX P w K mg base N qual scope f Gw A outer s H E) [] (ll N vs) H s1:=sY S hr.hd e0 hl r x;refine VY (ht [] s1 (ll N vs) H _ I hq) (fun fl s' hs=>?_) fun e s' hs=>hs
 have fin:∀{σ':St}{H':Hp}{v:V}{u:Value},Inv (xF CX P w K mg base N qual scope f Gw A outer s H E) [] σ' H' s'->RelV v u->Q v H'->CE outer P w H s Q u s':=
  fun{σ' H' v u} J rv q=>⟨v,H',J.os,J.bare,J.base,J.hok,rv,q⟩
 cases fl with
 |ret u=>
  obtain⟨v,σ',H',J,rv,q⟩:=hs;exact fin J rv q
 |next=>
  obtain⟨σ',H',J,q⟩:=hs;exact fin (v:=V.non) (u:=Value.none) J rfl q
 |brk=>
  obtain⟨_,_,_,q⟩:=hs;exact False.elim q
 |cont=>
  obtain⟨_,_,_,q⟩:=hs;exact False.elim q
section
variable{X:Cx}{x:Str}{p pos:Pos}{e:Expr}{es:List Expr}{t:TA}{id T:String}{r:List V->Hp->VK->Prop}
def P4(r:List V->Hp->VK->Prop)(t:TA):TE:=fun σ H Q=>t σ H fun vs H1=>r vs H1 Q
theorem qe(hc:cU X (.builtin id) r)(hg:Gl X x)(hm:X.mg x=none)(hv:bootBuiltins x=some (.builtin id))(ha:PA X (e::es) t)(hn:x≠"__name__":=by decide)(IA:(x==("__debug__" : Str))=false:=by decide)
  (he:starEach (e::es) X.env=(false,eval e X.env)::starEach es X.env:=by rfl) (Ha:(backTo pos (starEach es X.env)).any (·.1)=false:=by rfl):PE X (.Call (.Name x p) (e::es) [] pos) (P4 r t):=by
 intro pr s σ H Q I h;refine TR (hZ I hg hm hv ?_ hn IA);exact PyProof.Rows.callWith_builtin1 (Gp (ha pos pr s σ H _ I h) fun us s1 ⟨vs,H1,I1,r1,q1⟩=>hc pr s1 σ H1 vs us Q I1 r1 q1) he Ha
theorem sZ(hc:cU X (.type T) r)(hg:Gl X x)(hm:X.mg x=none)(hv:bootBuiltins x=some (.type T))(ha:PA X (e::es) t)(hn:x≠"__name__":=by decide)(IA:(x==("__debug__" : Str))=false:=by decide)
  (he:starEach (e::es) X.env=(false,eval e X.env)::starEach es X.env:=by rfl) (Ha:(backTo pos (starEach es X.env)).any (·.1)=false:=by rfl):PE X (.Call (.Name x p) (e::es) [] pos) (P4 r t):=by
 intro pr s σ H Q I h;refine TR (hZ I hg hm hv ?_ hn IA);exact SY (Gp (ha pos pr s σ H _ I h) fun us s1 ⟨vs,H1,I1,r1,q1⟩=>hc pr s1 σ H1 vs us Q I1 r1 q1) he Ha
end
end L2
namespace HT
open PySem PyProof.Rows
section
open PySem.SeqAt
open PySem.AutoSeq1 (wpAny_loadPart')
open PySem.MeetsSeq PySem.MeetsSeq2 PySem.MeetsSeq3
end
section
variable{prog:Program}{w:World}{A:Around}{E:Value->Shared->Prop}{s:Shared}
theorem yM{t b:Addr}{vs ws:List Value}{Q:Value->Shared->Prop}(ht:IsTup s.heap t vs.toArray)(hb:IsTup s.heap b ws.toArray)(hv:vs≠[])
  (h1:ws=[]->Q (.ref t) s) (h2:ws≠[]->Q (.ref s.heap.objs.size) {s with heap:=s.heap.push {cls:=.type "tuple",data:=.seq (vs++ws).toArray}})
  (hsz:vs.length+ws.length<=sizeLine):wpAny (model prog w) A (binaryOp .Add (.ref t) (.ref b)) Q E s:=by
 obtain⟨⟨cls,dd,data,sl⟩,ho,hc,n,hd⟩:=id ht;obtain⟨⟨NZ,Mu,data2,Mv⟩,Ic,Lq,n2,hd2⟩:=id hb;simp only at hc hd Lq hd2;subst hc hd Lq hd2;have e:vs.toArray++ws.toArray=(vs++ws).toArray:=by simp
 by_cases hw:ws=[]
 ·exact concat_meets ⟨_,ho,rfl⟩ ⟨_,Ic,rfl⟩ noFill_tuple_add seq_tuple_add Wq Wc (V0 _ _)
   (tuple_addW1 t b vs.toArray ws.toArray n n2 dd Mu sl Mv (by simpa using hv) (by simp[hw])) ⟨ho,Ic,h1 hw⟩
 ·refine concat_meets ⟨_,ho,rfl⟩ ⟨_,Ic,rfl⟩ noFill_tuple_add seq_tuple_add Wq Wc (V0 _ _)
   (tuple_addW2 t b vs.toArray ws.toArray n n2 dd Mu sl Mv (by simpa using hv) (by simpa using hw) (by rw[RY,RY];exact hsz)) ⟨ho,Ic,?_⟩
  rw[e];exact h2 hw
def sIx(n d:Nat):Option Int->Nat
 |none=>d
 |some v=>if v<0 then(v+(n:Int)).toNat else min v.toNat n
theorem l5(n d:Nat):sIx n d none=d:=rfl
theorem pj(n d k:Nat):sIx n d (some (k:Int))=min k n:=by
 show(if(k:Int)<0 then((k:Int)+(n:Int)).toNat else min (k:Int).toNat n)=min k n;rw[Sf (by lia),TC]
theorem tf(n d:Nat)(hd:d<=n)(o:Option Int):sIx n d o<=n:=by
 cases o with
 |none=>exact hd
 |some v=>
  show(if v<0 then(v+(n:Int)).toNat else min v.toNat n)<=n;by_cases hv:v<0
  ·rw[Sa hv];lia
  ·rw[Sf hv];exact Nat.min_le_right _ _
theorem tj(v:Int)(n d:Nat):(if v<0 then max (v+(n:Int)) 0 else min v (n:Int))=((sIx n d (some v):Nat):Int):=by
 show(if v<0 then max (v+(n:Int)) 0 else min v (n:Int))=(((if v<0 then(v+(n:Int)).toNat else min v.toNat n):Nat):Int)
 by_cases hv:v<0
 ·simp only[Sa hv];lia
 ·simp only[Sf hv];lia
theorem rl(lo hi:Option Int)(n:Nat):Builtin.Slice.sliceAdjust lo hi 1 (n:Int)=(((sIx n 0 lo:Nat):Int),((sIx n n hi:Nat):Int)):=by
 have h1:¬ ((1:Int)<0):=by lia
 unfold Builtin.Slice.sliceAdjust;simp only[h1,VN];refine YD ?_ ?_
 ·cases lo with
  |none=>rfl
  |some v=>exact tj v n 0
 ·cases hi with
  |none=>rfl
  |some v=>exact tj v n n
theorem rm(i j:Nat):Builtin.Slice.slicePlaces (i:Int) (j:Int) 1=j-i:=by
 unfold Builtin.Slice.slicePlaces;have h1:(1:Int)>0:=by lia
 simp only[h1,UK,Int.ediv_one];split <;> lia
theorem lG{v:Value}{o:Option Int}{Q:Option Int->Shared->Prop}(p:IsPart v o)(h:Q o s):wpAny (model prog w) A (Builtin.Slice.slicePartIndex v) Q E s:=by
 cases p with
 |none=>exact slicePart_none h
 |int i t=>exact slicePart_int h
theorem fw{sl:Addr}{vl vu:Value}{lo hi:Option Int}{n:Nat}{Q:Int×Int×Nat->Shared->Prop}(hs:s.heap.IsSliceOf sl vl vu .none)(pl:IsPart vl lo)(pu:IsPart vu hi)
  (h:Q (((sIx n 0 lo:Nat):Int),1,sIx n n hi-sIx n 0 lo) s):wpAny (model prog w) A (Builtin.Slice.sliceApplied (.ref sl) (pure (n:Int))) Q E s:=by
 obtain⟨os,MI,Pe,Kg⟩:=id hs;unfold Builtin.Slice.sliceApplied Builtin.Slice.sliceFields;refine RO (RO (Sw MI Kg (x:=vl) rfl (RO (Sw MI Kg (x:=vu) rfl (RO (Sw MI Kg (x:=.none) rfl (RT ?_)))))));refine RO (slicePart_none ?_);show wpAny _ _ (if((1:Int)==0)=true then _ else _) _ _ s;rw[Sf (by decide)];refine RO (lG pl (RO (lG pu (RO (RT ?_)))));show wpAny _ _ (match Builtin.Slice.sliceAdjust lo hi 1 (n:Int) with|(lo,hi)=>pure (lo,(1:Int),Builtin.Slice.slicePlaces lo hi 1)) _ _ s;rw[rl lo hi n];show wpAny _ _ (pure (((sIx n 0 lo:Nat):Int),(1:Int),Builtin.Slice.slicePlaces ((sIx n 0 lo:Nat):Int) ((sIx n n hi:Nat):Int) 1)) _ _ s;rw[rm];exact RT h
theorem wj(xs:Array Value)(i k:Nat):((List.range k).filterMap fun(m:Nat)=>xs[((i:Int)+(m:Int)*1).toNat]?).toArray=((xs.toList.drop i).take k).toArray:=by
 have e:(fun(m:Nat)=>xs[((i:Int)+(m:Int)*1).toNat]?)=fun m=>xs[i+m]?:=by
  funext m
  have:((i:Int)+(m:Int)*1).toNat=i+m:=by lia
  rw[this]
 rw[e];have:=pick_run xs i k;rw[List.filterMap_map]at this;have e2:((fun x=>xs[x]?)∘fun x=>i+x)=fun m=>xs[i+m]?:=rfl
 rw[e2]at this;rw[this]
theorem iS{t sl:Addr}{items:Array Value}{vl vu:Value}{lo hi:Option Int}{Q:Value->Shared->Prop}(ht:IsTup s.heap t items)(hs:s.heap.IsSliceOf sl vl vu .none)(pl:IsPart vl lo)(pu:IsPart vu hi)
  (hw:¬ (sIx items.size 0 lo=0/\sIx items.size items.size hi=items.size))
  (h:Q (.ref s.heap.objs.size) {s with heap:=s.heap.push {cls:=.type "tuple",data:=.seq ((items.toList.drop (sIx items.size 0 lo)).take (sIx items.size items.size hi-sIx items.size 0 lo)).toArray}})
  (hsz:items.size<=sizeLine):wpAny (model prog w) A (getItem (.ref t) (.ref sl)) Q E s:=by
 have Kh:sizeOk (.seq ((items.toList.drop (sIx items.size 0 lo)).take (sIx items.size items.size hi-sIx items.size 0 lo)).toArray):=by
  show((items.toList.drop (sIx items.size 0 lo)).take (sIx items.size items.size hi-sIx items.size 0 lo)).toArray.size<=sizeLine;rw[RY,SA,Tx,Tb];lia
 have hj:sIx items.size items.size hi<=items.size:=tf _ _ (R1 _) hi;obtain⟨os,MI,Pe,Kg⟩:=id hs;have N0:s.TypeIs (.ref sl) "slice":=⟨os,MI,Pe⟩
 unfold getItem;try with_reducible refine Tv ?_
 first|refine RO (RT ?_)|skip
 refine RO (wpAny_sequenceKey ht.typeIs (by decide) ?_);refine RO (Sr (name:=Str.ofString "__getitem__") ht.typeIs TF
  (SF TF ht.typeIs entry_tuple_getitem ?_ (args_tuple_getitem _ _)))
 show wpAny _ _ (Builtin.Tuple.tupleItemsOf (.ref t) >>= _) _ _ s;refine RO (tupleItemsOf_ ht ?_);refine RO (UL N0 ?_);rw[Sa (by decide)];refine RO (fw hs pl pu ?_);have LB:¬ ((((sIx items.size 0 lo:Nat):Int)==0&&(1:Int)==1&&(sIx items.size items.size hi-sIx items.size 0 lo)==items.size)=true):=by
  intro q;rw[Si,Si]at q;have q1:((sIx items.size 0 lo:Nat):Int)=0:=eq_of_beq q.1.1;have q2:sIx items.size items.size hi-sIx items.size 0 lo=items.size:=eq_of_beq q.2;exact hw ⟨by lia,by lia⟩
 show wpAny _ _ (if(((sIx items.size 0 lo:Nat):Int)==0&&(1:Int)==1&&(sIx items.size items.size hi-sIx items.size 0 lo)==items.size)=true then _ else _) _ _ s;rw[Sf LB,wj];first
  |exact RO (m:=Builtin.Tuple.tupleExact _) (Td (RT ⟨_,rfl,RT h⟩) Kh)
  |exact RO (m:=Builtin.Tuple.tupleExact _) (Td (RO (RT (RT ⟨_,rfl,RT h⟩))) Kh)
  |exact RO (RO (m:=Builtin.Tuple.tupleExact _) (Td (RT (RT ⟨_,rfl,RT h⟩)) Kh))
  |exact RO (RO (m:=Builtin.Tuple.tupleExact _) (Td (RT ⟨_,rfl,RT h⟩) Kh))
end
end HT
namespace L2
open PySem PySem.Spec PyProof.Rows
abbrev TO:=St->Hp->(Option Int->Hp->Prop)->Prop
def PO(X:Cx)(e:Option Expr)(t:TO):Prop:=
 ∀(pr:List (Addr×Obj)) (s:Shared) (σ:St) (H:Hp) (Q:Option Int->Hp->Prop),Inv X pr σ H s->t σ H Q->
  wpAny (model X.prog X.w) X.A (evalPart e X.env) (fun u s'=>∃o H',Inv X pr σ H' s'/\IsPart u o/\Q o H') X.xe s
def yN:TO:=fun _ H Q=>Q none H
def DM(t:TE):TO:=fun σ H Q=>t σ H fun x H1=>∃i,x=.int i/\Q (some i) H1
section
variable{X:Cx}{e:Expr}{te:TE}{lo hi:Option Expr}{tl th:TO}{pos p2:Pos}
theorem yO:PO X none yN:=by
 intro pr s σ H Q I h;rw[evalPart_none];exact RT ⟨none,H,I,.none,h⟩
theorem yP(h:PE X e te):PO X (some e) (DM te):=by
 intro pr s σ H Q I hw;rw[evalPart_some];refine Gp (h pr s σ H _ I hw) fun u s1 Gk=>?_
 obtain⟨x,H1,I1,r1,q1⟩:=Gk;obtain⟨i,rfl,q⟩:=q1;obtain⟨t,rfl⟩:=r1;exact⟨some i,H1,I1,.int i t,q⟩
def MJ(X:Cx)(r:V->Option Int->Option Int->Hp->VK->Prop):Prop:=
 ∀(pr:List (Addr×Obj)) (s:Shared) (σ:St) (H:Hp) (x:V) (v vl vu:Value) (lo hi:Option Int) (sl:Addr) (Q:VK),Inv X pr σ H s->RelV x v->s.heap.IsSliceOf sl vl vu .none->IsPart vl lo->IsPart vu hi->r x lo hi H Q->
  ∃T id,typeLookup (.type T) "__getitem__" = pure (some (.builtin id))/\s.TypeIs v T/\wpAny (model X.prog X.w) X.A (getItem v (.ref sl)) (EP X pr σ Q) X.xe s
def tSl(r:V->Option Int->Option Int->Hp->VK->Prop)(te:TE)(tl th:TO):TE:=fun σ H Q=>te σ H fun x H1=>tl σ H1 fun l H2=>th σ H2 fun u H3=>r x l u H3 Q
theorem wm{r:V->Option Int->Option Int->Hp->VK->Prop}(hr:MJ X r)(he:PE X e te)(hl:PO X lo tl)(hu:PO X hi th):PE X (.Subscript e (.Slice lo hi none p2) pos) (tSl r te tl th):=by
 intro pr s σ H Q I h;refine Subscript_ (Gp (he pr s σ H _ I h) fun v s1 Gk=>?_);obtain⟨x,H1,I1,r1,q1⟩:=Gk;refine wpAny_Slice (Gp (hl pr s1 σ H1 _ I1 q1) fun vl s2 ⟨l,H2,I2,pl,q2⟩=>Gp (hu pr s2 σ H2 _ I2 q2) fun vu s3 Gk=>?_);obtain⟨u,H3,I3,pu,q3⟩:=Gk;rw[evalPart_none];refine RT ?_;have I4:Inv X pr σ H3 {s3 with heap:=s3.heap.push {cls:=.type "slice",data:=.fields #[vl,vu,.none]}}:=I3.kept (t':=s3.toks) fun b ob q=>RS _ q
 obtain⟨T,id,hT,ht,hg⟩:=hr pr {s3 with heap:=s3.heap.push {cls:=.type "slice",data:=.fields #[vl,vu,.none]}} σ H3 x v vl vu l u s3.heap.objs.size Q I4 r1 (Heap.IsSliceOf.new ..) pl pu q3;show wpAny (model X.prog X.w) X.A (subscriptTail e (.Slice lo hi none p2) v (.ref s3.heap.objs.size)) (EP X pr σ Q) X.xe {s3 with heap:=s3.heap.push {cls:=.type "slice",data:=.fields #[vl,vu,.none]}};exact tail_any (ops:=[.ref s3.heap.objs.size,v]) ht hT hg (by with_unfolding_all rfl)
def xG(xs:List V)(lo hi:Option Int):List V:=(xs.drop (HT.sIx xs.length 0 lo)).take (HT.sIx xs.length xs.length hi-HT.sIx xs.length 0 lo)
theorem jT(xs:List V)(lo hi:Option Int):(xG xs lo hi).length<=xs.length:=by
 unfold xG;rw[SA,Tx];lia
def Fh(K:W.Frag):V->Option Int->Option Int->Hp->VK->Prop:=fun x lo hi H Q=>∃a xs,x=.ref a/\SqT K H a xs/\
 ¬ (HT.sIx xs.length 0 lo=0/\HT.sIx xs.length xs.length hi=xs.length)/\∀p,H p=none->Q (.ref p) (upd H p (.tup (xG xs lo hi)))
theorem Bg:MJ X (Fh X.K):=by
 intro pr s σ H x v vl vu lo hi sl Q I rx hs pl pu h;obtain⟨a,xs,rfl,hx,hw,q⟩:=h;cases rx;obtain⟨F6,r,ht,hz⟩:=I.tuple hx;have hlen:F6.toArray.size=xs.length:=by rw[RY];exact r.length.symm
 refine⟨"tuple",_,PyProof.Rows.slot_tuple_getitem.lookup,ht.typeIs,?_⟩;refine HT.iS ht hs pl pu (by rw[hlen];exact hw) ?_ (by rw[hlen];exact hz);rw[hlen];refine⟨.ref s.heap.objs.size,_,I.laid (t':=s.toks) (o:=.tup (xG xs lo hi)) (fun b ob q=>RS _ q) (R1 _) ?_,rfl,q _ (I.hok.fresh (R1 _))⟩;exact⟨Ta (jT xs lo hi) hz,_,(r.drop (HT.sIx xs.length 0 lo)).take (HT.sIx xs.length xs.length hi-HT.sIx xs.length 0 lo),IsTupN.new _ _⟩
def DN(K:W.Frag):R2:=fun x y H Q=>∃a b xs ys,x=.ref a/\y=.ref b/\SqT K H a xs/\SqT K H b ys/\xs≠[]/\xs.length+ys.length<=sizeLine/\
 (ys=[]->Q (.ref a) H)/\(ys≠[]->∀p,H p=none->Q (.ref p) (upd H p (.tup (xs++ys))))
theorem Vals.nil_iff{xs:List V}{us:List Value}(r:Vals xs us):us=[]<->xs=[]:=by
 cases r with
 |nil=>simp
 |cons _ _=>simp
theorem yQ:GH X (binaryOp .Add) (DN X.K):=by
 intro pr s σ H x y v u Q I rx ry h;obtain⟨a,b,xs,ys,rfl,rfl,ha,hb,hx,hz,q1,q2⟩:=h;cases rx;cases ry;obtain⟨F6,r1,p1,_⟩:=I.tuple ha;obtain⟨KY,r2,p2,_⟩:=I.tuple hb;refine HT.yM p1 p2 (fun z=>hx (r1.nil_iff.mp z)) (fun z=>⟨.ref a,H,I,rfl,q1 (r2.nil_iff.mp z)⟩) (fun z=>?_) (by rw[<-r1.length,<-r2.length];exact hz);refine⟨.ref s.heap.objs.size,_,I.laid (t':=s.toks) (o:=.tup (xs++ys)) (fun b ob q=>RS _ q) (R1 _) ?_,rfl,q2 (fun w=>z (r2.nil_iff.mpr w)) _ (I.hok.fresh (R1 _))⟩;exact⟨by rw[SM];exact hz,_,r1.append r2,IsTupN.new _ _⟩
end
def ixN(n:Nat)(i:Int):Option Nat:=if 0<=i then(if i<n then some i.toNat else none) else if -(n:Int)<=i then some (i+n).toNat else none
def Hv{α:Type}(xs:List α)(i:Int):Option α:=(ixN xs.length i).bind fun j=>xs[j]?
theorem yR{n:Nat}{i:Int}{j:Nat}(h:ixN n i=some j):seqIndex? i n=some j/\j<n/\-(n:Int)<=i/\i<n:=by
 unfold ixN at h;by_cases h0:0<=i
 ·rw[Sa h0]at h;by_cases h1:i<n
  ·rw[Sa h1]at h;have e:i.toNat=j:=SX h;exact⟨by rw[seqIndex_of h0 h1,e],by lia,by lia,h1⟩
  ·rw[Sf h1]at h;cases h
 ·rw[Sf h0]at h;by_cases h1:-(n:Int)<=i
  ·rw[Sa h1]at h;have e:(i+n).toNat=j:=SX h;exact⟨by rw[seqIndex_neg (by lia) h1,e],by lia,h1,by lia⟩
  ·rw[Sf h1]at h;cases h
theorem pk{α:Type}{xs:List α}{i:Int}{v:α}(h:Hv xs i=some v):∃j,seqIndex? i xs.length=some j/\xs[j]?=some v/\j<xs.length/\-(xs.length:Int)<=i/\i<xs.length:=by
 unfold Hv at h;cases e:ixN xs.length i with
 |none=>rw[e]at h;cases h
 |some j=>
  rw[e]at h;obtain⟨h1,h2,h3,h4⟩:=yR e;exact⟨j,h1,h,h2,h3,h4⟩
theorem dZ{α:Type}{xs:List α}{j:Nat}{v:α}(h:xs[j]?=some v):Hv xs (j:Int)=some v:=by
 have hj:j<xs.length:=(Se.mp h).1;have e:ixN xs.length (j:Int)=some j:=by
  unfold ixN;rw[Sa (by lia),Sa (by lia)];simp
 unfold Hv;rw[e];exact h
def pq(b:Expr):Prop:=∀o i,subscripted b false o i=operate [o,i] (getItem o i)
def N5(X:Cx)(r:R2):Prop:=
 ∀(value slice:Expr) (pr:List (Addr×Obj)) (s:Shared) (σ:St) (H:Hp) (x y:V) (v u:Value) (Q:VK),Inv X pr σ H s->RelV x v->RelV y u->r x y H Q->
  subscripted slice false v u=operate [v,u] (getItem v u)->wpAny (model X.prog X.w) X.A (subscriptTail value slice v u) (EP X pr σ Q) X.xe s
def Pf(X:Cx)(id:String)(r:V->List V->Hp->VK->Prop):Prop:=
 ∀(pr:List (Addr×Obj)) (s:Shared) (σ:St) (H:Hp) (x:V) (xs:List V) (v:Value) (us:List Value) (Q:VK),Inv X pr σ H s->RelV x v->Vals xs us->r x xs H Q->
  wpAny (model X.prog X.w) X.A (call (.builtin id) (v::us)) (EP X pr σ Q) X.xe s
section
variable{X:Cx}{a b:Expr}{ta tb:TE}{pos:Pos}
theorem yS{r:R2}(hr:N5 X r)(ha:PE X a ta)(hb:PE X b tb)(hs:pq b):PE X (.Subscript a b pos) (Nz r ta tb):=by
 intro pr s σ H Q I h;exact Subscript_ (DB ha hb I h fun v u s2 x y H2 I2 rx ry q=>hr a b pr s2 σ H2 x y v u Q I2 rx ry q (hs _ _))
def Fi(K:W.Frag):R2:=fun x y H Q=>∃p xs i v,x=.ref p/\y=.int i/\SqL K H p xs/\Hv xs i=some v/\Q v H
def Fj(K:W.Frag):R2:=fun x y H Q=>∃p xs i v,x=.ref p/\y=.int i/\SqT K H p xs/\Hv xs i=some v/\Q v H
def Fl:R2:=fun x y H Q=>∃z i c,x=.str z/\y=.int i/\z.length<=sizeLine/\Hv z.cps.toList i=some c/\Q (.str ⟨#[c]⟩) H
theorem tm:N5 X (Fi X.K):=by
 intro value slice pr s σ H x y v u Q I rx ry h hs;obtain⟨p,xs,i,z,rfl,rfl,hq,he,q⟩:=h;cases rx;obtain⟨t,rfl⟩:=ry;obtain⟨F6,r,pl,hz⟩:=I.list hq;obtain⟨j,h1,h2,h3,h4,h5⟩:=pk he;obtain⟨w,ew,GK⟩:=r.get h2;have hl:=r.length;have hn:=nH;have fin:EP X pr σ Q w s:=⟨z,H,I,GK,q⟩
 by_cases h0:0<=i
 ·have hj:i.toNat=j:=by
   rw[seqIndex_of h0 h5]at h1;exact SX h1
  exact item_listR pl.isList h0 (by lia) (by rw[hj];simpa using ew) fin hs
 ·have hj:(i+(F6.toArray.size:Int)).toNat=j:=by
   rw[seqIndex_neg (by lia) h4]at h1;rw[RY,<-hl];exact SX h1
  exact subscriptTail_builtinR (x:=w) pl.isList.typeIs slot_list_getitem.lookup
   (wpAny_getItem_list_neg (Q:=fun r s'=>r=w/\EP X pr σ Q r s') pl.isList (by lia) (by rw[RY] <;> lia) (by lia) (by rw[hj];simpa using ew) ⟨rfl,fin⟩) hs
theorem xH:N5 X (Fj X.K):=by
 intro value slice pr s σ H x y v u Q I rx ry h hs;obtain⟨p,xs,i,z,rfl,rfl,hq,he,q⟩:=h;cases rx;obtain⟨t,rfl⟩:=ry;obtain⟨F6,r,pl,hz⟩:=I.tuple hq;obtain⟨j,h1,h2,h3,h4,h5⟩:=pk he;obtain⟨w,ew,GK⟩:=r.get h2;have hl:=r.length;have hn:=nH;have fin:EP X pr σ Q w s:=⟨z,H,I,GK,q⟩
 exact subscriptTail_builtinR (x:=w) pl.typeIs slot_tuple_getitem.lookup
  (getItem_tuple (j:=j) (Q:=fun r s'=>r=w/\EP X pr σ Q r s') pl (by lia) (by lia) (by rw[RY,<-hl];exact h1) (by simpa using ew) ⟨rfl,fin⟩) hs
theorem Bh:N5 X Fl:=by
 intro value slice pr s σ H x y v u Q I rx ry h hs;obtain⟨z,i,c,rfl,rfl,hz,he,q⟩:=h;obtain⟨t,rfl⟩:=rx;obtain⟨t',rfl⟩:=ry;obtain⟨j,h1,h2,h3,h4,h5⟩:=pk he;have hl:z.cps.toList.length=z.length:=by simp[Str.length]
 rw[hl]at h1 h4 h5;have hn:=nH;exact tail_any (V1 s z t) slot_str_getitem.lookup (getItem_str (c:=c) (by
  have e1:decide (i < -(2 ^ 63:Int))=false:=Sb (by lia);have e2:decide (i>=2 ^ 63)=false:=Sb (by lia);rw[e1,e2,Bool.or_false]) (by rw[h1];simpa using h2) ⟨.str ⟨#[c]⟩,H,I.tok _,⟨_,rfl⟩,q⟩) hs
theorem nN(lo hi:Option Int)(n:Nat):(sliceBounds lo hi none n).1=((HT.sIx n 0 lo:Nat):Int)/\(sliceBounds lo hi none n).2.1=((HT.sIx n n hi:Nat):Int)/\(sliceBounds lo hi none n).2.2=1:=by
 refine⟨?_,?_,rfl⟩
 ·cases lo with
  |none=>simp[sliceBounds,HT.sIx]
  |some i=>
   simp only[sliceBounds,HT.sIx,Wi,show(1:Int)>0 by decide,UK];by_cases h:i<0
   ·simp only[h,UK] <;> lia
   ·simp only[h,VN] <;> lia
 ·cases hi with
  |none=>simp[sliceBounds,HT.sIx]
  |some i=>
   simp only[sliceBounds,HT.sIx,Wi,show(1:Int)>0 by decide,UK];by_cases h:i<0
   ·simp only[h,UK] <;> lia
   ·simp only[h,VN] <;> lia
theorem l6(F6:List Value)(lo hi:Option Int):slicePick F6.toArray lo hi none=((F6.drop (HT.sIx F6.length 0 lo)).take (HT.sIx F6.length F6.length hi-HT.sIx F6.length 0 lo)).toArray:=by
 obtain⟨h1,h2,h3⟩:=nN lo hi F6.toArray.size;unfold slicePick;rw[h1,h2,h3];simp only[sliceRange_one,pick_run,RY] <;> rfl
def Fm(K:W.Frag):V->Option Int->Option Int->Hp->VK->Prop:=fun x lo hi H Q=>∃a xs,x=.ref a/\SqL K H a xs/\∀p,H p=none->Q (.ref p) (upd H p (.lst (xG xs lo hi)))
theorem yT:MJ X (Fm X.K):=by
 intro pr s σ H x v vl vu lo hi sl Q I rx hs pl pu h;obtain⟨a,xs,rfl,hx,q⟩:=h;cases rx;obtain⟨F6,r,ht,hz⟩:=I.list hx;have hlen:=r.length;refine⟨"list",_,slot_list_getitem.lookup,ht.isList.typeIs,?_⟩;refine wpAny_getItem_list_slice ht.isList hs pl pu .none (by simp) ?_ (by rw[RY] <;> lia);rw[l6,<-hlen];refine⟨.ref s.heap.objs.size,_,I.laid (t':=s.toks) (o:=.lst (xG xs lo hi)) (fun b ob q=>RS _ q) (R1 _) ?_,rfl,q _ (I.hok.fresh (R1 _))⟩;exact⟨Ta (jT xs lo hi) hz,_,0,(r.drop (HT.sIx xs.length 0 lo)).take (HT.sIx xs.length xs.length hi-HT.sIx xs.length 0 lo),R5 _ rfl⟩
def wo:V->Bool
 | .non=>true
 | .bl _=>true
 | .int _=>true
 | .str _=>true
 |_=>false
def P5:V->V->Bool
 | .non,.non=>true
 | .bl a,.bl b=>a==b
 | .bl a,.int b=>(if a then 1 else 0)==b
 | .int a,.bl b=>a==(if b then 1 else 0)
 | .int a,.int b=>a==b
 | .str a,.str b=>a==b
 |_,_=>false
theorem xI{A:Around}{s:Shared}{y x:V}{u v:Value}(ry:RelV y u)(rx:RelV x v)(fy:wo y=true)(fx:wo x=true):SeqAt.EqAt A s u v (P5 y x):=by
 cases y with
 |non=>
  cases ry;cases x with
  |non=>cases rx;exact SeqAt.EqAt.same _
  |bl b=>cases rx;exact SeqAt.EqAt.none_bool b
  |int b=>obtain⟨t,rfl⟩:=rx;exact SeqAt.EqAt.none_int b t
  |str b=>obtain⟨t,rfl⟩:=rx;exact SeqAt.EqAt.none_str b t
  |_=>exact absurd (show false=true from fx) R4
 |bl a=>
  cases ry;cases x with
  |non=>cases rx;exact SeqAt.EqAt.bool_none a
  |bl b=>cases rx;exact SeqAt.EqAt.bool_bool a b
  |int b=>obtain⟨t,rfl⟩:=rx;exact SeqAt.EqAt.bool_int a b t
  |str b=>obtain⟨t,rfl⟩:=rx;exact SeqAt.EqAt.bool_str a b t
  |_=>exact absurd (show false=true from fx) R4
 |int a=>
  obtain⟨t',rfl⟩:=ry;cases x with
  |non=>cases rx;exact SeqAt.EqAt.int_none a t'
  |bl b=>cases rx;exact SeqAt.EqAt.int_bool a t' b
  |int b=>obtain⟨t,rfl⟩:=rx;exact SeqAt.EqAt.int_int a t' b t
  |str b=>obtain⟨t,rfl⟩:=rx;exact SeqAt.EqAt.int_str a t' b t
  |_=>exact absurd (show false=true from fx) R4
 |str a=>
  obtain⟨t',rfl⟩:=ry;cases x with
  |non=>cases rx;exact SeqAt.EqAt.str_none a t'
  |bl b=>cases rx;exact SeqAt.EqAt.str_bool a t' b
  |int b=>obtain⟨t,rfl⟩:=rx;exact SeqAt.EqAt.str_int a t' b t
  |str b=>obtain⟨t,rfl⟩:=rx;exact SeqAt.EqAt.str_str a t' b t
  |_=>exact absurd (show false=true from fx) R4
 |_=>exact absurd (show false=true from fy) R4
theorem jg:cU X (.builtin "len") (fun xs H Q=>∃p ys,xs=[.ref p]/\(SqL X.K H p ys\/SqT X.K H p ys)/\Q (.int ys.length) H):=by
 intro pr s σ H xs us Q I r h;obtain⟨p,ys,rfl,hq,q⟩:=h;obtain⟨u,rfl,rx⟩:=fE r;cases rx;have hn:=nH;rcases hq with hq|hq
 ·obtain⟨F6,r',pl,hz⟩:=I.list hq;have hlen:=r'.length;exact Calls.call_len_list pl.isList (by simp only[RY] <;> lia) ⟨.int ys.length,H,I.tok _,⟨s.toks+1,by rw[RY,hlen]⟩,q⟩
 ·obtain⟨F6,r',pl,hz⟩:=I.tuple hq;have hlen:=r'.length;exact len_tuple pl (by simp only[RY] <;> lia) ⟨.int ys.length,H,I.tok _,⟨s.toks+1,by rw[RY,hlen]⟩,q⟩
theorem nO:cU X (.builtin "len") (fun xs H Q=>∃z,xs=[.str z]/\z.length<=sizeLine/\Q (.int z.length) H):=by
 intro pr s σ H xs us Q I r h;obtain⟨z,rfl,hz,q⟩:=h;obtain⟨u,rfl,t,rfl⟩:=fE r;have hn:=nH;exact len_str (by lia) ⟨.int z.length,H,I.tok _,⟨_,rfl⟩,q⟩
theorem jh:cU X (.type "list") (fun xs H Q=>∃p ys,xs=[.ref p]/\(SqL X.K H p ys\/SqT X.K H p ys)/\∀l,H l=none->Q (.ref l) (upd H l (.lst ys))):=by
 intro pr s σ H xs us Q I r h;obtain⟨p,ys,rfl,hq,q⟩:=h;obtain⟨u,rfl,rx⟩:=fE r;cases rx;have fin:∀(F6:List Value),Vals ys F6->ys.length<=sizeLine->∀(h':Heap) (c':Nat),(∀b o',s.heap.get? b=some o'->h'.get? b=some o')->
   h'.get? s.heap.objs.size=some {cls:=.type "list",dict:=none,data:=.seq F6.toArray c',slots:=#[]}->EP X pr σ Q (.ref s.heap.objs.size) {s with heap:=h'}:=fun F6 r' hz h' c' kp e=>
  ⟨.ref s.heap.objs.size,_,I.laid (t':=s.toks) kp (R1 _) (show ObjOk X.prog X.w _ h' _ (.lst ys) from⟨hz,F6,c',r',e⟩),rfl,q _ (I.hok.fresh (R1 _))⟩
 rcases hq with hq|hq
 ·obtain⟨F6,r',pl,hz⟩:=I.list hq;have hlen:=r'.length;obtain⟨o,ho,hc,n,hd⟩:=pl.isList;exact call_list_seq p (.inl rfl) ho hc hd (fun h' c' kp e=>fin F6 r' hz h' c' kp e) (by simp only[RY] <;> lia)
 ·obtain⟨F6,r',pl,hz⟩:=I.tuple hq;have hlen:=r'.length;obtain⟨o,ho,hc,n,hd⟩:=pl;exact call_list_seq p (.inr rfl) ho hc hd (fun h' c' kp e=>fin F6 r' hz h' c' kp e) (by simp only[RY] <;> lia)
theorem h9:cU X (.type "tuple") (fun xs H Q=>∃p ys,xs=[.ref p]/\((SqL X.K H p ys/\∀l,H l=none->Q (.ref l) (upd H l (.tup ys)))\/(SqT X.K H p ys/\Q (.ref p) H))):=by
 intro pr s σ H xs us Q I r h;obtain⟨p,ys,rfl,h⟩:=h;obtain⟨u,rfl,rx⟩:=fE r;cases rx;rcases h with⟨hq,q⟩|⟨hq,q⟩
 ·obtain⟨F6,r',pl,hz⟩:=I.list hq;have hlen:=r'.length;refine call_tuple_list pl.isList (fun h' kp=>?_) (by simp only[RY] <;> lia);have I1:Inv X pr σ H {s with heap:=h'}:=I.kept (t':=s.toks) kp;have I2:Inv X pr σ (upd H h'.objs.size (.tup ys)) {s with heap:=h'.push {cls:=.type "tuple",data:=.seq F6.toArray}}:=
   I1.laid (t':=s.toks) (fun b o e=>RS _ e) (R1 _) (show ObjOk X.prog X.w _ _ _ (.tup ys) from⟨hz,F6,r',IsTupN.new _ _⟩)
  exact⟨.ref h'.objs.size,_,I2,rfl,q _ (I1.hok.fresh (R1 _))⟩
 ·obtain⟨F6,r',pl,hz⟩:=I.tuple hq;exact call_tuple_same pl ⟨.ref p,H,I,rfl,q⟩
def P6(K:W.Frag)(T:String)(x:V)(H:Hp):Prop:=match x with
 | .str _=>T = "str"
 | .int _=>T = "int"
 | .ref p=>(T = "list"/\∃xs,SqL K H p xs)\/(T = "tuple"/\∃o,K.lookup p=some o/\o.cls=.type "tuple"/\o.dict=none)\/
   (T = "dict"/\((∃F5,H p=some (.dK F5))\/∃F5,H p=some (.dT F5)))\/(T = "set"/\∃S n,H p=some (.set S n))
 |_=>False
theorem Bi{pr:List (Addr×Obj)}{σ:St}{H:Hp}{s:Shared}{T:String}{x:V}{v:Value}(I:Inv X pr σ H s)(r:RelV x v)(ty:P6 X.K T x H):
  s.TypeIs v T/\∀a,v=.ref a->∃ob,s.heap.get? a=some ob/\ob.dict=none:=by
 cases x with
 |str z=>
  obtain⟨t,rfl⟩:=r;cases(show T = "str" from ty);exact⟨V1 s z t,fun _ e=>nomatch e⟩
 |int i=>
  obtain⟨t,rfl⟩:=r;cases(show T = "int" from ty);exact⟨typeIs_int s i t,fun _ e=>nomatch e⟩
 |ref p=>
  cases r;rcases ty with⟨rfl,xs,hq⟩|⟨rfl,o,hk,hc,hd⟩|⟨rfl,hk⟩|⟨rfl,S,n,hk⟩
  ·obtain⟨F6,_,pl,_⟩:=I.list hq;refine⟨pl.isList.typeIs,fun a e=>?_⟩;cases e;obtain⟨o,n,e,c,hd,_⟩:=pl;exact⟨o,e,hd⟩
  ·refine⟨⟨o,I.kIn p o hk,hc⟩,fun a e=>?_⟩;cases e;exact⟨o,I.kIn _ o hk,hd⟩
  ·have z:∃o,s.heap.get? p=some o/\o.ExactDict:=by
    rcases hk with⟨F5,hk⟩|⟨F5,hk⟩
    ·obtain⟨_,_,_,_,o,_,_,e,ex,_⟩:=I.hok p _ hk;exact⟨o,e,ex⟩
    ·obtain⟨_,_,_,_,o,_,_,e,ex,_⟩:=I.hok p _ hk;exact⟨o,e,ex⟩
   obtain⟨o,e,ex⟩:=z;refine⟨⟨o,e,ex.1⟩,fun a e2=>?_⟩;cases e2;exact⟨o,e,ex.2.1⟩
  ·obtain⟨o,_,_,_,e,ex,_⟩:=I.hok p _ hk;refine⟨⟨o,e,ex.1⟩,fun a e2=>?_⟩;cases e2;exact⟨o,e,ex.2.1⟩
 |_=>exact False.elim ty
def tBM(K:W.Frag)(T:String)(r:V->List V->Hp->VK->Prop)(to:TE)(t:TA):TE:=fun σ H Q=>to σ H fun x H1=>P6 K T x H1/\t σ H1 fun xs H2=>r x xs H2 Q
variable{o e:Expr}{es:List Expr}{to:TE}{t:TA}{name:Str}{apos Gb:Pos}{T id:String}{r:V->List V->Hp->VK->Prop}
theorem rp(pa:PlainAttrs T)(slot:Slot T name id)(N6:typeOf (.builtin id)=pure (.type "method_descriptor"))(hm:Pf X id r)(ho:PE X o to)(ha:PA X (e::es) t)
  (GU:attributeBase o name X.env (eval o X.env)=eval o X.env:=by rfl)
  (HV:((backTo Gb (starEach (e::es) X.env)).all (fun x=>!x.1)&&(backToKw Gb (keywordEach [] X.env)).all (fun x=>x.1.isSome)
   && decide ((e::es).length+([]:List Keyword).length+(if([]:List Keyword).isEmpty then 0 else 1)<30))=true:=by rfl)
  (GV:(apos.endLine==Gb.line)=true:=by rfl) (hs:starEach (e::es) X.env=(false,eval e X.env)::starEach es X.env:=by rfl) (GD:(backTo Gb (starEach es X.env)).any (·.1)=false:=by rfl):
  PE X (.Call (.Attribute o name apos) (e::es) [] Gb) (tBM X.K T r to t):=by
 intro pr s σ H Q I h;refine wpAny_Call_method_late GU HV GV rfl (Gp (ho pr s σ H _ I h) fun v s1 Gk=>?_);obtain⟨x,H1,I1,r1,ty,q1⟩:=Gk;obtain⟨h1,h2⟩:=Bi I1 r1 ty;refine⟨T,id,pa,slot,N6,h1,h2,?_⟩;have hA:=ha Gb pr s1 σ H1 _ I1 q1;rw[hs]at hA ⊢;refine Calls.callWith_builtin (by show(false||(backTo Gb (starEach es X.env)).any (·.1))=false;rw[GD] <;> rfl) (Calls.evalArgs_plain ?_);exact Gp hA fun us s2 ⟨vs,H2,I2,r2,q2⟩=>hm pr s2 σ H2 x vs v us Q I2 r1 r2 q2
end
def MtM(X:Cx)(id:String)(r:V->List V->Hp->VK->Prop):Prop:=
 ∀(pr:List (Addr×Obj)) (s:Shared) (σ:St) (H:Hp) (x:V) (xs:List V) (v:Value) (us:List Value) (Q:VK),Inv X pr σ H s->RelV x v->Vals xs us->r x xs H Q->
  wpAny (model X.prog X.w) X.A (call (.builtin id) (v::us)) (EP X pr σ Q) X.xe s
theorem Vals.one:∀{x:V}{us:List Value},Vals [x] us->∃u,us=[u]/\RelV x u
 |_,_,.cons r .nil=>⟨_,rfl,r⟩
theorem Vals.two:∀{x y:V}{us:List Value},Vals [x,y] us->∃u v,us=[u,v]/\RelV x u/\RelV y v
 |_,_,_,.cons r (.cons q .nil)=>⟨_,_,rfl,r,q⟩
section
variable{X:Cx}{pr:List (Addr×Obj)}{σ:St}{H:Hp}{s:Shared}{l b:Addr}{xs ys zs:List V}
theorem Inv.lset{F6 its':List Value}{n:Nat}{f:Array Value->Array Value}{t':Nat}(I:Inv X pr σ H s)(hH:H l=some (.lst xs))
  (e:s.heap.get? l=some {cls:=.type "list",data:=.seq F6.toArray n}) (hf:f F6.toArray=its'.toArray) (hv:Vals ys its') (hz:ys.length<=sizeLine):
  Inv X pr σ (upd H l (.lst ys)) {s with heap:=s.heap.update l (Obj.mapSeq f),toks:=t'}:=by
 have q:=PySem.IsL.update e f;rw[hf]at q;refine I.write (x:=l) (e:=l) (by rw[hH];exact trivial) (.inl rfl) (fun b' u hb hu=>(S8 s.heap (Obj.mapSeq f) (SO hb)).trans hu) ⟨_,q⟩ ?_;exact⟨hz,its',_,hv,q⟩
theorem Inv.lnew{F6:List Value}{t':Nat}(I:Inv X pr σ H s)(hv:Vals ys F6)(hz:ys.length<=sizeLine):
  Inv X pr σ (upd H s.heap.objs.size (.lst ys)) {s with heap:=s.heap.push {cls:=.type "list",data:=.seq F6.toArray},toks:=t'}:=
 I.laid (fun _ _ q=>RS _ q) (R1 _) ⟨hz,F6,0,hv,R5 _ rfl⟩
theorem Inv.fresh(I:Inv X pr σ H s):H s.heap.objs.size=none:=I.hok.fresh (R1 _)
theorem Inv.lstM(I:Inv X pr σ H s)(hH:H l=some (.lst xs)):xs.length<=sizeLine/\∃(F6:List Value) (n:Nat),Vals xs F6/\xs.length=F6.length/\s.heap.get? l=some {cls:=.type "list",data:=.seq F6.toArray n}:=by
 obtain⟨z,F6,n,r,e⟩:=I.hok l _ hH;exact⟨z,F6,n,r,r.length,e⟩
end
section
variable{X:Cx}
def yU:V->List V->Hp->VK->Prop:=fun x vs H Q=>∃l xs y,x=.ref l/\vs=[y]/\H l=some (.lst xs)/\xs.length<sizeLine/\Q .non (upd H l (.lst (xs++[y])))
theorem fF:MtM X "list.append" yU:=by
 intro pr s σ H x vs v us Q I rx rv h;obtain⟨l,xs,y,rfl,rfl,hH,hz,q⟩:=h;cases rx;obtain⟨u,rfl,ru⟩:=rv.one;obtain⟨z,F6,n,r,hl,e⟩:=I.lstM hH;refine call_meets F.slot_list_append ⟨_,e,rfl⟩ F.entry_list_append (F.args_list_append_2 _ _) (PySem.list_append l F6.toArray n u (by rw[RY];lia)) ⟨e,?_⟩;refine⟨.non,_,I.lset (its':=F6++[u]) hH e (by simp) (r.append (.cons ru .nil)) ?_,rfl,q⟩;rw[SM,S5];lia
theorem tq{α:Type}(xs:List α)(k:Nat):(List.replicate k xs).flatten.length=k*xs.length:=by
 induction k with
 |zero=>simp
 |succ k ih=>rw[List.replicate_succ,Us,SM,ih,Nat.succ_mul,Nat.add_comm]
end
section
variable{prog:Program}{w:World}{A:Around}{E:Value->Shared->Prop}{s:Shared}
end
section
variable{X:Cx}
end
end L2
namespace Att
open PySem PySem.W PySem.Calls PyProof.Rows
theorem jU{P:Params}{h:Heap}:∀(ns:List Int) (vs:List Value),WellAll P h vs (ns.map WData.int)->IntsAre vs ns:=by
 intro ns;induction ns with
 |nil=>
  intro vs w;rw[U3]at w;cases w;exact .nil
 |cons n ns ih=>
  intro vs w;rw[So]at w;cases w with
  |cons a b=>
   cases a;exact .cons _ _ (ih _ b)
theorem tu{l:OpenLaw}{n:Nat}(hn:l.most=some n){P:Params}{h:Heap}{args:List WData}{vals:List Value}
  (LC:l.row.toRowW.claim.pre args=true) (Pg:WellAll P h vals args):
  ∃a vs ns,vals=[Value.ref a]/\args=[WData.list (ns.map WData.int)]/\h.get? a=some {cls:=.type "list",data:=.seq vs.toArray}/\IntsAre vs ns/\ns.length<=n:=by
 have hsh:WShape.hasAll [] args [.list .int]=true:=(pre_splitW LC).1;have hc:l.pre.holds [] {args:=args}=true:=(pre_splitW LC).2;obtain⟨d,r,rfl,h1,h2⟩:=hasAllW_cons hsh;obtain rfl:=hasAllW_nil h2;obtain⟨xs,rfl,h3⟩:=hasW_list h1;obtain⟨ns,rfl⟩:=items_int h3;have hlen:ns.length<=n:=by
  unfold OpenLaw.pre at hc;have h4:(WTm.not (.lt (.lit (.int (n:Int))) (.len (.arg 0)))).holds [] {args:=[.list (ns.map .int)]}=true:=by
   have h4:=(holds_andW hc).1;rw[hn]at h4;exact h4
  have h5:=condW_of h4 (w_not (w_lt w_lit (w_len_list (w_arg rfl))));rw[RU]at h5;refine Vm fun q=>?_
  have q':(n:Int)<((ns.length:Nat):Int):=by lia
  first
   |(rw[Sq q']at h5;exact absurd h5 (by decide))
   |(simp at h5;lia)
 cases Pg with
 |cons w1 w2=>
  cases w2;cases w1 with
  |list ho Kv=>exact⟨_,_,ns,rfl,rfl,ho,jU ns _ Kv,hlen⟩
theorem tw(l:OpenLaw)(args:List WData):l.row.toRowW.claim.post args (.bool true) args=true:=
 postW_of (r:=l.row.toRowW) (X:=(true==true))
  (show WShape.has [] (.bool true) .bool=true by first|rfl|decide|simp[WShape.has,WShape.arms,WShape.armsAll])
  (show(WTm.eq .res (.lit (.bool true))).value [] {args:=args,res:=some (.bool true),after:=args}=some (.bool (true==true)) from w_eq_bool (w_res rfl) w_lit) rfl
theorem attach_call{l:OpenLaw}{n:Nat}{q:Program}{loose:List Str}{XP:(Str->Option Value)->Heap->Prop}{YP:World->Heap->Prop}{d:DefRec}
  (hn:l.most=some n) (N7:d.params.defaults=[])
  (call:∀(w:World) (s₀ s₁:Shared) (mg mb:Str->Option Value) (fa:Addr) (o:Obj) (pm cd doc:Value) (a:Addr) (vs:List Value) (ns:List Int),
   Ground q loose [] XP w s₀ mg mb s₁.heap->YP w s₁.heap->
   s₁.heap.get? fa=some o->o.data=.func (docDef d.name d.params d.body d.scope pm cd doc)->s₁.heap.CodeRec cd d.name->mg d.name=some (.ref fa)->
   s₁.heap.get? a=some {cls:=.type "list",data:=.seq vs.toArray}->IntsAre vs ns->ns.length<=n->s₁.gens = #[]->
   codeAny (model l.prog w) callerA (.call (.ref fa) ⟨[.ref a],[]⟩) (fun r s'=>r=.ok (.ret (.bool true))/\OldK s₁.heap s'.heap/\s'.os=s₁.os/\AllBare s'.gens) s₁):
  WalkO q loose XP YP l.row.toRowW d [] (fun f vs=>PySem.call f vs):=by
 intro w s₀ s₁ mg mb G Y fa o pm cd doc dV kV ho hd KU hD N8 hg args vals as LC hlay hrd Pg Rc;obtain rfl:dV=.none:=Dflts.none hD N7;obtain rfl:kV=.none:=Dflts.noKw hD;obtain⟨a,vs,ns,rfl,rfl,MK,hints,hlen⟩:=tu hn LC Pg;refine enter_call (codeAny_mono (call w s₀ s₁ mg mb fa o pm cd doc a vs ns G Y ho (fd_plain hd) KU N8 MK hints hlen hg) fun r s' hq=>?_);obtain⟨rfl,h2,h3,h4⟩:=hq;exact⟨.inl ⟨.bool true,.bool true,[],rfl,fun _=>rfl,.bool true,tw l _,fun _=>⟨List.Pairwise.nil,fun _ hm=>(nomatch hm)⟩⟩,h2,h3,h4⟩
section
variable{prog:Program}{w:World}{A:Around}{E:Value->Shared->Prop}{s:Shared}{K:Frag}
end
end Att
namespace L2
open PySem PySem.Spec PyProof.Rows
theorem nP:∀{vs:List Value}{ns:List Int},IntsAre vs ns->Vals (ns.map V.int) vs
 |_,_,.nil=>.nil
 |_,_,.cons n t h=>.cons ⟨t,rfl⟩ (nP h)
def DO(H:Hp):Prop:=∀b,H b=none\/∃o xs,H b=some (.frz o (.lst xs))
theorem wq{P:Program}{w:World}{K:W.Frag}{mg mb:Str->Option Value}{CX:CXT}{k:Nat}{fa a:Addr}{fd:FuncData}{x:Str}{sp:Sp}{s₁:Shared}{vs:List Value}{ns:List Int}
  (KX:K.In s₁.heap) (Jl:s₁.heap.Ns mainGlobals mg) (hb:s₁.heap.Ns builtinsNs mb) (Lr:∀x:Str,x≠"__name__"->mb x=bootBuiltins x) (hlim:s₁.heap.NoLimit) (hg:s₁.gens = #[])
  (ha:s₁.heap.get? a=some {cls:=.type "list",data:=.seq vs.toArray}) (hi:IntsAre vs ns) (hl:ns.length<=sizeLine) (hr:Room k callerA)
  (F:∀base:Heap,K.In base->base.Ns mainGlobals mg->FnOk P w K mg base CX k fa fd [x] sp) (N9:∀(s:Shared) (u:Value),BindsTo s fd ⟨[u],[]⟩ [(x,u)])
  (JO:∀H:Hp,DO H->SqL K H a (ns.map V.int)->sp [.ref a] H (fun v _=>v=.bl true) fun _ _ _=>False)
  (P7:∀H e s',CX [] H s₁ (fun _ _ _=>False) e s'->False):
  codeAny (model P w) callerA (.call (.ref fa) ⟨[.ref a],[]⟩) (fun r s'=>r=.ok (.ret (.bool true))/\OldK s₁.heap s'.heap/\s'.os=s₁.os/\AllBare s'.gens) s₁:=by
 have rv:=nP hi;have lenV:=hi.length;have core:∀H:Hp,DO H->SqL K H a (ns.map V.int)->HOk P w H s₁.heap->(∀b,H b≠none->b=a)->(H a≠none->K.lookup a=none)->
   codeAny (model P w) callerA (.call (.ref fa) ⟨[.ref a],[]⟩) (fun r s'=>r=.ok (.ret (.bool true))/\OldK s₁.heap s'.heap/\s'.os=s₁.os/\AllBare s'.gens) s₁:=by
  intro H hO hS hok hA hK;have Ki:∀{b:Addr}{o:Obj},s₁.heap.get? b=some o->H b=none->(vV s₁.heap H).get? b=some o:=fun e n=>vW e n
  have NY:∀{b:Addr}{o:Obj}{es:Array DictEntry}{ep:Nat},s₁.heap.get? b=some o->o.data=.dict es ep->H b=none:=fun{b o es ep} e d=>by
   cases q:H b with
   |none=>rfl
   |some u=>
    have e':b=a:=hA b (by rw[q];simp);subst e';rw[ha]at e;cases e;have d':Data.seq vs.toArray _=Data.dict es ep:=d;cases d'
  have Ph:∀{b:Addr}{m:Str->Option Value},s₁.heap.Ns b m->(vV s₁.heap H).Ns b m:=fun{b m} ⟨o,es,ep,e,d,r⟩=>⟨o,es,ep,Ki e (NY e d),d,r⟩
  have Rf:K.In (vV s₁.heap H):=fun b o e=>Ki (KX b o e) (by
   cases q:H b with
   |none=>rfl
   |some u=>
    have e':b=a:=hA b (by rw[q];simp);subst e';rw[hK (by rw[q];simp)]at e;cases e)
  have hM:Mod K mg (vV s₁.heap H):=⟨Rf,Ph Jl,⟨mb,Ph hb,Lr⟩,let⟨mc,h1,h2⟩:=hlim;⟨mc,Ph h1,h2⟩⟩
  have e0:Env0 P w K mg (vV s₁.heap H) callerA [] s₁ H:=⟨rfl,hM,fun b o e=>yt e,Xt (sH _ _),trivial,fun b hb=>absurd (show b∈([]:List Addr) from hb) (by simp),hok,.of_eq hg⟩
  refine codeAny_mono ((F _ Rf (Ph Jl)).run callerA [] s₁ H ⟨[.ref a],[]⟩ [.ref a] [.ref a] _ _ hr e0 (N9 s₁ (.ref a)) (.cons rfl .nil) (JO H hO hS)) fun r s' h=>?_
  cases r with
  |error e=>exact(P7 H e s' h).elim
  |ok fl=>
   cases fl with
   |next=>exact False.elim h
   |brk=>exact False.elim h
   |cont=>exact False.elim h
   |ret u=>
    obtain⟨v,H',os,bare,un,hok',r',q⟩:=h;have q':v=.bl true:=q;subst q';obtain rfl:u=Value.bool true:=r';refine⟨rfl,OldK.of_keep fun b o e=>?_,os,bare⟩;cases q:H b with
    |none=>exact un.keep b o e q (by intro z;exact absurd (show b∈([]:List Addr) from z) (by simp)) (by simp)
    |some u=>
     rcases hO b with z|⟨ob,xs,z⟩
     ·rw[q]at z;cases z
     ·have z2:=un.frzs b ob _ z;obtain⟨e1,_⟩:=hok b _ z;obtain⟨e2,_⟩:=hok' b _ z2;rw[e]at e1;cases e1;exact e2
 cases hk:K.lookup a with
 |some o=>
  have e:=KX a o hk;rw[ha]at e;cases e;refine core (fun _=>none) (fun _=>.inl rfl) (.inr ⟨_,vs.toArray,_,hk,rfl,rfl,rfl,by rw[RY,lenV];exact hl,by simpa using rv⟩) (fun b u z=>by have z':(none:Option HO)=some u:=z;cases z') (fun b z=>absurd rfl z) fun z=>absurd rfl z
 |none=>
  refine core (fun b=>if b=a then some (.frz {cls:=.type "list",data:=.seq vs.toArray} (.lst (ns.map V.int))) else none) (fun b=>?_) (.inl (.inr ⟨{cls:=.type "list",data:=.seq vs.toArray},Sa rfl⟩)) (fun b u z=>?_) (fun b z=>?_) fun _=>hk
  ·by_cases hb:b=a
   ·exact .inr ⟨_,_,Sa hb⟩
   ·exact .inl (Sf hb)
  ·by_cases hb:b=a
   ·have z':=(Sa hb).symm.trans z;cases z';subst hb;exact⟨ha,by rw[RU];exact hl,vs,_,rv,ha⟩
   ·have z':=(Sf hb).symm.trans z;cases z'
  ·by_cases hb:b=a
   ·exact hb
   ·exact absurd (Sf hb) z
theorem yV{l:PySem.W.OpenLaw}{n k:Nat}{q:Program}{loose:List Str}{XP:(Str->Option Value)->Heap->Prop}{YP:World->Heap->Prop}{d:DefRec}{K:Params->W.Frag}{CX:World->CXT}{sp:World->Sp}{x:Str}
  (hn:l.most=some n) (hn2:n<=sizeLine) (N7:d.params.defaults=[]) (hr:Room k callerA)
  (hY:∀(w:World) (h:Heap),YP w h->(K w.params).In h)
  (F:∀(w:World) (mg:Str->Option Value) (fa:Addr) (h:Heap),(K w.params).In h->h.Ns mainGlobals mg->mg d.name=some (.ref fa)->
   ∃fd:FuncData,(∀(s:Shared) (u:Value),BindsTo s fd ⟨[u],[]⟩ [(x,u)])/\
    ∀base:Heap,(K w.params).In base->base.Ns mainGlobals mg->FnOk l.prog w (K w.params) mg base (CX w) k fa fd [x] (sp w))
  (JO:∀(w:World) (H:Hp) (a:Addr) (ns:List Int),ns.length<=n->DO H->SqL (K w.params) H a (ns.map V.int)->sp w [.ref a] H (fun v _=>v=.bl true) fun _ _ _=>False)
  (P7:∀(w:World) (H:Hp) (s:Shared) (e:Value) (s':Shared),CX w [] H s (fun _ _ _=>False) e s'->False):
  PySem.W.WalkO q loose XP YP l.row.toRowW d [] (fun f vs=>PySem.call f vs):=by
 refine Att.attach_call hn N7 fun w s₀ s₁ mg mb fa o pm cd doc a vs ns G Y ho hd KU N8 MK hints hlen hg=>?_
 have KX:=hY w _ Y;obtain⟨fd,hb,hF⟩:=F w mg fa _ KX G.T.g N8;exact wq KX G.T.g G.T.b G.T.builtins G.T.nolimit hg MK hints (Ta hlen hn2) hr hF hb (fun H hO hS=>JO w H a ns hlen hO hS) fun H e s'=>P7 w H s₁ e s'
def fG(s:Stmt):Arguments:=match s with
 | .FunctionDef _ a _ _ _ _ _ _ _ _=>a
 |_=>{posonlyargs:=[],args:=[],vararg:=none,kwonlyargs:=[],kw_defaults:=[],kwarg:=none,defaults:=[]}
def du(s:Stmt):List Stmt:=match s with
 | .FunctionDef _ _ b _ _ _ _ _ _ _=>b
 |_=>[]
def defScope(s:Stmt):Scope:=match s with
 | .FunctionDef _ _ _ _ _ _ sc _ _ _=>sc
 |_=>{kind:=.function,names:=[],isGenerator:=false,isCoroutine:=false}
abbrev KZ:CXT:=fun _ _ _ _ _ _=>False
abbrev E0:XK:=fun _ _ _=>False
theorem DP{X:Cx}:sX KZ X E0:=fun _ _ _ _ _ _ _ h=>h.elim
structure Fun(K:W.Frag)(x qual:Str)(st:Stmt)(f:Addr)(fd:FuncData):Prop where
 ex:∃(oc:Value) (od:Option Addr) (kV doc pm:Value) (an:Option Addr) (Gw ct:Value) (Lp:Array (Option Value)),
  fd=PySem.W.fnOf x qual (fG st) (du st) (defScope st) .none kV doc pm an Gw ct/\K.lookup f=some ⟨oc,od,.func fd,Lp⟩/\PySem.W.codeIn K Gw qual=true
 kp:PySem.W.keepIn K (.ref f)=true
section
variable{P:Program}{w:World}{K:W.Frag}{mg:Str->Option Value}{base:Heap}
theorem Fun.ok{x qual:Str}{st:Stmt}{f:Addr}{fd:FuncData}{N ps:List Str}{k:Nat}{sp:Sp}(F:Fun K x qual st f fd)(S:FnScope N ps (defScope st))(len:∀vs H Q E,sp vs H Q E->vs.length=ps.length)
  (KW:∀(Gw:Value) (A:Around) (outer:List Env) (s:Shared) (H:Hp) (vs:List V) (Q:VK) (E:XK),Room k (A.deeper (envOfC qual (defScope st) s.heap.objs.size f Gw))->sp vs H Q E->
   ∃t,PSs (xF KZ P w K mg base N qual (defScope st) f Gw A outer s H E).nox (du st) t/\t {nx:=fun _ H'=>Q .non H',rt:=Q} (ll N vs) H):FnOk P w K mg base KZ (k+1) f fd ps sp:=by
 obtain⟨oc,od,kV,doc,pm,an,Gw,ct,Lp,rfl,lk,KU⟩:=F.ex;refine DL lk KU S len fun A outer s H vs Q E hr JO=>?_
 obtain⟨t,h,q⟩:=KW Gw A outer s H vs Q E hr JO;exact⟨t,h.nox,q⟩
theorem Fun.binds{x qual:Str}{st:Stmt}{f:Addr}{fd:FuncData}{ps:List Str}(F:Fun K x qual st f fd)
  (h:∀(kV doc pm:Value) (an:Option Addr) (Gw ct:Value) (us:List Value),us.length=ps.length->bindArgs (PySem.W.fnOf x qual (fG st) (du st) (defScope st) .none kV doc pm an Gw ct) ⟨us,[]⟩=pure (ps.zip us)):Binds K fd ps []:=by
 obtain⟨oc,od,kV,doc,pm,an,Gw,ct,Lp,rfl,lk,KU⟩:=F.ex;exact .all (h kV doc pm an Gw ct)
theorem xJ{x qual:Str}{st:Stmt}{f:Addr}{oc:Value}{od an:Option Addr}{Lp:Array (Option Value)}{kV doc pm Gw ct:Value}(l:K.lookup f=some ⟨oc,od,.func (PySem.W.fnOf x qual (fG st) (du st) (defScope st) .none kV doc pm an Gw ct),Lp⟩)
  (c:PySem.W.codeIn K Gw qual=true) (k:PySem.W.keepIn K (.ref f)=true):Fun K x qual st f (PySem.W.fnOf x qual (fG st) (du st) (defScope st) .none kV doc pm an Gw ct):=⟨⟨oc,od,kV,doc,pm,an,Gw,ct,Lp,rfl,l,c⟩,k⟩
end
theorem hu_of{A:Around}{k:Nat}(hr:Room k A):A.units+1<cLine:=W8 (Nat.add_le_add_left (by decide:1<=64) _) hr.units
section
variable{X:Cx}
theorem pv(i:Nat){x:Str}{pos:Pos}(hN:X.N[i]?=some x:=by rfl)(hv:PN X.env.scope x:=by first|exact Or.inl rfl|exact Or.inr (Or.inl rfl)|exact Or.inr (Or.inr rfl))(hd:(x==("__debug__" : Str))=false:=by decide)
  (KU:(x==("__classdict__" : Str))=false:=by decide):PE X (.Name x pos) (rg i):=AH hN hv hd KU
end
theorem iteF{A B:Prop}(h:B):if false=true then A else B:=by
 rw[Sf R4];exact h
theorem Bj{A B:Prop}(h:A):if true=true then A else B:=by
 rw[Sa rfl];exact h
def Same(H H':Hp):Prop:=∀b o,H b=some o->H' b=some o
theorem Same.refl(H:Hp):Same H H:=fun _ _ h=>h
theorem Same.trans{H H1 H2:Hp}(a:Same H H1)(b:Same H1 H2):Same H H2:=fun c o h=>b c o (a c o h)
end L2
set_option maxHeartbeats 4000000
namespace NX
open PySem PySem.Spec PyProof.Rows L2
section
variable{X:Cx}
theorem tH:GH X (compareOp .LtE) (fun x y H Q=>∃i j,x=.str i/\y=.str j/\Q (.bl (!decide (j.cps.toList<i.cps.toList))) H):=by
 intro pr s σ H x y v u Q I rx ry h;obtain⟨i,j,rfl,rfl,q⟩:=h;obtain⟨t,rfl⟩:=rx;obtain⟨t',rfl⟩:=ry;exact PySem.P.le_str (qb I q rfl)
theorem wt(v:Int)(n:Nat):max (0:Int) (min (if v<0 then v+(n:Int) else v) (n:Int))=((HT.sIx n 0 (some v):Nat):Int):=by
 show _=(((if v<0 then(v+(n:Int)).toNat else min v.toNat n):Nat):Int)
 split <;> lia
theorem Bk(a b:Nat):sliceRange (a:Int) (b:Int) 1=(List.range (b-a)).map (fun k=>a+k):=by
 unfold sliceRange;rw[Sa (by decide:(1:Int)>0)];by_cases He:(a:Int)<b
 ·have e3:(((b:Int)-a+1-1) / 1).toNat=b-a:=by first|lia|(simp;done)|(simp;lia)
  simp only[He,UK,e3];refine TH fun k _=>?_
  lia
 ·have:b-a=0:=by lia
  simp[He,this]
theorem Fn(lo hi:Option Int)(n:Nat):Builtin.Str.strSliceIndices lo hi 1 n=(List.range (HT.sIx n n hi-HT.sIx n 0 lo)).map (fun k=>HT.sIx n 0 lo+k):=by
 rw[<-Bk];unfold Builtin.Str.strSliceIndices;simp only[show(1:Int)>0 from by decide,UK];cases lo with
 |none=>
  cases hi with
  |none=>rfl
  |some v=>exact Tq (fun z=>sliceRange 0 z 1) (wt v n)
 |some u=>
  cases hi with
  |none=>exact Tq (fun z=>sliceRange z (n:Int) 1) (wt u n)
  |some v=>exact(Tq (fun z=>sliceRange z _ 1) (wt u n)).trans (Tq (fun z=>sliceRange _ z 1) (wt v n))
def Bl(xs:List Nat)(lo hi:Option Int):List Nat:=(xs.drop (HT.sIx xs.length 0 lo)).take (HT.sIx xs.length xs.length hi-HT.sIx xs.length 0 lo)
theorem xK{α:Type}(l:List α):∀(n a:Nat),a+n<=l.length->((List.range n).map (fun k=>a+k)).filterMap (l[·]?)=(l.drop a).take n
 | 0,_,_=>by simp
 |n+1,a,h=>by
  have He:a+n<l.length:=by lia
  rw[WE,Sk,List.filterMap_append,xK l n a (by lia),V3,List.getElem?_drop];simp[RP He]
theorem tI(x:Str)(lo hi:Option Int):(Txt.slice x lo hi).cps.toList=Bl x.cps.toList lo hi:=by
 have hl:x.cps.toList.length=x.length:=Tb;have ha:=HT.tf x.length 0 (Tu _) lo;have hb:=HT.tf x.length x.length (R1 _) hi;unfold Txt.slice Bl;rw[Fn,hl];split
 ·rename_i h;have h2:HT.sIx x.length x.length hi-HT.sIx x.length 0 lo=x.length:=by simpa using h
  have ez:HT.sIx x.length 0 lo=0\/x.length=0:=by lia
  rcases ez with e|e
  ·rw[h2,e,WV,Te (by lia)]
  ·have:x.cps.toList=[]:=S7 (by lia);rw[this];simp
 ·have hk:∀(f:List Nat),f.filterMap (x.cps[·]?)=f.filterMap (x.cps.toList[·]?):=fun f=>by
   congr 1
   funext i
   simp
  show(List.filterMap _ _).toArray.toList=_;rw[VD,hk];by_cases hle:HT.sIx x.length 0 lo<=HT.sIx x.length x.length hi
  ·rw[xK _ _ _ (by lia)]
  ·have e0:HT.sIx x.length x.length hi-HT.sIx x.length 0 lo=0:=by lia
   rw[e0];rfl
abbrev S(l:List Nat):Str:=⟨l.toArray⟩
theorem nQ(x:Str):S x.cps.toList=x:=by cases x;simp[S]
theorem S_inj{a b:List Nat}(h:S a=S b):a=b:=by
 have:=Tq (fun z:Str=>z.cps.toList) h;simpa[S] using this
theorem gG(l:List Nat):(S l).length=l.length:=by simp[S,Str.length]
theorem dv(l:List Nat):(S l).cps.toList=l:=by simp[S]
theorem Bm(a b:List Nat):S a++S b=S (a++b):=by
 rw[<-nQ (S a++S b),PySem.W.KT.app_list,dv,dv]
def Fo:V->Option Int->Option Int->Hp->VK->Prop:=fun x lo hi H Q=>∃l,x=.str (S l)/\l.length<=sizeLine/\Q (.str (S (Bl l lo hi))) H
theorem Bn:MJ X Fo:=by
 intro pr s σ H x v vl vu lo hi sl Q I rx hs pl pu h;obtain⟨l,rfl,hz,q⟩:=h;obtain⟨t,rfl⟩:=rx;have hz':(S l).length<=sizeLine:=by rw[gG];exact hz
 have e:∀t' k,EP X pr σ Q (.str (Txt.slice (S l) lo hi) t') {s with toks:=k}:=fun t' k=>by
  refine⟨.str (S (Bl l lo hi)),H,I.tok _,⟨t',?_⟩,q⟩;have e1:=tI (S l) lo hi;rw[dv]at e1;rw[<-e1,nQ]
 refine⟨"str",_,PySem.F.slot_str_getitem.lookup,V1 _ _ _,?_⟩;have key:∀(ML Pj:Option (Int×Tok)),partValue ML=vl->partValue Pj=vu->ML.map (·.1)=lo->Pj.map (·.1)=hi->
   wpAny (model X.prog X.w) X.A (getItem (.str (S l) t) (.ref sl)) (EP X pr σ Q) X.xe s:=by
  rintro ML Pj rfl rfl rfl rfl;exact wpAny_getItem_str_slice (l:=ML) (u:=Pj) (st:=none) hs rfl (post_val_or_str ⟨Ta (Txt.slice_le (S l) _ _) hz',fun t' k=>e t' k⟩)
 cases pl with
 |none=>
  cases pu with
  |none=>exact key none none rfl rfl rfl rfl
  |int j uj=>exact key none (some (j,uj)) rfl rfl rfl rfl
 |int i ui=>
  cases pu with
  |none=>exact key (some (i,ui)) none rfl rfl rfl rfl
  |int j uj=>exact key (some (i,ui)) (some (j,uj)) rfl rfl rfl rfl
theorem yW{xs:List V}{j:Nat}{x:V}(h:xs[j]?=some x):xs.getD j .non=x:=by rw[Sj,h];rfl
end
def Def(K:W.Frag)(mg:Str->Option Value)(x:Str)(st:Stmt):Prop:=∃f fd,Fun K x x st f fd/\mg x=some (.ref f)
def Ct(P:Program)(w:World)(K:W.Frag)(mg:Str->Option Value)(base:Heap)(x:Str)(k:Nat)(sp:Sp):Prop:=
 ∃f fd ps,FnOk P w K mg base KZ k f fd ps sp/\mg x=some (.ref f)/\PySem.W.keepIn K (.ref f)=true/\Binds K fd ps []
section
variable{X:Cx}{e:Expr}{es:List Expr}{t:TA}{x:Str}{p pos:Pos}{k:Nat}{sp:Sp}
theorem DQ(C:Ct X.prog X.w X.K X.mg X.base x k sp)(hr:Room k X.A)(hg:Gl X x)(ha:PA X (e::es) t)(IA:(x==("__debug__" : Str))=false:=by decide)
  (he:starEach (e::es) X.env=(false,eval e X.env)::starEach es X.env:=by rfl) (Ha:(backTo pos (starEach es X.env)).any (·.1)=false:=by rfl):
  PE X (.Call (.Name x p) (e::es) [] pos) (tCall sp [] E0 t):=by
 obtain⟨f,fd,ps,G,m,kp,b⟩:=C;exact yL G hr hg m kp b .nil DP ha IA he Ha
def Gi(mg:Str->Option Value)(x:Str)(n:Int):Prop:=∃t,mg x=some (.int n t)
theorem DR{n:Int}(h:Gi X.mg x n)(hg:Gl X x)(hd:(x==("__debug__" : Str))=false:=by decide):PE X (.Name x p) (tC (.int n)):=by
 obtain⟨t,m⟩:=h;exact yv hg m ⟨t,rfl⟩ hd
end
theorem bt_len:bootBuiltins "len" = some (.builtin "len"):=by decide +kernel
theorem l7:bootBuiltins "isinstance" = some (.builtin "isinstance"):=by decide +kernel
theorem ia:bootBuiltins "str" = some (.type "str"):=by decide +kernel
theorem jV:bootBuiltins "list" = some (.type "list"):=by decide +kernel
theorem tJ:bootBuiltins "int" = some (.type "int"):=by decide +kernel
theorem cG:bootBuiltins "tuple" = some (.type "tuple"):=by decide +kernel
theorem yX:bootBuiltins "bool" = some (.type "bool"):=by decide +kernel
theorem line_eq:sizeLine=16777216:=Tc
theorem lt1(c d:Nat):([c]<[d])<->c<d:=by
 rw[List.cons_lt_cons_iff];simp
theorem flat_strs(a:List (List Nat)):(a.map fun l=>V.str (S l)).all wo=true:=by
 rw[SD];intro v hv;obtain⟨l,_,rfl⟩:=TM.mp hv;rfl
section
variable{X:Cx}{e:Expr}{st:Stmt}
end
def clOf(scope:Scope)(env:Env):List (Str×Addr):=scope.names.foldl (fun cs y=>if y.2==NameKind.free then(y.1,(env.cells.lookup y.1).getD 0)::cs else cs) []
def ib(scope:Scope)(env:Env):Bool:=scope.names.all fun y=>y.2 != NameKind.free||env.kindOf y.1==some .cell||env.kindOf y.1==some .free
theorem gw(env:Env):∀(l:List (Str×NameKind)) (cs:List (Str×Addr)),(∀y∈l,y.2=.free->∃c,env.cells.lookup y.1=some c)->
  (forIn l cs fun(y:Str×NameKind) (r:List (Str×Addr))=>(do
   if y.2==NameKind.free then
    let a <-cellOf env y.1
    pure (ForInStep.yield ((y.1,a)::r))
   else pure (ForInStep.yield r):Sem (ForInStep (List (Str×Addr)))))=pure (l.foldl (fun cs y=>if y.2==NameKind.free then(y.1,(env.cells.lookup y.1).getD 0)::cs else cs) cs)
 |[],cs,_=>by simp
 |y::l,cs,h=>by
  rw[Ut,VE];by_cases k:y.2=.free
  ·obtain⟨c,e⟩:=h y RQ k;have e2:cellOf env y.1=pure c:=by unfold cellOf;rw[e]
   simp only[k,SQ,UK,e2,e,Option.getD_some,pure_bind];exact gw env l _ fun z hz=>h z (RZ _ hz)
  ·have kb:(y.2==NameKind.free)=false:=by simpa using k
   simp only[kb,S4,VN,pure_bind];exact gw env l _ fun z hz=>h z (RZ _ hz)
theorem gJ(env:Env)(x:Str)(c:Addr):∀(l:List (Str×NameKind)) (cs:List (Str×Addr)),(∀y∈l,y.2=.free->∃c,env.cells.lookup y.1=some c)->(cs.lookup x=some c->env.cells.lookup x=some c)->
  (l.foldl (fun cs y=>if y.2==NameKind.free then(y.1,(env.cells.lookup y.1).getD 0)::cs else cs) cs).lookup x=some c->env.cells.lookup x=some c
 |[],_,_,h,e=>h e
 |y::l,cs,hf,h,e=>by
  rw[VE]at e;refine gJ env x c l _ (fun z hz=>hf z (RZ _ hz)) (fun q=>?_) e;split at q
  ·rename_i k;have k:y.2=.free:=by simpa using k
   obtain⟨d,ed⟩:=hf y RQ k;rw[Ti]at q;cases hx:x==y.1 with
   |true=>
    rw[hx]at q;have exy:x=y.1:=by simpa using hx
    rw[ed,Option.getD_some]at q;rw[exy,ed];exact q
   |false=>
    rw[hx]at q;exact h q
  ·exact h q
theorem jW(env:Env)(x:Str):∀(l:List (Str×NameKind)) (cs:List (Str×Addr)),((∃d,cs.lookup x=some d)\/(x,NameKind.free)∈l)->
  ∃d,(l.foldl (fun cs y=>if y.2==NameKind.free then(y.1,(env.cells.lookup y.1).getD 0)::cs else cs) cs).lookup x=some d
 |[],_,h=>by
  rcases h with h|h
  ·exact h
  ·cases h
 |y::l,cs,h=>by
  rw[VE];refine jW env x l _ ?_;rcases h with⟨d,h⟩|h
  ·refine .inl ?_;split
   ·rw[Ti];cases hx:x==y.1 with
    |true=>exact⟨_,rfl⟩
    |false=>exact⟨d,h⟩
   ·exact⟨d,h⟩
  ·rcases RV.mp h with h|h
   ·refine .inl ?_;rw[<-h];refine⟨(env.cells.lookup x).getD 0,?_⟩;show List.lookup x ((x,_)::cs)=_;rw[Ti,SQ]
   ·exact .inr h
noncomputable def bQ(X:Cx)(scope:Scope)(N:List Str)(C:Addr)(s:Shared)(H:Hp)(fp:List Addr)(pn:List (Addr×Obj)):Cx:=
 {X with N:=N,s₀:=s,H₀:=H,env:=compEnvC scope (clOf scope X.env) C X.env,outer:=X.stack,ex:=fp,fn:=fun _=>false,pn:=pn,xe:=fun _ _=>False}
def lH(ix:List (Option Nat))(σ:L2.St):L2.St:=ix.map fun i=>i.bind fun i=>(σ[i]?).bind id
noncomputable def yY(wi:TI)(ix:List (Option Nat))(g:TG)(tc:TT)(te:TE):TE:=fun σ H Q=>wi σ H fun J H1=>∀D,H1 D=none->∃W:Nat->Nat->L2.St->Hp->Prop,(∃m,W 0 m (lH ix σ) (upd H1 D (.lst [])))/\
 ∀i m σ1 H2,W i m σ1 H2->(J.stop i H2/\Q (.ref D) H2)\/(J.go i H2/\∀x H3,J.yld i H2 x H3->g x σ1 H3 fun σ2 H4=>tc σ2 H4 fun b H5=>if b=true then te σ2 H5 fun v H6=>
  ∃ys,H6 D=some (.lst ys)/\ys.length<sizeLine/\∃m',m'<m/\W (i+1) m' σ2 (upd H6 D (.lst (ys++[v]))) else ∃m',m'<m/\W (i+1) m' σ2 H5)
abbrev LD:Value->Shared->Prop:=fun _ _=>False
theorem NA{α:Type}{M:Model}{A:Around}{t:Sem α}{Q Q':α->Shared->Prop}{E:Value->Shared->Prop}{s:Shared}(h:wpAny M A t Q LD s)(k:∀a s,Q a s->Q' a s):wpAny M A t Q' E s:=VY h k fun _ _ z=>z.elim
theorem tM{prog:Program}{w:World}{A:Around}{R:Result->Shared->Prop}{s:Shared}{elt target iter:Expr}{ifs:List Expr}{scope:Scope}{pos:Pos}{it acc:Value}{env:Env}(I:Nat->Shared->Prop)
  (turn:∀n s,I n s->wpAny (model prog w) A (pyNext it) (fun r s₁=>match r with
   |none=>R (.ok .next) s₁
   |some v=>wpAny (model prog w) A (letOwnedTupleGo target it v) (fun _ s₂=>wpAny (model prog w) A (assign target env v) (fun _ s₃=>
     wpAny (model prog w) A (forIn ifs true fun c r=>if r=true then do let ok <-isTrue c env (eval c env);pure (ForInStep.yield ok) else pure (ForInStep.yield r)) (fun ok s₄=>
      if ok=true then wpAny (model prog w) A (eval elt env) (fun x s₅=>
       wpAny (model prog w) A (call (.builtin "list.append") [acc,x]) (fun _ s₆=>∃m,m<n/\I m s₆) LD s₅) LD s₄
      else ∃m,m<n/\I m s₄) LD s₃) LD s₂) LD s₁) LD s)
  (n:Nat) (h:I n s):codeAny (model prog w) A (.compLoop (.ListComp elt [⟨target,iter,ifs,0⟩] scope pos) 0 it acc env) R s:=by
 refine codeAny_loop rfl I (fun n s hI=>?_) n h;show wpAny _ A ((compTurn (.ListComp elt [⟨target,iter,ifs,0⟩] scope pos) 0 it acc env).onRaise (fun x=>do noteFrame x env;theTreesLotGoes x)) _ _ s;refine wpAny_noted ?_;rw[compTurn_list];refine RO (wpAny_standAt (RO (NA (turn n s hI) fun r s₁ h₁=>?_)));cases r with
 |none=>exact RT h₁
 |some v=>
  refine RO (NA h₁ fun _ s₂ h₂=>RO (NA h₂ fun _ s₃ h₃=>RO (NA h₃ fun ok s₄ h₄=>?_)));cases ok with
  |false=>exact RT ⟨rfl,h₄⟩
  |true=>exact RO (RO (NA h₄ fun x s₅ h₅=>RO (NA h₅ fun _ s₆ h₆=>RT (RT ⟨rfl,h₆⟩))))
def Oa(X:Cx)(ifs:List Expr)(t:TT):Prop:=
 ∀(pr:List (Addr×Obj)) (s:Shared) (σ:L2.St) (H:Hp) (Q:Bool->Hp->Prop),Inv X pr σ H s->t σ H Q->
  wpAny (model X.prog X.w) X.A (forIn ifs true fun c r=>if r=true then do let ok <-isTrue c X.env (eval c X.env);pure (ForInStep.yield ok) else pure (ForInStep.yield r)) (TP X pr σ Q) X.xe s
def Fp:TT:=fun _ H Q=>Q true H
theorem yZ{X:Cx}:Oa X [] Fp:=fun _ _ _ H _ I h=>wpAny_tests_nil ⟨H,I,h⟩
def xM(X:Cx)(scope:Scope)(N:List Str)(ix:List (Option Nat)):Bool:=
 N.length==ix.length&&(N.zip ix).all fun y=>match y.2 with
  |none=>true
  |some j=>X.N[j]?==some y.1&&scope.names.lookup y.1==some .free
theorem nR{scope:Scope}{env:Env}{x:Str}(h:scope.names.lookup x=some .free):(relabel scope env).names.lookup x=some .cell\/(relabel scope env).names.lookup x=some .free:=by
 unfold relabel;dsimp only;generalize scope.names=l at h;induction l with
 |nil=>cases h
 |cons y l ih=>
  obtain⟨n,k⟩:=y;rw[Ti]at h;rw[So];cases hx:x==n with
  |true=>
   rw[hx]at h;have hk:k=.free:=SX h;subst hk;dsimp only;split
   ·exact .inl (by rw[Ti,hx])
   ·exact .inr (by rw[Ti,hx])
  |false=>
   rw[hx]at h;dsimp only;split
   ·rw[Ti,hx];exact ih h
   ·rw[Ti,hx];exact ih h
theorem nU{scope:Scope}{env:Env}{x:Str}(hc:∀y∈scope.names,y.2≠.cell)(h:(relabel scope env).names.lookup x=some .cell\/(relabel scope env).names.lookup x=some .free):(x,NameKind.free)∈scope.names:=by
 unfold relabel at h;dsimp only at h;generalize scope.names=l at h hc;induction l with
 |nil=>rcases h with h|h <;> cases h
 |cons y l ih=>
  obtain⟨n,k⟩:=y;rw[So]at h;dsimp only at h;have nk:k≠.cell:=hc (n,k) RQ;have Rg:=ih (hc:=fun z hz=>hc z (RZ _ hz));by_cases cnd:(k==NameKind.free&&env.scope.kind==.function&&env.kindOf n==some .cell)=true
  ·rw[Sa cnd,Ti]at h;have kf:k=.free:=by
    have:(k==NameKind.free)=true:=by
     simp only[Si]at cnd;exact cnd.1.1
    simpa using this
   cases hx:x==n with
   |true=>
    have:x=n:=by simpa using hx
    rw[this,kf];exact RQ
   |false=>
    rw[hx]at h;exact RZ _ (Rg h)
  ·rw[Sf cnd,Ti]at h;cases hx:x==n with
   |true=>
    rw[hx]at h;have:x=n:=by simpa using hx
    rcases h with h|h
    ·exact absurd (SX h) nk
    ·rw[this,<-SX h];exact RQ
   |false=>
    rw[hx]at h;exact RZ _ (Rg h)
section
variable{X:Cx}{pr:List (Addr×Obj)}{σ:L2.St}{H:Hp}{s:Shared}{scope:Scope}{N:List Str}{ix:List (Option Nat)}{fp:List Addr}
theorem l8(ok:X.Ok)(hf:ib scope X.env=true):∀y∈scope.names,y.2=.free->∃c,X.env.cells.lookup y.1=some c:=fun y hy k=>by
 have:=SD.mp hf y hy;rw[k]at this;simp only[V4,Bool.false_or,WG,SR]at this;exact ok.has y.1 this
theorem jX(ok:X.Ok)(hf:ib scope X.env=true){x:Str}{c:Addr}(h:(clOf scope X.env).lookup x=some c):X.env.cells.lookup x=some c:=
 gJ X.env x c scope.names [] (l8 ok hf) (fun z=>nomatch z) h
theorem tN(ok:X.Ok)(hf:ib scope X.env=true){x:Str}(h:(x,NameKind.free)∈scope.names):∃c,(clOf scope X.env).lookup x=some c/\X.env.cells.lookup x=some c:=by
 obtain⟨c,e⟩:=jW X.env x scope.names [] (.inr h);exact⟨c,e,jX ok hf e⟩
theorem _root_.L2.Inv.block(I:Inv X pr σ H s)(hf:ib scope X.env=true)(hk:scope.kind=.function)(GN:∀y∈scope.names,y.2≠.cell)(Jm:xM X scope N ix=true)(fo:∀b∈fp,rh X pr H b)(fin:∀b∈fp,∃o,s.heap.get? b=some o)
  {h1:Heap}{t1:Nat}{D C:Addr}(hD:D=s.heap.objs.size) (hC:C=s.heap.objs.size+1) (old:∀b o,s.heap.get? b=some o->h1.get? b=some o) {n:Nat}(acc:h1.get? D=some {cls:=.type "list",data:=.seq #[] n})
  {m:Str->Option Value}(ns:h1.Ns C m):Inv (bQ X scope N C s H fp (X.pn++pr)) [] (lH ix σ) (upd H D (.lst [])) {s with heap:=h1,toks:=t1}:=by
 have JT:s.heap.objs.size<=C:=by rw[hC];exact UZ _
 have freshD:s.heap.objs.size<=D:=by rw[hD];exact R1 _
 have nD:H D=none:=I.hok.fresh freshD;have DC:D≠C:=by rw[hD,hC];exact Sl (TZ _)
 have MN:∀b,H b=none->b≠D->upd H D (.lst []) b=none:=fun b n z=>by rw[az z];exact n
 have NB:∀b o,s.heap.get? b=some o->b≠D:=fun b o e=>Sl (Sd (R0 e) freshD)
 have LF:∀b o,s.heap.get? b=some o->b≠C:=fun b o e=>Sl (Sd (R0 e) JT)
 have cellAt:∀x c,(clOf scope X.env).lookup x=some c->∃v o,s.heap.get? c=some o/\o.data=.cell v:=fun x c e=>by
  obtain⟨v,o,ho,hd⟩:=I.cell x c (jX I.ok hf e);exact⟨v,o,ho,hd⟩
 have okY:(bQ X scope N C s H fp (X.pn++pr)).Ok:=by
  refine⟨I.ok.mod,hk,I.ok.glob,I.ok.blt,JT,fun x y c e1 e2=>?_,fun x hx=>?_,fun x c z _=>?_,I.ok.hd,I.ok.frames,.inl rfl,fun b hb=>?_,I.bs,?_,fun b o e hb=>?_,fun b hb hs=>?_,I.stack,I.stkFree⟩
  ·exact I.ok.inj x y c (jX I.ok hf e1) (jX I.ok hf e2)
  ·obtain⟨c,e,_⟩:=tN I.ok hf (nU GN hx);exact⟨c,e⟩
  ·exact absurd (show false=true from z) R4
  ·obtain⟨f0,f1,f2,f3,f4,f5⟩:=fo b hb;refine⟨?_,fun x c e=>f4 x c (jX I.ok hf e)⟩;intro z;have z:b=C:=z;obtain⟨o,ho⟩:=fin b hb;exact LF b o ho z
  ·exact Ta I.ok.bsz I.sz
  ·obtain⟨f0,f1,f2,f3,f4,f5⟩:=fo b hb;rcases f3 with q|q
   ·exact I.ok.noex b o e q
   ·exact absurd (Sd (R0 e) (Ta I.ok.bsz q)) (T6 _)
  ·obtain⟨f0,f1,f2,_⟩:=fo b hb;exact(RV.mp (I.stkSub b hs)).elim f1 f2
 refine⟨okY,rfl,I.bare,Un.laid old freshD nD,⟨m,ns,fun i x v e1 e2 e3=>?_⟩,fun x c e=>?_,?_,fun x c e=>?_,fun p hp=>?_,I.hok.laid old freshD ⟨Tu _,[],n,.nil,acc⟩,?_⟩
 ·
  have e2:(ix.map fun i=>i.bind fun i=>(σ[i]?).bind id)[i]?=some (some v):=e2;have e1:N[i]?=some x:=e1;unfold xM at Jm;rw[Si]at Jm;rw[Sm]at e2;cases q:ix[i]? with
  |none=>rw[q]at e2;cases e2
  |some o=>
   rw[q]at e2;have e2:(o.bind fun i=>(σ[i]?).bind id)=some v:=SX e2;cases o with
   |none=>cases e2
   |some j=>
    have e2:(σ[j]?).bind id=some v:=e2;have hσ:σ[j]?=some (some v):=by
     cases w':σ[j]? with
     |none=>rw[w']at e2;cases e2
     |some y=>rw[w']at e2;exact Tq some e2
    have hz:(N.zip ix)[i]?=some (x,some j):=by
     rw[Up];exact⟨e1,q⟩
    have hy:=SD.mp Jm.2 _ (SG hz);simp only[Si,SR]at hy;have Rh:(x,NameKind.free)∈scope.names:=Ug hy.2;obtain⟨c,c1,c2⟩:=tN I.ok hf Rh;have Ls:X.env.kindOf x=some .cell\/X.env.kindOf x=some .free:=by
     have:=SD.mp hf _ Rh;simpa using this
    obtain⟨mo,LB,Rc⟩:=I.loc;obtain⟨u,r,l⟩:=Rc j x v hy.1 hσ (.inr Ls);refine⟨u,r,.inr ⟨nR hy.2,c,c1,?_⟩⟩;rcases l with⟨k1,_⟩|⟨_,c',e',JE⟩
    ·rcases Ls with k2|k2 <;> (rw[k1]at k2;cases k2)
    ·rw[c2]at e';cases e';obtain⟨o,ho,hd⟩:=JE;exact⟨o,old c o ho,hd⟩
 ·obtain⟨v,o,ho,hd⟩:=cellAt x c e;exact⟨v,o,old c o ho,hd⟩
 ·exact MN C (I.hok.fresh JT) (SO DC)
 ·obtain⟨v,o,ho,hd⟩:=cellAt x c e;exact MN c (I.freeC x c (jX I.ok hf e)) (NB c o ho)
 ·have hp:p∈X.pn++pr:=by
   have:p∈(X.pn++pr)++[]:=hp
   rwa [Sg]at this
  obtain⟨e,nn,ne,nf,d⟩:=I.pin p hp;refine⟨old _ _ e,MN _ nn (NB _ _ e),LF _ _ e,fun z=>?_,d⟩;exact(RV.mp (I.stkSub p.1 z)).elim ne nf
 ·unfold xM at Jm;rw[Si]at Jm;have:N.length=ix.length:=by simpa using Jm.1
  show(ix.map _).length=N.length;rw[RU,this]
theorem _root_.L2.Inv.unblock{C:Addr}{σ1:L2.St}{H1:Hp}{s1:Shared}{h2:Heap}(I:Inv X pr σ H s)(fo:∀b∈fp,rh X pr H b)(hC:s.heap.objs.size<=C)(J:Inv (bQ X scope N C s H fp (X.pn++pr)) [] σ1 H1 s1)(hs:Heap.SameBut C s1.heap h2):
  Inv X pr σ H1 {s1 with heap:=h2}:=by
 have LF:∀b o,s.heap.get? b=some o->b≠C:=fun b o e=>Sl (Sd (R0 e) hC)
 have bb:Un (Kf X.stack) fp H H1 s.heap s1.heap:=J.base;have jf:H1 C=none:=J.free;refine I.call' (s':={s1 with heap:=h2}) (ch:=fp) J.os ⟨fun b o e n hb hx=>?_,fun b o e n hb hx=>?_,bb.free,fun b o e hx=>?_,bb.tups,bb.frzs,bb.tbls⟩ (fun b ob e=>?_) J.bare fun b hb=>?_
 ·exact(hs.2 b (LF b o e)).trans (bb.keep b o e n hb hx)
 ·obtain⟨sl,q⟩:=bb.slot b o e n hb hx;exact⟨sl,(hs.2 b (LF b o e)).trans q⟩
 ·obtain⟨o',q⟩:=bb.there b o e hx;exact⟨o',(hs.2 b (LF b o e)).trans q⟩
 ·refine(J.hok b ob e).stay (fun c w' hc q=>(hs.2 c ?_).trans q) (fun _ q=>q) fun _ _ q=>q
  rintro rfl;rcases hc with rfl|hc
  ·rw[jf]at e;cases e
  ·rw[jf]at hc;cases hc
 ·obtain⟨f0,f1,f2,f3,f4,f5⟩:=fo b hb;exact⟨f3,f1,f4,f5⟩
end
section
variable{X:Cx}{scope:Scope}{N:List Str}{ix:List (Option Nat)}{tg iter elt:Expr}{ifs:List Expr}{pos:Pos}{wi:TI}{g:TG}{tc:TT}{te:TE}
theorem lI{pr:List (Addr×Obj)}{σ:L2.St}{H2:Hp}{s2:Shared}{J:It}{fp:List Addr}{it:Addr}{tn:Nat->Heap->Prop}{Q:VK}{RR:Value->Addr->Result->Shared->Prop}{E:Value->Shared->Prop}
  (hc:X.calm=true) (I2:Inv X pr σ H2 s2) (T:Turn X.prog X.w X.K tg J fp it tn) (F8:tn 0 s2.heap) (f2:∀b∈fp,rh X pr H2 b)
  (hg:∀C s H fp pn,PG (bQ X scope N C s H fp pn) tg g) (ht:∀C s H fp pn,Oa (bQ X scope N C s H fp pn) ifs tc) (he:∀C s H fp pn,PE (bQ X scope N C s H fp pn) elt te)
  (hf:ib scope X.env=true) (hk:scope.kind=.function) (GN:∀y∈scope.names,y.2≠.cell) (Jm:xM X scope N ix=true)
  (q:∀D,H2 D=none->∃W:Nat->Nat->L2.St->Hp->Prop,(∃m,W 0 m (lH ix σ) (upd H2 D (.lst [])))/\
   ∀i m σ1 H3,W i m σ1 H3->(J.stop i H3/\Q (.ref D) H3)\/(J.go i H3/\∀x H4,J.yld i H3 x H4->g x σ1 H4 fun σ2 H5=>tc σ2 H5 fun b H6=>if b=true then te σ2 H6 fun v H7=>
    ∃ys,H7 D=some (.lst ys)/\ys.length<sizeLine/\∃m',m'<m/\W (i+1) m' σ2 (upd H7 D (.lst (ys++[v]))) else ∃m',m'<m/\W (i+1) m' σ2 H6))
  (hRR:∀(D C:Addr) (σ1:L2.St) (H1:Hp) (s1:Shared),s2.heap.objs.size<=C->Inv (bQ X scope N C s2 H2 fp (X.pn++pr)) [] σ1 H1 s1->Q (.ref D) H1->RR (.ref D) C (.ok .next) s1):
  wpAny (model X.prog X.w) X.A (newList []) (fun acc s₃=>wpAny (model X.prog X.w) X.A (newFunctionEnv scope X.env.globals (clOf scope X.env) [] X.env.qual none .none (some X.env)) (fun Ob s₄=>
   codeAny (model X.prog X.w) X.A (.compStart (.ListComp elt [⟨tg,iter,ifs,0⟩] scope pos) 0 (.ref it) acc {Ob with scope:=relabel scope X.env}) (RR acc Ob.locals) s₄) E s₃) E s2:=by
 refine Td (wpAny_newFunctionEnv GN (by intro y hy;simp at hy) (fun h₁ hns₁ hsb₁=>?_) hk);dsimp only at hns₁ hsb₁ ⊢;generalize hH2:s2.heap.push {cls:=.type "list",dict:=none,data:=.seq ([]:List Value).toArray}=HH at hns₁ hsb₁ ⊢;have hC:HH.objs.size=s2.heap.objs.size+1:=by rw[<-hH2,Th]
 have hDC:s2.heap.objs.size≠HH.objs.size:=by rw[hC];exact Sl (TZ _)
 have Oc:s2.heap.objs.size<=HH.objs.size:=by rw[hC];exact UZ _
 have LF:∀b o,s2.heap.get? b=some o->b≠HH.objs.size:=fun b o e=>Sl (Sd (R0 e) Oc)
 have old:∀b o,s2.heap.get? b=some o->h₁.get? b=some o:=fun b o e=>hsb₁.extBut b o (LF b o e) (RS _ (hH2▸RS _ e))
 have LG:h₁.get? s2.heap.objs.size=some {cls:=.type "list",data:=.seq #[] 0}:=hsb₁.extBut _ _ hDC (RS _ (hH2▸R5 _ rfl));obtain⟨W,⟨m0,w0⟩,turn⟩:=q s2.heap.objs.size (I2.hok.fresh (R1 _));have fin:∀b∈fp,∃o,s2.heap.get? b=some o:=fun b hb=>let⟨o,e,_⟩:=T.obj 0 _ F8 b hb;⟨o,e⟩
 have JS:∀{H':Hp},(∀b∈fp,H' b=none)->∀b∈fp,rh (bQ X scope N HH.objs.size s2 H2 fp (X.pn++pr)) [] H' b:=fun{H'} hn b hb=>by
  obtain⟨f0,f1,ff,f3,f4,f5⟩:=f2 b hb;refine⟨hn b hb,?_,fun z=>?_,.inl hb,fun x c e=>f4 x c (jX I2.ok hf e),fun p hp=>?_⟩
  ·intro z;have z:b=HH.objs.size:=z;obtain⟨o,ho⟩:=fin b hb;exact LF b o ho z
  ·exact(RV.mp (I2.stkSub b z)).elim f1 ff
  ·have hp:p∈X.pn++pr:=by
    have:p∈(X.pn++pr)++[]:=hp
    rwa [Sg]at this
   exact f5 p hp
 have loop:∀s₃:Shared,s₃={s2 with heap:=h₁,toks:=s2.toks+([]:List (Str×Value)).length}->
   codeAny (model X.prog X.w) X.A (.compLoop (.ListComp elt [⟨tg,iter,ifs,0⟩] scope pos) 0 (.ref it) (.ref s2.heap.objs.size) (compEnvC scope (clOf scope X.env) HH.objs.size X.env)) (RR (.ref s2.heap.objs.size) HH.objs.size) s₃:=by
  rintro s₃ rfl;refine tM (fun n s'=>∃i σ' H',Inv (bQ X scope N HH.objs.size s2 H2 fp (X.pn++pr)) [] σ' H' s'/\tn i s'.heap/\(∀b∈fp,H' b=none)/\W i n σ' H') ?_ m0
   ⟨0,_,_,I2.block hf hk GN Jm f2 fin rfl hC old LG hns₁,T.keep 0 _ _ F8 fun b _ o e=>old b o e,fun b hb=>?_,w0⟩
  ·rintro n s3 ⟨i,σ3,H3,I3,GA,NU,w3⟩;rcases turn i n σ3 H3 w3 with⟨stop,qn⟩|⟨go,step⟩
   ·refine Gp (T.done (bQ X scope N HH.objs.size s2 H2 fp (X.pn++pr)) rfl rfl rfl hc i [] s3 σ3 H3 LD I3 (JS NU) GA stop) fun r s4 Gk=>?_
    obtain⟨hr,I4⟩:=Gk;subst hr;exact hRR _ _ σ3 H3 s4 Oc I4 qn
   ·refine Gp (T.item (bQ X scope N HH.objs.size s2 H2 fp (X.pn++pr)) rfl rfl rfl hc i [] s3 σ3 H3 LD I3 (JS NU) GA go) fun r s4 Gk=>?_
    obtain⟨u,hr,h4⟩:=Gk;subst hr;refine Gp h4 fun _ s5 Gk=>?_
    obtain⟨x,H5,I5,r5,y5,Iz,PX⟩:=Gk;have PY:=I5.pinned (JS PX) (T.obj _ _ Iz);refine Gp (hg _ _ _ _ _ _ s5 σ3 H5 x u _ PY r5 (step x H5 y5)) fun _ s6 Gk=>?_
    obtain⟨σ6,H6,I6,q6⟩:=Gk;refine Gp (ht _ _ _ _ _ _ s6 σ6 H6 _ I6 q6) fun ok s7 Gk=>?_
    obtain⟨H7,I7,q7⟩:=Gk;have again:∀{H8:Hp}{s8:Shared},Inv (bQ X scope N HH.objs.size s2 H2 fp (X.pn++pr)) ([]++nF fp s5.heap) σ6 H8 s8->(∃m',m'<n/\W (i+1) m' σ6 H8)->
      ∃m,m<n/\∃i σ' H',Inv (bQ X scope N HH.objs.size s2 H2 fp (X.pn++pr)) [] σ' H' s8/\tn i s8.heap/\(∀b∈fp,H' b=none)/\W i m σ' H':=fun{H8 s8} I8 ⟨m',hm,w8⟩=>by
     refine⟨m',hm,i+1,σ6,H8,I8.unpinned,T.keep _ _ _ Iz fun b hb o e=>(I8.pin (b,o) (RX _ (RX _ (gu hb e)))).1,fun b hb=>?_,w8⟩;obtain⟨o,e,d⟩:=T.obj _ _ Iz b hb;exact(I8.pin (b,o) (RX _ (RX _ (gu hb e)))).2.1
    cases ok with
    |false=>exact again I7 q7
    |true=>
     show wpAny _ _ _ _ _ _;refine Gp (he _ _ _ _ _ _ s7 σ6 H7 _ I7 q7) fun x8 s8 Gk=>?_
     obtain⟨v8,H8,I8,r8,ys,P8,He,q8⟩:=Gk;refine Gp (fF _ s8 σ6 H8 (.ref s2.heap.objs.size) [v8] (.ref s2.heap.objs.size) [x8] (fun _ H9=>∃m',m'<n/\W (i+1) m' σ6 H9) I8 rfl (.cons r8 .nil) ⟨_,ys,v8,rfl,rfl,P8,He,q8⟩) fun _ s9 Gk=>?_
     obtain⟨_,H9,I9,_,q9⟩:=Gk;exact again I9 q9
  ·rw[az (fun z=>by
    obtain⟨o,ho⟩:=fin b hb;exact absurd z (Sl (R0 ho)))]
   exact(f2 b hb).1
 exact codeAny_compStart_list (loop _ rfl) (T.self _ 0 _ _ _ (T.keep 0 _ _ F8 fun b _ o e=>old b o e) (loop _ rfl))
theorem y0(ix:List (Option Nat))(N:List Str)(hc:X.calm=true)(hi:PI X tg iter wi)(hg:∀C s H fp pn,PG (bQ X scope N C s H fp pn) tg g)(ht:∀C s H fp pn,Oa (bQ X scope N C s H fp pn) ifs tc)(he:∀C s H fp pn,PE (bQ X scope N C s H fp pn) elt te)
  (hf:ib scope X.env=true:=by rfl) (hk:scope.kind=.function:=by rfl) (GN:∀y∈scope.names,y.2≠.cell:=by decide +kernel) (Hw:∀y∈scope.names,y.2=.local->scope.names.lookup y.1=some .local:=by decide +kernel) (Jm:xM X scope N ix=true:=by rfl)
  (hs:∀x,foldedSetIterable iter X.env x=pure x:=by intro _;rfl):PE X (.ListComp elt [⟨tg,iter,ifs,0⟩] scope pos) (yY wi ix g tc te):=by
 intro pr s σ H Q I h;rw[eval_ListComp];have K0:closureFor scope X.env=pure (clOf scope X.env):=by
  unfold closureFor clOf;have:=gw X.env scope.names [] (l8 I.ok hf);simpa using this
 refine V5 (use:=none) rfl hs K0 hk Hw (Gp (hi pr s σ H _ I h) fun v s1 h1=>Gp h1 fun Pc s2 h2=>?_);obtain⟨it,fp,tn,J,H2,e,I2,T,F8,f2,q⟩:=h2;subst e;refine lI (RR:=fun acc C=>compPost (model X.prog X.w) X.A X.xe none (EP X pr σ Q) acc C) (Q:=Q) (iter:=iter) hc I2 T F8 f2 hg ht he hf hk GN Jm q fun D C σ1 H1 s1 hC J1 q1=>?_
 obtain⟨m,ns,_⟩:=J1.loc;exact⟨m,ns,fun h' P9=>⟨.ref D,H1,I2.unblock f2 hC J1 P9,rfl,q1⟩⟩
end
section
variable{X:Cx}{scope:Scope}{N:List Str}{ix:List (Option Nat)}{tg iter elt:Expr}{ifs:List Expr}{pos:Pos}{wi:TI}{g:TG}{tc:TT}{te:TE}
theorem y4{i:Nat}{y:Str}{py Hx:Pos}(ix:List (Option Nat))(N:List Str)(hN:X.N.Nodup)(Qa:X.N[i]?=some y)(hy:Loc X.env.scope y)(hc:X.calm=true)(hi:PI X tg iter wi)(hg:∀C s H fp pn,PG (bQ X scope N C s H fp pn) tg g)(ht:∀C s H fp pn,Oa (bQ X scope N C s H fp pn) ifs tc)
  (he:∀C s H fp pn,PE (bQ X scope N C s H fp pn) elt te) (Qb:swapsWith (.ListComp elt [⟨tg,iter,ifs,0⟩] scope pos) (some (.Name y py)) Hx.line X.env=pure true:=by rfl)
  (hf:ib scope X.env=true:=by rfl) (hk:scope.kind=.function:=by rfl) (GN:∀y∈scope.names,y.2≠.cell:=by decide +kernel) (Hw:∀y∈scope.names,y.2=.local->scope.names.lookup y.1=some .local:=by decide +kernel) (Jm:xM X scope N ix=true:=by rfl)
  (hs:∀x,foldedSetIterable iter X.env x=pure x:=by intro _;rfl) (KS:X.fn y=true\/X.env.scope.names.lookup y=some .local:=by first|exact .inl rfl|exact .inr rfl):
  PS X (.Assign [.Name y py] (.ListComp elt [⟨tg,iter,ifs,0⟩] scope pos) Hx) (fun D σ H=>yY wi ix g tc te σ H fun v H'=>D.nx (σ.set i (some v)) H'):=by
 intro pr s σ H Dd I h;rw[exec_Assign_Name_used _ _ _ _ Qb];have K0:closureFor scope X.env=pure (clOf scope X.env):=by
  unfold closureFor clOf;have:=gw X.env scope.names [] (l8 I.ok hf);simpa using this
 refine RO (wpAny_standAt (RO ?_));show wpAny _ X.A (do let _ <-comprehension (.ListComp elt [⟨tg,iter,ifs,0⟩] scope pos) scope X.env _ (newList []) false (eval iter X.env) (some (assign (.Name y py) X.env))) _ _ s;refine RO (VY (V5 (use:=some (assign (.Name y py) X.env)) (Q:=fun _ s'=>SP X pr Dd .next s') rfl hs K0 hk Hw
  (Gp (hi pr s σ H _ I h) fun v s1 h1=>Gp h1 fun Pc s2 h2=>?_)) (fun _ s' hq=>RT (RT hq)) fun _ _ e=>e)
 obtain⟨it,fp,tn,J,H2,e,I2,T,F8,f2,q⟩:=h2;subst e;refine lI (RR:=fun acc C=>compPost (model X.prog X.w) X.A X.xe (some (assign (.Name y py) X.env)) (fun _ s'=>SP X pr Dd .next s') acc C) (Q:=fun v H'=>Dd.nx (σ.set i (some v)) H') (iter:=iter) hc I2 T F8 f2 hg ht he hf hk GN Jm q fun D C σ1 H1 s1 hC J1 q1=>?_
 obtain⟨m,ns,_⟩:=id J1.loc;have ns:s1.heap.Ns C m:=ns;have I3:Inv X pr σ H1 s1:=I2.unblock f2 hC J1 (.refl ..);show wpAny _ X.A (assign (.Name y py) X.env (.ref D)) _ _ s1;refine wpAny_assign_Name (ny I3 hN Qa hy (v:=.ref D) rfl (fun s4 I4 ⟨a,sb,ha⟩=>?_) KS);have aC:C≠a:=by
  intro z;rcases ha with ha|ha
  ·exact Sl (Sd I2.lt hC) (ha▸z.symm)
  ·obtain⟨v,o,ho,_⟩:=I2.cell y a ha;exact Sl (Sd (R0 ho) hC) z.symm
 refine⟨m,ns.sameBut sb aC,fun h' P9=>?_⟩;have jf:H1 C=none:=J1.free;have kk:∀b o,b≠C->s4.heap.get? b=some o->h'.get? b=some o:=fun b o hb e=>(P9.2 b hb).trans e
 refine⟨σ.set i (some (.ref D)),H1,?_,q1⟩;have z:=I4.turned (t':=s4.toks) kk jf (fun z=>Sl (Sd I2.lt hC) z.symm) (.inr (Ta I2.sz hC)) (fun x c e z=>by
  obtain⟨v,o,ho,_⟩:=I2.cell x c e;exact Sl (Sd (R0 ho) hC) z) (fun p hp z=>Sl (Sd (R0 (I2.pin p hp).1) hC) z)
 exact z
end
def Itv(val:Nat->V)(n:Nat):It:=⟨fun i _=>i<n,fun i H x H'=>H'=H/\x=val i,fun i _=>i=n⟩
theorem qf{P:Program}{w:World}{K:W.Frag}{tg:Expr}(ty:String)(N6:["enumerate","zip","dict_itemiterator","dict_reverseitemiterator","odict_iterator","itertools.zip_longest","itertools.pairwise"].contains ty=false)(l:List Nat)(t:Tok)(it:Addr)
  (Wk:∀A:Around,A.handled=none->Walks P w A it [it] [it] (S l).cps.size (SignAt (S l)) (fun i h=>h.IsStrIter it ty (S l) t i))
  (self:∀(A:Around) (i:Nat) (s:Shared) (Q:Value->Shared->Prop) (E:Value->Shared->Prop),s.heap.IsStrIter it ty (S l) t i->Q (.ref it) s->wpAny (model P w) A (pyIter (.ref it)) Q E s):
  Turn P w K tg (Itv (fun i=>.str (S [l.getD i 0])) l.length) [it] it (fun i h=>h.IsStrIter it ty (S l) t i) where
 mem:=by simp
 obj:=fun i h st b hb=>by
  have e:b=it:=by simpa using hb
  subst e;obtain⟨o,e,c,d⟩:=st;exact⟨o,e,fun v z=>by rw[d]at z;cases z⟩
 keep:=fun i h h' st k=>by
  obtain⟨o,e,r⟩:=st;exact⟨o,k it (by simp) o e,r⟩
 item:=by
  intro X hP hw hK hc i pr s σ H E I hf st hg;subst hP hw hK;obtain⟨f0,f1,f2,f3,f4,f5⟩:=hf it (by simp);have hg:i<l.length:=hg;refine(Wk X.A (I.ok.hd hc)).item i s _ _ (by simpa[S] using hg) st fun v h' tk hv Im kk=>?_
  obtain⟨c,u,Pa,rfl⟩:=hv;have I1:Inv X pr σ H {s with heap:=h',toks:=tk}:=I.turned (fun b o hb e=>kk b o (by simpa using hb) e) f0 f1 f3 f4 f5;obtain⟨o,e,cc,d⟩:=id Im;have Od:l.getD i 0=c:=by
   have:l[i]?=some c:=by simpa[S] using Pa
   rw[Sj,this];rfl
  refine⟨_,rfl,sM (s:={s with heap:=h',toks:=tk}) e cc d N6 ⟨.str (S [l.getD i 0]),H,I1,⟨u,?_⟩,⟨rfl,rfl⟩,Im,fun b hb=>(hf b hb).1⟩⟩;rw[Od]
 done:=by
  intro X hP hw hK hc i pr s σ H E I hf st hg;subst hP hw hK;obtain⟨f0,f1,f2,f3,f4,f5⟩:=hf it (by simp);have hg:i=l.length:=hg;have hn:(S l).cps.size=i:=by rw[hg];simp[S]
  refine(Wk X.A (I.ok.hd hc)).done s _ _ (by rw[hn];exact st) fun h' tk kk=>⟨rfl,I.turned (fun b o hb e=>kk b o (by simpa using hb) e) f0 f1 f3 f4 f5⟩
 self:=self
def Fq(tl:TE):TI:=fun σ H R=>tl σ H fun x H1=>∃l,x=.str (S l)/\R (Itv (fun i=>.str (S [l.getD i 0])) l.length) H1
section
variable{X:Cx}{tg:Expr}
theorem Bo{l:Expr}{tl:TE}(hl:PE X l tl):PI X tg l (Fq tl):=by
 intro pr s σ H R I h;refine Gp (hl pr s σ H _ I h) fun v s1 Gk=>?_
 obtain⟨x,H1,I1,r1,l,e,q⟩:=Gk;subst e;obtain⟨t,rfl⟩:=r1;cases ha:(S l).cps.all (·< 128)
 ·refine wpAny_pyIter_wide ha ?_;refine⟨s1.heap.objs.size,[s1.heap.objs.size],_,_,H1,rfl,I1.kept (t':=s1.toks) fun b o e=>RS _ e,
   qf "str_iterator" (by decide) l t _ (fun A hA=>Walks.strWide hA _ _ _) (fun _ _ _ _ _ st h=>wpAny_pyIter_striter_wide st h),⟨_,R5 _ rfl,rfl,rfl⟩,fun b hb=>?_,q⟩
  have e:b=s1.heap.objs.size:=by simpa using hb
  subst e;exact I1.fpOk (R1 _) (I1.hok.fresh (R1 _))
 ·refine wpAny_pyIter_ascii ha ?_;refine⟨s1.heap.objs.size,[s1.heap.objs.size],_,_,H1,rfl,I1.kept (t':=s1.toks) fun b o e=>RS _ e,
   qf "str_ascii_iterator" (by decide) l t _ (fun A hA=>Walks.strAscii hA _ _ _) (fun _ _ _ _ _ st h=>wpAny_pyIter_striter_ascii st h),⟨_,R5 _ rfl,rfl,rfl⟩,fun b hb=>?_,q⟩
  have e:b=s1.heap.objs.size:=by simpa using hb
  subst e;exact I1.fpOk (R1 _) (I1.hok.fresh (R1 _))
theorem l9{pr:List (Addr×Obj)}{s:Shared}{σ:L2.St}{H:Hp}{p:Addr}{xs:List V}{E:Value->Shared->Prop}{R:Value->Shared->Prop}(hc:X.calm=true)(I:Inv X pr σ H s)(h:SqL X.K H p xs\/SqT X.K H p xs)
  (k:∀(it:Addr) (fp:List Addr) (o:Obj) (us:List Value) (Sx:Nat->Heap->Prop),Vals xs us->Walks X.prog X.w X.A.in1 it fp [it] us.length (fun i v=>us[i]?=some v) Sx->Sx 0 (s.heap.push o)->(∀b∈fp,b<(s.heap.push o).objs.size)->it=s.heap.objs.size->R (.ref it) {s with heap:=s.heap.push o}):
  wpAny (model X.prog X.w) X.A.in1 (pyIter (.ref p)) R E s:=by
 have hh:X.A.in1.handled=none:=I.ok.hd hc;rcases h with h|h
 ·obtain⟨us,r,pl,hz⟩:=I.list h;have He:p<s.heap.objs.size:=by obtain⟨o,ho,_⟩:=pl.isList;exact R0 ho
  refine Uc pl.isList (k s.heap.objs.size [s.heap.objs.size,p] _ us (fun i h=>h.IsListIter s.heap.objs.size p i/\h.IsList p us.toArray) r (by
   have W:=Walks.list (prog:=X.prog) (w:=X.w) hh s.heap.objs.size p (Sl He) us.toArray;simpa using W) ⟨⟨_,R5 _ rfl,rfl,rfl⟩,pl.isList.at fun o e=>RS _ e⟩ (fun b hb=>?_) rfl)
  rw[Th];rcases RV.mp hb with rfl|hb
  ·exact TZ _
  ·rw[S9]at hb;rw[hb];exact V6 He
 ·obtain⟨us,r,pl,hz⟩:=I.tuple h;have ML:s.heap.IsTuple p us.toArray:=pl;have He:p<s.heap.objs.size:=by obtain⟨o,ho,_⟩:=pl;exact R0 ho
  refine S3 ML (k s.heap.objs.size [s.heap.objs.size,p] _ us (fun i h=>h.IsTupleIter s.heap.objs.size p i/\h.IsTuple p us.toArray) r (by
   have W:=Walks.tuple (prog:=X.prog) (w:=X.w) hh s.heap.objs.size p (Sl He) us.toArray;simpa using W) ⟨⟨_,R5 _ rfl,rfl,rfl⟩,ML.at fun o e=>RS _ e⟩ (fun b hb=>?_) rfl)
  rw[Th];rcases RV.mp hb with rfl|hb
  ·exact TZ _
  ·rw[S9]at hb;rw[hb];exact V6 He
theorem iT{pr:List (Addr×Obj)}{s:Shared}{σ:L2.St}{H:Hp}{o:Obj}{h':Heap}{tk:Nat}(I:Inv X pr σ H s)(kk:∀b ob,b∉[s.heap.objs.size]->(s.heap.push o).get? b=some ob->h'.get? b=some ob):
  Inv X pr σ H {s with heap:=h',toks:=tk}:=I.kept fun b ob e=>kk b ob (fun z=>Sl (R0 e) (by simpa using z)) (RS _ e)
theorem bj{α:Type}(l:List α)(i:Nat)(d:α)(h:i<l.length):l.getD i d=l[i]:=by
 rw[Sj,RP h];rfl
def Bp:V->Bool
 | .bl b=>b
 |_=>false
def DS:V->Bool
 | .bl _=>true
 |_=>false
theorem wu{xs:List V}{us:List Value}(r:Vals xs us)(hb:xs.all DS=true):TruthOf X.prog X.w X.A.in1 (fun i v=>us[i]?=some v) (fun i=>Bp (xs.getD i .non)):=by
 intro i v s Q E hv q;have hl:=r.length;obtain⟨hi,_⟩:=Se.mp hv;have e1:xs[i]?=some (xs[i]'(by lia)):=RP _;obtain⟨u,hu,ru⟩:=r.get e1;rw[hv]at hu;cases hu;have q:Q (Bp (xs.getD i .non)) s:=q;rw[yW e1]at q;have bl:=SD.mp hb _ (SG e1);generalize xs[i]'(by lia)=x at ru q bl;cases x <;> first|(exact absurd (show false=true from bl) R4)|skip
 cases ru;exact TB q
theorem tP{xs:List V}(f:V->Bool):(List.range xs.length).all (fun i=>f (xs.getD i .non))=xs.all f:=by
 rw[SH,SD,SD];constructor
 ·intro h x hx;obtain⟨i,hi,rfl⟩:=To hx;have:=h i (Tf.mpr hi)
  rwa [bj _ _ _ hi]at this
 ·intro h i hi;have hi:=Tf.mp hi;rw[bj _ _ _ hi];exact h _ (SW hi)
theorem wx(hc:X.calm=true):cU X (.builtin "all") (fun vs H Q=>∃p xs,vs=[.ref p]/\(SqL X.K H p xs\/SqT X.K H p xs)/\xs.all DS=true/\Q (.bl (xs.all Bp)) H):=by
 intro pr s σ H vs us Q I r h;obtain⟨p,xs,rfl,hp,hb,q⟩:=h;obtain⟨u,rfl,r1⟩:=fE r;cases r1;refine call_all_walk (l9 hc I hp fun it fp o ws Sx rv W st hf hit=>⟨it,fp,[it],_,_,Sx,_,rfl,W,st,wu rv hb,fun h' tk kk=>?_⟩);subst hit;refine⟨.bl (xs.all Bp),H,iT (s:=s) I kk,?_,q⟩;rw[<-rv.length,tP];rfl
theorem eL{ns:List Int}{us:List Value}(r:Vals (ns.map V.int) us){i:Nat}{v:Value}(h:us[i]?=some v):∃t,v=.int (ns.getD i 0) t:=by
 have hl:=r.length;rw[RU]at hl;obtain⟨hi,_⟩:=Se.mp h;have e1:(ns.map V.int)[i]?=some (.int (ns.getD i 0)):=by
  rw[Sm,RP (by lia),bj _ _ _ (by lia)];rfl
 obtain⟨u,hu,t,rfl⟩:=r.get e1;rw[h]at hu;exact⟨t,SX hu⟩
theorem wy{ns:List Int}{us:List Value}(r:Vals (ns.map V.int) us)(A:Around):CmpOf X.prog X.w A .Gt (fun i v=>us[i]?=some v) (fun i j=>decide (ns.getD j 0<ns.getD i 0)):=by
 intro i j vi vj s Q E hi hj q;obtain⟨t,rfl⟩:=eL r hi;obtain⟨t',rfl⟩:=eL r hj;exact gt_int q
theorem tR{ns:List Int}{us:List Value}(r:Vals (ns.map V.int) us)(A:Around):CmpOf X.prog X.w A .Lt (fun i v=>us[i]?=some v) (fun i j=>decide (ns.getD i 0<ns.getD j 0)):=by
 intro i j vi vj s Q E hi hj q;obtain⟨t,rfl⟩:=eL r hi;obtain⟨t',rfl⟩:=eL r hj;exact lt_int q
def wz(ns:List Int):Int:=ns.foldl max (ns.headD 0)
def y6(ns:List Int):Int:=ns.foldl min (ns.headD 0)
theorem qg(ns:List Int):∀k,k<ns.length->argBest (fun i j=>decide (ns.getD j 0<ns.getD i 0)) k<ns.length/\ns.getD (argBest (fun i j=>decide (ns.getD j 0<ns.getD i 0)) k) 0=(ns.take (k+1)).foldl max (ns.headD 0)
 | 0,h=>by
  refine⟨h,?_⟩;cases ns with
  |nil=>cases h
  |cons a l=>show a=max a a;lia
 |k+1,h=>by
  obtain⟨Qc,Qd⟩:=qg ns k (by lia);have et:ns.take (k+1+1)=ns.take (k+1)++[ns.getD (k+1) 0]:=by
   rw[V3,RP h,bj _ _ _ h];rfl
  rw[et,List.foldl_append,<-Qd];show(if decide (ns.getD (argBest (fun i j=>decide (ns.getD j 0<ns.getD i 0)) k) 0<ns.getD (k+1) 0)=true then k+1 else argBest (fun i j=>decide (ns.getD j 0<ns.getD i 0)) k)<ns.length/\
   ns.getD (if decide (ns.getD (argBest (fun i j=>decide (ns.getD j 0<ns.getD i 0)) k) 0<ns.getD (k+1) 0)=true then k+1 else argBest (fun i j=>decide (ns.getD j 0<ns.getD i 0)) k) 0=max _ _
  split
  ·rename_i hd;have:=US hd;exact⟨h,by lia⟩
  ·rename_i hd;rw[R8]at hd;exact⟨Qc,by lia⟩
theorem qh(ns:List Int):∀k,k<ns.length->argBest (fun i j=>decide (ns.getD i 0<ns.getD j 0)) k<ns.length/\ns.getD (argBest (fun i j=>decide (ns.getD i 0<ns.getD j 0)) k) 0=(ns.take (k+1)).foldl min (ns.headD 0)
 | 0,h=>by
  refine⟨h,?_⟩;cases ns with
  |nil=>cases h
  |cons a l=>show a=min a a;lia
 |k+1,h=>by
  obtain⟨Qc,Qd⟩:=qh ns k (by lia);have et:ns.take (k+1+1)=ns.take (k+1)++[ns.getD (k+1) 0]:=by
   rw[V3,RP h,bj _ _ _ h];rfl
  rw[et,List.foldl_append,<-Qd];show(if decide (ns.getD (k+1) 0<ns.getD (argBest (fun i j=>decide (ns.getD i 0<ns.getD j 0)) k) 0)=true then k+1 else argBest (fun i j=>decide (ns.getD i 0<ns.getD j 0)) k)<ns.length/\
   ns.getD (if decide (ns.getD (k+1) 0<ns.getD (argBest (fun i j=>decide (ns.getD i 0<ns.getD j 0)) k) 0)=true then k+1 else argBest (fun i j=>decide (ns.getD i 0<ns.getD j 0)) k) 0=min _ _
  split
  ·rename_i hd;have:=US hd;exact⟨h,by lia⟩
  ·rename_i hd;rw[R8]at hd;exact⟨Qc,by lia⟩
theorem Bq(hc:X.calm=true):cU X (.builtin "max") (fun vs H Q=>∃(p:Addr) (ns:List Int),vs=[.ref p]/\(SqL X.K H p (ns.map V.int)\/SqT X.K H p (ns.map V.int))/\ns≠[]/\Q (.int (wz ns)) H):=by
 intro pr s σ H vs us Q I r h;obtain⟨p,ns,rfl,hp,Kj,q⟩:=h;obtain⟨u,rfl,r1⟩:=fE r;cases r1;have hn:0<ns.length:=by cases ns with|nil=>exact absurd rfl Kj|cons _ _=>simp
 refine call_max_walk (l9 hc I hp fun it fp o ws Sx rv W st hf hit=>?_);have hl:=rv.length;rw[RU]at hl;refine⟨it,fp,[it],_,_,Sx,_,rfl,W,st,hf,by lia,wy rv _,fun v h' tk hv kk=>?_⟩;subst hit;obtain⟨b1,b2⟩:=qg ns (ns.length-1) (by lia);rw[<-hl]at hv;obtain⟨t,rfl⟩:=eL rv hv;refine⟨.int (wz ns),H,iT (s:=s) I kk,⟨t,?_⟩,q⟩;rw[b2,show ns.length-1+1=ns.length by lia,Tj];rfl
theorem tS(hc:X.calm=true):cU X (.builtin "min") (fun vs H Q=>∃(p:Addr) (ns:List Int),vs=[.ref p]/\(SqL X.K H p (ns.map V.int)\/SqT X.K H p (ns.map V.int))/\ns≠[]/\Q (.int (y6 ns)) H):=by
 intro pr s σ H vs us Q I r h;obtain⟨p,ns,rfl,hp,Kj,q⟩:=h;obtain⟨u,rfl,r1⟩:=fE r;cases r1;have hn:0<ns.length:=by cases ns with|nil=>exact absurd rfl Kj|cons _ _=>simp
 refine call_min_walk (l9 hc I hp fun it fp o ws Sx rv W st hf hit=>?_);have hl:=rv.length;rw[RU]at hl;refine⟨it,fp,[it],_,_,Sx,_,rfl,W,st,hf,by lia,tR rv _,fun v h' tk hv kk=>?_⟩;subst hit;obtain⟨b1,b2⟩:=qh ns (ns.length-1) (by lia);rw[<-hl]at hv;obtain⟨t,rfl⟩:=eL rv hv;refine⟨.int (y6 ns),H,iT (s:=s) I kk,⟨t,?_⟩,q⟩;rw[b2,show ns.length-1+1=ns.length by lia,Tj];rfl
end
section
variable{prog:Program}{w:World}{A:Around}{R:Result->Shared->Prop}{it:Addr}{fp wr:List Addr}{n:Nat}{Pv:Nat->Value->Prop}{Sx:Nat->Heap->Prop}{kw:List (Str×Value)}
end
section
variable{X:Cx}{e k:Expr}{te tk:TE}{p pos NW:Pos}
def maxD(ns:List Int)(d:Int):Int:=if ns=[] then d else wz ns
end
section
variable{prog:Program}{w:World}{A:Around}{E:Value->Shared->Prop}{s:Shared}
theorem wA{it t:Addr}{i:Nat}{items:Array Value}{x:Value}{Q:Value->Shared->Prop}(hi:s.heap.IsTupleIter it t i)(ht:s.heap.IsTuple t items)(hx:items[i]?=some x)
  (k:∀h',h'.IsTupleIter it t (i+1)->Heap.SameBut it s.heap h'->Q x {s with heap:=h'}):wpAny (model prog w) A (Builtin.SmallTypes.nextOf (.ref it)) Q E s:=by
 obtain⟨o,ho,oc,od⟩:=id hi;obtain⟨q,hq,_,n,qd⟩:=ht;unfold Builtin.SmallTypes.nextOf;refine RO (Sr (name:=Str.ofString "__next__") hi.typeIs Uk (SF Uk hi.typeIs VF ?_ (Vy _)));show wpAny _ _ (field (.ref it) 0 >>= _) _ _ s;refine RO (Sw ho od (x:=.ref t) rfl ?_);show wpAny _ _ (if(Value.ref t==Value.none)=true then _ else _) _ _ s;rw[Sf (fun z:(Value.ref t==Value.none)=true=>R4 z)];show wpAny _ _ (field (.ref it) 1 >>= _) _ _ s;refine RO (Sw ho od (x:=.int i 0) rfl (RO (SN hq qd ?_)));simp only[TC,hx];refine RO (VS ho od (by simp) (RT ⟨x,rfl,RT (k _ ⟨_,Tp _ ho (Obj.isFreed_of_fields (U6 od _)),(Obj.cls_mapFields ..).trans oc,?_⟩ (Ux ..))⟩));rw[U6 od];simp[rawInt]
theorem y7{it t:Addr}{i:Nat}{items:Array Value}{Q:Value->Shared->Prop}(hh:A.handled=none)(hi:s.heap.IsTupleIter it t i)(ht:s.heap.IsTuple t items)(hx:items[i]?=none)
  (k:∀h' e,Heap.ExtBut it s.heap h'->(∃o,h'.get? e=some o/\o.cls=.type "StopIteration")->E (.ref e) {s with heap:=h'}):wpAny (model prog w) A (Builtin.SmallTypes.nextOf (.ref it)) Q E s:=by
 obtain⟨o,ho,oc,od⟩:=id hi;obtain⟨q,hq,_,n,qd⟩:=ht;unfold Builtin.SmallTypes.nextOf;refine RO (Sr (name:=Str.ofString "__next__") hi.typeIs Uk (SF Uk hi.typeIs VF ?_ (Vy _)));show wpAny _ _ (field (.ref it) 0 >>= _) _ _ s;refine RO (Sw ho od (x:=.ref t) rfl ?_);show wpAny _ _ (if(Value.ref t==Value.none)=true then _ else _) _ _ s;rw[Sf (fun z:(Value.ref t==Value.none)=true=>R4 z)];show wpAny _ _ (field (.ref it) 1 >>= _) _ _ s;refine RO (Sw ho od (x:=.int i 0) rfl (RO (SN hq qd ?_)));simp only[TC,hx];refine RO (VA (RO (VS ho od (by simp) ?_)));show wpAny _ _ (newExc (.type "StopIteration") [] >>= _) _ _ _;refine RO ?_;simp only[newExc,newTuple];refine RO (Td (RO (m:=firstArgMember _ _) (wpAny_of_eq (a:=Value.none) (by first|rfl|(simp only[firstArgMember];rfl)) (Td ?_ (by size_fits)))) (by size_fits));simp only[raiseNew];refine RO (wpAny_handled ?_);first
  |rw[show A.in1.handled=none from hh]
  |rw[hh]
 exact RO (RT (wpAny_throw (k _ _ (((Ux ..).extBut.push _).push _) ⟨_,R5 _ rfl,rfl⟩)))
def IsIt(k:Bool)(h:Heap)(it l:Addr)(i:Nat):Prop:=match k with
 |true=>h.IsListIter it l i
 |false=>h.IsTupleIter it l i
def IsSq(k:Bool)(h:Heap)(l:Addr)(xs:Array Value):Prop:=match k with
 |true=>h.IsList l xs
 |false=>h.IsTuple l xs
theorem IsIt.at{k:Bool}{h h':Heap}{it l:Addr}{i:Nat}(x:IsIt k h it l i)(e:∀o,h.get? it=some o->h'.get? it=some o):IsIt k h' it l i:=by
 cases k with
 |true=>obtain⟨o,ho,r⟩:=(show h.IsListIter it l i from x);exact(show h'.IsListIter it l i from⟨o,e o ho,r⟩)
 |false=>obtain⟨o,ho,r⟩:=(show h.IsTupleIter it l i from x);exact(show h'.IsTupleIter it l i from⟨o,e o ho,r⟩)
theorem IsSq.at{k:Bool}{h h':Heap}{l:Addr}{xs:Array Value}(x:IsSq k h l xs)(e:∀o,h.get? l=some o->h'.get? l=some o):IsSq k h' l xs:=by
 cases k with
 |true=>obtain⟨o,ho,r⟩:=(show h.IsList l xs from x);exact(show h'.IsList l xs from⟨o,e o ho,r⟩)
 |false=>obtain⟨o,ho,r⟩:=(show h.IsTuple l xs from x);exact(show h'.IsTuple l xs from⟨o,e o ho,r⟩)
theorem IsIt.obj{k:Bool}{h:Heap}{it l:Addr}{i:Nat}(x:IsIt k h it l i):∃o,h.get? it=some o/\∀v,o.data≠.cell v:=by
 cases k with
 |true=>obtain⟨o,ho,_,d⟩:=(show h.IsListIter it l i from x);exact⟨o,ho,fun v z=>by rw[d]at z;cases z⟩
 |false=>obtain⟨o,ho,_,d⟩:=(show h.IsTupleIter it l i from x);exact⟨o,ho,fun v z=>by rw[d]at z;cases z⟩
theorem IsSq.get{k:Bool}{h:Heap}{l:Addr}{xs:Array Value}(x:IsSq k h l xs):∃o,h.get? l=some o:=by
 cases k with
 |true=>obtain⟨o,ho,_⟩:=(show h.IsList l xs from x);exact⟨o,ho⟩
 |false=>obtain⟨o,ho,_⟩:=(show h.IsTuple l xs from x);exact⟨o,ho⟩
theorem eM{k:Bool}{it l:Addr}{i:Nat}{xs:Array Value}{x:Value}{Q:Value->Shared->Prop}(hi:IsIt k s.heap it l i)(hl:IsSq k s.heap l xs)(hx:xs[i]?=some x)
  (q:∀h',IsIt k h' it l (i+1)->Heap.SameBut it s.heap h'->Q x {s with heap:=h'}):wpAny (model prog w) A (Builtin.SmallTypes.nextOf (.ref it)) Q E s:=by
 cases k with
 |true=>exact wpAny_nextOf_list_item hi hl hx q
 |false=>exact wA hi hl hx q
theorem qi{k:Bool}{it l:Addr}{i:Nat}{xs:Array Value}{Q:Value->Shared->Prop}(hh:A.handled=none)(hi:IsIt k s.heap it l i)(hl:IsSq k s.heap l xs)(hx:xs[i]?=none)
  (q:∀h' e,Heap.ExtBut it s.heap h'->(∃o,h'.get? e=some o/\o.cls=.type "StopIteration")->E (.ref e) {s with heap:=h'}):wpAny (model prog w) A (Builtin.SmallTypes.nextOf (.ref it)) Q E s:=by
 cases k with
 |true=>exact wpAny_nextOf_list_end hh hi hl hx q
 |false=>exact y7 hh hi hl hx q
theorem y8{k1 k2:Bool}{z TI TO i1 i2 l1 l2:Addr}{i:Nat}{xs ys:Array Value}{x y a b:Value}{Q:Value->Shared->Prop}(D:ZipApart z TI TO i1 i2 l1 l2)(hz:IsZip s.heap z TI TO .none)(GO:IsPair s.heap TI (.ref i1) (.ref i2))(Hy:IsPair s.heap TO a b)
  (h1:IsIt k1 s.heap i1 l1 i) (h2:IsIt k2 s.heap i2 l2 i) (g1:IsSq k1 s.heap l1 xs) (g2:IsSq k2 s.heap l2 ys) (hx:xs[i]?=some x) (hy:ys[i]?=some y)
  (q:∀h',IsZip h' z TI TO (rawInt s.heap.objs.size)->IsPair h' TO x y->IsIt k1 h' i1 l1 (i+1)->IsIt k2 h' i2 l2 (i+1)->IsPair h' s.heap.objs.size x y->
   (∀c o,c≠z->c≠TO->c≠i1->c≠i2->s.heap.get? c=some o->h'.get? c=some o)->Q (.ref s.heap.objs.size) {s with heap:=h'}):
  wpAny (model prog w) A (Builtin.«zip.__next__» ⟨[.ref z],[]⟩) (fun fin s'=>∃v,fin=.done (.ret v)/\Q v s') E s:=by
 show wpAny _ _ (field (.ref z) 2 >>= _) _ _ _;refine RO (Sw hz rfl (x:=.bool false) rfl ?_);show wpAny _ _ (field (.ref z) 3 >>= _) _ _ _;refine RO (Sw hz rfl (x:=.ref TI) rfl (RO (SN GO rfl ?_)));show wpAny _ _ (Builtin.SmallTypes.ownedTupleIsFree (.ref z) >>= _) _ _ _;refine RO ?_;unfold Builtin.SmallTypes.ownedTupleIsFree;refine RO (Sw hz rfl (x:=.none) rfl (RT ?_));rw[Sa (by rfl)];refine RO (VA (RO (Sw hz rfl (x:=.ref TO) rfl (RO (SS hz (by simp) fun hA zA sA=>?_)))));have zA:IsZip hA z TI TO .ellipsis:=zA;refine RO ?_;simp only[Vn,VG,Ut,UT];refine RO (RO (Uy ?_));show wpAny _ _ (Builtin.SmallTypes.nextOf (.ref i1) >>= _) _ _ _;refine RO (eM (h1.at fun o e=>sA.extBut _ _ D.i1z e) (g1.at fun o e=>sA.extBut _ _ D.l1z e) hx fun hB iB sB=>RT ?_);have tB:IsPair hB TO a b:=sB.extBut _ _ D.TOi1 (sA.extBut _ _ D.TOz Hy);refine RO (SN tB rfl (RO (Vu tB fun hC tC sC=>RO (U0 (RT ?_)))));have tC:IsPair hC TO x b:=tC;refine RO (RO (Uy ?_));show wpAny _ _ (Builtin.SmallTypes.nextOf (.ref i2) >>= _) _ _ _;refine RO (eM (h2.at fun o e=>sC.extBut _ _ D.TOi2.symm (sB.extBut _ _ D.i12.symm (sA.extBut _ _ D.i2z e))) (g2.at fun o e=>sC.extBut _ _ D.l2TO (sB.extBut _ _ D.l2i1 (sA.extBut _ _ D.l2z e))) hy fun hD iD sD=>RT ?_);have tD:IsPair hD TO x b:=sD.extBut _ _ D.TOi2 tC;refine RO (SN tD rfl (RO (Vu tD fun hE tE sE=>RO (U0 (RT (RT ?_))))));have tE:IsPair hE TO x y:=tE;refine RO (SN tE rfl (RO (VT ?_)));have ez:hE.objs.size=s.heap.objs.size:=by rw[sE.1,sD.1,sC.1,sB.1,sA.1]
 have zE:IsZip hE z TI TO .ellipsis:=sE.extBut _ _ D.TOz.symm (sD.extBut _ _ D.i2z.symm (sC.extBut _ _ D.TOz.symm (sB.extBut _ _ D.i1z.symm zA)));have kE:∀c o,c≠z->c≠TO->c≠i1->c≠i2->s.heap.get? c=some o->hE.get? c=some o:=fun c o c1 c2 c3 c4 e=>sE.extBut _ _ c2 (sD.extBut _ _ c4 (sC.extBut _ _ c2 (sB.extBut _ _ c3 (sA.extBut _ _ c1 e))))
 have i1E:IsIt k1 hE i1 l1 (i+1):=iB.at fun o e=>sE.extBut _ _ D.TOi1.symm (sD.extBut _ _ D.i12 (sC.extBut _ _ D.TOi1.symm e))
 have i2E:IsIt k2 hE i2 l2 (i+1):=iD.at fun o e=>sE.extBut _ _ D.TOi2.symm e
 show wpAny _ _ (Builtin.SmallTypes.ownedTupleHandOut (.ref z) (.ref hE.objs.size) >>= _) _ _ _;refine RO ?_;unfold Builtin.SmallTypes.ownedTupleHandOut;have zF:IsZip (hE.push {cls:=.type "tuple",data:=.seq #[x,y]}) z TI TO .ellipsis:=RS _ zE;refine RO (SS zF (by simp) fun hG zG sG=>?_);have zG:IsZip hG z TI TO (rawInt hE.objs.size):=zG;refine SS zG (by simp) fun hK zK sK=>?_
 have zK:IsZip hK z TI TO (rawInt hE.objs.size):=zK;have up:∀c o,c≠z->hE.get? c=some o->hK.get? c=some o:=fun c o c1 e=>sK.extBut _ _ c1 (sG.extBut _ _ c1 (RS _ e))
 have nz:hE.objs.size≠z:=Ua (R0 zE);have tK:IsPair hK hE.objs.size x y:=sK.extBut _ _ nz (sG.extBut _ _ nz (R5 _ rfl));rw[ez]at zK tK;refine RT ⟨_,rfl,?_⟩;show Q (.ref hE.objs.size) _;rw[ez];exact q hK zK (up _ _ D.TOz tE) (i1E.at fun o e=>up _ o D.i1z e) (i2E.at fun o e=>up _ o D.i2z e) tK fun c o c1 c2 c3 c4 e=>up c o c1 (kE c o c1 c2 c3 c4 e)
theorem Br{k1 k2:Bool}{z TI TO i1 i2 l1 l2:Addr}{i:Nat}{xs ys:Array Value}{a b:Value}{Q:Fin->Shared->Prop}(hh:A.handled=none)(D:ZipApart z TI TO i1 i2 l1 l2)(hz:IsZip s.heap z TI TO .none)(GO:IsPair s.heap TI (.ref i1) (.ref i2))(Hy:IsPair s.heap TO a b)
  (h1:IsIt k1 s.heap i1 l1 i) (h2:IsIt k2 s.heap i2 l2 i) (g1:IsSq k1 s.heap l1 xs) (g2:IsSq k2 s.heap l2 ys) (he:xs[i]?=none\/ys[i]?=none)
  (q:∀h' e,(∀c o,c≠z->c≠TO->c≠i1->c≠i2->s.heap.get? c=some o->h'.get? c=some o)->(∃o,h'.get? e=some o/\o.cls=.type "StopIteration")->E (.ref e) {s with heap:=h'}):
  wpAny (model prog w) A (Builtin.«zip.__next__» ⟨[.ref z],[]⟩) Q E s:=by
 show wpAny _ _ (field (.ref z) 2 >>= _) _ _ _;refine RO (Sw hz rfl (x:=.bool false) rfl ?_);show wpAny _ _ (field (.ref z) 3 >>= _) _ _ _;refine RO (Sw hz rfl (x:=.ref TI) rfl (RO (SN GO rfl ?_)));show wpAny _ _ (Builtin.SmallTypes.ownedTupleIsFree (.ref z) >>= _) _ _ _;refine RO ?_;unfold Builtin.SmallTypes.ownedTupleIsFree;refine RO (Sw hz rfl (x:=.none) rfl (RT ?_));rw[Sa (by rfl)];refine RO (VA (RO (Sw hz rfl (x:=.ref TO) rfl (RO (SS hz (by simp) fun hA zA sA=>?_)))));have zA:IsZip hA z TI TO .ellipsis:=zA;refine RO ?_;simp only[Vn,VG,Ut,UT];refine RO (RO (Uy ?_));show wpAny _ _ (Builtin.SmallTypes.nextOf (.ref i1) >>= _) _ _ _;cases hx:xs[i]? with
 |none=>
  refine RO (qi hh (h1.at fun o e=>sA.extBut _ _ D.i1z e) (g1.at fun o e=>sA.extBut _ _ D.l1z e) hx fun hB e sB Gk=>?_);obtain⟨oe,ge,ce⟩:=Gk;have zB:IsZip hB z TI TO .ellipsis:=sB _ _ D.i1z.symm zA;have ne:e≠z:=fun x=>by subst x;rw[zB]at ge;cases ge;simp at ce
  exact SS zB (by simp) fun hC _ sC=>q hC e (fun c o c1 _ c3 _ x=>sC.extBut _ _ c1 (sB _ _ c3 (sA.extBut _ _ c1 x))) ⟨oe,sC.extBut _ _ ne ge,ce⟩
 |some x=>
  have hy:ys[i]?=none:=by
   rcases he with z|z
   ·rw[hx]at z;cases z
   ·exact z
  refine RO (eM (h1.at fun o e=>sA.extBut _ _ D.i1z e) (g1.at fun o e=>sA.extBut _ _ D.l1z e) hx fun hB iB sB=>RT ?_);have tB:IsPair hB TO a b:=sB.extBut _ _ D.TOi1 (sA.extBut _ _ D.TOz Hy);refine RO (SN tB rfl (RO (Vu tB fun hC tC sC=>RO (U0 (RT ?_)))));refine RO (RO (Uy ?_));show wpAny _ _ (Builtin.SmallTypes.nextOf (.ref i2) >>= _) _ _ _;refine RO (qi hh (h2.at fun o e=>sC.extBut _ _ D.TOi2.symm (sB.extBut _ _ D.i12.symm (sA.extBut _ _ D.i2z e))) (g2.at fun o e=>sC.extBut _ _ D.l2TO (sB.extBut _ _ D.l2i1 (sA.extBut _ _ D.l2z e))) hy fun hD e sD Gk=>?_);obtain⟨oe,ge,ce⟩:=Gk;have zD:IsZip hD z TI TO .ellipsis:=sD _ _ D.i2z.symm (sC.extBut _ _ D.TOz.symm (sB.extBut _ _ D.i1z.symm zA));have ne:e≠z:=fun x=>by subst x;rw[zD]at ge;cases ge;simp at ce
  exact SS zD (by simp) fun hF _ sF=>q hF e (fun c o c1 c2 c3 c4 x=>sF.extBut _ _ c1 (sD _ _ c4 (sC.extBut _ _ c2 (sB.extBut _ _ c3 (sA.extBut _ _ c1 x))))) ⟨oe,sF.extBut _ _ ne ge,ce⟩
end
def itObj(k:Bool)(l:Addr):Obj:=match k with
 |true=>{cls:=.type "list_iterator",data:=.fields #[.ref l,.int 0 0]}
 |false=>{cls:=.type "tuple_iterator",data:=.fields #[.ref l,.int 0 0]}
theorem ic(k:Bool)(h:Heap)(l:Addr):IsIt k (h.push (itObj k l)) h.objs.size l 0:=by
 cases k with
 |true=>exact⟨_,R5 _ rfl,rfl,rfl⟩
 |false=>exact⟨_,R5 _ rfl,rfl,rfl⟩
abbrev zA(h:Heap)(k1:Bool)(l1:Addr):Heap:=h.push (itObj k1 l1)
abbrev zB(h:Heap)(k1 k2:Bool)(l1 l2:Addr):Heap:=(zA h k1 l1).push (itObj k2 l2)
abbrev zC(h:Heap)(k1 k2:Bool)(l1 l2:Addr):Heap:=(zB h k1 k2 l1 l2).push {cls:=.type "tuple",data:=.seq #[.ref h.objs.size,.ref (zA h k1 l1).objs.size]}
abbrev zD(h:Heap)(k1 k2:Bool)(l1 l2:Addr):Heap:=(zC h k1 k2 l1 l2).push {cls:=.type "tuple",data:=.seq #[.none,.none]}
abbrev zE(h:Heap)(k1 k2:Bool)(l1 l2:Addr):Heap:=(zD h k1 k2 l1 l2).push {cls:=.type "zip",data:=.fields #[.none,.bool false,.bool false,.ref (zB h k1 k2 l1 l2).objs.size,.ref (zC h k1 k2 l1 l2).objs.size]}
set_option maxHeartbeats 8000000 in
theorem Bs(k1 k2:Bool)(l1 l2:Addr)(xs ys:Array Value):
  Meets (Builtin.«zip.__new__» ⟨[.type "zip",.ref l1,.ref l2],[]⟩) (fun _ R s=>IsSq k1 s.heap l1 xs/\IsSq k2 s.heap l2 ys/\R (.ok (.ret (.ref (zD s.heap k1 k2 l1 l2).objs.size))) {s with heap:=zE s.heap k1 k2 l1 l2}):=
 .of_wp fun prog w A R s h=>by
  obtain⟨hp,g,d,tk,os⟩:=s;obtain⟨g1,g2,q⟩:=h;have hsub:=sub_zip;cases k1 with
  |true=>
   have e1:Heap.IsList (Shared.heap ⟨hp,g,d,tk,os⟩) l1 xs:=g1;cases k2 with
   |true=>
    have e2:Heap.IsList (Shared.heap ⟨hp.push {cls:=.type "list_iterator",data:=.fields #[.ref l1,.int 0 0]},g,d,tk,os⟩) l2 ys:=Heap.IsList.push g2 _
    wp_walk using Uc e1,Uc e2
    exact⟨_,rfl,q⟩
   |false=>
    have e2:Heap.IsTuple (Shared.heap ⟨hp.push {cls:=.type "list_iterator",data:=.fields #[.ref l1,.int 0 0]},g,d,tk,os⟩) l2 ys:=TK g2 _
    wp_walk using Uc e1,S3 e2
    exact⟨_,rfl,q⟩
  |false=>
   have e1:Heap.IsTuple (Shared.heap ⟨hp,g,d,tk,os⟩) l1 xs:=g1;cases k2 with
   |true=>
    have e2:Heap.IsList (Shared.heap ⟨hp.push {cls:=.type "tuple_iterator",data:=.fields #[.ref l1,.int 0 0]},g,d,tk,os⟩) l2 ys:=Heap.IsList.push g2 _
    wp_walk using S3 e1,Uc e2
    exact⟨_,rfl,q⟩
   |false=>
    have e2:Heap.IsTuple (Shared.heap ⟨hp.push {cls:=.type "tuple_iterator",data:=.fields #[.ref l1,.int 0 0]},g,d,tk,os⟩) l2 ys:=TK g2 _
    wp_walk using S3 e1,S3 e2
    exact⟨_,rfl,q⟩
def ZS(k1 k2:Bool)(z TI TO i1 i2 l1 l2:Addr)(i:Nat)(h:Heap):Prop:=IsZip h z TI TO .none/\IsPair h TI (.ref i1) (.ref i2)/\(∃a b,IsPair h TO a b)/\IsIt k1 h i1 l1 i/\IsIt k2 h i2 l2 i
theorem y9{prog:Program}{w:World}{A:Around}{E:Value->Shared->Prop}{s:Shared}{k1 k2:Bool}{l1 l2:Addr}{xs ys:Array Value}{Q:Value->Shared->Prop}(g1:IsSq k1 s.heap l1 xs)(g2:IsSq k2 s.heap l2 ys)
  (q:∀h',ZS k1 k2 (s.heap.objs.size+4) (s.heap.objs.size+2) (s.heap.objs.size+3) s.heap.objs.size (s.heap.objs.size+1) l1 l2 0 h'->(∀c o,s.heap.get? c=some o->h'.get? c=some o)->Q (.ref (s.heap.objs.size+4)) {s with heap:=h'}):
  wpAny (model prog w) A (call (.type "zip") [.ref l1,.ref l2]) Q E s:=by
 refine callType_new F.called_zip (by decide) (F.typeCall_zip_2 _ _) (F.newCall_zip_2 _ _) (fun obj=>F.args_object_init_3 obj _ _) F.entry_zip_new (Bs k1 k2 l1 l2 xs ys) ⟨g1,g2,?_⟩;have nA:(zA s.heap k1 l1).objs.size=s.heap.objs.size+1:=Th ..;have nB:(zB s.heap k1 k2 l1 l2).objs.size=s.heap.objs.size+2:=by rw[Th,nA]
 have nC:(zC s.heap k1 k2 l1 l2).objs.size=s.heap.objs.size+3:=by rw[Th,nB]
 have nD:(zD s.heap k1 k2 l1 l2).objs.size=s.heap.objs.size+4:=by rw[Th,nC]
 have pu:∀{h:Heap}{o:Obj}{c:Addr}{v:Obj},h.get? c=some v->(h.push o).get? c=some v:=fun e=>RS _ e
 have gz:(zE s.heap k1 k2 l1 l2).get? (zD s.heap k1 k2 l1 l2).objs.size=some _:=R5 _ rfl;have go:(zE s.heap k1 k2 l1 l2).get? (zC s.heap k1 k2 l1 l2).objs.size=some _:=pu (R5 _ rfl);have gi:(zE s.heap k1 k2 l1 l2).get? (zB s.heap k1 k2 l1 l2).objs.size=some _:=pu (pu (R5 _ rfl));have j2:IsIt k2 (zE s.heap k1 k2 l1 l2) (zA s.heap k1 l1).objs.size l2 0:=(ic k2 (zA s.heap k1 l1) l2).at fun o e=>pu (pu (pu e))
 have j1:IsIt k1 (zE s.heap k1 k2 l1 l2) s.heap.objs.size l1 0:=(ic k1 s.heap l1).at fun o e=>pu (pu (pu (pu e)))
 show _/\_;rw[nB,nC,nD]at gz;rw[nA,nB]at gi;rw[nC]at go;rw[nA]at j2;rw[nD];exact⟨⟨_,gz,rfl⟩,q _ ⟨gz,gi,⟨_,_,go⟩,j1,j2⟩ fun c o x=>pu (pu (pu (pu (pu x))))⟩
noncomputable def Qe(K:W.Frag)(k1 k2:Bool)(a b:Addr):It:=
 ⟨fun i H=>∃xs ys x y,(if k1 then SqL K H a xs else SqT K H a xs)/\(if k2 then SqL K H b ys else SqT K H b ys)/\xs[i]?=some x/\ys[i]?=some y,
  fun i H v H'=>∃T,H T=none/\v=.ref T/\∀xs ys x y,(if k1 then SqL K H a xs else SqT K H a xs)->(if k2 then SqL K H b ys else SqT K H b ys)->xs[i]?=some x->ys[i]?=some y->H'=upd H T (.tup [x,y]),
  fun i H=>∃xs ys,(if k1 then SqL K H a xs else SqT K H a xs)/\(if k2 then SqL K H b ys else SqT K H b ys)/\i=min xs.length ys.length⟩
section
variable{X:Cx}{pr:List (Addr×Obj)}{σ:L2.St}{H:Hp}{s:Shared}
theorem gH(I:Inv X pr σ H s){k:Bool}{a:Addr}{xs:List V}(h:if k then SqL X.K H a xs else SqT X.K H a xs):∃us:List Value,Vals xs us/\IsSq k s.heap a us.toArray:=by
 cases k with
 |true=>
  obtain⟨us,r,p,_⟩:=I.list (show SqL X.K H a xs from h);exact⟨us,r,p.isList⟩
 |false=>
  obtain⟨us,r,p,_⟩:=I.tuple (show SqT X.K H a xs from h);exact⟨us,r,(show s.heap.IsTuple a us.toArray from p)⟩
theorem nV(I:Inv X pr σ H s){k:Bool}{a:Addr}{xs ys:List V}(h:if k then SqL X.K H a xs else SqT X.K H a xs)(h':if k then SqL X.K H a ys else SqT X.K H a ys):xs=ys:=by
 cases k with
 |true=>exact I.list_inj (show SqL X.K H a xs from h) (show SqL X.K H a ys from h')
 |false=>exact I.tuple_inj (show SqT X.K H a xs from h) (show SqT X.K H a ys from h')
theorem dM(I:Inv X pr σ H s){k:Bool}{a b:Addr}{xs:List V}(h:if k then SqL X.K H a xs else SqT X.K H a xs)(f:rh X pr H b):a≠b:=by
 rintro rfl;obtain⟨f0,_,_,f3,_⟩:=f;have nb:∀o,X.K.lookup a=some o->False:=fun o hk=>by
  have e:=I.ok.mod.kin a o hk;rcases f3 with z|z
  ·exact I.ok.noex a o e z
  ·exact absurd (Sd (R0 e) (Ta I.ok.bsz z)) (T6 _)
 cases k with
 |true=>
  rcases(show SqL X.K H a xs from h) with(h|⟨o,h⟩)|⟨o,F6,n,hk,_⟩
  ·rw[f0]at h;cases h
  ·rw[f0]at h;cases h
  ·exact nb o hk
 |false=>
  rcases(show SqT X.K H a xs from h) with(h|⟨o,h⟩)|⟨o,F6,n,hk,_⟩
  ·rw[f0]at h;cases h
  ·rw[f0]at h;cases h
  ·exact nb o hk
end
theorem nx_zip_item{prog:Program}{w:World}{A:Around}{E:Value->Shared->Prop}{s:Shared}{k1 k2:Bool}{z TI TO i1 i2 l1 l2:Addr}{i:Nat}{xs ys:Array Value}{x y:Value}{Q:Option Value->Shared->Prop}(D:ZipApart z TI TO i1 i2 l1 l2)(st:ZS k1 k2 z TI TO i1 i2 l1 l2 i s.heap)
  (g1:IsSq k1 s.heap l1 xs) (g2:IsSq k2 s.heap l2 ys) (hx:xs[i]?=some x) (hy:ys[i]?=some y)
  (q:∀h',IsZip h' z TI TO (rawInt s.heap.objs.size)->IsPair h' TO x y->IsIt k1 h' i1 l1 (i+1)->IsIt k2 h' i2 l2 (i+1)->IsPair h' s.heap.objs.size x y->
   (∀c o,c≠z->c≠TO->c≠i1->c≠i2->s.heap.get? c=some o->h'.get? c=some o)->Q (some (.ref s.heap.objs.size)) {s with heap:=h'}):wpAny (model prog w) A (pyNext (.ref z)) Q E s:=by
 obtain⟨hz,GO,⟨a,b,Hy⟩,h1,h2⟩:=st;have ty:s.TypeIs (.ref z) "zip":=⟨_,hz,rfl⟩
 unfold pyNext;exact RO (Uo (Sr (name:=Str.ofString "__next__") ty S1 (SF S1 ty Ul (y8 D hz GO Hy h1 h2 g1 g2 hx hy fun h' a1 a2 a3 a4 a5 a6=>RT (q h' a1 a2 a3 a4 a5 a6)) (Ud _))))
theorem rq{prog:Program}{w:World}{A:Around}{E:Value->Shared->Prop}{s:Shared}{k1 k2:Bool}{z TI TO i1 i2 l1 l2:Addr}{i:Nat}{xs ys:Array Value}{Q:Option Value->Shared->Prop}(hh:A.handled=none)(D:ZipApart z TI TO i1 i2 l1 l2)(st:ZS k1 k2 z TI TO i1 i2 l1 l2 i s.heap)
  (g1:IsSq k1 s.heap l1 xs) (g2:IsSq k2 s.heap l2 ys) (he:xs[i]?=none\/ys[i]?=none) (q:∀h',(∀c o,c≠z->c≠TO->c≠i1->c≠i2->s.heap.get? c=some o->h'.get? c=some o)->Q none {s with heap:=h'}):wpAny (model prog w) A (pyNext (.ref z)) Q E s:=by
 obtain⟨hz,GO,⟨a,b,Hy⟩,h1,h2⟩:=st;have ty:s.TypeIs (.ref z) "zip":=⟨_,hz,rfl⟩
 unfold pyNext;refine RO (Uo (Sr (name:=Str.ofString "__next__") ty S1 (SF S1 ty Ul (Br hh D hz GO Hy h1 h2 g1 g2 he fun h' e kk ⟨o,ho,oc⟩=>?_) (Ud _))));exact RO (UX (T:="StopIteration") (b:=true) ⟨o,ho,oc⟩ Vf (RT (q _ kk)))
theorem wB{P:Program}{w:World}{K:W.Frag}{es:List Expr}{kt:Nat}{pt:Pos}(k1 k2:Bool)(a b z TI TO i1 i2:Addr)(ne:z≠TI/\z≠TO/\z≠i1/\z≠i2/\TI≠TO/\TI≠i1/\TI≠i2/\TO≠i1/\TO≠i2/\i1≠i2):
  Turn P w K (.Tuple es kt pt) (Qe K k1 k2 a b) [z,TI,TO,i1,i2] z (ZS k1 k2 z TI TO i1 i2 a b) where
 mem:=by simp
 obj:=fun i h st c hc=>by
  obtain⟨hz,GO,⟨x,y,Hy⟩,h1,h2⟩:=st;simp only[RV,Sn,Tz]at hc;rcases hc with rfl|rfl|rfl|rfl|rfl
  ·exact⟨_,hz,fun v q=>by cases q⟩
  ·exact⟨_,GO,fun v q=>by cases q⟩
  ·exact⟨_,Hy,fun v q=>by cases q⟩
  ·exact h1.obj
  ·exact h2.obj
 keep:=fun i h h' st k=>by
  obtain⟨hz,GO,⟨x,y,Hy⟩,h1,h2⟩:=st;exact⟨k z (by simp) _ hz,k TI (by simp) _ GO,⟨x,y,k TO (by simp) _ Hy⟩,h1.at fun o e=>k i1 (by simp) o e,h2.at fun o e=>k i2 (by simp) o e⟩
 item:=by
  intro X hP hw hK hc i pr s σ H E I hf st hg;subst hP hw hK;obtain⟨xs,ys,x,y,s1,s2,hx,hy⟩:=hg;obtain⟨us,r1,q1⟩:=gH I s1;obtain⟨ws,r2,q2⟩:=gH I s2;obtain⟨u,hu,ru⟩:=r1.get hx;obtain⟨v,hv,rv⟩:=r2.get hy;obtain⟨n1,n2,n3,n4,n5,n6,n7,n8,n9,MO⟩:=ne;have f:=fun c hc=>hf c hc
  have D:ZipApart z TI TO i1 i2 a b:=⟨n1.symm,n2.symm,n3.symm,n4.symm,n5,n6,n7,n8,n9,MO,dM I s1 (f z (by simp)),dM I s1 (f TO (by simp)),dM I s1 (f i1 (by simp)),dM I s1 (f i2 (by simp)),
   dM I s2 (f z (by simp)),dM I s2 (f TO (by simp)),dM I s2 (f i1 (by simp)),dM I s2 (f i2 (by simp))⟩
  have GO:=st.2.1;refine nx_zip_item D st q1 q2 (by simpa using hu) (by simpa using hv) fun h' z1 t1 j1 j2 tp kk=>⟨_,rfl,?_⟩
  refine VU z1 fun h2 z2 sb=>?_
  have nT:H s.heap.objs.size=none:=I.hok.fresh (R1 _);have tT:s.heap.objs.size≠z:=Ua (R0 st.1);have all:∀c o,c≠z->c≠TO->c≠i1->c≠i2->s.heap.get? c=some o->h2.get? c=some o:=fun c o c1 c2 c3 c4 e=>(sb.2 c c1).trans (kk c o c1 c2 c3 c4 e)
  have fz:=f z (by simp);have fo:=f TO (by simp);have f1:=f i1 (by simp);have f2:=f i2 (by simp);have JU:∀c ob,H c=some ob->c≠z/\c≠TO/\c≠i1/\c≠i2:=fun c ob e=>⟨(fun q=>by rw[q,fz.1]at e;cases e),(fun q=>by rw[q,fo.1]at e;cases e),(fun q=>by rw[q,f1.1]at e;cases e),(fun q=>by rw[q,f2.1]at e;cases e)⟩
  refine⟨.ref s.heap.objs.size,upd H s.heap.objs.size (.tup [x,y]),?_,rfl,⟨_,nT,rfl,fun Hz Ri x' y' a1 a2 a3 a4=>?_⟩,⟨z2,?_,⟨u,v,(sb.2 TO n2.symm).trans t1⟩,j1.at fun o e=>(sb.2 i1 n3.symm).trans e,j2.at fun o e=>(sb.2 i2 n4.symm).trans e⟩,fun c hc=>?_⟩
  ·have MP:h2.get? s.heap.objs.size=some {cls:=.type "tuple",data:=.seq #[u,v]}:=(sb.2 _ tT).trans tp;have S0:Inv X pr σ (upd H s.heap.objs.size (.tup [x,y])) {s with heap:=h2,gens:=s.gens,drawn:=s.drawn,toks:=s.toks}:=by
    refine I.step (ch:=[z,TO,i1,i2]) (fun c hc=>?_) (fun c o _ _ nc e _=>all c o (fun q=>nc (by simp[q])) (fun q=>nc (by simp[q])) (fun q=>nc (by simp[q])) (fun q=>nc (by simp[q])) e)
     (fun c o _ _ nc e _=>⟨o.slots,all c o (fun q=>nc (by simp[q])) (fun q=>nc (by simp[q])) (fun q=>nc (by simp[q])) (fun q=>nc (by simp[q])) e⟩) (fun c o _ e n=>by rw[az (Sl (R0 e))];exact n)
     (fun c o nc e=>⟨o,all c o (fun q=>nc (by simp[q])) (fun q=>nc (by simp[q])) (fun q=>nc (by simp[q])) (fun q=>nc (by simp[q])) e⟩) (fun c l e=>by rw[az (aH e nT)];exact e) (fun c o u' e=>by rw[az (aH e nT)];exact e)
     (fun c ps e=>⟨#[],by rw[az (aH e nT),e];simp⟩) (fun m hm=>?_) (fun c ob e=>?_) I.bare
    ·simp only[RV,Sn,Tz]at hc;rcases hc with rfl|rfl|rfl|rfl
     ·exact⟨fz.2.2.2.1,fz.2.1,fz.2.2.2.2.1,fz.2.2.2.2.2⟩
     ·exact⟨fo.2.2.2.1,fo.2.1,fo.2.2.2.2.1,fo.2.2.2.2.2⟩
     ·exact⟨f1.2.2.2.1,f1.2.1,f1.2.2.2.2.1,f1.2.2.2.2.2⟩
     ·exact⟨f2.2.2.2.1,f2.2.1,f2.2.2.2.2.1,f2.2.2.2.2.2⟩
    ·obtain⟨o,es,ep,ho,r⟩:=hm;exact⟨o,es,ep,all _ o (SO fz.2.1) (SO fo.2.1) (SO f1.2.1) (SO f2.2.1) ho,r⟩
    ·by_cases ec:c=s.heap.objs.size
     ·subst ec;rw[aW]at e;cases e;exact⟨by simp only[R6,UM];rw[Tc];decide,[u,v],.cons ru (.cons rv .nil),⟨_,MP,rfl,⟨0,rfl⟩,rfl⟩⟩
     ·rw[az ec]at e;refine(I.hok c ob e).stay (fun d w' hd q=>?_) (fun d q=>by rw[az (aH q nT)];exact q) fun d l q=>by rw[az (aH q nT)];exact q
      have LA:∃oo,H d=some oo:=by
       rcases hd with rfl|hd
       ·exact⟨_,e⟩
       ·exact⟨_,hd⟩
      obtain⟨oo,MQ⟩:=LA;obtain⟨m1,m2,m3,m4⟩:=JU d oo MQ;exact all d w' m1 m2 m3 m4 q
   exact S0
  ·have e1:=nV I a1 s1;have e2:=nV I a2 s2;subst e1 e2;rw[hx]at a3;rw[hy]at a4;cases a3;cases a4;rfl
  ·exact(sb.2 TI n1.symm).trans (kk TI _ n1.symm n5 n6 n7 GO)
  ·have Pk:=(f c hc).1;have cs:c≠s.heap.objs.size:=by
    have:=(fun i h st=>by
     exact(by
      obtain⟨hz,GO,⟨x,y,Hy⟩,h1,h2⟩:=st;simp only[RV,Sn,Tz]at hc;rcases hc with rfl|rfl|rfl|rfl|rfl
      ·exact⟨_,hz⟩
      ·exact⟨_,GO⟩
      ·exact⟨_,Hy⟩
      ·obtain⟨o,e,_⟩:=h1.obj;exact⟨o,e⟩
      ·obtain⟨o,e,_⟩:=h2.obj;exact⟨o,e⟩:∃o,h.get? c=some o):∀i h,ZS k1 k2 z TI TO i1 i2 a b i h->∃o,h.get? c=some o) i s.heap st
    obtain⟨o,e⟩:=this;exact Sl (R0 e)
   rw[az cs];exact Pk
 done:=by
  intro X hP hw hK hc i pr s σ H E I hf st hg;subst hP hw hK;obtain⟨xs,ys,s1,s2,hi⟩:=hg;obtain⟨us,r1,q1⟩:=gH I s1;obtain⟨ws,r2,q2⟩:=gH I s2;have l1:=r1.length;have l2:=r2.length;obtain⟨n1,n2,n3,n4,n5,n6,n7,n8,n9,MO⟩:=ne;have f:=fun c hc=>hf c hc
  have D:ZipApart z TI TO i1 i2 a b:=⟨n1.symm,n2.symm,n3.symm,n4.symm,n5,n6,n7,n8,n9,MO,dM I s1 (f z (by simp)),dM I s1 (f TO (by simp)),dM I s1 (f i1 (by simp)),dM I s1 (f i2 (by simp)),
   dM I s2 (f z (by simp)),dM I s2 (f TO (by simp)),dM I s2 (f i1 (by simp)),dM I s2 (f i2 (by simp))⟩
  have fz:=f z (by simp);have fo:=f TO (by simp);have f1:=f i1 (by simp);have f2:=f i2 (by simp);refine rq (I.ok.hd hc) D st q1 q2 (by
   rcases Nat.le_total us.length ws.length with q|q
   ·exact .inl (by simp;lia)
   ·exact .inr (by simp;lia)) fun h' kk=>⟨rfl,?_⟩
  have JU:∀c ob,H c=some ob->c≠z/\c≠TO/\c≠i1/\c≠i2:=fun c ob e=>⟨(fun q=>by rw[q,fz.1]at e;cases e),(fun q=>by rw[q,fo.1]at e;cases e),(fun q=>by rw[q,f1.1]at e;cases e),(fun q=>by rw[q,f2.1]at e;cases e)⟩
  have S0:Inv X pr σ H {s with heap:=h',gens:=s.gens,drawn:=s.drawn,toks:=s.toks}:=by
   refine I.step (ch:=[z,TO,i1,i2]) (fun c hc=>?_) (fun c o _ _ nc e _=>kk c o (fun q=>nc (by simp[q])) (fun q=>nc (by simp[q])) (fun q=>nc (by simp[q])) (fun q=>nc (by simp[q])) e)
    (fun c o _ _ nc e _=>⟨o.slots,kk c o (fun q=>nc (by simp[q])) (fun q=>nc (by simp[q])) (fun q=>nc (by simp[q])) (fun q=>nc (by simp[q])) e⟩) (fun c o _ e n=>n)
    (fun c o nc e=>⟨o,kk c o (fun q=>nc (by simp[q])) (fun q=>nc (by simp[q])) (fun q=>nc (by simp[q])) (fun q=>nc (by simp[q])) e⟩) (fun c l e=>e) (fun c o u' e=>e)
    (fun c ps e=>⟨#[],by rw[e];simp⟩) (fun m hm=>?_) (fun c ob e=>?_) I.bare
   ·simp only[RV,Sn,Tz]at hc;rcases hc with rfl|rfl|rfl|rfl
    ·exact⟨fz.2.2.2.1,fz.2.1,fz.2.2.2.2.1,fz.2.2.2.2.2⟩
    ·exact⟨fo.2.2.2.1,fo.2.1,fo.2.2.2.2.1,fo.2.2.2.2.2⟩
    ·exact⟨f1.2.2.2.1,f1.2.1,f1.2.2.2.2.1,f1.2.2.2.2.2⟩
    ·exact⟨f2.2.2.2.1,f2.2.1,f2.2.2.2.2.1,f2.2.2.2.2.2⟩
   ·obtain⟨o,es,ep,ho,r⟩:=hm;exact⟨o,es,ep,kk _ o (SO fz.2.1) (SO fo.2.1) (SO f1.2.1) (SO f2.2.1) ho,r⟩
   ·refine(I.hok c ob e).stay (fun d w' hd q=>?_) (fun d q=>q) fun d l q=>q
    have LA:∃oo,H d=some oo:=by
     rcases hd with rfl|hd
     ·exact⟨_,e⟩
     ·exact⟨_,hd⟩
    obtain⟨oo,MQ⟩:=LA;obtain⟨m1,m2,m3,m4⟩:=JU d oo MQ;exact kk d w' m1 m2 m3 m4 q
  exact S0
 self:=fun _ _ _ _ _ st h=>UY st.1 h
section
variable{X:Cx}{es:List Expr}{kt:Nat}{pt:Pos}
def Fs(K:W.Frag)(k1 k2:Bool)(ta:TA):TI:=fun σ H R=>ta σ H fun vs H1=>∃a b xs ys,vs=[.ref a,.ref b]/\(if k1 then SqL K H1 a xs else SqT K H1 a xs)/\(if k2 then SqL K H1 b ys else SqT K H1 b ys)/\R (Qe K k1 k2 a b) H1
theorem Bt(k1 k2:Bool){e1 e2:Expr}{ta:TA}{p pos:Pos}(hg:Gl X "zip")(hm:X.mg "zip" = none)(ha:PA X [e1,e2] ta)(he:starEach [e1,e2] X.env=(false,eval e1 X.env)::starEach [e2] X.env:=by rfl)(Ha:(backTo pos (starEach [e2] X.env)).any (·.1)=false:=by rfl):
  PI X (.Tuple es kt pt) (.Call (.Name "zip" p) [e1,e2] [] pos) (Fs X.K k1 k2 ta):=by
 intro pr s σ H R I h;refine TR (hZ I hg hm (by decide +kernel:bootBuiltins "zip" = some (.type "zip")) ?_ (by decide) (by decide));refine SY (Gp (ha pos pr s σ H _ I h) fun us s1 ⟨vs,H1,I1,r1,a,b,xs,ys,e,Oe,Of,q⟩=>?_) he Ha;subst e;obtain⟨u,w',rfl,ra,rb⟩:=yK r1;cases ra;cases rb;obtain⟨us,v1,q1⟩:=gH I1 Oe;obtain⟨ws,v2,q2⟩:=gH I1 Of;refine y9 q1 q2 fun h' st kk=>?_
 refine UY st.1 ?_;have fr:∀j,rh X pr H1 (s1.heap.objs.size+j):=fun j=>I1.fpOk (Vo _ _) (I1.hok.fresh (Vo _ _))
 have nn:∀i j:Nat,i≠j->s1.heap.objs.size+i≠s1.heap.objs.size+j:=fun i j h z=>h (Nat.add_left_cancel z)
 refine⟨_,_,_,_,H1,rfl,I1.kept (t':=s1.toks) kk,wB k1 k2 a b (s1.heap.objs.size+4) (s1.heap.objs.size+2) (s1.heap.objs.size+3) (s1.heap.objs.size+0) (s1.heap.objs.size+1)
  ⟨nn 4 2 (by decide),nn 4 3 (by decide),nn 4 0 (by decide),nn 4 1 (by decide),nn 2 3 (by decide),nn 2 0 (by decide),nn 2 1 (by decide),nn 3 0 (by decide),nn 3 1 (by decide),nn 0 1 (by decide)⟩,st,fun c hc=>?_,q⟩
 simp only[RV,Sn,Tz]at hc;rcases hc with rfl|rfl|rfl|rfl|rfl
 ·exact fr 4
 ·exact fr 2
 ·exact fr 3
 ·exact fr 0
 ·exact fr 1
end
end NX
namespace NX
open PySem PySem.W PyProof.Rows
section
variable{n:Nat}{O:KeyOrd}{κ:Nat->O.α}{cmp:Nat->Nat->(Bool->Shared->Prop)->Shared->Prop}{Good:Shared->Prop}
def kk(κ:Nat->O.α)(p:Array Nat)(i:Nat):O.α:=κ (p.getD i 0)
structure POk(n:Nat)(p:Array Nat):Prop where
 perm:p.toList.Perm (List.range n)
theorem POk.size{p:Array Nat}(h:POk n p):p.size=n:=by
 have:=h.perm.length_eq;simpa using this
theorem POk.lt{p:Array Nat}(h:POk n p){i:Nat}(hi:i<n):p.getD i 0<n:=by
 have hs:=h.size;have Lu:i<p.size:=by lia
 have e:p.getD i 0=p[i]:=by simp[Array.getD,Lu]
 rw[e];exact Tf.mp (h.perm.mem_iff.mp (Array.getElem_mem_toList Lu))
theorem POk.of{p q:Array Nat}(h:POk n p)(hq:q.Perm p):POk n q:=⟨(Array.perm_iff_toList_perm.mp hq).trans h.perm⟩
def ba(κ:Nat->O.α)(p:Array Nat)(m:Nat):Prop:=∀i j,i<=j->j<m->O.kle (kk κ p i) (kk κ p j)
def eO(κ:Nat->O.α)(p:Array Nat)(m:Nat):Prop:=∀i j,i<=j->j<m->O.kle (kk κ p j) (kk κ p i)
theorem eg{p q:Array Nat}{i j:Nat}(h:p[i]?=q[j]?):p.getD i 0=q.getD j 0:=by
 rw[VH,VH,h]
theorem qj{p:Array Nat}{i j:Nat}(hj:j<=p.size)(k:Nat):kk κ (kas_rev p i j) k=if i<=k/\k<j then kk κ p (i+j-1-k) else kk κ p k:=by
 have e:=getElem?_mirror_all (i:=i) hj k;unfold kk kas_rev;split
 ·rename_i h;rw[Sa h]at e;rw[eg e]
 ·rename_i h;rw[Sf h]at e;rw[eg e]
theorem xN{p:Array Nat}{src d:Nat}(hs:src<p.size)(hd:d<=src)(k:Nat):kk κ (bubble p src d) k=if k=src-d then kk κ p src else if src-d<k/\k<=src then kk κ p (k-1) else kk κ p k:=by
 have e:=getElem?_bubble hs d hd k;by_cases h:k=src-d
 ·rw[Sa h]at e ⊢;exact Tq κ (eg e)
 ·rw[Sf h]at e ⊢;by_cases h2:src-d<k/\k<=src
  ·rw[Sa h2]at e ⊢;exact Tq κ (eg e)
  ·rw[Sf h2]at e ⊢;exact Tq κ (eg e)
theorem POk.rev{p:Array Nat}(h:POk n p)(i j:Nat):POk n (kas_rev p i j):=h.of (mirror_perm _ _ _ _)
theorem POk.bub{p:Array Nat}(h:POk n p)(i j:Nat):POk n (bubble p i j):=h.of (bubble_perm _ _ _)
theorem rA(p:Array Nat):ba κ p 1:=fun i j a b=>by
 have e:i=j:=by lia
 rw[e];exact Uh _
theorem pw{p:Array Nat}{m:Nat}(h1:1<=m)(h:ba κ p m)(hm:O.kle (kk κ p (m-1)) (kk κ p m)):ba κ p (m+1):=by
 intro i j Og hj;by_cases e:j=m
 ·subst e;by_cases e2:i=j
  ·subst e2;exact Uh _
  ·exact Vp (h i (j-1) (by lia) (by lia)) hm
 ·exact h i j Og (by lia)
theorem eh{p:Array Nat}{m:Nat}(h1:1<=m)(h:eO κ p m)(hm:O.kle (kk κ p m) (kk κ p (m-1))):eO κ p (m+1):=by
 intro i j Og hj;by_cases e:j=m
 ·subst e;by_cases e2:i=j
  ·subst e2;exact Uh _
  ·exact Vp hm (h i (j-1) (by lia) (by lia))
 ·exact h i j Og (by lia)
variable(hc:∀i j,i<n->j<n->∀(Q:Bool->Shared->Prop) s,Good s->(∀s',Good s'->Q (O.blt (κ i) (κ j)) s')->cmp i j Q s)
include hc
theorem tU{p:Array Nat}(hp:POk n p){GF:Nat}(hn:GF<=n){Q:Nat->Shared->Prop}:∀(f m:Nat) (s:Shared),Good s->1<=m->m+f=GF->ba κ p m->
  (∀r s',Good s'->m<=r->r<=GF->ba κ p r->(r<GF->O.klt (kk κ p r) (kk κ p (r-1)))->Q r s')->(kas_asc p f m).kasWp cmp Q s
 | 0,m,s,g,h1,hf,hs,k=>k m s g (R1 _) (by lia) hs (fun z=>by lia)
 |f+1,m,s,g,h1,hf,hs,k=>by
  show cmp (p.getD m 0) (p.getD (m-1) 0) _ s;refine hc _ _ (hp.lt (by lia)) (hp.lt (by lia)) _ s g fun s' g'=>?_
  cases e:O.blt (κ (p.getD m 0)) (κ (p.getD (m-1) 0)) with
  |true=>
   (try dsimp only)
   rw[Sa rfl];exact k m s' g' (R1 _) (by lia) hs fun _=>e
  |false=>
   (try dsimp only)
   rw[Sf R4];exact tU hp hn f (m+1) s' g' (by lia) (by lia) (pw h1 hs e) fun r s2 g2 a b c d=>k r s2 g2 (by lia) b c d
def za(κ:Nat->O.α)(p:Array Nat)(m q:Nat):Prop:=∀k,m-(q+1)<=k->k<m->kk κ p k=kk κ p (m-1)
omit hc in
theorem nW{p:Array Nat}{m q:Nat}(hm:m<=p.size)(h:za κ p m q)(k:Nat):kk κ (kas_rev p (m-(q+1)) m) k=kk κ p k:=by
 rw[qj hm];split
 ·rename_i hk;rw[h _ (by lia) (by lia),h k hk.1 hk.2]
 ·rfl
omit hc in
theorem iU{p p':Array Nat}{m:Nat}(e:∀k,kk κ p' k=kk κ p k)(h:eO κ p m):eO κ p' m:=fun i j a b=>by rw[e,e];exact h i j a b
theorem ma{GF:Nat}(hn:GF<=n){Q:Array Nat×Nat×Nat->Shared->Prop}:∀(f:Nat) (p:Array Nat) (m q:Nat) (s:Shared),POk n p->Good s->1<=m->q+1<=m->m+f=GF->eO κ p m->za κ p m q->
  (∀p' m' q' s',POk n p'->Good s'->m<=m'->m'<=GF->q'+1<=m'->eO κ p' m'->za κ p' m' q'->Q (p',m',q') s')->(kas_desc f p m q).kasWp cmp Q s
 | 0,p,m,q,s,hp,g,h1,hq,hf,hs,ha,k=>k p m q s hp g (R1 _) (by lia) hq hs ha
 |f+1,p,m,q,s,hp,g,h1,hq,hf,hs,ha,k=>by
  show cmp (p.getD m 0) (p.getD (m-1) 0) _ s;refine hc _ _ (hp.lt (by lia)) (hp.lt (by lia)) _ s g fun s' g'=>?_
  have hsz:=hp.size;cases e:O.blt (κ (p.getD m 0)) (κ (p.getD (m-1) 0)) with
  |true=>
   (try dsimp only)
   rw[Sa rfl];have le:O.kle (kk κ p m) (kk κ p (m-1)):=Vc e;by_cases h0:q>0
   ·rw[Sa h0];have same:=nW (κ:=κ) (p:=p) (m:=m) (q:=q) (by lia) ha;refine ma hn f _ (m+1) 0 s' (hp.rev _ _) g' (by lia) (by lia) (by lia) (eh h1 (iU same hs) (by rw[same,same];exact le)) ?_ fun p' m' q' s2 a b c d e' f' g2=>k p' m' q' s2 a b (by lia) d e' f' g2
    intro k' a b;have:k'=m:=by lia
    rw[this];rfl
   ·rw[Sf h0];refine ma hn f p (m+1) 0 s' hp g' (by lia) (by lia) (by lia) (eh h1 hs le) ?_ fun p' m' q' s2 a b c d e' f' g2=>k p' m' q' s2 a b (by lia) d e' f' g2
    intro k' a b;have:k'=m:=by lia
    rw[this];rfl
  |false=>
   (try dsimp only)
   rw[Sf R4];show cmp (p.getD (m-1) 0) (p.getD m 0) _ s';refine hc _ _ (hp.lt (by lia)) (hp.lt (by lia)) _ s' g' fun s2 g2=>?_
   cases e2:O.blt (κ (p.getD (m-1) 0)) (κ (p.getD m 0)) with
   |true=>
    (try dsimp only)
    rw[Sa rfl];exact k p m q s2 hp g2 (R1 _) (by lia) hq hs ha
   |false=>
    (try dsimp only)
    rw[Sf R4];have eq:kk κ p (m-1)=kk κ p m:=KeyOrd.kle_antisymm (O:=O) e e2;refine ma hn f p (m+1) (q+1) s2 hp g2 (by lia) (by lia) (by lia) (eh h1 hs (by rw[eq];exact Uh _)) ?_ fun p' m' q' s3 a b c d e' f' g3=>k p' m' q' s3 a b (by lia) d e' f' g3
    intro k' a b;show kk κ p k'=kk κ p m;by_cases z:k'=m
    ·rw[z]
    ·rw[ha k' (by lia) (by lia),eq]
omit hc in
theorem rB{p:Array Nat}{m:Nat}(hm:m<=p.size)(h:eO κ p m):ba κ (kas_rev p 0 m) m:=by
 intro i j a b;rw[qj hm,qj hm,Sa (by lia),Sa (by lia)];exact h _ _ (by lia) (by lia)
theorem tV{p:Array Nat}(hp:POk n p){m GF:Nat}(hn:GF<=n)(h1:1<=m)(hm:m<=GF)(hs:eO κ p m){Q:Nat×Array Nat->Shared->Prop}{s:Shared}(g:Good s)
  (k:∀r p' s',POk n p'->Good s'->1<=r->r<=GF->ba κ p' r->Q (r,p') s'):(kas_tail3 m GF p).kasWp cmp Q s:=by
 unfold kas_tail3;rw[KasT.kasWp_bind];have hsz:=hp.size;refine tU hc (hp.rev 0 m) hn (GF-m) m s g h1 (by lia) (rB (by lia) hs) fun r s' g' a b c _=>?_
 exact k r _ s' (hp.rev 0 m) g' (by lia) b c
theorem jY{p:Array Nat}(hp:POk n p){m GF:Nat}(hn:GF<=n)(h1:1<=m)(hm:m+1<=GF)(hs:eO κ p (m+1)){Q:Nat×Array Nat->Shared->Prop}{s:Shared}(g:Good s)
  (k:∀r p' s',POk n p'->Good s'->1<=r->r<=GF->ba κ p' r->Q (r,p') s'):(kas_descPart m GF p).kasWp cmp Q s:=by
 unfold kas_descPart;rw[KasT.kasWp_bind];refine ma hc hn (GF-(m+1)) p (m+1) 0 s hp g (by lia) (by lia) (by lia) hs ?_ fun p' m' q' s' a b c d e f g2=>?_
 ·intro k' a b;have:k'=m:=by lia
  rw[this];rfl
 ·have hsz:=a.size;dsimp only;split
  ·have same:=nW (κ:=κ) (p:=p') (m:=m') (q:=q') (by lia) g2;exact tV hc (a.rev _ _) hn (by lia) d (iU same f) b k
  ·exact tV hc a hn (by lia) d f b k
theorem wC{p:Array Nat}(hp:POk n p){GF:Nat}(hn:GF<=n)(h1:1<=GF){Q:Nat×Array Nat->Shared->Prop}{s:Shared}(g:Good s)
  (k:∀r p' s',POk n p'->Good s'->1<=r->r<=GF->ba κ p' r->Q (r,p') s'):(kas_count GF p).kasWp cmp Q s:=by
 unfold kas_count;rw[KasT.kasWp_bind];have hsz:=hp.size;refine tU hc hp hn (GF-1) 1 s g (R1 _) (by lia) (rA p) fun m s' g' a b c d=>?_
 by_cases e:m=GF
 ·rw[Sa (by simpa using e)];exact k m p s' hp g' (by lia) (by lia) c
 ·rw[Sf (by simpa using e)];have dd:=d (by lia);by_cases h2:m>1
  ·rw[Sa h2];show cmp (p.getD 0 0) (p.getD (m-1) 0) _ s';refine hc _ _ (hp.lt (by lia)) (hp.lt (by lia)) _ s' g' fun s2 g2=>?_
   cases e2:O.blt (κ (p.getD 0 0)) (κ (p.getD (m-1) 0)) with
   |true=>
    (try dsimp only)
    rw[Sa rfl];exact k m p s2 hp g2 (by lia) b c
   |false=>
    (try dsimp only)
    rw[Sf R4];have eq:∀i,i<m->kk κ p i=kk κ p 0:=fun i hi=>by
     have x1:=c 0 i (by lia) hi;have x2:=c i (m-1) (by lia) (by lia);exact KeyOrd.kle_antisymm (O:=O) (Vp x2 e2) x1
    have same:∀i,kk κ (kas_rev p 0 m) i=kk κ p i:=fun i=>by
     rw[qj (by lia)];split
     ·rw[eq _ (by lia),eq i (by lia)]
     ·rfl
    refine jY hc (hp.rev 0 m) hn (by lia) (by lia) ?_ g2 k;refine iU same (eh (by lia) (fun i j x y=>?_) (Vc dd));rw[eq i (by lia),eq j y];exact Uh _
  ·rw[Sf h2];refine jY hc hp hn (by lia) (by lia) (eh (by lia) (fun i j x y=>?_) (Vc dd)) g' k;have:i=j:=by lia
   rw[this];exact Uh _
theorem me{p:Array Nat}(hp:POk n p){t:Nat}(ht:t<n)(hs:ba κ p t){Q:Nat->Shared->Prop}:∀(f l r:Nat) (s:Shared),Good s->l<=r->r<=t->r-l<=f->(∀i,i<l->O.kle (kk κ p i) (kk κ p t))->(∀i,r<=i->i<t->O.klt (kk κ p t) (kk κ p i))->
  (∀x s',Good s'->x<=t->(∀i,i<x->O.kle (kk κ p i) (kk κ p t))->(∀i,x<=i->i<t->O.klt (kk κ p t) (kk κ p i))->Q x s')->(kas_place p t f l r).kasWp cmp Q s
 | 0,l,r,s,g,h1,h2,h3,lo,hi,k=>k l s g (by lia) lo fun i a b=>hi i (by lia) b
 |f+1,l,r,s,g,h1,h2,h3,lo,hi,k=>by
  unfold kas_place;by_cases e:l>=r
  ·rw[Sa e];exact k l s g (by lia) lo fun i a b=>hi i (by lia) b
  ·rw[Sf e];show cmp (p.getD t 0) (p.getD ((l+r) / 2) 0) _ s;refine hc _ _ (hp.lt ht) (hp.lt (by lia)) _ s g fun s' g'=>?_
   cases e2:O.blt (κ (p.getD t 0)) (κ (p.getD ((l+r) / 2) 0)) with
   |true=>
    (try dsimp only)
    rw[Sa rfl];refine me hp ht hs f l ((l+r) / 2) s' g' (by lia) (by lia) (by lia) lo (fun i a b=>?_) k;exact KeyOrd.klt_of_klt_of_kle (O:=O) e2 (hs _ i a b)
   |false=>
    (try dsimp only)
    rw[Sf R4];refine me hp ht hs f ((l+r) / 2+1) r s' g' (by lia) (by lia) (by lia) (fun i a=>?_) hi k;exact Vp (O:=O) (hs i ((l+r) / 2) (by lia) (by lia)) e2
theorem xO{Q:Array Nat->Shared->Prop}:∀(f:Nat) (p:Array Nat) (t:Nat) (s:Shared),POk n p->Good s->t+f=n->ba κ p t->(∀p' s',POk n p'->Good s'->ba κ p' n->Q p' s')->(kas_bin f p t).kasWp cmp Q s
 | 0,p,t,s,hp,g,hf,hs,k=>k p s hp g (by rw[show n=t by lia];exact hs)
 |f+1,p,t,s,hp,g,hf,hs,k=>by
  unfold kas_bin;rw[KasT.kasWp_bind];have hsz:=hp.size;refine me hc hp (by lia) hs t 0 t s g (Tu _) (R1 _) (by lia) (fun i a=>by lia) (fun i a b=>by lia) fun x s' g' hx lo hi=>?_
  refine xO f _ (t+1) s' (hp.bub _ _) g' (by lia) ?_ k;have ex:t-(t-x)=x:=by lia
  intro i j a b;rw[xN (by lia) (by lia),xN (by lia) (by lia),ex];have lo':=lo;by_cases i1:i=x
  ·by_cases j1:j=x
   ·rw[Sa i1,Sa j1];exact Uh _
   ·rw[Sa i1,Sf j1,Sa (by lia)];exact Vc (hi (j-1) (by lia) (by lia))
  ·rw[Sf i1];by_cases i2:x<i/\i<=t
   ·rw[Sa i2,Sf (by lia),Sa (by lia)];exact hs (i-1) (j-1) (by lia) (by lia)
   ·rw[Sf i2];by_cases j1:j=x
    ·rw[Sa j1];exact lo i (by lia)
    ·rw[Sf j1];by_cases j2:x<j/\j<=t
     ·rw[Sa j2];exact hs i (j-1) (by lia) (by lia)
     ·rw[Sf j2];exact hs i j a (by lia)
theorem zb(h1:1<=n){Q:Array Nat->Shared->Prop}{s:Shared}(g:Good s)(k:∀p s',POk n p->Good s'->ba κ p n->Q p s'):(kas_sort n).kasWp cmp Q s:=by
 unfold kas_sort;rw[KasT.kasWp_bind];refine wC hc (p:=List.toArray (List.range n)) ⟨by simp⟩ (R1 _) h1 g fun r p' s' hp g' a b c=>?_
 dsimp only;split
 ·have e:max r 1=r:=by lia
  rw[e];exact xO hc (n-r) p' r s' hp g' (by lia) c k
 ·exact k p' s' hp g' (by rw[show n=r by lia];exact c)
end
end NX
namespace NX
open PySem PySem.W PySem.Spec PyProof.Rows L2
section
variable{prog:Program}{w:World}{A:Around}{E:Value->Shared->Prop}{s:Shared}
theorem qk(n:Nat):POk n (List.toArray (List.range n)):=⟨by simp⟩
theorem ie{O:KeyOrd}{key:Nat->O.α}{kd:SortKind}{a:Addr}{vs:List Value}{n:Nat}{P:PySem.Fin->Shared->Prop}(ho:s.heap.get? a=some (seqObj "list" vs.toArray n))(Kw:vs.length<64)
  (IB:2<=vs.length->∀(h':Heap),(∀b o,b≠a->s.heap.get? b=some o->h'.get? b=some o)->∀Q:SortKind->Shared->Prop,Q kd {s with heap:=h'}->wpAny (model prog w) A (keyKind' vs.toArray) Q E {s with heap:=h'})
  (K1:∀i j,i<vs.length->j<vs.length->∀(h':Heap),(∀b o,b≠a->s.heap.get? b=some o->h'.get? b=some o)->∀C:Bool->Shared->Prop,C (O.blt (key i) (key j)) {s with heap:=h'}->kas_ask prog w A kd vs i j C {s with heap:=h'})
  (h:∀p h',POk vs.length p->ba key p vs.length->(∃e,h'.get? a=some (seqObj "list" (List.toArray (p.toList.map fun i=>vs.getD i .none)) e))->(∀b o,b≠a->s.heap.get? b=some o->h'.get? b=some o)->P (.done (.ret .none)) {s with heap:=h'}):
  wpAny (model prog w) A (Builtin.«list.sort» ⟨[.ref a],[]⟩) P E s:=by
 rw[list_sort_plain];have la:a<s.heap.objs.size:=R0 ho;have zs:vs.toArray.size=vs.length:=by simp
 refine RO (listItems_at ho rfl (RO (listUpdate_at ho rfl ?_ (by rw[zs,Tc];lia) (Tu _))));obtain⟨e1,h1⟩:∃e1,(s.heap.update a (Obj.mapSeq fun _=>#[])).get? a=some (seqObj "list" #[] e1):=⟨_,get?_update_seq ho (fun _=>#[])⟩
 refine RO (seqEpoch_at h1 rfl (RO (VT (RO (Xa (Tv ?_))) (by simp only[VD];rw[Tc];lia))));generalize e6:((s.heap.update a (Obj.mapSeq fun _=>#[])).push {cls:=.type "tuple",data:=.seq vs.toArray.toList.toArray}).push {cls:=.type "list",data:=.seq ([]:List Value).toArray}=h6;have k6:∀b o,b≠a->s.heap.get? b=some o->h6.get? b=some o:=fun b o nb e=>by
  rw[<-e6];exact RS _ (RS _ ((S8 _ _ (SO nb)).trans e))
 have Oh:h6.get? a=some (seqObj "list" #[] e1):=by
  rw[<-e6];exact RS _ (RS _ h1)
 dsimp only;have fin:∀(p:Array Nat),POk vs.length p->ba key p vs.length->∀out:Array Value,out=List.toArray (p.toList.map fun i=>vs.getD i .none)->
   P (.done (.ret .none)) {s with heap:=h6.update a (Obj.mapSeq fun _=>out)}:=fun p hp hs out eo=>by
  subst eo;exact h p _ hp hs ⟨_,get?_update_seq Oh _⟩ fun b o nb e=>(S8 _ _ (SO nb)).trans (k6 b o nb e)
 have fits:∀{out:Array Value}{p:Array Nat},POk vs.length p->out=List.toArray (p.toList.map fun i=>vs.getD i .none)->out.size<=sizeLine+1:=fun{out p} hp e=>by
  rw[e,RY,RU,hp.perm.length_eq,Sh,Tc];lia
 by_cases h2:vs.toArray.size<2
 ·rw[Sa h2,Sa h2];refine RO (RT ?_);rw[StateT.run_pure];refine RO (RT ?_);dsimp only;have eo:(arrOf (SortSt.mk' general' (vs.toArray.zip vs.toArray) #[] 7 none)).map (·.2)=List.toArray ((List.toArray (List.range vs.length)).toList.map fun i=>vs.getD i .none):=by
   show(vs.toArray.zip vs.toArray).map (·.2)=_;apply Array.toList_inj.mp;simp only[Array.toList_map,Array.toList_zip,VD];have a1:(vs.zip vs).map (·.2)=vs:=by
    rw[List.map_snd_zip];exact R1 _
   rw[a1];apply Vd;intro i;by_cases hi:i<vs.length
   ·simp[hi]
   ·simp[hi]
  refine RO (seqEpoch_at Oh rfl (RO (listUpdate_at Oh rfl ?_ (Tu _) (fits (qk _) eo))));simp only[V4,S4,VN];refine RT (fin _ (qk _) ?_ _ eo);intro i j x y;have:i=j:=by lia
  rw[this];exact Uh _
 ·rw[Sf h2,Sf h2];have Rj:2<=vs.length:=by lia
  refine RO (IB Rj h6 k6 _ ?_);refine RO (VY (kat_run (ks:=vs) (vs:=vs) (Q:=fun Im s'=>∃p,POk vs.length p/\ba key p vs.length/\arrOf Im=p.map (kas_item (vs.toArray.zip vs.toArray))/\failedOf Im=none/\s'={s with heap:=h6})
   (G:=fun p s'=>POk vs.length p/\ba key p vs.length/\s'={s with heap:=h6}) rfl Rj Kw (fun p Im s' hz Qf hf hg=>⟨p,hg.1,hg.2.1,Qf,hf,hg.2.2⟩)
   (zb (n:=vs.length) (O:=O) (κ:=key) (Good:=fun s'=>s'={s with heap:=h6}) (fun i j hi hj Q s' g k=>?_) (by lia) rfl fun p s' hp g hs=>⟨hp,hs,g⟩)) (fun r s' hq=>?_) fun _ _ e=>e)
  ·subst g;exact K1 i j hi hj h6 k6 Q (k _ rfl)
  ·obtain⟨p,hp,hs,Qf,hf,rfl⟩:=hq;have eo:=kat_snds (ks:=vs) (vs:=vs) rfl Qf;refine RO (seqEpoch_at Oh rfl (RO (listUpdate_at Oh rfl ?_ (Tu _) (fits hp eo))));rw[hf];simp only[V4,S4,VN];exact RT (fin p hp hs _ eo)
theorem iV{O:KeyOrd}{key:Nat->O.α}{kd:SortKind}{l:Addr}{vs:List Value}{Q:Value->Shared->Prop}(hl:s.heap.IsList l vs.toArray)(Kw:vs.length<64)
  (IB:2<=vs.length->∀(A':Around) (E':Value->Shared->Prop) (h':Heap),(∀b o,s.heap.get? b=some o->h'.get? b=some o)->∀Q:SortKind->Shared->Prop,Q kd {s with heap:=h'}->wpAny (model prog w) A' (keyKind' vs.toArray) Q E' {s with heap:=h'})
  (K1:∀i j,i<vs.length->j<vs.length->∀(h':Heap),(∀b o,s.heap.get? b=some o->h'.get? b=some o)->∀C:Bool->Shared->Prop,C (O.blt (key i) (key j)) {s with heap:=h'}->kas_ask prog w A.in1.in1 kd vs i j C {s with heap:=h'})
  (h:∀p h' e,POk vs.length p->ba key p vs.length->h'.get? (s.heap.objs.size+1)=some (seqObj "list" (List.toArray (p.toList.map fun i=>vs.getD i .none)) e)->(∀b o,s.heap.get? b=some o->h'.get? b=some o)->Q (.ref (s.heap.objs.size+1)) {s with heap:=h'}):
  wpAny (model prog w) A (call (.builtin "sorted") [.ref l]) Q E s:=by
 refine UU kind_sorted plain_sorted entry_sorted (args_sorted1 _) ?_;unfold Builtin.«sorted»;refine RO (m:=checkCount "sorted" 1 1 _) (RT (RO (collect_list hl (RO (Xa ?_ (by rw[Tc];lia))) (by rw[Tc];lia))));have zz:((s.heap.push (seqObj "list" #[] 0)).update s.heap.objs.size (Obj.mapSeq (·++vs.toArray))).objs.size=s.heap.objs.size+1:=by rw[Heap.size_update,size_push']
 generalize e5:(s.heap.push (seqObj "list" #[] 0)).update s.heap.objs.size (Obj.mapSeq (·++vs.toArray))=h5 at zz ⊢;have k5:∀b o,s.heap.get? b=some o->(h5.push (seqObj "list" vs.toArray 0)).get? b=some o:=fun b o e=>by
  rw[<-e5];exact RS _ ((S8 _ _ (SO (Sl (R0 e)))).trans (RS _ e))
 have hL:(h5.push (seqObj "list" vs.toArray 0)).get? (s.heap.objs.size+1)=some (seqObj "list" vs.toArray 0):=by
  rw[<-zz];exact R5 _ rfl
 have ne:∀b o,s.heap.get? b=some o->b≠s.heap.objs.size+1:=fun b o e=>Sl (V6 (R0 e))
 show wpAny _ _ _ _ _ {s with heap:=h5.push (seqObj "list" vs.toArray 0)};rw[zz];refine RO (Tv (SF slot_list_sort ⟨_,hL,rfl⟩ entry_list_sort (ie (key:=key) (kd:=kd) hL Kw (fun h2 h' kk Q' q=>IB h2 _ _ h' (fun b o e=>kk b o (ne b o e) (k5 b o e)) Q' q)
  (fun i j hi hj h' kk C q=>K1 i j hi hj h' (fun b o e=>kk b o (ne b o e) (k5 b o e)) C q) fun p h' hp hs ⟨e,he⟩ kk=>⟨_,rfl,?_⟩) (args_list_sort _)))
 exact RT ⟨_,rfl,h p h' e hp hs he fun b o q=>kk b o (ne b o q) (k5 b o q)⟩
end
def intO:KeyOrd where
 α:=Int
 blt a b:=decide (a<b)
 irrefl a:=by simp
 trans a b c h1 h2:=by simp only[R8] at *;lia
 negTrans a b c h:=by simp only[R8] at *;lia
 total a b h1 h2:=by simp only[SU] at *;lia
abbrev EF:KeyOrd:=strKind.toKeyOrd
noncomputable def ql:KeyOrd where
 α:=Key
 blt a b:=match a,b with
  | .inl i,.inl j=>decide (i<j)
  | .inr x,.inr y=>decide (x.cps.toList<y.cps.toList)
  | .inl _,.inr _=>true
  | .inr _,.inl _=>false
 irrefl a:=by
  cases a with
  |inl i=>simp
  |inr x=>simpa using List.lt_irrefl x.cps.toList
 trans a b c h1 h2:=by
  cases a <;> cases b <;> cases c <;> simp_all
  ·lia
  ·exact List.lt_trans h1 h2
 negTrans a b c h:=by
  cases a <;> cases b <;> cases c <;> simp_all
  ·lia
  ·rename_i x y z;by_cases q:x.cps.toList<y.cps.toList
   ·exact .inl q
   ·exact .inr (List.lt_of_le_of_lt (We.mp q) h)
 total a b h1 h2:=by
  cases a <;> cases b <;> simp_all
  ·lia
  ·rename_i x y;have e:x.cps.toList=y.cps.toList:=List.le_antisymm (by first|exact h2|exact We.mp h2) (by first|exact h1|exact We.mp h1);rw[<-nQ x,<-nQ y,e]
def d4:List Key->List Key->Bool
 |[],[]=>false
 |[],_::_=>true
 |_::_,[]=>false
 |a::r,b::t=>if a=b then d4 r t else ql.blt a b
theorem g0:∀a:List Key,d4 a a=false
 |[]=>rfl
 |a::r=>by
  show(if a=a then d4 r r else _)=false;rw[Sa rfl];exact g0 r
theorem zc{a b:Key}(h:ql.blt a b=true):a≠b:=by
 rintro rfl;have:=ql.irrefl a;rw[h]at this;cases this
theorem gx:∀a b c:List Key,d4 a b=true->d4 b c=true->d4 a c=true
 |[],[],_,h,_=>by cases h
 |[],_::_,[],_,h=>by cases h
 |[],_::_,_::_,_,_=>rfl
 |_::_,[],_,h,_=>by cases h
 |_::_,_::_,[],_,h=>by cases h
 |a::r,b::t,c::u,h1,h2=>by
  have h1:(if a=b then d4 r t else ql.blt a b)=true:=h1;have h2:(if b=c then d4 t u else ql.blt b c)=true:=h2;show(if a=c then d4 r u else ql.blt a c)=true;by_cases e1:a=b
  ·by_cases e2:b=c
   ·rw[Sa e1]at h1;rw[Sa e2]at h2;rw[Sa (e1.trans e2)];exact gx r t u h1 h2
   ·rw[Sf e2]at h2;rw[e1,Sf e2];exact h2
  ·rw[Sf e1]at h1;by_cases e2:b=c
   ·rw[<-e2,Sf e1];exact h1
   ·rw[Sf e2]at h2;have h3:=ql.trans a b c h1 h2;rw[Sf (zc h3)];exact h3
theorem gy:∀a b:List Key,d4 a b=false->d4 b a=false->a=b
 |[],[],_,_=>rfl
 |[],_::_,h,_=>by cases h
 |_::_,[],_,h=>by cases h
 |a::r,b::t,h1,h2=>by
  have h1:(if a=b then d4 r t else ql.blt a b)=false:=h1;have h2:(if b=a then d4 t r else ql.blt b a)=false:=h2;by_cases e:a=b
  ·rw[Sa e]at h1;rw[Sa e.symm]at h2;rw[e,gy r t h1 h2]
  ·rw[Sf e]at h1;rw[Sf (SO e)]at h2;exact absurd (ql.total a b h1 h2) e
theorem wD(a b c:List Key)(h:d4 a c=true):d4 a b=true\/d4 b c=true:=by
 cases e:d4 a b with
 |true=>exact .inl rfl
 |false=>
  refine .inr ?_;cases e2:d4 b a with
  |true=>exact gx b a c e2 h
  |false=>
   rw[<-gy a b e e2];exact h
def Dk:KeyOrd where
 α:=List Key
 blt:=d4
 irrefl:=g0
 trans:=gx
 negTrans:=wD
 total:=gy
section
variable{O:KeyOrd}
def rD(p:Array Nat)(xs:List V):List V:=p.toList.map fun i=>xs.getD i .non
theorem lp{α:Type}(xs:List α)(d:α):((List.range xs.length).map fun i=>xs.getD i d)=xs:=by
 apply Vd;intro i;by_cases hi:i<xs.length
 ·simp[hi]
 ·simp[hi]
theorem jM{α:Type}{p:Array Nat}{xs:List α}(d:α)(hp:POk xs.length p):(p.toList.map fun i=>xs.getD i d).Perm xs:=by
 have:=hp.perm.map (fun i=>xs.getD i d)
 rwa [lp]at this
theorem gC{α:Type}{p:Array Nat}{xs:List α}(d:α)(key:α->O.α)(hp:POk xs.length p)(hs:ba (O:=O) (fun i=>key (xs.getD i d)) p xs.length):(p.toList.map fun i=>xs.getD i d).Pairwise fun a b=>O.kle (key a) (key b):=by
 rw[VW];intro i j hi hj Og;have hsz:=hp.size;have Lu:i<p.size:=by simpa using hi
 have MR:j<p.size:=by simpa using hj
 have h:=hs i j (WB Og) (by lia);unfold kk at h;simp only[Um,WT];have e1:p.getD i 0=p[i]:=by simp[Array.getD,Lu]
 have e2:p.getD j 0=p[j]:=by simp[Array.getD,MR]
 rw[e1,e2]at h;exact h
theorem vals_pick{xs:List V}{us:List Value}(r:Vals xs us):∀l:List Nat,(∀i∈l,i<xs.length)->Vals (l.map fun i=>xs.getD i .non) (l.map fun i=>us.getD i .none)
 |[],_=>.nil
 |i::l,h=>by
  refine .cons ?_ (vals_pick r l fun j hj=>h j (RZ _ hj));have hi:=h i RQ;have e1:xs[i]?=some (xs.getD i .non):=by rw[bj _ _ _ hi];exact RP hi
  obtain⟨u,hu,ru⟩:=r.get e1;have e2:us.getD i .none=u:=by rw[Sj,hu];rfl
  show L2.RelV (xs.getD i .non) (us.getD i .none);rw[e2];exact ru
theorem jN{xs:List V}{us:List Value}{p:Array Nat}(r:Vals xs us)(hp:POk xs.length p):Vals (rD p xs) (p.toList.map fun i=>us.getD i .none):=
 vals_pick r _ fun i hi=>Tf.mp (hp.perm.mem_iff.mp hi)
end
section
variable{X:Cx}
theorem ig{pr:List (Addr×Obj)}{s:Shared}{σ:L2.St}{H:Hp}{h':Heap}{ys:List V}{us:List Value}{e:Nat}{D:Addr}(I:Inv X pr σ H s)(kk:∀b o,s.heap.get? b=some o->h'.get? b=some o)(hD:s.heap.objs.size<=D)
  (ho:h'.get? D=some (seqObj "list" (List.toArray us) e)) (r:Vals ys us) (hz:ys.length<=sizeLine):Inv X pr σ (upd H D (.lst ys)) {s with heap:=h'}:=
 I.laid (t':=s.toks) kk hD ⟨hz,us,e,r,ho⟩
theorem jD(hc:X.calm=true):cU X (.builtin "sorted") (fun vs H Q=>∃(p:Addr) (ns:List Int),vs=[.ref p]/\SqL X.K H p (ns.map V.int)/\ns.length<64/\∀(D:Addr) (ms:List Int),H D=none->ms.Perm ns->ms.Pairwise (·<=·)->Q (.ref D) (upd H D (.lst (ms.map V.int)))):=by
 intro pr s σ H vs us Q I r h;obtain⟨p,ns,rfl,hp,Kw,q⟩:=h;obtain⟨u,rfl,r1⟩:=fE r;cases r1;obtain⟨ws,rv,pl,hz⟩:=I.list hp;have hl:=rv.length;rw[RU]at hl;have isI:∀v∈ws,∃n t,v=.int n t:=fun v hv=>by
  obtain⟨i,hi⟩:=UN.mp hv;obtain⟨t,e⟩:=eL rv hi;exact⟨_,t,e⟩
 refine iV (O:=intO) (key:=fun i=>ns.getD i 0) (kd:=oneType') pl.isList (by lia) (fun h2 A' E' h' kk Q' q'=>?_) (fun i j hi hj h' kk C q'=>?_) fun pp h' e HW hs he kk=>?_
 ·refine kas_kind h2 (T:=.type "int") (fun v hv=>?_) (by decide) (by decide) q';obtain⟨n,t,rfl⟩:=isI v hv;exact fun A Q E s _ q=>UL (typeIs_int s n t) q
 ·unfold kas_ask;have e1:ws[i]?=some (ws.getD i .none):=by rw[bj _ _ _ hi];exact RP hi
  have e2:ws[j]?=some (ws.getD j .none):=by rw[bj _ _ _ hj];exact RP hj
  obtain⟨t,Qg⟩:=eL rv e1;obtain⟨t',Qh⟩:=eL rv e2;rw[Qg,Qh];exact kat_lt_int q'
 ·rw[<-hl]at HW hs;have MS:POk (ns.map V.int).length pp:=by rw[RU];exact HW
  have eo:rD pp (ns.map V.int)=(pp.toList.map fun i=>ns.getD i 0).map V.int:=by
   unfold rD;rw[SE];refine TH fun i hi=>?_
   have hi:=Tf.mp (HW.perm.mem_iff.mp hi);show(ns.map V.int).getD i .non=V.int (ns.getD i 0);rw[bj _ _ _ (by rw[RU];exact hi),bj _ _ _ hi];simp
  have hn:H (s.heap.objs.size+1)=none:=I.hok.fresh (UZ _);refine⟨.ref (s.heap.objs.size+1),_,ig I kk (UZ _) he (jN rv MS) ?_,rfl,?_⟩
  ·show(rD pp (ns.map V.int)).length<=sizeLine;rw[eo,RU,RU,HW.perm.length_eq,Sh,Tc];lia
  ·rw[eo];refine q _ _ hn (jM 0 HW) ?_;have:=gC (O:=intO) 0 (fun i:Int=>i) HW hs;refine this.imp fun{a b} KJ=>?_
   have KJ:decide (b<a)=false:=KJ;have:=Xb KJ;lia
theorem px{ls:List (List Nat)}{us:List Value}(r:Vals (ls.map fun l=>V.str (S l)) us){i:Nat}{v:Value}(h:us[i]?=some v):∃t,v=.str (S (ls.getD i [])) t:=by
 have hl:=r.length;rw[RU]at hl;obtain⟨hi,_⟩:=Se.mp h;have e1:(ls.map fun l=>V.str (S l))[i]?=some (.str (S (ls.getD i []))):=by
  rw[Sm,RP (by lia),bj _ _ _ (by lia)];rfl
 obtain⟨u,hu,t,rfl⟩:=r.get e1;rw[h]at hu;exact⟨t,SX hu⟩
theorem jE(hc:X.calm=true):cU X (.builtin "sorted") (fun vs H Q=>∃(p:Addr) (ls:List (List Nat)),vs=[.ref p]/\SqL X.K H p (ls.map fun l=>V.str (S l))/\ls.length<64/\∀(D:Addr) (ms:List (List Nat)),H D=none->ms.Perm ls->ms.Pairwise (fun a b=>¬ b<a)->Q (.ref D) (upd H D (.lst (ms.map fun l=>V.str (S l))))):=by
 intro pr s σ H vs us Q I r h;obtain⟨p,ls,rfl,hp,Kw,q⟩:=h;obtain⟨u,rfl,r1⟩:=fE r;cases r1;obtain⟨ws,rv,pl,hz⟩:=I.list hp;have hl:=rv.length;rw[RU]at hl;refine iV (O:=EF) (key:=fun i=>ls.getD i []) (kd:=oneType') pl.isList (by lia) (fun h2 A' E' h' kk Q' q'=>?_) (fun i j hi hj h' kk C q'=>?_) fun pp h' e HW hs he kk=>?_
 ·refine kas_kind h2 (T:=.type "str") (fun v hv=>?_) (by decide) (by decide) q';obtain⟨i,hi⟩:=UN.mp hv;obtain⟨t,rfl⟩:=px rv hi;exact fun A Q E s _ q=>UL (V1 s _ t) q
 ·unfold kas_ask;have e1:ws[i]?=some (ws.getD i .none):=by rw[bj _ _ _ hi];exact RP hi
  have e2:ws[j]?=some (ws.getD j .none):=by rw[bj _ _ _ hj];exact RP hj
  obtain⟨t,Qg⟩:=px rv e1;obtain⟨t',Qh⟩:=px rv e2;rw[Qg,Qh];refine kas_lt_str ?_;rw[dv,dv];exact q'
 ·rw[<-hl]at HW hs;have MS:POk (ls.map fun l=>V.str (S l)).length pp:=by rw[RU];exact HW
  have eo:rD pp (ls.map fun l=>V.str (S l))=(pp.toList.map fun i=>ls.getD i []).map fun l=>V.str (S l):=by
   unfold rD;rw[SE];refine TH fun i hi=>?_
   have hi:=Tf.mp (HW.perm.mem_iff.mp hi);show(ls.map fun l=>V.str (S l)).getD i .non=V.str (S (ls.getD i []));rw[bj _ _ _ (by rw[RU];exact hi),bj _ _ _ hi];simp
  have hn:H (s.heap.objs.size+1)=none:=I.hok.fresh (UZ _);refine⟨.ref (s.heap.objs.size+1),_,ig I kk (UZ _) he (jN rv MS) ?_,rfl,?_⟩
  ·show(rD pp (ls.map fun l=>V.str (S l))).length<=sizeLine;rw[eo,RU,RU,HW.perm.length_eq,Sh,Tc];lia
  ·rw[eo];refine q _ _ hn (jM [] HW) ?_;have:=gC (O:=EF) [] (fun l:List Nat=>l) HW hs;refine this.imp fun{a b} KJ=>?_
   have KJ:decide (b<a)=false:=KJ;exact Xb KJ
end
def kinds(k:List Key):List Bool:=k.map fun x=>x.isLeft
section
variable{prog:Program}{w:World}{A:Around}{s:Shared}
theorem tX(a b:Key):P5 (kV a) (kV b)=decide (a=b):=by
 cases a <;> cases b <;> (rw[SH];simp[kV,P5])
theorem jO(a:Key):wo (kV a)=true:=by cases a <;> rfl
theorem Bu{a b:Key}{u v:Value}{top:Bool}{Q:Bool->Shared->Prop}(ra:L2.RelV (kV a) u)(rb:L2.RelV (kV b) v)(hk:a.isLeft=b.isLeft)(q:Q (ql.blt a b) s):wpAny (model prog w) A (oneLt' top u v) Q (fun _ _=>False) s:=by
 cases a with
 |inl i=>
  cases b with
  |inr _=>cases hk
  |inl j=>
   obtain⟨t,rfl⟩:=ra;obtain⟨t',rfl⟩:=rb;cases top with
   |true=>exact kat_lt_int (E:=fun _ _=>False) q
   |false=>exact kat_one _ _ (lt_int q)
 |inr x=>
  cases b with
  |inl _=>cases hk
  |inr y=>
   obtain⟨t,rfl⟩:=ra;obtain⟨t',rfl⟩:=rb;cases top with
   |true=>exact oneLt_str q
   |false=>exact kat_one _ _ (lt_str q)
theorem jZ{Q:Bool->Shared->Prop}:∀(k1 k2:List Key) (us ws:List Value) (i:Nat),Vals (k1.map kV) us->Vals (k2.map kV) ws->kinds k1=kinds k2->Q (d4 k1 k2) s->KatLex prog w A true false Q (us.zip ws) i s
 |[],[],_,_,_,.nil,.nil,_,q=>q
 |[],_::_,_,_,_,_,_,h,_=>by cases h
 |_::_,[],_,_,_,_,_,h,_=>by cases h
 |a::r,b::t,u::us,v::ws,i,.cons ru rus,.cons rv rvs,h,q=>by
  have h1:a.isLeft=b.isLeft:=(U7 h).1;have h2:kinds r=kinds t:=(U7 h).2;have q:Q (if a=b then d4 r t else ql.blt a b) s:=q;refine kat_cons (xI (A:=A) (s:=s) ru rv (jO a) (jO b) prog w _ _ ?_);rw[tX];by_cases e:a=b
  ·rw[Sa e]at q;rw[Sq e];exact kat_yes (jZ r t us ws (i+1) rus rvs h2 q)
  ·rw[Sf e]at q;rw[Sb e];exact kat_no (Bu ru rv h1 q)
end
section
variable{X:Cx}{pr:List (Addr×Obj)}{σ:L2.St}{H:Hp}{s:Shared}
theorem nX(I:Inv X pr σ H s){a:Addr}{xs:List V}(h:SqT X.K H a xs):∃(us:List Value) (o:Obj) (n:Nat),Vals xs us/\s.heap.get? a=some o/\o.cls=.type "tuple"/\o.data=.seq us.toArray n:=by
 obtain⟨us,r,pl,_⟩:=I.tuple h;obtain⟨o,ho,oc,n,od⟩:=pl;exact⟨us,o,n,r,ho,oc,od⟩
theorem mf{al:List (Addr×List Key)}{us:List Value}(r:Vals (al.map fun a=>V.ref a.1) us){i:Nat}(h:i<al.length):us.getD i .none=.ref (al.getD i (0,[])).1:=by
 have e1:(al.map fun a=>V.ref a.1)[i]?=some (.ref (al.getD i (0,[])).1):=by
  rw[Sm,RP h,bj _ _ _ h];rfl
 obtain⟨u,hu,ru⟩:=r.get e1;rw[Sj,hu];exact ru
theorem qm{al:List (Addr×List Key)}{us:List Value}{h':Heap}(I:Inv X pr σ H s)(kk:∀b o,s.heap.get? b=some o->h'.get? b=some o)(top:Bool):
  (r:Vals (al.map fun a=>V.ref a.1) us)->(∀a∈al,SqT X.K H a.1 (a.2.map kV)/\∃t,kinds a.2=top::t)->∃fs:List Value,KatTups h' us fs/\fs.length=al.length/\∀v∈fs,∀M:Model,Looks M h' (typeOf v) (.type (if top then "int" else "str")):=by
 induction al generalizing us with
 |nil=>
  intro r _;cases r;exact⟨[],trivial,rfl,fun v hv=>by cases hv⟩
 |cons a al ih=>
  intro r h;cases r with
  |cons ra rs=>
   cases ra;obtain⟨fs,t1,t2,t3⟩:=ih rs fun b hb=>h b (RZ _ hb)
   obtain⟨ha,kt,hk⟩:=h a RQ;obtain⟨ws,o,n,rv,ho,oc,od⟩:=nX I ha;cases e2:a.2 with
   |nil=>rw[e2]at hk;cases hk
   |cons k ks=>
    rw[e2]at rv hk;have Rk:k.isLeft=top:=(U7 hk).1;cases rv with
    | @cons _ f _ fr rf rfs=>
     refine⟨f::fs,KatTups.cons (kk _ _ ho) oc od (by simp) t1,by simp[t2],fun v hv M=>?_⟩;rcases RV.mp hv with rfl|hv
     ·cases k with
      |inl i=>
       obtain⟨t,rfl⟩:=rf;have:top=true:=Rk.symm;subst this;exact fun A Q E s _ q=>UL (typeIs_int s _ t) q
      |inr x=>
       obtain⟨t,rfl⟩:=rf;have:top=false:=Rk.symm;subst this;exact fun A Q E s _ q=>UL (V1 s _ t) q
     ·exact t3 v hv M
end
section
variable{X:Cx}
theorem jF(hc:X.calm=true):cU X (.builtin "sorted") (fun vs H Q=>∃(p:Addr) (al:List (Addr×List Key)) (top:Bool) (t:List Bool),vs=[.ref p]/\SqL X.K H p (al.map fun a=>V.ref a.1)/\(∀a∈al,SqT X.K H a.1 (a.2.map kV)/\kinds a.2=top::t)/\al.length<64/\
  ∀(D:Addr) (ms:List (Addr×List Key)),H D=none->ms.Perm al->ms.Pairwise (fun a b=>d4 b.2 a.2=false)->Q (.ref D) (upd H D (.lst (ms.map fun a=>V.ref a.1)))):=by
 intro pr s σ H vs us Q I r h;obtain⟨p,al,top,kt,rfl,hp,Kk,Kw,q⟩:=h;obtain⟨u,rfl,r1⟩:=fE r;cases r1;obtain⟨ws,rv,pl,hz⟩:=I.list hp;have hl:=rv.length;rw[RU]at hl;refine iV (O:=Dk) (key:=fun i=>(al.getD i (0,[])).2) (kd:=tuples' true) pl.isList (by lia) (fun h2 A' E' h' kk Q' q'=>?_) (fun i j hi hj h' kk C q'=>?_) fun pp h' e HW hs he kk=>?_
 ·obtain⟨fs,t1,t2,t3⟩:=qm I kk top rv fun a ha=>⟨(Kk a ha).1,kt,(Kk a ha).2⟩
  refine kat_kind (T:=.type (if top then "int" else "str")) t1 (by lia) (fun v hv=>t3 v hv _) (by simp) ?_;have:((Value.type (if top then "int" else "str")) != Value.type "tuple")=true:=by cases top <;> decide
  rw[this];exact q'
 ·unfold kas_ask;have Lu:i<al.length:=by lia
  have MR:j<al.length:=by lia
  rw[mf rv Lu,mf rv MR];have mi:al.getD i (0,[])∈al:=by rw[bj _ _ _ Lu];exact SW _
  have mj:al.getD j (0,[])∈al:=by rw[bj _ _ _ MR];exact SW _
  obtain⟨u1,o1,n1,r1,g1,_,d1⟩:=nX I (Kk _ mi).1;obtain⟨u2,o2,n2,r2,g2,_,d2⟩:=nX I (Kk _ mj).1;have ek:kinds (al.getD i (0,[])).2=kinds (al.getD j (0,[])).2:=by rw[(Kk _ mi).2,(Kk _ mj).2]
  have el:u1.length=u2.length:=by
   have a1:=r1.length;have a2:=r2.length;have a3:=Tq List.length ek;simp only[kinds,RU]at a1 a2 a3;lia
  refine kat_lt (kk _ _ g1) d1 (kk _ _ g2) d2 ?_;have ef:decide (u1.toArray.size<u2.toArray.size)=false:=by simp[el]
  rw[ef];exact jZ _ _ _ _ 0 r1 r2 ek q'
 ·rw[<-hl]at HW hs;have MS:POk (al.map fun a=>V.ref a.1).length pp:=by rw[RU];exact HW
  have eo:rD pp (al.map fun a=>V.ref a.1)=(pp.toList.map fun i=>al.getD i (0,[])).map fun a=>V.ref a.1:=by
   unfold rD;rw[SE];refine TH fun i hi=>?_
   have hi:=Tf.mp (HW.perm.mem_iff.mp hi);show(al.map fun a=>V.ref a.1).getD i .non=V.ref (al.getD i (0,[])).1;rw[bj _ _ _ (by rw[RU];exact hi),bj _ _ _ hi];simp
  have hn:H (s.heap.objs.size+1)=none:=I.hok.fresh (UZ _);refine⟨.ref (s.heap.objs.size+1),_,ig I kk (UZ _) he (jN rv MS) ?_,rfl,?_⟩
  ·show(rD pp (al.map fun a=>V.ref a.1)).length<=sizeLine;rw[eo,RU,RU,HW.perm.length_eq,Sh,Tc];lia
  ·rw[eo];refine q _ _ hn (jM (0,[]) HW) ?_;exact gC (O:=Dk) (0,[]) (fun a:Addr×List Key=>a.2) HW hs
end
end NX
namespace L2
open PySem PySem.Spec PyProof.Rows
section
variable{κ:Type}[DecidableEq κ]
def nZ(F5:List (κ×V))(k:κ):Option V:=(F5.find? fun kv=>decide (kv.1=k)).map (·.2)
def lq(F5:List (κ×V))(k:κ)(v:V):List (κ×V):=
 if(F5.any fun kv=>decide (kv.1=k))=true then F5.map (fun kv=>if kv.1=k then(kv.1,v) else kv) else F5++[(k,v)]
theorem mh{p:κ×V}{r:List (κ×V)}{k:κ}(e:p.1=k):nZ (p::r) k=some p.2:=by simp[nZ,UO,e]
theorem mm{p:κ×V}{r:List (κ×V)}{k:κ}(e:¬ p.1=k):nZ (p::r) k=nZ r k:=by simp[nZ,UO,e]
theorem qo(k:κ):∀F5:List (κ×V),(F5.any fun kv=>decide (kv.1=k))=(nZ F5 k).isSome
 |[]=>rfl
 |p::r=>by
  rw[Xc];by_cases e:p.1=k
  ·simp only[mh e,Sq e,Bool.true_or,Option.isSome_some]
  ·rw[mm e,Sb e,Bool.false_or];exact qo k r
theorem j0(F5:List (κ×V))(k:κ)(v:V):(lq F5 k v).length<=F5.length+1:=by
 unfold lq;split
 ·rw[RU];lia
 ·rw[SM,R6,UM];lia
theorem RelO.isSome_eq{o:Option V}{u:Option Value}(r:RelO o u):o.isSome=u.isSome:=by
 cases o with
 |none=>cases u with
  |none=>rfl
  |some _=>exact(show False from r).elim
 |some _=>cases u with
  |none=>exact(show False from r).elim
  |some _=>rfl
theorem RelO.getD{o:Option V}{u:Option Value}{d:V}{d':Value}(r:RelO o u)(rd:RelV d d'):RelV (o.getD d) (u.getD d'):=by
 cases o with
 |none=>cases u with
  |none=>exact rd
  |some _=>exact(show False from r).elim
 |some _=>cases u with
  |none=>exact(show False from r).elim
  |some _=>exact r
theorem KV.val{F5:List (κ×V)}{vs:List (κ×Value)}(r:KV F5 vs)(k:κ):RelO (nZ F5 k) (valueAt vs k):=by
 unfold KV at r;induction r with
 |nil=>exact True.intro
 | @cons p q ps qs h t ih=>
  obtain⟨h1,h2⟩:=h;by_cases e:p.1=k
  ·have e':q.1=k:=h1.symm.trans e;have b:valueAt (q::qs) k=some q.2:=by simp[valueAt,UO,e']
   rw[mh e,b];exact h2
  ·have e':¬ q.1=k:=fun z=>e (h1.trans z)
   have b:valueAt (q::qs) k=valueAt qs k:=by simp[valueAt,UO,e']
   rw[mm e,b];exact ih
theorem KV.any{F5:List (κ×V)}{vs:List (κ×Value)}(r:KV F5 vs)(k:κ):(F5.any fun kv=>decide (kv.1=k))=vs.any fun kv=>decide (kv.1=k):=by
 unfold KV at r;induction r with
 |nil=>rfl
 |cons h t ih=>rw[Xc,Xc,ih,h.1]
theorem KV.repl{F5:List (κ×V)}{vs:List (κ×Value)}(r:KV F5 vs)(k:κ){y:V}{u:Value}(ry:RelV y u):
  KV (F5.map fun kv=>if kv.1=k then(kv.1,y) else kv) (vs.map fun kv=>if kv.1=k then(kv.1,u) else kv):=by
 unfold KV at r ⊢;induction r with
 |nil=>exact .nil
 | @cons p q ps qs h t ih=>
  rw[So,So];refine .cons ?_ ih;obtain⟨h1,h2⟩:=h;by_cases e:p.1=k
  ·rw[Sa e,Sa (h1.symm.trans e)];exact⟨h1,ry⟩
  ·rw[Sf e,Sf (fun z=>e (h1.trans z))];exact⟨h1,h2⟩
theorem KV.put{F5:List (κ×V)}{vs:List (κ×Value)}(r:KV F5 vs)(k:κ){y:V}{u:Value}(ry:RelV y u):KV (lq F5 k y) (stored vs k u):=by
 unfold lq stored;rw[r.any k];by_cases e:(vs.any fun kv=>decide (kv.1=k))=true
 ·rw[Sa e,Sa e];exact r.repl k ry
 ·rw[Sf e,Sf e];exact Paired.snoc r ⟨rfl,ry⟩
theorem KV.length{F5:List (κ×V)}{vs:List (κ×Value)}(r:KV F5 vs):F5.length=vs.length:=Vx r
end
theorem kV_is{P:Program}{w:World}{k:Key}{u:Value}(r:RelV (kV k) u):(mixKind P w).is k u=true:=by
 cases k with
 |inl i=>obtain⟨t,e⟩:=(show ∃t,u=Value.int i t from r);subst e;exact pf P w i t
 |inr x=>obtain⟨t,e⟩:=(show ∃t,u=Value.str x t from r);subst e;exact ph P w x t
theorem n0{P:Program}{w:World}:∀{ks:List Key}{us:List Value},Vals (ks.map kV) us->ItemsAre (mixKind P w) ks us
 |[],_,r=>by rw[U3]at r;cases r;exact .nil
 |k::ks,_,r=>by
  rw[So]at r;cases r with
  |cons h t=>exact .cons (kV_is h) (n0 t)
abbrev KT(H:Hp):List (List Key×V)->List (List Key×Addr×Value)->Prop:=Paired fun p q=>p.1=q.1/\H q.2.1=some (.tup (p.1.map kV))/\RelV p.2 q.2.2
theorem KT.val{H:Hp}{F5:List (List Key×V)}{xs:List (List Key×Addr×Value)}(r:KT H F5 xs)(k:List Key):RelO (nZ F5 k) ((atKey xs k).map (·.2)):=by
 induction r with
 |nil=>exact True.intro
 | @cons p q ps qs h t ih=>
  obtain⟨h1,_,h2⟩:=h;by_cases e:p.1=k
  ·have e':q.1=k:=h1.symm.trans e;have b:atKey (q::qs) k=some q.2:=by simp[atKey,UO,e']
   rw[mh e,b];exact h2
  ·have e':¬ q.1=k:=fun z=>e (h1.trans z)
   have b:atKey (q::qs) k=atKey qs k:=by simp[atKey,UO,e']
   rw[mm e,b];exact ih
theorem KT.repl{H:Hp}{F5:List (List Key×V)}{xs:List (List Key×Addr×Value)}(r:KT H F5 xs)(k:List Key){y:V}{u:Value}(ry:RelV y u):
  KT H (F5.map fun kv=>if kv.1=k then(kv.1,y) else kv) (xs.map (putAt k u)):=by
 induction r with
 |nil=>exact .nil
 | @cons p q ps qs h t ih=>
  rw[So,So];refine .cons ?_ ih;obtain⟨h1,h2,h3⟩:=h;unfold putAt;by_cases e:p.1=k
  ·rw[Sa e,Sa (h1.symm.trans e)];exact⟨h1,h2,ry⟩
  ·rw[Sf e,Sf (fun z=>e (h1.trans z))];exact⟨h1,h2,h3⟩
theorem KT.put{H:Hp}{F5:List (List Key×V)}{xs:List (List Key×Addr×Value)}(r:KT H F5 xs)(k:List Key){b:Addr}{y:V}{u:Value}(hb:H b=some (.tup (k.map kV)))(ry:RelV y u):
  KT H (lq F5 k y) (storedH xs k b u):=by
 have e:(F5.any fun kv=>decide (kv.1=k))=(atKey xs k).isSome:=by
  rw[qo,(r.val k).isSome_eq,Option.isSome_map]
 unfold lq storedH;rw[e];by_cases q:(atKey xs k).isSome=true
 ·rw[Sa q,Sa q];exact r.repl k ry
 ·rw[Sf q,Sf q];exact Paired.snoc r ⟨rfl,hb,ry⟩
theorem KT.keeps{H H':Hp}{F5:List (List Key×V)}{xs:List (List Key×Addr×Value)}(r:KT H F5 xs)(ht:∀b ys,H b=some (.tup ys)->H' b=some (.tup ys)):KT H' F5 xs:=
 Paired.mapP r fun _ _ z=>⟨z.1,ht _ _ z.2.1,z.2.2⟩
section
variable{P:Program}{w:World}{H:Hp}{h:Heap}{a:Addr}
theorem Bv{u:HO}(ok:HOk P w H h)(e:Rd H a u):ObjOk P w H h a u:=e.ok ok
theorem wF{F5:List (Key×V)}(ok:HOk P w H h)(e:Rd H a (.dK F5)):F5.length<=sizeLine/\(a==sysModules)=false/\∃vs,KV F5 vs/\h.DictOf (mixKind P w) a vs:=
 show ObjOk P w H h a (.dK F5) from Bv ok e
theorem DT{F5:List (Key×V)}(ok:HOk P w H h)(e:H a=some (.dK F5)):F5.length<=sizeLine/\(a==sysModules)=false/\∃vs,KV F5 vs/\h.DictOf (mixKind P w) a vs:=wF ok (.inl e)
theorem qp{ks:List Key}(ok:HOk P w H h)(e:H a=some (.tup (ks.map kV))):(tupleKind (mixKind P w)).is h ks a:=by
 obtain⟨_,F6,r,o,h1,h2,⟨n,h3⟩,_⟩:=(show ObjOk P w H h a (.tup (ks.map kV)) from ok a _ e)
 exact⟨o,F6.toArray,n,h1,h2,h3,by simpa using n0 r⟩
theorem wG{F5:List (List Key×V)}(ok:HOk P w H h)(e:Rd H a (.dT F5)):F5.length<=sizeLine/\(a==sysModules)=false/\
  ∃xs,KT H F5 xs/\h.DictOfH (tupleKind (mixKind P w)) a xs:=by
 obtain⟨z,y,xs,r,o,es,ep,h1,h2,h3,h4,h5⟩:=(show ObjOk P w H h a (.dT F5) from Bv ok e)
 refine⟨z,y,xs,r,o,es,ep,h1,h2,h3,h4,fun x hx=>?_,h5⟩;have all:∀{l:List (List Key×V)}{m:List (List Key×Addr×Value)},KT H l m->∀x∈m,(tupleKind (mixKind P w)).is h x.1 x.2.1:=by
  intro l m q;induction q with
  |nil=>intro x hx;exact nomatch hx
  | @cons p q ps qs hq t ih=>
   intro x hx;rcases RV.mp hx with e|hx
   ·subst e;exact qp ok (by rw[<-hq.1];exact hq.2.1)
   ·exact ih x hx
 exact all r x hx
theorem DU{F5:List (List Key×V)}(ok:HOk P w H h)(e:H a=some (.dT F5)):F5.length<=sizeLine/\(a==sysModules)=false/\
  ∃xs,KT H F5 xs/\h.DictOfH (tupleKind (mixKind P w)) a xs:=wG ok (.inl e)
end
def DGet(H:Hp)(a:Addr)(y:V)(r:Option V):Prop:=
 (∃F5 k,Rd H a (.dK F5)/\y=kV k/\r=nZ F5 k)\/∃F5 k b,Rd H a (.dT F5)/\y=.ref b/\H b=some (.tup (k.map kV))/\r=nZ F5 k
def DPut(H:Hp)(a:Addr)(y v:V)(H':Hp):Prop:=
 (∃F5 k,H a=some (.dK F5)/\y=kV k/\F5.length<sizeLine/\H'=upd H a (.dK (lq F5 k v)))\/
 ∃F5 k b,H a=some (.dT F5)/\y=.ref b/\H b=some (.tup (k.map kV))/\F5.length<sizeLine/\H'=upd H a (.dT (lq F5 k v))
theorem DGet.k{H:Hp}{a:Addr}{F5:List (Key×V)}{k:Key}(e:H a=some (.dK F5)):DGet H a (kV k) (nZ F5 k):=.inl ⟨F5,k,.inl e,rfl,rfl⟩
theorem DGet.t{H:Hp}{a b:Addr}{F5:List (List Key×V)}{k:List Key}(e:H a=some (.dT F5))(eb:H b=some (.tup (k.map kV))):DGet H a (.ref b) (nZ F5 k):=.inr ⟨F5,k,b,.inl e,rfl,eb,rfl⟩
theorem DPut.k{H:Hp}{a:Addr}{F5:List (Key×V)}{k:Key}{v:V}(e:H a=some (.dK F5))(hl:F5.length<sizeLine):DPut H a (kV k) v (upd H a (.dK (lq F5 k v))):=.inl ⟨F5,k,e,rfl,hl,rfl⟩
theorem DPut.t{H:Hp}{a b:Addr}{F5:List (List Key×V)}{k:List Key}{v:V}(e:H a=some (.dT F5))(eb:H b=some (.tup (k.map kV)))(hl:F5.length<sizeLine):
  DPut H a (.ref b) v (upd H a (.dT (lq F5 k v))):=.inr ⟨F5,k,b,e,rfl,eb,hl,rfl⟩
section
variable{X:Cx}{pr:List (Addr×Obj)}{σ:St}{H:Hp}{s:Shared}{a:Addr}{y v:V}{u r:Value}{o:Option V}{A:Around}{E:Value->Shared->Prop}
theorem Inv.big(I:Inv X pr σ H s):sysModules<s.heap.objs.size:=by
 have h:mainGlobals<s.heap.objs.size:=(I.mod.glob.keeps I.bk).lt;exact Nat.lt_trans (by decide) h
theorem Ft{Q:Value->Shared->Prop}(hu:A.units+1<cLine)(I:Inv X pr σ H s)(g:DGet H a y o)(ry:RelV y u)(h:∀s',Inv X pr σ H s'->Q (.bool o.isSome) s'):
  wpAny (model X.prog X.w) A (compareOp .In u (.ref a)) Q E s:=by
 rcases g with⟨F5,k,e,ey,l⟩|⟨F5,k,b,e,ey,eb,l⟩
 ·subst ey;obtain⟨z,hd,vs,rel,dd⟩:=wF I.hok e;refine wpAny_in_of (kV_is ry) hd dd.mapOf ?_;rw[<-(rel.val k).isSome_eq,<-l];exact h _ (I.tok _)
 ·subst ey;cases(show u=Value.ref b from ry);obtain⟨z,hd,xs,rel,dd⟩:=wG I.hok e;refine wpAny_in_heap (VO hu) (qp I.hok eb) hd dd ?_;have q:=(rel.val k).isSome_eq;rw[Option.isSome_map]at q;rw[<-q,<-l];exact h _ (I.tok _)
theorem tY{h':Heap}{t':Nat}{ob:HO}(I:Inv X pr σ H s)(mu:NR (H a))(hs:Heap.SameBut a s.heap h')(he:∃q,h'.get? a=some q)(new:ObjOk X.prog X.w (upd H a ob) h' a ob):
  Inv X pr σ (upd H a ob) {s with heap:=h',toks:=t'}:=
 I.write (x:=a) (e:=a) mu (.inl rfl) (fun b q hb z=>(hs.2 b hb).trans z) he new
theorem Bw{P:Program}{w:World}{H':Hp}{h':Heap}{F5:List (Key×V)}{vs:List (Key×Value)}(z:F5.length<=sizeLine)(hd:(a==sysModules)=false)(rel:KV F5 vs)(dd:h'.DictOf (mixKind P w) a vs):
  ObjOk P w H' h' a (.dK F5):=⟨z,hd,vs,rel,dd⟩
theorem tZ{H':Hp}{Q:Unit->Shared->Prop}(hu:A.units+1<cLine)(I:Inv X pr σ H s)(g:DPut H a y v H')(ry:RelV y u)(rv:RelV v r)(h:∀s',Inv X pr σ H' s'->Q () s'):
  wpAny (model X.prog X.w) A (setItem (.ref a) u r) Q E s:=by
 rcases g with⟨F5,k,e,ey,l,eH⟩|⟨F5,k,b,e,ey,eb,l,eH⟩
 ·subst ey eH;obtain⟨z,hd,vs,rel,dd⟩:=DT I.hok e;have hz:vs.length<=sizeLine:=by rw[<-rel.length];exact z
  have hl:(lq F5 k v).length<=sizeLine:=by have:=j0 F5 k v;lia
  refine wpAny_setItem_pairs (hsz:=hz) (kV_is ry) dd fun h' Mw hs=>h _ ?_
  have he:∃q,h'.get? a=some q:=let⟨q,_,_,hq,_⟩:=Mw;⟨q,hq⟩
  exact tY I (by rw[e];exact True.intro) hs he (Bw hl hd (rel.put k rv) Mw)
 ·subst ey eH;cases(show u=Value.ref b from ry);obtain⟨z,hd,xs,rel,dd⟩:=DU I.hok e;have hz:xs.length<=sizeLine:=by rw[<-Vx rel];exact z
  have hl:(lq F5 k v).length<=sizeLine:=by have:=j0 F5 k v;lia
  refine wpAny_setItem_heap (hsz:=hz) (VO hu) (qp I.hok eb) dd fun h' Mw hs=>h _ ?_
  obtain⟨q,es,ep,hq,h2,h3,h4,_,h5⟩:=Mw;refine tY I (by rw[e];exact True.intro) hs ⟨q,hq⟩ ⟨hl,hd,_,(rel.put k eb rv).keeps fun c ys ec=>?_,q,es,ep,hq,h2,h3,h4,h5⟩;rw[az (Dr ec e (fun z=>nomatch z))];exact ec
end
section
variable{X:Cx}{pr:List (Addr×Obj)}{σ:St}{H:Hp}{s:Shared}{a:Addr}{F5:List (Key×V)}{k:Key}{u:Value}{A:Around}{E:Value->Shared->Prop}
end
def sDPut(td ty tv:TE):TS:=fun D σ H=>tv σ H fun v H1=>td σ H1 fun x H2=>ty σ H2 fun y H3=>∃a H4,x=.ref a/\DPut H3 a y v H4/\D.nx σ H4
section
variable{X:Cx}{o i e value:Expr}{pos pos' MH:Pos}{td ty tv:TE}
theorem zd(hu:X.A.units+1<cLine)(ho:PE X o td)(hi:PE X i ty)(hv:PE X value tv)(hs:swapsWith value (some (.Subscript o i pos')) pos.line X.env=pure false):
  PS X (.Assign [.Subscript o i pos'] value pos) (sDPut td ty tv):=by
 intro pr s σ H D I h;refine wpAny_Assign_Subscript (Gp (hv pr s σ H _ I h) fun r s1 ⟨v,H1,I1,rv,q1⟩=>Gp (ho pr s1 σ H1 _ I1 q1) fun u s2 ⟨x,H2,I2,rx,q2⟩=>Gp (hi pr s2 σ H2 _ I2 q2) fun iv s3 ⟨y,H3,I3,ry,a,H4,ex,g,q3⟩=>?_) hs;subst ex;obtain rfl:u=Value.ref a:=rx;exact tZ hu I3 g ry rv fun s4 I4=>⟨σ,H4,I4,q3⟩
end
theorem dk_empty{P:Program}{w:World}{H:Hp}(h:Heap)(hb:sysModules<h.objs.size):ObjOk P w H (h.push {cls:=.type "dict",data:=.dict #[]}) h.objs.size (.dK []):=
 ⟨Tu _,Tn.mpr (SO (Sl hb)),[],.nil,Heap.DictOf.new h⟩
def Bx:TE:=fun _ H Q=>∀p,H p=none->Q (.ref p) (upd H p (.dK []))
section
variable{X:Cx}{pos:Pos}
theorem wH:PE X (.Dict [] [] pos) Bx:=fun pr s σ H Q I h=>
 wpAny_Dict_empty ⟨.ref s.heap.objs.size,_,I.laid (a:=s.heap.objs.size) (o:=.dK []) (t':=s.toks) (fun _ _ q=>RS _ q) (R1 _) (dk_empty s.heap I.big),rfl,h _ (I.hok.fresh (R1 _))⟩
end
abbrev VV:List (V×V)->List (Value×Value)->Prop:=Paired fun p q=>RelV p.1 q.1/\RelV p.2 q.2
structure M2(X:Cx)(o:Expr)(m:Str)(apos:Pos)(e f:Expr)(Gb:Pos):Prop where
 base:attributeBase o m X.env (eval o X.env)=eval o X.env
 few:((backTo Gb (starEach [e,f] X.env)).all (fun x=>!x.1)&&(backToKw Gb (keywordEach [] X.env)).all (fun x=>x.1.isSome)
  && decide (([e,f]:List Expr).length+([]:List Keyword).length+(if([]:List Keyword).isEmpty then 0 else 1)<30))=true
 line:(apos.endLine==Gb.line)=true
 trees:backTo Gb (starEach [e,f] X.env)=[(false,eval e X.env),(false,eval f X.env)]
def IsD(H:Hp)(a:Addr):Prop:=(∃F5,Rd H a (.dK F5))\/∃F5,Rd H a (.dT F5)
theorem By{X:Cx}{pr:List (Addr×Obj)}{σ:St}{H:Hp}{s:Shared}{a:Addr}(I:Inv X pr σ H s)(d:IsD H a):
  s.TypeIs (.ref a) "dict"/\(∀b,Value.ref a=.ref b->∃ob,s.heap.get? b=some ob/\ob.dict=none)/\(a==sysModules)=false:=by
 rcases d with⟨F5,e⟩|⟨F5,e⟩
 ·obtain⟨_,hd,vs,_,dd⟩:=wF I.hok e;refine⟨dd.typeIs,fun b q=>?_,hd⟩;cases q;obtain⟨ob,_,_,h1,h2,_⟩:=dd;exact⟨ob,h1,h2.2.1⟩
 ·obtain⟨_,hd,xs,_,dd⟩:=wG I.hok e;refine⟨dd.typeIs,fun b q=>?_,hd⟩;cases q;obtain⟨ob,_,_,h1,h2,_⟩:=dd;exact⟨ob,h1,h2.2.1⟩
section
variable{X:Cx}{pr:List (Addr×Obj)}{σ:St}{H:Hp}{s:Shared}{a:Addr}{y d:V}{u r:Value}{o:Option V}{A:Around}{E:Value->Shared->Prop}
theorem Bz{Q:Value->Shared->Prop}(hu:A.units+1<cLine)(I:Inv X pr σ H s)(g:DGet H a y o)(ry:RelV y u)(rd:RelV d r)(h:∀w' s',Inv X pr σ H s'->RelV (o.getD d) w'->Q w' s'):
  wpAny (model X.prog X.w) A (call (.builtin "dict.get") [.ref a,u,r]) Q E s:=by
 rcases g with⟨F5,k,e,ey,l⟩|⟨F5,k,b,e,ey,eb,l⟩
 ·subst ey;obtain⟨z,hd,vs,rel,dd⟩:=wF I.hok e;refine call_meetsIn Vh dd.typeIs Wt (Wf _ _ _) (meets_dict_get_default (mixKind X.prog X.w) a (kV_is ry) hd r) ⟨_,dd.mapOf,h _ _ (I.tok _) ?_⟩;rw[l];exact(rel.val k).getD rd
 ·subst ey;cases(show u=Value.ref b from ry);obtain⟨z,hd,xs,rel,dd⟩:=wG I.hok e;refine call_meetsIn Vh dd.typeIs Wt (Wf _ _ _) (meetsH_dict_get_default (tupleKind (mixKind X.prog X.w)) a b hd r) ⟨VO hu,k,xs,qp I.hok eb,dd,h _ _ (I.tok _) ?_⟩;rw[l];exact(rel.val k).getD rd
end
def tDGet2(td ty tx:TE):TE:=fun σ H Q=>td σ H fun x H1=>∃a,x=.ref a/\IsD H1 a/\ty σ H1 fun y H2=>tx σ H2 fun z H3=>∃o,DGet H3 a y o/\Q (o.getD z) H3
section
variable{X:Cx}{o e f:Expr}{apos Gb:Pos}{td ty tx:TE}
theorem wI(hu:X.A.units+1<cLine)(ho:PE X o td)(he:PE X e ty)(hf:PE X f tx)(m:M2 X o "get" apos e f Gb):PE X (.Call (.Attribute o "get" apos) [e,f] [] Gb) (tDGet2 td ty tx):=by
 intro pr s σ H Q I h;refine wpAny_Call_method m.base m.few m.line PySem.F.plainAttrs_dict Vh PySem.F.type_dict_get (Gp (ho pr s σ H _ I h) fun u s1 Gk=>?_);obtain⟨x,H1,I1,rx,a,ex,d,q1⟩:=Gk;subst ex;obtain rfl:u=Value.ref a:=rx;obtain⟨t1,t2,_⟩:=By I1 d;refine⟨t1,t2,?_⟩;rw[m.trees];refine Calls.callWith_builtin rfl (Calls.evalArgs_plain (U5 (Gp (he pr s1 σ H1 _ I1 q1) fun iv s2 ⟨y,H2,I2,ry,q2⟩=>
  U5 (Gp (hf pr s2 σ H2 _ I2 q2) fun fv s3 ⟨z,H3,I3,rz,ov,g,q3⟩=>VZ ?_))))
 exact Bz hu I3 g ry rz fun w' s4 I4 GK=>⟨_,H3,I4,GK,q3⟩
end
section
variable{X:Cx}{pr:List (Addr×Obj)}{σ:St}{H:Hp}{s:Shared}{a:Addr}{F5:List (Key×V)}{A:Around}{E:Value->Shared->Prop}
end
section
variable{X:Cx}{pr:List (Addr×Obj)}{σ:St}{H:Hp}{s:Shared}{a:Addr}{y:V}{u:Value}{A:Around}{E:Value->Shared->Prop}
end
section
variable{κ:Type}[DecidableEq κ]
end
end L2
namespace NX
open PySem PySem.Spec PyProof.Rows L2
def RawD(h:Heap)(d:Addr)(es:Array DictEntry)(ep:Nat):Prop:=∃o,h.get? d=some o/\o.ExactDict/\o.data=.dict es ep
theorem RawD.at{h h':Heap}{d:Addr}{es:Array DictEntry}{ep:Nat}(x:RawD h d es ep)(e:∀o,h.get? d=some o->h'.get? d=some o):RawD h' d es ep:=by
 obtain⟨o,g,r⟩:=x;exact⟨o,e o g,r⟩
section
variable{prog:Program}{w:World}{A:Around}{E:Value->Shared->Prop}{s:Shared}{d it:Addr}{es:Array DictEntry}{ep i:Nat}
theorem jP(x:RawD s.heap d es ep):s.TypeIs (.ref d) "dict":=by
 obtain⟨o,g,ex,_⟩:=x;exact⟨o,g,ex.1⟩
theorem wJ{Q:Value->Shared->Prop}(nm:(d==sysModules)=false)(x:RawD s.heap d es ep)
  (q:Q (.ref s.heap.objs.size) {s with heap:=s.heap.push {cls:=.type "dict_keyiterator",data:=.fields #[.ref d,.int 0 0,.int es.size 0,.int ep 0]}}):wpAny (model prog w) A (pyIter (.ref d)) Q E s:=by
 have ty:=jP x;obtain⟨o,g,ex,dat⟩:=x;refine wpAny_pyIter_slot ty F.slot_dict_iter (SF F.slot_dict_iter ty F.entry_dict_iter (RO ?_) (F.args_dict_iter_1 _));refine RO (wpAny_notOrdered_dict ty (RT ?_));show wpAny _ _ (Builtin.Dict.showsAll d >>= fun _=>_) _ _ s;have ns:Builtin.Dict.showsAll d=pure ():=by
  unfold Builtin.Dict.showsAll;rw[nm];rfl
 rw[ns];refine RO (RT (RO (Ve g dat (RO (WI g dat (RO (Td (RT ⟨_,rfl,"dict_keyiterator",_,⟨_,R5 _ rfl,rfl⟩,F.slot_dict_keyiterator_next.lookup,?_⟩))))))));exact q
theorem wK{Q:Option Value->Shared->Prop}{e:DictEntry}(hit:s.heap.IsKeyIter it d i es.size ep)(x:RawD s.heap d es ep)(hx:es[i]?=some e)
  (q:∀h',h'.IsKeyIter it d (i+1) es.size ep->Heap.SameBut it s.heap h'->Q (some e.key) {s with heap:=h'}):wpAny (model prog w) A (pyNext (.ref it)) Q E s:=by
 have ti:=hit.typeIs;obtain⟨o,g,oc,od⟩:=hit;obtain⟨ob,gd,_,dat⟩:=x;have He:i<es.size:=(Array.getElem?_eq_some_iff.mp hx).1;unfold pyNext;refine RO (Uo (Sr (name:=Str.ofString "__next__") ti T7 (SF T7 ti Vq
  (RO (RT (RO (RO ?_)))) (Vi _))))
 refine RO (T4 ti (RT (RO (wpAny_fieldsOf g od ?_))));have Ku:Builtin.Dict_items.ownsTuple "dict_keyiterator" = false:=by decide
 simp only[Ku,S4,VN];show wpAny _ _ (if(Value.ref d==Value.none)=true then _ else _) _ _ s;have nz:¬ ((Value.ref d==Value.none)=true):=R4;rw[Sf nz];refine RO (RT (RO (Ve gd dat ?_)));rw[Sf (by simp)];refine RO (RT (RO (WI gd dat ?_)));rw[Sf (by simp)];refine RT ?_;simp only[Sf (show ¬ ((i:Int)<0) by lia),TC,hx];refine RO (RO (T4 ti (RT (RO (wpAny_isOneOf_keyiter ti ?_)))));show wpAny _ _ (setField (.ref it) 1 (rawInt ((i:Int)+1)) >>= fun _=>_) _ _ s;refine RO (VS g od (by simp) ?_);have nx:(s.heap.update it (Obj.mapFields fun y=>y.setIfInBounds 1 (rawInt ((i:Int)+1)))).IsKeyIter it d (i+1) es.size ep:=
  ⟨_,Tp _ g (Obj.isFreed_of_fields (U6 od _)),(Obj.cls_mapFields ..).trans oc,(U6 od _).trans (by simp[rawInt])⟩
 refine RO (Tv (RO (wpAny_isOneOf_keyiter (s:={s with heap:=s.heap.update it (Obj.mapFields fun y=>y.setIfInBounds 1 (rawInt ((i:Int)+1)))}) nx.typeIs ?_)));show wpAny _ _ (pure e.key) _ _ _;exact RT (RT ⟨_,rfl,RT (q _ nx (Ux ..))⟩)
theorem ze{Q:Option Value->Shared->Prop}(hh:A.handled=none)(hit:s.heap.IsKeyIter it d i es.size ep)(x:RawD s.heap d es ep)(hx:es[i]?=none)
  (q:∀h',Heap.ExtBut it s.heap h'->Q none {s with heap:=h'}):wpAny (model prog w) A (pyNext (.ref it)) Q E s:=by
 have ti:=hit.typeIs;obtain⟨o,g,oc,od⟩:=hit;obtain⟨ob,gd,_,dat⟩:=x;unfold pyNext;refine RO (Uo (Sr (name:=Str.ofString "__next__") ti T7 (SF T7 ti Vq
  (RO (RT (RO (RO ?_)))) (Vi _))))
 refine RO (T4 ti (RT (RO (wpAny_fieldsOf g od ?_))));have Ku:Builtin.Dict_items.ownsTuple "dict_keyiterator" = false:=by decide
 simp only[Ku,S4,VN];show wpAny _ _ (if(Value.ref d==Value.none)=true then _ else _) _ _ s;have nz:¬ ((Value.ref d==Value.none)=true):=R4;rw[Sf nz];refine RO (RT (RO (Ve gd dat ?_)));rw[Sf (by simp)];refine RO (RT (RO (WI gd dat ?_)));rw[Sf (by simp)];refine RT ?_;simp only[Sf (show ¬ ((i:Int)<0) by lia),TC,hx];refine RO (RO (T4 ti (RT ?_)));show wpAny _ _ (setField (.ref it) 0 .none >>= fun _=>_) _ _ s;refine RO (VS g od (by simp) ?_);show wpAny _ _ (newExc (.type "StopIteration") [] >>= fun _=>_) _ _ _;refine RO ?_;simp only[newExc,newTuple];refine RO (Td (RO (m:=firstArgMember _ _) (wpAny_of_eq (a:=Value.none) (by first|rfl|(simp only[firstArgMember];rfl)) (Td ?_ (by size_fits)))) (by size_fits));simp only[raiseNew];refine RO (wpAny_handled ?_);rw[show A.in1.handled=none from hh];refine RO (RT (wpAny_throw ?_));refine RO (UX (b:=true) (T:="StopIteration") ⟨_,R5 _ rfl,rfl⟩ Vf ?_);exact RT (q _ (((Ux ..).extBut.push _).push _))
theorem ua(hh:A.handled=none)(I:Addr)(ne:d≠I):Walks prog w A I [I,d] [I] es.size (fun i v=>∃e,es[i]?=some e/\v=e.key) (fun i h=>h.IsKeyIter I d i es.size ep/\RawD h d es ep) where
 sub:=fun b hb=>by
  rw[S9]at hb;rw[hb];exact RQ
 frame:=fun _ _ _ st hk=>⟨st.1.at fun o e=>hk I RQ o e,st.2.at fun o e=>hk d (RZ _ RQ) o e⟩
 item:=fun i s Q E hi st hQ=>by
  refine wK st.1 st.2 (Su hi) fun h' it' sb=>?_
  exact hQ _ h' s.toks ⟨_,Su hi,rfl⟩ ⟨it',st.2.at fun o e=>sb.extBut d o ne e⟩ fun b o hb e=>sb.extBut b o (fun z=>hb (by rw[z];exact RQ)) e
 done:=fun s Q E st hQ=>ze hh st.1 st.2 (Wu (R1 _)) fun h' ext=>hQ h' s.toks fun b o hb e=>ext b o (fun z=>hb (by rw[z];exact RQ)) e
 self:=fun _ _ _ _ st hQ=>wpAny_pyIter_keyiter st.1 hQ
theorem zf(nm:(d==sysModules)=false):PySem.W.KdlSrc prog w "dict" d d es.size (fun i v=>∃e,es[i]?=some e/\v=e.key) (fun h=>RawD h d es ep) where
 type:=fun _ x=>jP x
 there:=fun _ x=>by
  obtain⟨o,g,_⟩:=x;exact⟨R0 g,R0 g⟩
 keep:=fun _ _ x hk=>x.at fun o e=>hk d (.inl rfl) o e
 notList:=by decide
 notTuple:=by decide
 hint:=fun _ _ _ _ x q=>PySem.W.kdl_hint_dict (jP x) q
 iter:=fun _ s hh x=>⟨_,_,(fun _ _ q=>wJ nm x q),ua hh _ (by obtain⟨o,g,_⟩:=x;exact Sl (R0 g)),⟨⟨_,R5 _ rfl,rfl,rfl⟩,x.at fun o e=>RS _ e⟩⟩
end
end NX
namespace NX
open PySem PySem.W PySem.Spec PyProof.Rows L2
section
variable{prog:Program}{w:World}{A:Around}{E:Value->Shared->Prop}{s:Shared}
theorem rE{O:KeyOrd}{key:Nat->O.α}{kd:SortKind}{l:Addr}{vs:List Value}{Q:Value->Shared->Prop}
  (hcol:∀Q':List Value->Shared->Prop,(∀h' tk,(∀b o,s.heap.get? b=some o->h'.get? b=some o)->Q' vs {s with heap:=h',toks:=tk})->wpAny (model prog w) A.in1 (collect (.ref l)) Q' E s) (Kw:vs.length<64)
  (IB:2<=vs.length->∀(A':Around) (E':Value->Shared->Prop) (s':Shared),(∀b o,s.heap.get? b=some o->s'.heap.get? b=some o)->∀Q:SortKind->Shared->Prop,Q kd s'->wpAny (model prog w) A' (keyKind' vs.toArray) Q E' s')
  (K1:∀i j,i<vs.length->j<vs.length->∀s':Shared,(∀b o,s.heap.get? b=some o->s'.heap.get? b=some o)->∀C:Bool->Shared->Prop,C (O.blt (key i) (key j)) s'->kas_ask prog w A.in1.in1 kd vs i j C s')
  (h:∀(p:Array Nat) (h5 h':Heap) (tk e:Nat),POk vs.length p->ba key p vs.length->(∀b o,s.heap.get? b=some o->h5.get? b=some o)->(∀b o,h5.get? b=some o->h'.get? b=some o)->h'.get? h5.objs.size=some (seqObj "list" (List.toArray (p.toList.map fun i=>vs.getD i .none)) e)->Q (.ref h5.objs.size) {s with heap:=h',toks:=tk}):
  wpAny (model prog w) A (call (.builtin "sorted") [.ref l]) Q E s:=by
 refine UU kind_sorted plain_sorted entry_sorted (args_sorted1 _) ?_;unfold Builtin.«sorted»;refine RO (m:=checkCount "sorted" 1 1 _) (RT (RO (hcol _ fun h5 tk k5=>?_)));refine RO (Xa ?_ (by rw[Tc];lia));have k6:∀b o,s.heap.get? b=some o->(h5.push (seqObj "list" vs.toArray 0)).get? b=some o:=fun b o e=>RS _ (k5 b o e)
 have hL:(h5.push (seqObj "list" vs.toArray 0)).get? h5.objs.size=some (seqObj "list" vs.toArray 0):=R5 _ rfl;have Rl:∀b o,s.heap.get? b=some o->b<h5.objs.size:=fun b o e=>R0 (k5 b o e)
 show wpAny _ _ _ _ _ {s with heap:=h5.push (seqObj "list" vs.toArray 0),toks:=tk};refine RO (Tv (SF slot_list_sort ⟨_,hL,rfl⟩ entry_list_sort (ie (key:=key) (kd:=kd) hL Kw (fun h2 h' kk Q' q=>IB h2 _ _ _ (fun b o e=>kk b o (Sl (Rl b o e)) (k6 b o e)) Q' q)
  (fun i j hi hj h' kk C q=>K1 i j hi hj _ (fun b o e=>kk b o (Sl (Rl b o e)) (k6 b o e)) C q) fun p h' hp hs ⟨e,he⟩ kk=>⟨_,rfl,?_⟩) (args_list_sort _)))
 exact RT ⟨_,rfl,h p h5 h' tk e hp hs k5 (fun b o q=>kk b o (Sl (R0 q)) (RS _ q)) he⟩
end
section
variable{X:Cx}{pr:List (Addr×Obj)}{σ:L2.St}{H:Hp}{s:Shared}
theorem zg{H:Hp}{F5:List (List Key×V)}{xs:List (List Key×Addr×Value)}(r:KT H F5 xs):xs.map (·.1)=F5.map (·.1):=by
 induction r with
 |nil=>rfl
 |cons hq _ ih=>rw[So,So,ih,hq.1]
theorem DV{H:Hp}{F5:List (List Key×V)}{xs:List (List Key×Addr×Value)}(r:KT H F5 xs):∀y∈xs,H y.2.1=some (.tup (y.1.map kV)):=by
 induction r with
 |nil=>exact fun y hy=>nomatch hy
 |cons hq _ ih=>
  intro y hy;rcases RV.mp hy with rfl|hy
  ·rw[<-hq.1];exact hq.2.1
  ·exact ih y hy
theorem zh(I:Inv X pr σ H s){a:Addr}{F5:List (List Key×V)}(h:Rd H a (.dT F5)):(a==sysModules)=false/\∃(al:List (Addr×List Key)) (es:Array DictEntry) (ep:Nat),
  RawD s.heap a es ep/\es.toList.map (·.key)=al.map (fun x=>Value.ref x.1)/\al.map (·.2)=F5.map (·.1)/\∀x∈al,H x.1=some (.tup (x.2.map kV)):=by
 obtain⟨_,nm,xs,r,o,es,ep,h1,h2,h3,h4,_⟩:=h.ok I.hok;refine⟨nm,xs.map fun x=>(x.2.1,x.1),es,ep,⟨o,h1,h2,h3⟩,?_,?_,?_⟩
 ·rw[h4,SE,SE];rfl
 ·rw[SE];exact zg r
 ·intro x hx;obtain⟨y,hy,rfl⟩:=TM.mp hx;exact DV r y hy
theorem lr(hc:X.calm=true):cU X (.builtin "sorted") (fun vs H Q=>∃(p:Addr) (F5:List (List Key×V)) (top:Bool) (t:List Bool),vs=[.ref p]/\Rd H p (.dT F5)/\(∀kv∈F5,kinds kv.1=top::t)/\F5.length<64/\
  ∀(D:Addr) (ms:List (Addr×List Key)),H D=none->(∀a∈ms,H a.1=some (.tup (a.2.map kV)))->(ms.map (·.2)).Perm (F5.map (·.1))->ms.Pairwise (fun a b=>d4 b.2 a.2=false)->Q (.ref D) (upd H D (.lst (ms.map fun a=>V.ref a.1)))):=by
 intro pr s σ H vs us Q I r h;obtain⟨p,F5,top,kt,rfl,hp,hk,Kw,q⟩:=h;obtain⟨u,rfl,r1⟩:=fE r;cases r1;obtain⟨nm,al,es,ep,raw,K3,Pm,MT⟩:=zh I hp;have Kv:al.length=F5.length:=by
  have:=Tq List.length Pm;simpa using this
 have Kk:∀a∈al,SqT X.K H a.1 (a.2.map kV)/\kinds a.2=top::kt:=fun a ha=>by
  refine⟨SqT.of (MT a ha),?_⟩;have:a.2∈F5.map (·.1):=by rw[<-Pm];exact TM.mpr ⟨a,ha,rfl⟩
  obtain⟨kv,JV,e⟩:=TM.mp this;rw[<-e];exact hk kv JV
 have rv:Vals (al.map fun a=>V.ref a.1) (al.map fun a=>Value.ref a.1):=by
  clear K3 Pm MT Kv Kk;induction al with
  |nil=>exact .nil
  |cons a al ih=>exact .cons rfl ih
 have hl:(al.map fun a=>Value.ref a.1).length=al.length:=RU ..;refine rE (O:=Dk) (key:=fun i=>(al.getD i (0,[])).2) (kd:=tuples' true) (vs:=al.map fun a=>Value.ref a.1) (fun Q' hq=>?_) (by lia) (fun h2 A' E' s' kk Q' q'=>?_) (fun i j hi hj s' kk C q'=>?_) fun pp h5 h' tk e HW hs k5 k' he=>?_
 ·refine kdu_collect (zf nm) (I.ok.hd hc) raw (by have:=Tq List.length K3;simp only[RU,Tb]at this;rw[Tc];lia) fun h' tk acc kk LG=>?_
  have ea:acc.toList=al.map fun a=>Value.ref a.1:=by
   rw[<-K3];apply Vd;intro j;rw[Sm,Vj,Vj];cases hj:acc[j]? with
   |none=>
    have:es[j]?=none:=by
     rw[Array.getElem?_eq_none_iff]at hj ⊢;rw[<-LG.1];exact hj
    rw[this];rfl
   |some v=>
    obtain⟨en,h1,h2⟩:=LG.2 j v hj;rw[h1,h2];rfl
  have:=hq h' tk kk;rw[<-ea]at this;exact this
 ·obtain⟨fs,t1,t2,t3⟩:=qm (h':=s'.heap) I kk top rv fun a ha=>⟨(Kk a ha).1,kt,(Kk a ha).2⟩
  refine kat_kind (T:=.type (if top then "int" else "str")) t1 (by lia) (fun v hv=>t3 v hv _) (by simp) ?_;have:((Value.type (if top then "int" else "str")) != Value.type "tuple")=true:=by cases top <;> decide
  rw[this];exact q'
 ·unfold kas_ask;have Lu:i<al.length:=by lia
  have MR:j<al.length:=by lia
  rw[mf rv Lu,mf rv MR];have mi:al.getD i (0,[])∈al:=by rw[bj _ _ _ Lu];exact SW _
  have mj:al.getD j (0,[])∈al:=by rw[bj _ _ _ MR];exact SW _
  obtain⟨u1,o1,n1,r1,g1,_,d1⟩:=nX I (Kk _ mi).1;obtain⟨u2,o2,n2,r2,g2,_,d2⟩:=nX I (Kk _ mj).1;have ek:kinds (al.getD i (0,[])).2=kinds (al.getD j (0,[])).2:=by rw[(Kk _ mi).2,(Kk _ mj).2]
  have el:u1.length=u2.length:=by
   have a1:=r1.length;have a2:=r2.length;have a3:=Tq List.length ek;simp only[kinds,RU]at a1 a2 a3;lia
  refine kat_lt (kk _ _ g1) d1 (kk _ _ g2) d2 ?_;have ef:decide (u1.toArray.size<u2.toArray.size)=false:=by simp[el]
  rw[ef];exact jZ _ _ _ _ 0 r1 r2 ek q'
 ·rw[hl]at HW hs;have MS:POk (al.map fun a=>V.ref a.1).length pp:=by rw[RU];exact HW
  have eo:rD pp (al.map fun a=>V.ref a.1)=(pp.toList.map fun i=>al.getD i (0,[])).map fun a=>V.ref a.1:=by
   unfold rD;rw[SE];refine TH fun i hi=>?_
   have hi:=Tf.mp (HW.perm.mem_iff.mp hi);show(al.map fun a=>V.ref a.1).getD i .non=V.ref (al.getD i (0,[])).1;rw[bj _ _ _ (by rw[RU];exact hi),bj _ _ _ hi];simp
  have I5:Inv X pr σ H {s with heap:=h5,toks:=tk}:=I.kept k5;have hn:H h5.objs.size=none:=I5.hok.fresh (R1 _);refine⟨.ref h5.objs.size,_,ig (s:={s with heap:=h5,toks:=tk}) I5 k' (R1 _) he (jN rv MS) ?_,rfl,?_⟩
  ·show(rD pp (al.map fun a=>V.ref a.1)).length<=sizeLine;rw[eo,RU,RU,HW.perm.length_eq,Sh,Tc];lia
  ·rw[eo];have pm:=jM (0,[]) HW;refine q _ _ hn (fun a ha=>MT a (pm.mem_iff.mp ha)) ?_ ?_
   ·rw[<-Pm];exact pm.map _
   ·exact gC (O:=Dk) (0,[]) (fun a:Addr×List Key=>a.2) HW hs
end
end NX
namespace NX
open PySem PySem.Spec PyProof.Rows L2
section
open PySem.SeqAt
open PySem.AutoSeq1 (wpAny_loadPart')
open PySem.MeetsSeq PySem.MeetsSeq2 PySem.MeetsSeq3
theorem wL{A:Around}{s:Shared}{a c:Key}{u v:Value}(ra:RelV (kV a) u)(rc:RelV (kV c) v):EqAt A s u v (decide (a=c)):=by
 have h:=xI (A:=A) (s:=s) ra rc (jO a) (jO c);rw[tX]at h;exact h
theorem wM{prog:Program}{w:World}{A:Around}{E:Value->Shared->Prop}{s:Shared}{Q:Value->Shared->Prop}{a c:Key}{u v:Value}(ra:RelV (kV a) u)(rc:RelV (kV c) v)(hk:a.isLeft=c.isLeft)(h:Q (.bool (ql.blt a c)) s):
  wpAny (model prog w) A (richCompare .Lt u v) Q E s:=by
 cases a with
 |inl i=>
  cases c with
  |inr _=>cases hk
  |inl j=>
   obtain⟨t,rfl⟩:=ra;obtain⟨t',rfl⟩:=rc;exact(PyProof.Rows.lt_int h:wpAny (model prog w) A (compareOp .Lt (.int i t) (.int j t')) Q E s)
 |inr x=>
  cases c with
  |inl _=>cases hk
  |inr y=>
   obtain⟨t,rfl⟩:=ra;obtain⟨t',rfl⟩:=rc;exact(PyProof.Rows.lt_str h:wpAny (model prog w) A (compareOp .Lt (.str x t) (.str y t')) Q E s)
theorem ub(a c:Key)(r t:List Key):d4 (a::r) (c::t)=if a=c then d4 r t else ql.blt a c:=rfl
theorem mn(l b:Addr)(items IC:Array Value)(n n2:Nat)(dd Mu:Option Addr)(sl Mv:Array (Option Value))(ks js:List Key)(hi:Vals (ks.map kV) items.toList)(hj:Vals (js.map kV) IC.toList)(hk:kinds ks=kinds js):
  Meets (Builtin.«tuple.__lt__» ⟨[.ref l,.ref b],[]⟩)
   (fun _ R s=>s.heap.get? l=some {cls:=.type "tuple",dict:=dd,data:=.seq items n,slots:=sl}/\s.heap.get? b=some {cls:=.type "tuple",dict:=Mu,data:=.seq IC n2,slots:=Mv}/\R (.ok (.ret (.bool (d4 ks js)))) s):=
 .of_wp fun prog w A R s h=>by
  obtain⟨hp,g,d,tk,os⟩:=s;obtain⟨hl,hb,h⟩:=h;have f2:=AutoSeq1.sub_tuple_tuple;have z1:items.size=ks.length:=by have:=hi.length;simp at this;lia
  have z2:IC.size=js.length:=by have:=hj.length;simp at this;lia
  have z3:ks.length=js.length:=by have:=Tq List.length hk;simpa[kinds] using this
  wp_walk using wpAny_loadPart' hl,wpAny_loadPart' hb,wpAny_forIn_list _ (fun dY b s'=>b.1=none/\s'=⟨hp,g,d,tk,os⟩/\∃(vs ws:List Value) (JP Kx:List Key),dY=vs.zip ws/\
   Vals (JP.map kV) vs/\Vals (Kx.map kV) ws/\kinds JP=kinds Kx/\R (.ok (.ret (.bool (d4 JP Kx)))) ⟨hp,g,d,tk,os⟩) _
  case turn=>
   rintro⟨y,x⟩ dY b s' ⟨Qi,rfl,vs,ws,JP,Kx,hz,Pn,Qj,Mx,hR⟩;cases JP with
   |nil=>
    cases Pn;rw[List.zip_nil_left]at hz;cases hz
   |cons a JP=>
    cases Kx with
    |nil=>cases Mx
    |cons c Kx=>
     cases Pn with
     | @cons _ va _ Oi ra hvi'=>
      cases Qj with
      | @cons _ vc _ Oj rc hwi'=>
       rw[UJ]at hz;injection hz with hyx hrest;injection hyx with hy hx;subst hy hx;have LH:a.isLeft=c.isLeft:=(U7 Mx).1;have Kl:kinds JP=kinds Kx:=(U7 Mx).2;rw[ub]at hR;have he:=wL (A:=A.in1) (s:=⟨hp,g,d,tk,os⟩) ra rc;refine RO (he prog w _ _ ?_);by_cases hac:a=c
       ·rw[Sa hac]at hR;rw[Sq hac]
        wp_walk
        exact⟨rfl,rfl,_,_,_,_,hrest,hvi',hwi',Kl,hR⟩
       ·rw[Sf hac]at hR;rw[Sb hac];have hri:=fun E Q=>wM (prog:=prog) (w:=w) (A:=A.in1) (E:=E) (s:=⟨hp,g,d,tk,os⟩) (Q:=Q) ra rc LH
        wp_walk using hri
        exact⟨_,rfl,by simpa using hR⟩
  case fin=>
   rintro⟨b1,b2⟩ s' ⟨Qi,rfl,vs,ws,JP,Kx,hz,Pn,Qj,Mx,hR⟩;simp only at Qi;subst Qi;have hv:d4 JP Kx=decide (items.size<IC.size):=by
    cases JP with
    |nil=>
     cases Kx with
     |nil=>exact(Sb (by lia)).symm
     |cons c Kx=>cases Mx
    |cons a JP=>
     cases Kx with
     |nil=>cases Mx
     |cons c Kx=>
      cases Pn;cases Qj;rw[UJ]at hz;cases hz
   rw[hv]at hR
   wp_walk
   exact⟨_,rfl,by simpa[Builtin.Tuple.tupleCompareSizes] using hR⟩
  case h=>
   exact⟨rfl,rfl,items.toList,IC.toList,ks,js,rfl,hi,hj,hk,h⟩
end
section
variable{X:Cx}
def Fu(K:W.Frag)(neg:Bool):R2:=fun x y H Q=>∃a b ks js,x=.ref a/\y=.ref b/\SqT K H a (ks.map kV)/\SqT K H b (js.map kV)/\kinds ks=kinds js/\Q (.bl (if neg then !d4 ks js else d4 ks js)) H
theorem BA(hu:X.A.units<cLine):GH X (compareOp .Lt) (Fu X.K false):=by
 intro pr s σ H x y v u Q I rx ry h;obtain⟨a,b,ks,js,rfl,rfl,ha,hb,hk,q⟩:=h;cases rx;cases ry;obtain⟨F6,r1,p1,_⟩:=I.tuple ha;obtain⟨KY,r2,p2,_⟩:=I.tuple hb;obtain⟨⟨cls,dd,data,sl⟩,ho,hc,n,hd⟩:=id p1;obtain⟨⟨NZ,Mu,data2,Mv⟩,Ic,Lq,n2,hd2⟩:=id p2;simp only at hc hd Lq hd2;subst hc hd Lq hd2;exact richCompare_meets_room (op:=.Lt) ⟨_,ho,rfl⟩ ⟨_,Ic,rfl⟩ PySem.F.slot_tuple_lt PySem.F.entry_tuple_lt (PySem.F.args_tuple_lt_2 _ _) (mn a b _ _ n n2 dd Mu sl Mv ks js (by simpa using r1) (by simpa using r2) hk)
  ⟨ho,Ic,show Value.bool (d4 ks js)≠Value.notImplemented/\EP X pr σ Q (.bool (d4 ks js)) s from⟨(fun x=>nomatch x),⟨.bl (d4 ks js),H,I,rfl,q⟩⟩⟩ hu
end
section
variable{prog:Program}{w:World}{A:Around}{E:Value->Shared->Prop}{s:Shared}
end
section
variable{X:Cx}{pr:List (Addr×Obj)}{σ:L2.St}{H:Hp}{s:Shared}{scope:Scope}{N:List Str}{ix:List (Option Nat)}{fp:List Addr}
end
section
variable{X:Cx}{scope:Scope}{N:List Str}{ix:List (Option Nat)}{tg iter elt:Expr}{ifs:List Expr}{pos:Pos}{wi:TI}{g:TG}{tc:TT}{te:TE}
end
noncomputable def CXC(P:Program)(w:World)(base:Heap)(C:Addr):CXT:=fun outer H s E e s'=>
 ∃(a t:Addr) (B:Heap) (H':Hp),e=.ref a/\s'.os=s.os/\AllBare s'.gens/\Un (Kf outer) [] H H' s.heap s'.heap/\HOk P w H' s'.heap/\Heap.FlyingW B outer a (.ref C) (.ref t) s'.heap/\
  (∀b u,s'.heap.get? b=some u->(H' b≠none\/∃o,s.heap.get? b=some o)->b∉Kf outer->B.get? b=some u)/\E (.ref C) none H'
section
variable{X:Cx}{st:Stmt}{dY:List Stmt}{t:TS}{u u':L2.St->Hp->Prop}{e:Expr}{es:List Expr}{x:Str}{C:Addr}{Ww:Hp->Prop}{np Gb pos:Pos}
end
def XP(X:Cx)(pr:List (Addr×Obj))(σ:L2.St)(C:Addr)(Ww:Hp->Prop)(e:Value)(s':Shared):Prop:=∃(s1:Shared) (H1:Hp),Inv X pr σ H1 s1/\CXC X.prog X.w X.base C X.stack H1 s1 (fun _ _ H'=>Ww H') e s'
abbrev TX:=L2.St->Hp->(Hp->Prop)->Prop
section
variable{X:Cx}{st:Stmt}{dY:List Stmt}{tx:TX}{e a b:Expr}{es:List Expr}{x:Str}{C:Addr}{k:Nat}{sp:Sp}{p pos:Pos}
end
open PySem.Builtin.ObjectAttr PySem.Builtin.Getset_descriptor
section
variable{prog:Program}{w:World}{A:Around}{E:Value->Shared->Prop}{s:Shared}{K:W.Frag}{x D:Addr}
end
section
variable{X:Cx}{pr:List (Addr×Obj)}{σ:L2.St}{H:Hp}{s:Shared}{a:Addr}{o:Obj}
end
end NX
namespace NX
open PySem PySem.W PySem.Spec PyProof.Rows L2
section
variable{prog:Program}{w:World}{A:Around}{E:Value->Shared->Prop}{s:Shared}
end
section
variable{X:Cx}
end
end NX
namespace NX
open PySem PySem.Spec PyProof.Rows L2
section
variable{X:Cx}{es:List Expr}{kt:Nat}{pt:Pos}
end
abbrev IsTrip(h:Heap)(T:Addr)(a b c:Value):Prop:=h.get? T=some {cls:=.type "tuple",data:=.seq #[a,b,c]}
structure Ap3(z TI TO i1 i2 i3 l1 l2 l3:Addr):Prop where
 TIz:TI≠z
 TOz:TO≠z
 i1z:i1≠z
 i2z:i2≠z
 i3z:i3≠z
 TITO:TI≠TO
 TIi1:TI≠i1
 TIi2:TI≠i2
 TIi3:TI≠i3
 TOi1:TO≠i1
 TOi2:TO≠i2
 TOi3:TO≠i3
 i12:i1≠i2
 i13:i1≠i3
 i23:i2≠i3
 l1:∀c∈[z,TO,i1,i2,i3],l1≠c
 l2:∀c∈[z,TO,i1,i2,i3],l2≠c
 l3:∀c∈[z,TO,i1,i2,i3],l3≠c
section
variable{prog:Program}{w:World}{A:Around}{E:Value->Shared->Prop}{s:Shared}
theorem mq{T:Addr}{a b c x:Value}{k:Nat}{Q:Unit->Shared->Prop}(hT:IsTrip s.heap T a b c)
  (h:∀h',h'.get? T=some {cls:=.type "tuple",data:=.seq ((#[a,b,c]:Array Value).setIfInBounds k x)}->Heap.SameBut T s.heap h'->Q () {s with heap:=h'}):
  wpAny (model prog w) A (updateSeq T (·.setIfInBounds k x)) Q E s:=by
 refine U8 hT rfl (h _ ?_ (Ux ..));rw[Tp _ hT rfl];simp[Obj.mapSeq]
theorem wN{k1 k2 k3:Bool}{z TI TO i1 i2 i3 l1 l2 l3:Addr}{i:Nat}{xs ys zs:Array Value}{x y v a b c:Value}{Q:Value->Shared->Prop}(D:Ap3 z TI TO i1 i2 i3 l1 l2 l3)(hz:IsZip s.heap z TI TO .none)(GO:IsTrip s.heap TI (.ref i1) (.ref i2) (.ref i3))(Hy:IsTrip s.heap TO a b c)
  (h1:IsIt k1 s.heap i1 l1 i) (h2:IsIt k2 s.heap i2 l2 i) (h3:IsIt k3 s.heap i3 l3 i) (g1:IsSq k1 s.heap l1 xs) (g2:IsSq k2 s.heap l2 ys) (g3:IsSq k3 s.heap l3 zs) (hx:xs[i]?=some x) (hy:ys[i]?=some y) (hv:zs[i]?=some v)
  (q:∀h',IsZip h' z TI TO (rawInt s.heap.objs.size)->IsTrip h' TO x y v->IsIt k1 h' i1 l1 (i+1)->IsIt k2 h' i2 l2 (i+1)->IsIt k3 h' i3 l3 (i+1)->IsTrip h' s.heap.objs.size x y v->
   (∀c o,c≠z->c≠TO->c≠i1->c≠i2->c≠i3->s.heap.get? c=some o->h'.get? c=some o)->Q (.ref s.heap.objs.size) {s with heap:=h'}):
  wpAny (model prog w) A (Builtin.«zip.__next__» ⟨[.ref z],[]⟩) (fun fin s'=>∃v,fin=.done (.ret v)/\Q v s') E s:=by
 have L1:=D.l1;have L2:=D.l2;have L3:=D.l3;simp only[RV,Sn,Tz,Vr,XO]at L1 L2 L3;obtain⟨MU,Qk,Ql,Qm,Qn⟩:=L1;obtain⟨Qo,Rm,Qp,L22,L23⟩:=L2;obtain⟨Qq,Qr,Qs,Qu,L33⟩:=L3;show wpAny _ _ (field (.ref z) 2 >>= _) _ _ _;refine RO (Sw hz rfl (x:=.bool false) rfl ?_);show wpAny _ _ (field (.ref z) 3 >>= _) _ _ _;refine RO (Sw hz rfl (x:=.ref TI) rfl (RO (SN GO rfl ?_)));show wpAny _ _ (Builtin.SmallTypes.ownedTupleIsFree (.ref z) >>= _) _ _ _;refine RO ?_;unfold Builtin.SmallTypes.ownedTupleIsFree;refine RO (Sw hz rfl (x:=.none) rfl (RT ?_));rw[Sa (by rfl)];refine RO (VA (RO (Sw hz rfl (x:=.ref TO) rfl (RO (SS hz (by simp) fun hA zA sA=>?_)))));have zA:IsZip hA z TI TO .ellipsis:=zA;refine RO ?_;simp only[Vn,VG,Ut,UT];refine RO (RO (Uy ?_));show wpAny _ _ (Builtin.SmallTypes.nextOf (.ref i1) >>= _) _ _ _;refine RO (eM (h1.at fun o e=>sA.extBut _ _ D.i1z e) (g1.at fun o e=>sA.extBut _ _ MU e) hx fun hB iB sB=>RT ?_);have tB:IsTrip hB TO a b c:=sB.extBut _ _ D.TOi1 (sA.extBut _ _ D.TOz Hy);refine RO (SN tB rfl (RO (mq tB fun hC tC sC=>RO (U0 (RT ?_)))));have tC:IsTrip hC TO x b c:=tC;refine RO (RO (Uy ?_));show wpAny _ _ (Builtin.SmallTypes.nextOf (.ref i2) >>= _) _ _ _;refine RO (eM (h2.at fun o e=>sC.extBut _ _ D.TOi2.symm (sB.extBut _ _ D.i12.symm (sA.extBut _ _ D.i2z e))) (g2.at fun o e=>sC.extBut _ _ Rm (sB.extBut _ _ Qp (sA.extBut _ _ Qo e))) hy fun hD iD sD=>RT ?_);have tD:IsTrip hD TO x b c:=sD.extBut _ _ D.TOi2 tC;refine RO (SN tD rfl (RO (mq tD fun hE tE sE=>RO (U0 (RT ?_)))));have tE:IsTrip hE TO x y c:=tE;refine RO (RO (Uy ?_));show wpAny _ _ (Builtin.SmallTypes.nextOf (.ref i3) >>= _) _ _ _;refine RO (eM (h3.at fun o e=>sE.extBut _ _ D.TOi3.symm (sD.extBut _ _ D.i23.symm (sC.extBut _ _ D.TOi3.symm (sB.extBut _ _ D.i13.symm (sA.extBut _ _ D.i3z e))))) (g3.at fun o e=>sE.extBut _ _ Qr (sD.extBut _ _ Qu (sC.extBut _ _ Qr (sB.extBut _ _ Qs (sA.extBut _ _ Qq e))))) hv fun hF iF sF=>RT ?_);have tF:IsTrip hF TO x y c:=sF.extBut _ _ D.TOi3 tE;refine RO (SN tF rfl (RO (mq tF fun hG tG sG=>RO (U0 (RT (RT ?_))))));have tG:IsTrip hG TO x y v:=tG;refine RO (SN tG rfl (RO (VT ?_)));have ez:hG.objs.size=s.heap.objs.size:=by rw[sG.1,sF.1,sE.1,sD.1,sC.1,sB.1,sA.1]
 have zG:IsZip hG z TI TO .ellipsis:=sG.extBut _ _ D.TOz.symm (sF.extBut _ _ D.i3z.symm (sE.extBut _ _ D.TOz.symm (sD.extBut _ _ D.i2z.symm (sC.extBut _ _ D.TOz.symm (sB.extBut _ _ D.i1z.symm zA)))));have kG:∀c o,c≠z->c≠TO->c≠i1->c≠i2->c≠i3->s.heap.get? c=some o->hG.get? c=some o:=fun c o c1 c2 c3 c4 c5 e=>sG.extBut _ _ c2 (sF.extBut _ _ c5 (sE.extBut _ _ c2 (sD.extBut _ _ c4 (sC.extBut _ _ c2 (sB.extBut _ _ c3 (sA.extBut _ _ c1 e))))))
 have i1G:IsIt k1 hG i1 l1 (i+1):=iB.at fun o e=>sG.extBut _ _ D.TOi1.symm (sF.extBut _ _ D.i13 (sE.extBut _ _ D.TOi1.symm (sD.extBut _ _ D.i12 (sC.extBut _ _ D.TOi1.symm e))))
 have i2G:IsIt k2 hG i2 l2 (i+1):=iD.at fun o e=>sG.extBut _ _ D.TOi2.symm (sF.extBut _ _ D.i23 (sE.extBut _ _ D.TOi2.symm e))
 have i3G:IsIt k3 hG i3 l3 (i+1):=iF.at fun o e=>sG.extBut _ _ D.TOi3.symm e
 show wpAny _ _ (Builtin.SmallTypes.ownedTupleHandOut (.ref z) (.ref hG.objs.size) >>= _) _ _ _;refine RO ?_;unfold Builtin.SmallTypes.ownedTupleHandOut;have zH:IsZip (hG.push {cls:=.type "tuple",data:=.seq #[x,y,v]}) z TI TO .ellipsis:=RS _ zG;refine RO (SS zH (by simp) fun hI zI sI=>?_);have zI:IsZip hI z TI TO (rawInt hG.objs.size):=zI;refine SS zI (by simp) fun hK zK sK=>?_
 have zK:IsZip hK z TI TO (rawInt hG.objs.size):=zK;have up:∀c o,c≠z->hG.get? c=some o->hK.get? c=some o:=fun c o c1 e=>sK.extBut _ _ c1 (sI.extBut _ _ c1 (RS _ e))
 have nz:hG.objs.size≠z:=Ua (R0 zG);have tK:IsTrip hK hG.objs.size x y v:=sK.extBut _ _ nz (sI.extBut _ _ nz (R5 _ rfl));rw[ez]at zK tK;refine RT ⟨_,rfl,?_⟩;show Q (.ref hG.objs.size) _;rw[ez];exact q hK zK (up _ _ D.TOz tG) (i1G.at fun o e=>up _ o D.i1z e) (i2G.at fun o e=>up _ o D.i2z e) (i3G.at fun o e=>up _ o D.i3z e) tK fun c o c1 c2 c3 c4 c5 e=>up c o c1 (kG c o c1 c2 c3 c4 c5 e)
theorem uc{k1:Bool}{z TI TO i1 i2 i3 l1 l2 l3:Addr}{i:Nat}{xs:Array Value}{Q:Fin->Shared->Prop}(hh:A.handled=none)(D:Ap3 z TI TO i1 i2 i3 l1 l2 l3)(hz:IsZip s.heap z TI TO .none)(GO:IsTrip s.heap TI (.ref i1) (.ref i2) (.ref i3))
  (h1:IsIt k1 s.heap i1 l1 i) (g1:IsSq k1 s.heap l1 xs) (hx:xs[i]?=none)
  (q:∀h' e,(∀c o,c≠z->c≠i1->s.heap.get? c=some o->h'.get? c=some o)->(∃o,h'.get? e=some o/\o.cls=.type "StopIteration")->E (.ref e) {s with heap:=h'}):
  wpAny (model prog w) A (Builtin.«zip.__next__» ⟨[.ref z],[]⟩) Q E s:=by
 have L1:=D.l1;simp only[RV,Sn,Tz,Vr,XO]at L1;obtain⟨MU,Qk,Ql,Qm,Qn⟩:=L1;show wpAny _ _ (field (.ref z) 2 >>= _) _ _ _;refine RO (Sw hz rfl (x:=.bool false) rfl ?_);show wpAny _ _ (field (.ref z) 3 >>= _) _ _ _;refine RO (Sw hz rfl (x:=.ref TI) rfl (RO (SN GO rfl ?_)));show wpAny _ _ (Builtin.SmallTypes.ownedTupleIsFree (.ref z) >>= _) _ _ _;refine RO ?_;unfold Builtin.SmallTypes.ownedTupleIsFree;refine RO (Sw hz rfl (x:=.none) rfl (RT ?_));rw[Sa (by rfl)];refine RO (VA (RO (Sw hz rfl (x:=.ref TO) rfl (RO (SS hz (by simp) fun hA zA sA=>?_)))));have zA:IsZip hA z TI TO .ellipsis:=zA;refine RO ?_;simp only[Vn,VG,Ut,UT];refine RO (RO (Uy ?_));show wpAny _ _ (Builtin.SmallTypes.nextOf (.ref i1) >>= _) _ _ _;refine RO (qi hh (h1.at fun o e=>sA.extBut _ _ D.i1z e) (g1.at fun o e=>sA.extBut _ _ MU e) hx fun hB e sB Gk=>?_);obtain⟨oe,ge,ce⟩:=Gk;have zB:IsZip hB z TI TO .ellipsis:=sB _ _ D.i1z.symm zA;have ne:e≠z:=fun x=>by subst x;rw[zB]at ge;cases ge;simp at ce
 exact SS zB (by simp) fun hC _ sC=>q hC e (fun c o c1 c3 x=>sC.extBut _ _ c1 (sB _ _ c3 (sA.extBut _ _ c1 x))) ⟨oe,sC.extBut _ _ ne ge,ce⟩
end
theorem typeCall_zip_3(a b c:Value):checkTypeCall "zip" ⟨[a,b,c],[]⟩=pure ():=by kernel_rfl
theorem mr(a b c:Value):checkBuiltinCall "zip.__new__" ⟨[.type "zip",a,b,c],[]⟩=pure ():=by kernel_rfl
theorem args_object_init_4(a b c d:Value):argsOk "object.__init__" ⟨[a,b,c,d],[]⟩:=by
 first
  |exact F.args_object_init_4 a b c d
  |(unfold argsOk;kernel_rfl)
  |kernel_rfl
abbrev yA(h:Heap)(k1:Bool)(l1:Addr):Heap:=h.push (itObj k1 l1)
abbrev yB(h:Heap)(k1:Bool)(l1 l2:Addr):Heap:=(yA h k1 l1).push (itObj false l2)
abbrev yC(h:Heap)(k1:Bool)(l1 l2 l3:Addr):Heap:=(yB h k1 l1 l2).push (itObj false l3)
abbrev yD(h:Heap)(k1:Bool)(l1 l2 l3:Addr):Heap:=(yC h k1 l1 l2 l3).push {cls:=.type "tuple",data:=.seq #[.ref h.objs.size,.ref (yA h k1 l1).objs.size,.ref (yB h k1 l1 l2).objs.size]}
abbrev yE(h:Heap)(k1:Bool)(l1 l2 l3:Addr):Heap:=(yD h k1 l1 l2 l3).push {cls:=.type "tuple",data:=.seq #[.none,.none,.none]}
abbrev yF(h:Heap)(k1:Bool)(l1 l2 l3:Addr):Heap:=(yE h k1 l1 l2 l3).push {cls:=.type "zip",data:=.fields #[.none,.bool false,.bool false,.ref (yC h k1 l1 l2 l3).objs.size,.ref (yD h k1 l1 l2 l3).objs.size]}
set_option maxHeartbeats 8000000 in
theorem zi(k1:Bool)(l1 l2 l3:Addr)(xs ys zs:Array Value):
  Meets (Builtin.«zip.__new__» ⟨[.type "zip",.ref l1,.ref l2,.ref l3],[]⟩) (fun _ R s=>IsSq k1 s.heap l1 xs/\s.heap.IsTuple l2 ys/\s.heap.IsTuple l3 zs/\R (.ok (.ret (.ref (yE s.heap k1 l1 l2 l3).objs.size))) {s with heap:=yF s.heap k1 l1 l2 l3}):=
 .of_wp fun prog w A R s h=>by
  obtain⟨hp,g,d,tk,os⟩:=s;obtain⟨g1,g2,g3,q⟩:=h;have hsub:=sub_zip;cases k1 with
  |true=>
   have e1:Heap.IsList (Shared.heap ⟨hp,g,d,tk,os⟩) l1 xs:=g1;have e2:Heap.IsTuple (Shared.heap ⟨hp.push {cls:=.type "list_iterator",data:=.fields #[.ref l1,.int 0 0]},g,d,tk,os⟩) l2 ys:=TK g2 _;have e3:Heap.IsTuple (Shared.heap ⟨(hp.push {cls:=.type "list_iterator",data:=.fields #[.ref l1,.int 0 0]}).push {cls:=.type "tuple_iterator",data:=.fields #[.ref l2,.int 0 0]},g,d,tk,os⟩) l3 zs:=TK (TK g3 _) _
   wp_walk using Uc e1,S3 e2,S3 e3
   exact⟨_,rfl,q⟩
  |false=>
   have e1:Heap.IsTuple (Shared.heap ⟨hp,g,d,tk,os⟩) l1 xs:=g1;have e2:Heap.IsTuple (Shared.heap ⟨hp.push {cls:=.type "tuple_iterator",data:=.fields #[.ref l1,.int 0 0]},g,d,tk,os⟩) l2 ys:=TK g2 _;have e3:Heap.IsTuple (Shared.heap ⟨(hp.push {cls:=.type "tuple_iterator",data:=.fields #[.ref l1,.int 0 0]}).push {cls:=.type "tuple_iterator",data:=.fields #[.ref l2,.int 0 0]},g,d,tk,os⟩) l3 zs:=TK (TK g3 _) _
   wp_walk using S3 e1,S3 e2,S3 e3
   exact⟨_,rfl,q⟩
def NC(k1:Bool)(z TI TO i1 i2 i3 l1 l2 l3:Addr)(i:Nat)(h:Heap):Prop:=IsZip h z TI TO .none/\IsTrip h TI (.ref i1) (.ref i2) (.ref i3)/\(∃a b c,IsTrip h TO a b c)/\IsIt k1 h i1 l1 i/\IsIt false h i2 l2 i/\IsIt false h i3 l3 i
theorem qq{prog:Program}{w:World}{A:Around}{E:Value->Shared->Prop}{s:Shared}{k1:Bool}{l1 l2 l3:Addr}{xs ys zs:Array Value}{Q:Value->Shared->Prop}(g1:IsSq k1 s.heap l1 xs)(g2:s.heap.IsTuple l2 ys)(g3:s.heap.IsTuple l3 zs)
  (q:∀h',NC k1 (s.heap.objs.size+5) (s.heap.objs.size+3) (s.heap.objs.size+4) s.heap.objs.size (s.heap.objs.size+1) (s.heap.objs.size+2) l1 l2 l3 0 h'->(∀c o,s.heap.get? c=some o->h'.get? c=some o)->Q (.ref (s.heap.objs.size+5)) {s with heap:=h'}):
  wpAny (model prog w) A (call (.type "zip") [.ref l1,.ref l2,.ref l3]) Q E s:=by
 refine callType_new F.called_zip (by decide) (typeCall_zip_3 _ _ _) (mr _ _ _) (fun obj=>args_object_init_4 obj _ _ _) F.entry_zip_new (zi k1 l1 l2 l3 xs ys zs) ⟨g1,g2,g3,?_⟩;have nA:(yA s.heap k1 l1).objs.size=s.heap.objs.size+1:=Th ..;have nB:(yB s.heap k1 l1 l2).objs.size=s.heap.objs.size+2:=by rw[Th,nA]
 have nC:(yC s.heap k1 l1 l2 l3).objs.size=s.heap.objs.size+3:=by rw[Th,nB]
 have nD:(yD s.heap k1 l1 l2 l3).objs.size=s.heap.objs.size+4:=by rw[Th,nC]
 have nE:(yE s.heap k1 l1 l2 l3).objs.size=s.heap.objs.size+5:=by rw[Th,nD]
 have pu:∀{h:Heap}{o:Obj}{c:Addr}{v:Obj},h.get? c=some v->(h.push o).get? c=some v:=fun e=>RS _ e
 have gz:(yF s.heap k1 l1 l2 l3).get? (yE s.heap k1 l1 l2 l3).objs.size=some _:=R5 _ rfl;have go:(yF s.heap k1 l1 l2 l3).get? (yD s.heap k1 l1 l2 l3).objs.size=some _:=pu (R5 _ rfl);have gi:(yF s.heap k1 l1 l2 l3).get? (yC s.heap k1 l1 l2 l3).objs.size=some _:=pu (pu (R5 _ rfl));have j3:IsIt false (yF s.heap k1 l1 l2 l3) (yB s.heap k1 l1 l2).objs.size l3 0:=(ic false (yB s.heap k1 l1 l2) l3).at fun o e=>pu (pu (pu e))
 have j2:IsIt false (yF s.heap k1 l1 l2 l3) (yA s.heap k1 l1).objs.size l2 0:=(ic false (yA s.heap k1 l1) l2).at fun o e=>pu (pu (pu (pu e)))
 have j1:IsIt k1 (yF s.heap k1 l1 l2 l3) s.heap.objs.size l1 0:=(ic k1 s.heap l1).at fun o e=>pu (pu (pu (pu (pu e))))
 show _/\_;rw[nC,nD,nE]at gz;rw[nA,nB,nC]at gi;rw[nD]at go;rw[nA]at j2;rw[nB]at j3;rw[nE];exact⟨⟨_,gz,rfl⟩,q _ ⟨gz,gi,⟨_,_,_,go⟩,j1,j2,j3⟩ fun c o x=>pu (pu (pu (pu (pu (pu x)))))⟩
noncomputable def Qv(K:W.Frag)(k1:Bool)(a b c:Addr):It:=
 ⟨fun i H=>∃xs ys zs x y z,(if k1 then SqL K H a xs else SqT K H a xs)/\SqT K H b ys/\SqT K H c zs/\xs[i]?=some x/\ys[i]?=some y/\zs[i]?=some z,
  fun i H v H'=>∃T,H T=none/\v=.ref T/\∀xs ys zs x y z,(if k1 then SqL K H a xs else SqT K H a xs)->SqT K H b ys->SqT K H c zs->xs[i]?=some x->ys[i]?=some y->zs[i]?=some z->H'=upd H T (.tup [x,y,z]),
  fun i H=>∃xs,(if k1 then SqL K H a xs else SqT K H a xs)/\i=xs.length⟩
theorem ji{prog:Program}{w:World}{A:Around}{E:Value->Shared->Prop}{s:Shared}{k1:Bool}{z TI TO i1 i2 i3 l1 l2 l3:Addr}{i:Nat}{xs ys zs:Array Value}{x y v:Value}{Q:Option Value->Shared->Prop}(D:Ap3 z TI TO i1 i2 i3 l1 l2 l3)(st:NC k1 z TI TO i1 i2 i3 l1 l2 l3 i s.heap)
  (g1:IsSq k1 s.heap l1 xs) (g2:IsSq false s.heap l2 ys) (g3:IsSq false s.heap l3 zs) (hx:xs[i]?=some x) (hy:ys[i]?=some y) (hv:zs[i]?=some v)
  (q:∀h',IsZip h' z TI TO (rawInt s.heap.objs.size)->IsTrip h' TO x y v->IsIt k1 h' i1 l1 (i+1)->IsIt false h' i2 l2 (i+1)->IsIt false h' i3 l3 (i+1)->IsTrip h' s.heap.objs.size x y v->
   (∀c o,c≠z->c≠TO->c≠i1->c≠i2->c≠i3->s.heap.get? c=some o->h'.get? c=some o)->Q (some (.ref s.heap.objs.size)) {s with heap:=h'}):wpAny (model prog w) A (pyNext (.ref z)) Q E s:=by
 obtain⟨hz,GO,⟨a,b,c,Hy⟩,h1,h2,h3⟩:=st;have ty:s.TypeIs (.ref z) "zip":=⟨_,hz,rfl⟩
 unfold pyNext;exact RO (Uo (Sr (name:=Str.ofString "__next__") ty S1 (SF S1 ty Ul (wN D hz GO Hy h1 h2 h3 g1 g2 g3 hx hy hv fun h' a1 a2 a3 a4 a5 a6 a7=>RT (q h' a1 a2 a3 a4 a5 a6 a7)) (Ud _))))
theorem pA{prog:Program}{w:World}{A:Around}{E:Value->Shared->Prop}{s:Shared}{k1:Bool}{z TI TO i1 i2 i3 l1 l2 l3:Addr}{i:Nat}{xs:Array Value}{Q:Option Value->Shared->Prop}(hh:A.handled=none)(D:Ap3 z TI TO i1 i2 i3 l1 l2 l3)(st:NC k1 z TI TO i1 i2 i3 l1 l2 l3 i s.heap)
  (g1:IsSq k1 s.heap l1 xs) (hx:xs[i]?=none) (q:∀h',(∀c o,c≠z->c≠i1->s.heap.get? c=some o->h'.get? c=some o)->Q none {s with heap:=h'}):wpAny (model prog w) A (pyNext (.ref z)) Q E s:=by
 obtain⟨hz,GO,⟨a,b,c,Hy⟩,h1,h2,h3⟩:=st;have ty:s.TypeIs (.ref z) "zip":=⟨_,hz,rfl⟩
 unfold pyNext;refine RO (Uo (Sr (name:=Str.ofString "__next__") ty S1 (SF S1 ty Ul (uc hh D hz GO h1 g1 hx fun h' e kk ⟨o,ho,oc⟩=>?_) (Ud _))));exact RO (UX (T:="StopIteration") (b:=true) ⟨o,ho,oc⟩ Vf (RT (q _ kk)))
theorem ud{P:Program}{w:World}{K:W.Frag}{es:List Expr}{kt:Nat}{pt:Pos}(k1:Bool)(a b c z TI TO i1 i2 i3:Addr)(nd:[z,TI,TO,i1,i2,i3].Nodup):
  Turn P w K (.Tuple es kt pt) (Qv K k1 a b c) [z,TI,TO,i1,i2,i3] z (NC k1 z TI TO i1 i2 i3 a b c) where
 mem:=by simp
 obj:=fun i h st c hc=>by
  obtain⟨hz,GO,⟨x,y,v,Hy⟩,h1,h2,h3⟩:=st;simp only[RV,Sn,Tz]at hc;rcases hc with rfl|rfl|rfl|rfl|rfl|rfl
  ·exact⟨_,hz,fun v q=>by cases q⟩
  ·exact⟨_,GO,fun v q=>by cases q⟩
  ·exact⟨_,Hy,fun v q=>by cases q⟩
  ·exact h1.obj
  ·exact h2.obj
  ·exact h3.obj
 keep:=fun i h h' st k=>by
  obtain⟨hz,GO,⟨x,y,v,Hy⟩,h1,h2,h3⟩:=st;exact⟨k z (by simp) _ hz,k TI (by simp) _ GO,⟨x,y,v,k TO (by simp) _ Hy⟩,h1.at fun o e=>k i1 (by simp) o e,h2.at fun o e=>k i2 (by simp) o e,h3.at fun o e=>k i3 (by simp) o e⟩
 item:=by
  intro X hP hw hK hc i pr s σ H E I hf st hg;subst hP hw hK;obtain⟨xs,ys,zs,x,y,w3,s1,s2,s3,hx,hy,Rn⟩:=hg;obtain⟨us,r1,q1⟩:=gH I s1;obtain⟨ws,r2,q2⟩:=gH (k:=false) I s2;obtain⟨vs,r3,q3⟩:=gH (k:=false) I s3;obtain⟨u,hu,ru⟩:=r1.get hx;obtain⟨v,hv,rv⟩:=r2.get hy;obtain⟨t,ht,rt⟩:=r3.get Rn;simp only[Sv,RV,Sn,Tz,ZK,V7,UE,and_true]at nd;obtain⟨⟨n1,n2,n3,n4,n5⟩,⟨n6,n7,n8,n9⟩,⟨MO,Qw,Qx⟩,⟨Qy,Qz⟩,QA⟩:=nd;have f:=fun c hc=>hf c hc
  have sub:∀c∈[z,TO,i1,i2,i3],c∈[z,TI,TO,i1,i2,i3]:=fun c hc=>by
   simp only[RV,Sn,Tz]at hc ⊢;rcases hc with h|h|h|h|h <;> simp[h]
  have D:Ap3 z TI TO i1 i2 i3 a b c:=⟨SO n1,SO n2,SO n3,SO n4,SO n5,n6,n7,n8,n9,MO,Qw,Qx,Qy,Qz,QA,fun c hc=>dM I s1 (f c (sub c hc)),fun c hc=>dM (k:=false) I s2 (f c (sub c hc)),fun c hc=>dM (k:=false) I s3 (f c (sub c hc))⟩
  have GO:=st.2.1;refine ji D st q1 q2 q3 (by simpa using hu) (by simpa using hv) (by simpa using ht) fun h' z1 t1 j1 j2 j3 tp kk=>⟨_,rfl,?_⟩
  refine VU z1 fun h2 z2 sb=>?_
  have nT:H s.heap.objs.size=none:=I.hok.fresh (R1 _);have tT:s.heap.objs.size≠z:=Ua (R0 st.1);have all:∀c o,c≠z->c≠TO->c≠i1->c≠i2->c≠i3->s.heap.get? c=some o->h2.get? c=some o:=fun c o c1 c2 c3 c4 c5 e=>(sb.2 c c1).trans (kk c o c1 c2 c3 c4 c5 e)
  have fz:=f z (by simp);have fo:=f TO (by simp);have f1:=f i1 (by simp);have f2:=f i2 (by simp);have f3:=f i3 (by simp);have JU:∀c ob,H c=some ob->c≠z/\c≠TO/\c≠i1/\c≠i2/\c≠i3:=fun c ob e=>⟨(fun q=>by rw[q,fz.1]at e;cases e),(fun q=>by rw[q,fo.1]at e;cases e),(fun q=>by rw[q,f1.1]at e;cases e),(fun q=>by rw[q,f2.1]at e;cases e),(fun q=>by rw[q,f3.1]at e;cases e)⟩
  have QB:∀c o,c∉[z,TO,i1,i2,i3]->s.heap.get? c=some o->h2.get? c=some o:=fun c o nc e=>all c o (fun q=>nc (by simp[q])) (fun q=>nc (by simp[q])) (fun q=>nc (by simp[q])) (fun q=>nc (by simp[q])) (fun q=>nc (by simp[q])) e
  refine⟨.ref s.heap.objs.size,upd H s.heap.objs.size (.tup [x,y,w3]),?_,rfl,⟨_,nT,rfl,fun Hz Ri JW x' y' z' a1 a2 a3 a4 a5 a6=>?_⟩,⟨z2,?_,⟨u,v,t,(sb.2 TO (SO n2)).trans t1⟩,j1.at fun o e=>(sb.2 i1 (SO n3)).trans e,j2.at fun o e=>(sb.2 i2 (SO n4)).trans e,j3.at fun o e=>(sb.2 i3 (SO n5)).trans e⟩,fun c hc=>?_⟩
  ·have MP:h2.get? s.heap.objs.size=some {cls:=.type "tuple",data:=.seq #[u,v,t]}:=(sb.2 _ tT).trans tp;have S0:Inv X pr σ (upd H s.heap.objs.size (.tup [x,y,w3])) {s with heap:=h2,gens:=s.gens,drawn:=s.drawn,toks:=s.toks}:=by
    refine I.step (ch:=[z,TO,i1,i2,i3]) (fun c hc=>?_) (fun c o _ _ nc e _=>QB c o nc e)
     (fun c o _ _ nc e _=>⟨o.slots,QB c o nc e⟩) (fun c o _ e n=>by rw[az (Sl (R0 e))];exact n)
     (fun c o nc e=>⟨o,QB c o nc e⟩) (fun c l e=>by rw[az (aH e nT)];exact e) (fun c o u' e=>by rw[az (aH e nT)];exact e)
     (fun c ps e=>⟨#[],by rw[az (aH e nT),e];simp⟩) (fun m hm=>?_) (fun c ob e=>?_) I.bare
    ·simp only[RV,Sn,Tz]at hc;rcases hc with rfl|rfl|rfl|rfl|rfl
     ·exact⟨fz.2.2.2.1,fz.2.1,fz.2.2.2.2.1,fz.2.2.2.2.2⟩
     ·exact⟨fo.2.2.2.1,fo.2.1,fo.2.2.2.2.1,fo.2.2.2.2.2⟩
     ·exact⟨f1.2.2.2.1,f1.2.1,f1.2.2.2.2.1,f1.2.2.2.2.2⟩
     ·exact⟨f2.2.2.2.1,f2.2.1,f2.2.2.2.2.1,f2.2.2.2.2.2⟩
     ·exact⟨f3.2.2.2.1,f3.2.1,f3.2.2.2.2.1,f3.2.2.2.2.2⟩
    ·obtain⟨o,es,ep,ho,r⟩:=hm;exact⟨o,es,ep,all _ o (SO fz.2.1) (SO fo.2.1) (SO f1.2.1) (SO f2.2.1) (SO f3.2.1) ho,r⟩
    ·by_cases ec:c=s.heap.objs.size
     ·subst ec;rw[aW]at e;cases e;exact⟨by simp only[R6,UM];rw[Tc];decide,[u,v,t],.cons ru (.cons rv (.cons rt .nil)),⟨_,MP,rfl,⟨0,rfl⟩,rfl⟩⟩
     ·rw[az ec]at e;refine(I.hok c ob e).stay (fun d w' hd q=>?_) (fun d q=>by rw[az (aH q nT)];exact q) fun d l q=>by rw[az (aH q nT)];exact q
      have LA:∃oo,H d=some oo:=by
       rcases hd with rfl|hd
       ·exact⟨_,e⟩
       ·exact⟨_,hd⟩
      obtain⟨oo,MQ⟩:=LA;obtain⟨m1,m2,m3,m4,m5⟩:=JU d oo MQ;exact all d w' m1 m2 m3 m4 m5 q
   exact S0
  ·have e1:=nV I a1 s1;have e2:=nV (k:=false) I a2 s2;have e3:=nV (k:=false) I a3 s3;subst e1 e2 e3;rw[hx]at a4;rw[hy]at a5;rw[Rn]at a6;cases a4;cases a5;cases a6;rfl
  ·exact(sb.2 TI (SO n1)).trans (kk TI _ (SO n1) n6 n7 n8 n9 GO)
  ·have Pk:=(f c hc).1;have cs:c≠s.heap.objs.size:=by
    obtain⟨hz,GO,⟨x,y,v,Hy⟩,h1,h2,h3⟩:=st;simp only[RV,Sn,Tz]at hc;have:∃o,s.heap.get? c=some o:=by
     rcases hc with rfl|rfl|rfl|rfl|rfl|rfl
     ·exact⟨_,hz⟩
     ·exact⟨_,GO⟩
     ·exact⟨_,Hy⟩
     ·obtain⟨o,e,_⟩:=h1.obj;exact⟨o,e⟩
     ·obtain⟨o,e,_⟩:=h2.obj;exact⟨o,e⟩
     ·obtain⟨o,e,_⟩:=h3.obj;exact⟨o,e⟩
    obtain⟨o,e⟩:=this;exact Sl (R0 e)
   rw[az cs];exact Pk
 done:=by
  intro X hP hw hK hc i pr s σ H E I hf st hg;subst hP hw hK;obtain⟨xs,s1,hi⟩:=hg;obtain⟨us,r1,q1⟩:=gH I s1;have l1:=r1.length;simp only[Sv,RV,Sn,Tz,ZK,V7,UE,and_true]at nd;obtain⟨⟨n1,n2,n3,n4,n5⟩,⟨n6,n7,n8,n9⟩,⟨MO,Qw,Qx⟩,⟨Qy,Qz⟩,QA⟩:=nd;have f:=fun c hc=>hf c hc
  have fz:=f z (by simp);have f1:=f i1 (by simp);obtain⟨hz,GO,Hy,h1,h2,h3⟩:=st;have sub:∀c∈[z,TO,i1,i2,i3],c∈[z,TI,TO,i1,i2,i3]:=fun c hc=>by
   simp only[RV,Sn,Tz]at hc ⊢;rcases hc with h|h|h|h|h <;> simp[h]
  have D:Ap3 z TI TO i1 i2 i3 a a a:=⟨SO n1,SO n2,SO n3,SO n4,SO n5,n6,n7,n8,n9,MO,Qw,Qx,Qy,Qz,QA,fun c hc=>dM I s1 (f c (sub c hc)),fun c hc=>dM I s1 (f c (sub c hc)),fun c hc=>dM I s1 (f c (sub c hc))⟩
  have ty:s.TypeIs (.ref z) "zip":=⟨_,hz,rfl⟩
  unfold pyNext;refine RO (Uo (Sr (name:=Str.ofString "__next__") ty S1 (SF S1 ty Ul (uc (I.ok.hd hc) D hz GO h1 q1 (by simp;lia) fun h' e kk ⟨o,ho,oc⟩=>?_) (Ud _))));refine RO (UX (T:="StopIteration") (b:=true) ⟨o,ho,oc⟩ Vf (RT ⟨rfl,?_⟩));have QC:∀c o,c∉[z,i1]->s.heap.get? c=some o->h'.get? c=some o:=fun c o nc e=>kk c o (fun q=>nc (by simp[q])) (fun q=>nc (by simp[q])) e
  have JU:∀c ob,H c=some ob->c≠z/\c≠i1:=fun c ob e=>⟨(fun q=>by rw[q,fz.1]at e;cases e),(fun q=>by rw[q,f1.1]at e;cases e)⟩
  have S0:Inv X pr σ H {s with heap:=h',gens:=s.gens,drawn:=s.drawn,toks:=s.toks}:=by
   refine I.step (ch:=[z,i1]) (fun c hc=>?_) (fun c o _ _ nc e _=>QC c o nc e)
    (fun c o _ _ nc e _=>⟨o.slots,QC c o nc e⟩) (fun c o _ e n=>n)
    (fun c o nc e=>⟨o,QC c o nc e⟩) (fun c l e=>e) (fun c o u' e=>e)
    (fun c ps e=>⟨#[],by rw[e];simp⟩) (fun m hm=>?_) (fun c ob e=>?_) I.bare
   ·simp only[RV,Sn,Tz]at hc;rcases hc with rfl|rfl
    ·exact⟨fz.2.2.2.1,fz.2.1,fz.2.2.2.2.1,fz.2.2.2.2.2⟩
    ·exact⟨f1.2.2.2.1,f1.2.1,f1.2.2.2.2.1,f1.2.2.2.2.2⟩
   ·obtain⟨o,es,ep,ho,r⟩:=hm;exact⟨o,es,ep,kk _ o (SO fz.2.1) (SO f1.2.1) ho,r⟩
   ·refine(I.hok c ob e).stay (fun d w' hd q=>?_) (fun d q=>q) fun d l q=>q
    have LA:∃oo,H d=some oo:=by
     rcases hd with rfl|hd
     ·exact⟨_,e⟩
     ·exact⟨_,hd⟩
    obtain⟨oo,MQ⟩:=LA;obtain⟨m1,m3⟩:=JU d oo MQ;exact kk d w' m1 m3 q
  exact S0
 self:=fun _ _ _ _ _ st h=>UY st.1 h
theorem BC{x y z:V}{us:List Value}(h:Vals [x,y,z] us):∃u v w,us=[u,v,w]/\RelV x u/\RelV y v/\RelV z w:=by
 cases h with
 |cons h1 h=>
  cases h with
  |cons h2 h=>
   cases h with
   |cons h3 h=>
    cases h;exact⟨_,_,_,rfl,h1,h2,h3⟩
section
variable{X:Cx}{es:List Expr}{kt:Nat}{pt:Pos}
def iZ3(K:W.Frag)(k1:Bool)(ta:TA):TI:=fun σ H R=>ta σ H fun vs H1=>∃a b c xs ys zs,vs=[.ref a,.ref b,.ref c]/\(if k1 then SqL K H1 a xs else SqT K H1 a xs)/\SqT K H1 b ys/\SqT K H1 c zs/\R (Qv K k1 a b c) H1
theorem zj(k1:Bool){e1 e2 e3:Expr}{ta:TA}{p pos:Pos}(hg:Gl X "zip")(hm:X.mg "zip" = none)(ha:PA X [e1,e2,e3] ta)(he:starEach [e1,e2,e3] X.env=(false,eval e1 X.env)::starEach [e2,e3] X.env:=by rfl)(Ha:(backTo pos (starEach [e2,e3] X.env)).any (·.1)=false:=by rfl):
  PI X (.Tuple es kt pt) (.Call (.Name "zip" p) [e1,e2,e3] [] pos) (iZ3 X.K k1 ta):=by
 intro pr s σ H R I h;refine TR (hZ I hg hm (by decide +kernel:bootBuiltins "zip" = some (.type "zip")) ?_ (by decide) (by decide));refine SY (Gp (ha pos pr s σ H _ I h) fun us s1 ⟨vs,H1,I1,r1,a,b,c,xs,ys,zs,e,Oe,Of,QD,q⟩=>?_) he Ha;subst e;obtain⟨u,w',w2,rfl,ra,rb,rc⟩:=BC r1;cases ra;cases rb;cases rc;obtain⟨us,v1,q1⟩:=gH I1 Oe;obtain⟨ws,v2,q2⟩:=gH (k:=false) I1 Of;obtain⟨ts,v3,q3⟩:=gH (k:=false) I1 QD;refine qq q1 q2 q3 fun h' st kk=>?_
 refine UY st.1 ?_;have fr:∀j,rh X pr H1 (s1.heap.objs.size+j):=fun j=>I1.fpOk (Vo _ _) (I1.hok.fresh (Vo _ _))
 refine⟨_,_,_,_,H1,rfl,I1.kept (t':=s1.toks) kk,ud k1 a b c (s1.heap.objs.size+5) (s1.heap.objs.size+3) (s1.heap.objs.size+4) (s1.heap.objs.size+0) (s1.heap.objs.size+1) (s1.heap.objs.size+2) (by
  simp only[Sv,RV,Sn,Tz,ZK,V7,UE,and_true];lia),st,fun c hc=>?_,q⟩
 simp only[RV,Sn,Tz]at hc;rcases hc with rfl|rfl|rfl|rfl|rfl|rfl
 ·exact fr 5
 ·exact fr 3
 ·exact fr 4
 ·exact fr 0
 ·exact fr 1
 ·exact fr 2
end
section
variable{prog:Program}{w:World}{A:Around}{E:Value->Shared->Prop}{s:Shared}
abbrev zk(h:Heap)(z TI TO:Addr)(f0 f1:Value):Prop:=h.get? z=some {cls:=.type "zip",data:=.fields #[f0,f1,.bool false,.ref TI,.ref TO]}
theorem ue{z TI TO T:Addr}{b:Bool}{o:Obj}{Q:Bool->Shared->Prop}(hz:zk s.heap z TI TO (rawInt T) (.bool b))(hT:s.heap.get? T=some o)
  (q:∀h',zk h' z TI TO (rawInt T) (.bool true)->h'.objs.size=s.heap.objs.size->(∀c o,c≠z->s.heap.get? c=some o->h'.get? c=some o)->Q false {s with heap:=h'}):
  wpAny (model prog w) A (Builtin.SmallTypes.ownedTupleIsFree (.ref z)) Q E s:=by
 unfold Builtin.SmallTypes.ownedTupleIsFree;refine RO (Sw hz rfl (x:=rawInt T) rfl ?_);show wpAny _ _ (loadIfAlive ((T:Int).toNat) >>= _) _ _ _;rw[TC];refine RO (PySem.W.kdx_alive hT ?_);show wpAny _ _ (field (.ref z) 1 >>= _) _ _ _;refine RO (Sw hz rfl (x:=.bool b) rfl ?_);cases b with
 |true=>
  rw[Sf (by decide)];exact RT (q s.heap hz rfl fun _ _ _ e=>e)
 |false=>
  rw[Sa (by decide)];refine RO (SS hz (by simp) fun hA zA sA=>RT (q hA zA sA.1 fun c o c1 e=>sA.extBut _ _ c1 e))
theorem zm{k1 k2 k3 b:Bool}{z TI TO T i1 i2 i3 l1 l2 l3:Addr}{i:Nat}{xs ys zs:Array Value}{x y v:Value}{oT:Obj}{Q:Value->Shared->Prop}(D:Ap3 z TI TO i1 i2 i3 l1 l2 l3)(hz:zk s.heap z TI TO (rawInt T) (.bool b))(hT:s.heap.get? T=some oT)(GO:IsTrip s.heap TI (.ref i1) (.ref i2) (.ref i3))
  (h1:IsIt k1 s.heap i1 l1 i) (h2:IsIt k2 s.heap i2 l2 i) (h3:IsIt k3 s.heap i3 l3 i) (g1:IsSq k1 s.heap l1 xs) (g2:IsSq k2 s.heap l2 ys) (g3:IsSq k3 s.heap l3 zs) (hx:xs[i]?=some x) (hy:ys[i]?=some y) (hv:zs[i]?=some v)
  (q:∀h',zk h' z TI TO (rawInt T) (.bool true)->IsIt k1 h' i1 l1 (i+1)->IsIt k2 h' i2 l2 (i+1)->IsIt k3 h' i3 l3 (i+1)->IsTrip h' s.heap.objs.size x y v->
   (∀c o,c≠z->c≠i1->c≠i2->c≠i3->s.heap.get? c=some o->h'.get? c=some o)->Q (.ref s.heap.objs.size) {s with heap:=h'}):
  wpAny (model prog w) A (Builtin.«zip.__next__» ⟨[.ref z],[]⟩) (fun fin s'=>∃v,fin=.done (.ret v)/\Q v s') E s:=by
 have L1:=D.l1;have L2:=D.l2;have L3:=D.l3;simp only[RV,Sn,Tz,Vr,XO]at L1 L2 L3;obtain⟨MU,Qk,Ql,Qm,Qn⟩:=L1;obtain⟨Qo,Rm,Qp,L22,L23⟩:=L2;obtain⟨Qq,Qr,Qs,Qu,L33⟩:=L3;show wpAny _ _ (field (.ref z) 2 >>= _) _ _ _;refine RO (Sw hz rfl (x:=.bool false) rfl ?_);show wpAny _ _ (field (.ref z) 3 >>= _) _ _ _;refine RO (Sw hz rfl (x:=.ref TI) rfl (RO (SN GO rfl ?_)));show wpAny _ _ (Builtin.SmallTypes.ownedTupleIsFree (.ref z) >>= _) _ _ _;refine RO (ue hz hT fun hA zA eA sA=>?_);rw[Sf (by decide)];refine RO ?_;simp only[<-Xd,Ut,UT];refine RO (RO (Tv ?_));show wpAny _ _ (Builtin.SmallTypes.nextOf (.ref i1) >>= _) _ _ _;refine RO (eM (h1.at fun o e=>sA _ _ D.i1z e) (g1.at fun o e=>sA _ _ MU e) hx fun hB iB sB=>RT (RT ?_));refine RO (RO (Tv ?_));show wpAny _ _ (Builtin.SmallTypes.nextOf (.ref i2) >>= _) _ _ _;refine RO (eM (h2.at fun o e=>sB.extBut _ _ D.i12.symm (sA _ _ D.i2z e)) (g2.at fun o e=>sB.extBut _ _ Qp (sA _ _ Qo e)) hy fun hD iD sD=>RT (RT ?_));refine RO (RO (Tv ?_));show wpAny _ _ (Builtin.SmallTypes.nextOf (.ref i3) >>= _) _ _ _;refine RO (eM (h3.at fun o e=>sD.extBut _ _ D.i23.symm (sB.extBut _ _ D.i13.symm (sA _ _ D.i3z e))) (g3.at fun o e=>sD.extBut _ _ Qu (sB.extBut _ _ Qs (sA _ _ Qq e))) hv fun hF iF sF=>RT (RT (RT ?_)));show wpAny _ _ (newTuple [x,y,v] >>= _) _ _ _;refine RO (VT ?_);have ez:hF.objs.size=s.heap.objs.size:=by rw[sF.1,sD.1,sB.1,eA]
 have up:∀c o,hF.get? c=some o->(hF.push {cls:=.type "tuple",data:=.seq #[x,y,v]}).get? c=some o:=fun c o e=>RS _ e
 have zF:zk hF z TI TO (rawInt T) (.bool true):=sF.extBut _ _ D.i3z.symm (sD.extBut _ _ D.i2z.symm (sB.extBut _ _ D.i1z.symm zA));have tF:IsTrip (hF.push {cls:=.type "tuple",data:=.seq #[x,y,v]}) hF.objs.size x y v:=R5 _ rfl;refine RT ⟨_,rfl,?_⟩;show Q (.ref hF.objs.size) _;rw[ez]at tF ⊢;exact q _ (up _ _ zF) (iB.at fun o e=>up _ o (sF.extBut _ _ D.i13 (sD.extBut _ _ D.i12 e))) (iD.at fun o e=>up _ o (sF.extBut _ _ D.i23 e)) (iF.at fun o e=>up _ o e) tF fun c o c1 c3 c4 c5 e=>up c o (sF.extBut _ _ c5 (sD.extBut _ _ c4 (sB.extBut _ _ c3 (sA _ _ c1 e))))
theorem BD{k1 b:Bool}{z TI TO T i1 i2 i3 l1 l2 l3:Addr}{i:Nat}{xs:Array Value}{oT:Obj}{Q:Fin->Shared->Prop}(hh:A.handled=none)(D:Ap3 z TI TO i1 i2 i3 l1 l2 l3)(hz:zk s.heap z TI TO (rawInt T) (.bool b))(hT:s.heap.get? T=some oT)(GO:IsTrip s.heap TI (.ref i1) (.ref i2) (.ref i3))
  (h1:IsIt k1 s.heap i1 l1 i) (g1:IsSq k1 s.heap l1 xs) (hx:xs[i]?=none)
  (q:∀h' e,(∀c o,c≠z->c≠i1->s.heap.get? c=some o->h'.get? c=some o)->(∃o,h'.get? e=some o/\o.cls=.type "StopIteration")->E (.ref e) {s with heap:=h'}):
  wpAny (model prog w) A (Builtin.«zip.__next__» ⟨[.ref z],[]⟩) Q E s:=by
 have L1:=D.l1;simp only[RV,Sn,Tz,Vr,XO]at L1;obtain⟨MU,Qk,Ql,Qm,Qn⟩:=L1;show wpAny _ _ (field (.ref z) 2 >>= _) _ _ _;refine RO (Sw hz rfl (x:=.bool false) rfl ?_);show wpAny _ _ (field (.ref z) 3 >>= _) _ _ _;refine RO (Sw hz rfl (x:=.ref TI) rfl (RO (SN GO rfl ?_)));show wpAny _ _ (Builtin.SmallTypes.ownedTupleIsFree (.ref z) >>= _) _ _ _;refine RO (ue hz hT fun hA zA eA sA=>?_);rw[Sf (by decide)];refine RO ?_;simp only[<-Xd,Ut,UT];refine RO (RO (Tv ?_));show wpAny _ _ (Builtin.SmallTypes.nextOf (.ref i1) >>= _) _ _ _;exact RO (qi hh (h1.at fun o e=>sA _ _ D.i1z e) (g1.at fun o e=>sA _ _ MU e) hx fun hB e sB ge=>q hB e (fun c o c1 c3 x=>sB _ _ c3 (sA _ _ c1 x)) ge)
end
def ZL(S:Addr)(k1:Bool)(z TI TO i1 i2 i3 l1 l2 l3:Addr)(i:Nat)(h:Heap):Prop:=
 ((∃a b c,IsZip h z TI TO .none/\IsTrip h TO a b c)\/∃(T:Addr) (b:Bool) (o:Obj),zk h z TI TO (rawInt T) (.bool b)/\T∉S::[z,TO,i1,i2,i3]/\h.get? T=some o)/\IsTrip h TI (.ref i1) (.ref i2) (.ref i3)/\IsIt k1 h i1 l1 i/\IsIt false h i2 l2 i/\IsIt false h i3 l3 i/\∃o,h.get? TO=some o
theorem zo{c z TO i1 i2 i3:Addr}(h:c∉[z,TO,i1,i2,i3]):c≠z/\c≠TO/\c≠i1/\c≠i2/\c≠i3:=by
 simp only[RV,Sn,Tz,ZK]at h;exact h
section
variable{prog:Program}{w:World}{A:Around}{E:Value->Shared->Prop}{s:Shared}{k1:Bool}{S z TI TO i1 i2 i3 l1 l2 l3:Addr}
theorem ZL.ty{i:Nat}(st:ZL S k1 z TI TO i1 i2 i3 l1 l2 l3 i s.heap):s.TypeIs (.ref z) "zip":=by
 rcases st.1 with⟨_,_,_,hz,_⟩|⟨_,_,_,hz,_⟩
 ·exact⟨_,hz,rfl⟩
 ·exact⟨_,hz,rfl⟩
theorem ZL.put{i:Nat}{h h':Heap}(st:ZL S k1 z TI TO i1 i2 i3 l1 l2 l3 i h)(hS:S∉[z,TO,i1,i2,i3])(GO:S≠TI)(k:∀c o,c≠S->h.get? c=some o->h'.get? c=some o):ZL S k1 z TI TO i1 i2 i3 l1 l2 l3 i h':=by
 obtain⟨Ol,gTI,h1,h2,h3,oT,gT⟩:=st;obtain⟨n1,n2,n3,n4,n5⟩:=zo hS;refine⟨?_,k _ _ GO.symm gTI,h1.at fun o e=>k _ _ n3.symm e,h2.at fun o e=>k _ _ n4.symm e,h3.at fun o e=>k _ _ n5.symm e,oT,k _ _ n2.symm gT⟩;rcases Ol with⟨a,b,c,hz,Hy⟩|⟨T,b,o,hz,nT,hT⟩
 ·exact .inl ⟨a,b,c,k _ _ n1.symm hz,k _ _ n2.symm Hy⟩
 ·exact .inr ⟨T,b,o,k _ _ n1.symm hz,nT,k _ _ (fun e=>nT (e▸.head _)) hT⟩
theorem zp{i:Nat}{xs ys zs:Array Value}{x y v:Value}{Q:Option Value->Shared->Prop}(D:Ap3 z TI TO i1 i2 i3 l1 l2 l3)(fS:s.heap.objs.size≠S)(st:ZL S k1 z TI TO i1 i2 i3 l1 l2 l3 i s.heap)
  (g1:IsSq k1 s.heap l1 xs) (g2:IsSq false s.heap l2 ys) (g3:IsSq false s.heap l3 zs) (hx:xs[i]?=some x) (hy:ys[i]?=some y) (hv:zs[i]?=some v)
  (q:∀h',ZL S k1 z TI TO i1 i2 i3 l1 l2 l3 (i+1) h'->s.heap.objs.size∉S::[z,TO,i1,i2,i3]->IsTrip h' s.heap.objs.size x y v->(∀c o,c∉[z,TO,i1,i2,i3]->s.heap.get? c=some o->h'.get? c=some o)->Q (some (.ref s.heap.objs.size)) {s with heap:=h'}):wpAny (model prog w) A (pyNext (.ref z)) Q E s:=by
 have ty:=st.ty;have Ro:=ty;obtain⟨Ol,GO,h1,h2,h3,oT,gT⟩:=st;obtain⟨oz,ez,_⟩:=ty;have fr:∀c o,s.heap.get? c=some o->s.heap.objs.size≠c:=fun c o e=>Ua (R0 e)
 obtain⟨o1,e1,_⟩:=h1.obj;obtain⟨o2,e2,_⟩:=h2.obj;obtain⟨o3,e3,_⟩:=h3.obj;have fT:s.heap.objs.size∉S::[z,TO,i1,i2,i3]:=by
  simp only[RV,Sn,Tz,ZK];exact⟨fS,fr _ _ ez,fr _ _ gT,fr _ _ e1,fr _ _ e2,fr _ _ e3⟩
 rcases Ol with⟨a,b,c,hz,Hy⟩|⟨T,b,o,hz,nT,hT⟩
 ·refine ji D ⟨hz,GO,⟨a,b,c,Hy⟩,h1,h2,h3⟩ g1 g2 g3 hx hy hv fun h' z1 t1 j1 j2 j3 tp kk=>?_
  have kk':∀c o,c∉[z,TO,i1,i2,i3]->s.heap.get? c=some o->h'.get? c=some o:=fun c o nc e=>by
   obtain⟨a1,a2,a3,a4,a5⟩:=zo nc;exact kk c o a1 a2 a3 a4 a5 e
  exact q h' ⟨.inr ⟨_,false,_,z1,fT,tp⟩,kk _ _ D.TIz D.TITO D.TIi1 D.TIi2 D.TIi3 GO,j1,j2,j3,_,t1⟩ fT tp kk'
 ·unfold pyNext;refine RO (Uo (Sr (name:=Str.ofString "__next__") Ro S1 (SF S1 Ro Ul (zm D hz hT GO h1 h2 h3 g1 g2 g3 hx hy hv fun h' z1 j1 j2 j3 tp kk=>RT ?_) (Ud _))));obtain⟨n1,n2,n3,n4,n5⟩:=zo fun q=>nT (.tail _ q)
  exact q h' ⟨.inr ⟨T,true,o,z1,nT,kk _ _ n1 n3 n4 n5 hT⟩,kk _ _ D.TIz D.TIi1 D.TIi2 D.TIi3 GO,j1,j2,j3,_,kk _ _ D.TOz D.TOi1 D.TOi2 D.TOi3 gT⟩ fT tp fun c o nc e=>by
   obtain⟨a1,a2,a3,a4,a5⟩:=zo nc;exact kk c o a1 a3 a4 a5 e
theorem BE{i:Nat}{xs:Array Value}{Q:Option Value->Shared->Prop}(hh:A.handled=none)(D:Ap3 z TI TO i1 i2 i3 l1 l2 l3)(st:ZL S k1 z TI TO i1 i2 i3 l1 l2 l3 i s.heap)(g1:IsSq k1 s.heap l1 xs)(hx:xs[i]?=none)
  (q:∀h',(∀c o,c∉[z,TO,i1,i2,i3]->s.heap.get? c=some o->h'.get? c=some o)->Q none {s with heap:=h'}):wpAny (model prog w) A (pyNext (.ref z)) Q E s:=by
 have ty:=st.ty;obtain⟨Ol,GO,h1,h2,h3,_⟩:=st;have q':∀h',(∀c o,c≠z->c≠i1->s.heap.get? c=some o->h'.get? c=some o)->Q none {s with heap:=h'}:=fun h' kk=>q h' fun c o nc e=>by
  obtain⟨a1,a2,a3,a4,a5⟩:=zo nc;exact kk c o a1 a3 e
 rcases Ol with⟨a,b,c,hz,Hy⟩|⟨T,b,o,hz,nT,hT⟩
 ·exact pA hh D ⟨hz,GO,⟨a,b,c,Hy⟩,h1,h2,h3⟩ g1 hx q'
 ·unfold pyNext;refine RO (Uo (Sr (name:=Str.ofString "__next__") ty S1 (SF S1 ty Ul (BD hh D hz hT GO h1 g1 hx fun h' e kk ⟨o,ho,oc⟩=>?_) (Ud _))));exact RO (UX (T:="StopIteration") (b:=true) ⟨o,ho,oc⟩ Vf (RT (q' _ kk)))
def Got(xs ys zs:Array Value)(S:Addr)(bad:List Addr)(acc:Array Value)(i:Nat)(h:Heap):Prop:=acc.size=i/\(∀j k,j<k->k<i->acc[j]?≠acc[k]?)/\∀j,j<i->∃T x y v,acc[j]?=some (.ref T)/\T∉S::bad/\S<T/\xs[j]?=some x/\ys[j]?=some y/\zs[j]?=some v/\IsTrip h T x y v
theorem DW{R:Result->Shared->Prop}{xs ys zs:Array Value}(hn:xs.size<=sizeLine)(hh:A.in1.handled=none)(D:Ap3 z TI TO i1 i2 i3 l1 l2 l3)(hy:ys.size=xs.size)(hz:zs.size=xs.size)(hS:S∉[z,TO,i1,i2,i3])(hl:S≠l1/\S≠l2/\S≠l3/\S≠TI)(res:Value):
  ∀(left i:Nat) (s:Shared) (acc:Array Value) (Po:Nat),xs.size-i=left->i<=xs.size->ZL S k1 z TI TO i1 i2 i3 l1 l2 l3 i s.heap->IsSq k1 s.heap l1 xs->IsSq false s.heap l2 ys->IsSq false s.heap l3 zs->s.heap.get? S=some {cls:=.type "list",dict:=none,data:=.seq acc Po,slots:=#[]}->Got xs ys zs S [z,TO,i1,i2,i3] acc i s.heap->
  (∀h' G0 JX,(∀c o,c∉S::[z,TO,i1,i2,i3]->s.heap.get? c=some o->h'.get? c=some o)->h'.get? S=some {cls:=.type "list",dict:=none,data:=.seq G0 JX,slots:=#[]}->Got xs ys zs S [z,TO,i1,i2,i3] G0 xs.size h'->R (.ok (.ret res)) {s with heap:=h'})->codeAny (model prog w) A (.builtin "list.extend.loop" ⟨[.ref S,.ref z,res],[]⟩) R s:=by
 intro left;induction left with
 |zero=>
  intro i s acc Po e0 e1 st g1 g2 g3 gS got hR;obtain rfl:i=xs.size:=by lia
  refine codeAny_builtin VX (Around.under_plainId Uq _▸?_);refine RO (m:=pyNext (.ref z)) (BE hh D st g1 (Wu (R1 _)) fun h' kk=>?_);refine RT (hR h' acc Po (fun c o nc e=>kk c o (fun q=>nc (.tail _ q)) e) (kk _ _ hS gS) ⟨got.1,got.2.1,fun j hj=>?_⟩);obtain⟨T,x,y,v,a1,a2,a0,a3,a4,a5,a6⟩:=got.2.2 j hj;exact⟨T,x,y,v,a1,a2,a0,a3,a4,a5,kk _ _ (fun q=>a2 (.tail _ q)) a6⟩
 |succ left ih=>
  intro i s acc Po e0 e1 st g1 g2 g3 gS got hR;have hi:i<xs.size:=by lia
  refine codeAny_builtin VX (Around.under_plainId Uq _▸?_);refine RO (m:=pyNext (.ref z)) (zp D (Ua (R0 gS)) st g1 g2 g3 (Su hi) (Su (by lia:i<ys.size)) (Su (by lia:i<zs.size)) fun h' Im fT tp kk=>?_);have L1:=D.l1;have L2:=D.l2;have L3:=D.l3;have Pp:=kk _ _ hS gS;have fS:s.heap.objs.size≠S:=Ua (R0 gS);show wpAny _ _ (updateSeq S (fun x=>x.push (.ref s.heap.objs.size)) >>= _) _ _ _;refine RO (U8 Pp rfl (hz:=by rw[got.1];lia) (_hz':=by rw[Array.size_push,got.1];lia) ?_);have gS2:=Tp (Obj.mapSeq (fun x=>x.push (Value.ref s.heap.objs.size))) Pp rfl;have Km:∀c o,c≠S->h'.get? c=some o->(h'.update S (Obj.mapSeq fun x=>x.push (Value.ref s.heap.objs.size))).get? c=some o:=fun c o nc e=>(S8 _ _ (SO nc)).trans e
  have all:∀c o,c∉S::[z,TO,i1,i2,i3]->s.heap.get? c=some o->(h'.update S (Obj.mapSeq fun x=>x.push (Value.ref s.heap.objs.size))).get? c=some o:=fun c o nc e=>Km c o (fun q=>nc (q▸.head _)) (kk c o (fun q=>nc (.tail _ q)) e)
  have sq:∀{k:Bool}{l:Addr}{us:Array Value},S≠l->(∀c∈[z,TO,i1,i2,i3],l≠c)->IsSq k s.heap l us->IsSq k (h'.update S (Obj.mapSeq fun x=>x.push (Value.ref s.heap.objs.size))) l us:=fun ne nl g=>g.at fun o e=>all _ _ (fun q=>by
   rcases RV.mp q with q|q
   ·exact ne q.symm
   ·exact nl _ q rfl) e
  refine RT ⟨plainId_quiet Uq _,ih (i+1) {s with heap:=_} _ _ (by lia) (by lia) (Im.put hS hl.2.2.2 Km) (sq hl.1 L1 g1) (sq hl.2.1 L2 g2) (sq hl.2.2.1 L3 g3) gS2 ⟨by rw[Array.size_push,got.1],fun j k QF hk=>?_,fun j hj=>?_⟩ fun h2 G0 JX k2 gS3 got2=>hR h2 G0 JX (fun c o nc e=>k2 c o nc (all c o nc e)) gS3 got2⟩
  ·have lt:∀m,m<i->(acc.push (Value.ref s.heap.objs.size))[m]?=acc[m]?:=fun m hm=>by rw[Wv (by have:=got.1;lia),Su (by have:=got.1;lia)]
   by_cases ek:k=i
   ·obtain⟨T,x,y,v,a1,_,_,_,_,_,a6⟩:=got.2.2 j (by lia);rw[lt j (by lia),a1,ek,<-got.1,V8];intro q;cases q;exact absurd (R0 a6) (T6 _)
   ·rw[lt j (by lia),lt k (by lia)];exact got.2.1 j k QF (by lia)
  by_cases ej:j=i
  ·subst ej;exact⟨s.heap.objs.size,_,_,_,by rw[<-got.1,V8],fT,R0 gS,Su hi,Su (by lia),Su (by lia),Km _ _ fS tp⟩
  ·obtain⟨T,x,y,v,a1,a2,a0,a3,a4,a5,a6⟩:=got.2.2 j (by lia);exact⟨T,x,y,v,by rw[Wv (by have:=got.1;lia)];rw[Su (by have:=got.1;lia)]at a1;exact a1,a2,a0,a3,a4,a5,all _ _ a2 a6⟩
end
end NX
namespace PV
open PySem L2 NX
inductive D where
 |non|bl (b:Bool)|int (i:Int)|str (l:List Nat)|tup (ds:List D)|lst (ds:List D)|dct (tk:Bool) (ks vs:List D)
inductive O where
 |f|l (c:O)|t (cs:List O)|d|pin (p:Addr) (c:O)
abbrev R:=O×D
abbrev Env:=List (Option R)
inductive Res(α:Type) where
 |ok (a:α)|exc (c:List Nat)|bad
def kD:Key->D
 | .inl i=>.int i
 | .inr x=>.str x.cps.toList
def isM:HO->Bool
 | .lst _=>true
 | .dK _=>true
 | .dT _=>true
 |_=>false
def ND:HO->Bool
 | .tup _=>true
 | .frz _ (.tup _)=>true
 |_=>false
def xP:Key->Prop
 | .inl _=>True
 | .inr x=>x.cps.toList.length<=sizeLine
def DictO(o:HO)(tk:Bool)(ks:List D)(xs:List V):Prop:=match tk with
 |true=>∃F5:List (List Key×V),o=.dT F5/\ks=F5.map (fun kv=>D.tup (kv.1.map kD))/\xs=F5.map (·.2)/\∀kv∈F5,∀k∈kv.1,xP k
 |false=>∃F5:List (Key×V),o=.dK F5/\ks=F5.map (fun kv=>kD kv.1)/\xs=F5.map (·.2)/\∀kv∈F5,xP kv.1
mutual
noncomputable def Rep(K:W.Frag)(G:Hp):D->V->Prop
 | .non,v=>v=.non
 | .bl b,v=>v=.bl b
 | .int i,v=>v=.int i
 | .str l,v=>v=.str (S l)/\l.length<=sizeLine
 | .tup ds,v=>∃p xs,v=.ref p/\G p=some (.tup xs)/\Reps K G ds xs
 | .lst ds,v=>∃p xs,v=.ref p/\SqL K G p xs/\Reps K G ds xs
 | .dct tk ks vs,v=>∃p xs o,v=.ref p/\Rd G p o/\DictO o tk ks xs/\Reps K G vs xs
noncomputable def Reps(K:W.Frag)(G:Hp):List D->List V->Prop
 |[],xs=>xs=[]
 |d::ds,xs=>∃y ys,xs=y::ys/\Rep K G d y/\Reps K G ds ys
end
def AllO(P:D->V->List Addr->Prop):List D->List V->List Addr->Prop
 |[],xs,fp=>xs=[]/\fp=[]
 |d::ds,xs,fp=>∃y ys a b,xs=y::ys/\fp=a++b/\P d y a/\AllO P ds ys b
mutual
noncomputable def RepO(K:W.Frag)(G H:Hp):O->D->V->List Addr->Prop
 | .f,d,v,fp=>Rep K G d v/\fp=[]
 | .l c,.lst ds,v,fp=>∃p xs F9,v=.ref p/\H p=some (.lst xs)/\fp=p::F9/\AllO (RepO K G H c) ds xs F9
 | .t cs,.tup ds,v,fp=>∃p xs,v=.ref p/\G p=some (.tup xs)/\RepT K G H cs ds xs fp
 | .d,.dct tk ks vs,v,fp=>∃p xs o,v=.ref p/\H p=some o/\DictO o tk ks xs/\fp=[p]/\Reps K G vs xs
 | .pin p c,d,v,fp=>v=.ref p/\RepO K G H c d v fp
 |_,_,_,_=>False
noncomputable def RepT(K:W.Frag)(G H:Hp):List O->List D->List V->List Addr->Prop
 |[],[],xs,fp=>xs=[]/\fp=[]
 |c::cs,d::ds,xs,fp=>∃y ys a b,xs=y::ys/\fp=a++b/\RepO K G H c d y a/\RepT K G H cs ds ys b
 |_,_,_,_=>False
end
section
variable{K:W.Frag}{G G' H H':Hp}
theorem Rd.mono{p:Addr}{u:HO}(h:Same G G')(r:Rd G p u):Rd G' p u:=by
 rcases r with r|⟨o,r⟩
 ·exact .inl (h _ _ r)
 ·exact .inr ⟨o,h _ _ r⟩
theorem gD{p:Addr}{xs:List V}(h:Same G G')(r:SqL K G p xs):SqL K G' p xs:=r.elim (fun r=>.inl (Rd.mono h r)) .inr
theorem bc{p:Addr}{xs:List V}(h:Same G G')(r:SqT K G p xs):SqT K G' p xs:=r.elim (fun r=>.inl (Rd.mono h r)) .inr
mutual
theorem Rep.mono(h:Same G G'):∀{d:D}{v:V},Rep K G d v->Rep K G' d v
 | .non,_,r=>by simpa only[Rep] using r
 | .bl _,_,r=>by simpa only[Rep] using r
 | .int _,_,r=>by simpa only[Rep] using r
 | .str _,_,r=>by simpa only[Rep] using r
 | .tup ds,_,r=>by
  simp only[Rep]at r ⊢;obtain⟨p,xs,e,q,rs⟩:=r;exact⟨p,xs,e,h _ _ q,Reps.mono h rs⟩
 | .lst ds,_,r=>by
  simp only[Rep]at r ⊢;obtain⟨p,xs,e,q,rs⟩:=r;exact⟨p,xs,e,gD h q,Reps.mono h rs⟩
 | .dct tk ks vs,_,r=>by
  simp only[Rep]at r ⊢;obtain⟨p,xs,o,e,q,dd,rs⟩:=r;exact⟨p,xs,o,e,Rd.mono h q,dd,Reps.mono h rs⟩
theorem Reps.mono(h:Same G G'):∀{ds:List D}{xs:List V},Reps K G ds xs->Reps K G' ds xs
 |[],_,r=>by simpa only[Reps] using r
 |d::ds,_,r=>by
  simp only[Reps]at r ⊢;obtain⟨y,ys,e,r1,r2⟩:=r;exact⟨y,ys,e,Rep.mono h r1,Reps.mono h r2⟩
end
theorem AllO.imp{P P':D->V->List Addr->Prop}:∀{ds:List D}{xs:List V}{fp:List Addr},(∀d v a,(∀p∈a,p∈fp)->P d v a->P' d v a)->AllO P ds xs fp->AllO P' ds xs fp
 |[],_,_,_,r=>r
 |d::ds,xs,fp,h,r=>by
  obtain⟨y,ys,a,b,e1,e2,p,q⟩:=r;subst e2;exact⟨y,ys,a,b,e1,rfl,h _ _ _ (fun p hp=>R9 _ hp) p,AllO.imp (fun d v c hc=>h d v c fun p hp=>RX _ (hc p hp)) q⟩
mutual
theorem RepO.step(h:Same G G'):∀{o:O}{d:D}{v:V}{fp:List Addr},(∀p∈fp,H' p=H p)->RepO K G H o d v fp->RepO K G' H' o d v fp
 | .f,d,v,fp,hk,r=>by
  simp only[RepO]at r ⊢;exact⟨Rep.mono h r.1,r.2⟩
 | .pin p c,d,v,fp,hk,r=>by
  simp only[RepO]at r ⊢;exact⟨r.1,RepO.step h hk r.2⟩
 | .l c,.lst ds,v,fp,hk,r=>by
  simp only[RepO]at r ⊢;obtain⟨p,xs,F9,e,q,e2,a⟩:=r;subst e2;exact⟨p,xs,F9,e,(hk p RQ).trans q,rfl,AllO.imp (fun d v c hc=>RepO.step h fun z hz=>hk z (RZ _ (hc z hz))) a⟩
 | .t cs,.tup ds,v,fp,hk,r=>by
  simp only[RepO]at r ⊢;obtain⟨p,xs,e,q,a⟩:=r;exact⟨p,xs,e,h _ _ q,RepT.step h hk a⟩
 | .d,.dct tk ks vs,v,fp,hk,r=>by
  simp only[RepO]at r ⊢;obtain⟨p,xs,o,e,q,dd,e2,rs⟩:=r;subst e2;exact⟨p,xs,o,e,(hk p RQ).trans q,dd,rfl,Reps.mono h rs⟩
 | .l _,.non,_,_,_,r | .l _,.bl _,_,_,_,r | .l _,.int _,_,_,_,r | .l _,.str _,_,_,_,r | .l _,.tup _,_,_,_,r | .l _,.dct _ _ _,_,_,_,r=>by simp only[RepO]at r
 | .t _,.non,_,_,_,r | .t _,.bl _,_,_,_,r | .t _,.int _,_,_,_,r | .t _,.str _,_,_,_,r | .t _,.lst _,_,_,_,r | .t _,.dct _ _ _,_,_,_,r=>by simp only[RepO]at r
 | .d,.non,_,_,_,r | .d,.bl _,_,_,_,r | .d,.int _,_,_,_,r | .d,.str _,_,_,_,r | .d,.tup _,_,_,_,r | .d,.lst _,_,_,_,r=>by simp only[RepO]at r
theorem RepT.step(h:Same G G'):∀{cs:List O}{ds:List D}{xs:List V}{fp:List Addr},(∀p∈fp,H' p=H p)->RepT K G H cs ds xs fp->RepT K G' H' cs ds xs fp
 |[],[],_,_,_,r=>by simpa only[RepT] using r
 |c::cs,d::ds,xs,fp,hk,r=>by
  simp only[RepT]at r ⊢;obtain⟨y,ys,a,b,e1,e2,r1,r2⟩:=r;subst e2;exact⟨y,ys,a,b,e1,rfl,RepO.step h (fun p hp=>hk p (R9 _ hp)) r1,RepT.step h (fun p hp=>hk p (RX _ hp)) r2⟩
 |[],_::_,_,_,_,r=>by simp only[RepT]at r
 |_::_,[],_,_,_,r=>by simp only[RepT]at r
end
theorem AllO.frozen{P:D->V->List Addr->Prop}:∀{ds:List D}{xs:List V}{fp:List Addr},(∀d v a,(∀p∈a,p∈fp)->P d v a->Rep K G' d v)->AllO P ds xs fp->Reps K G' ds xs
 |[],_,_,_,r=>by simp only[Reps];exact r.1
 |d::ds,xs,fp,h,r=>by
  obtain⟨y,ys,a,b,e1,e2,p,q⟩:=r;subst e2;simp only[Reps];exact⟨y,ys,e1,h _ _ _ (fun p hp=>R9 _ hp) p,AllO.frozen (fun d v c hc=>h d v c fun p hp=>RX _ (hc p hp)) q⟩
mutual
theorem RepO.frozen(h:Same G G'):∀{o:O}{d:D}{v:V}{fp:List Addr},(∀p∈fp,∀u,H p=some u->G' p=some u)->RepO K G H o d v fp->Rep K G' d v
 | .f,d,v,fp,hk,r=>by
  simp only[RepO]at r;exact Rep.mono h r.1
 | .pin p c,d,v,fp,hk,r=>by
  simp only[RepO]at r;exact RepO.frozen h hk r.2
 | .l c,.lst ds,v,fp,hk,r=>by
  simp only[RepO]at r;simp only[Rep];obtain⟨p,xs,F9,e,q,e2,a⟩:=r;subst e2;exact⟨p,xs,e,SqL.of (hk p RQ _ q),AllO.frozen (fun d v c hc=>RepO.frozen h fun z hz=>hk z (RZ _ (hc z hz))) a⟩
 | .t cs,.tup ds,v,fp,hk,r=>by
  simp only[RepO]at r;simp only[Rep];obtain⟨p,xs,e,q,a⟩:=r;exact⟨p,xs,e,h _ _ q,RepT.frozen h hk a⟩
 | .d,.dct tk ks vs,v,fp,hk,r=>by
  simp only[RepO]at r;simp only[Rep];obtain⟨p,xs,o,e,q,dd,e2,rs⟩:=r;subst e2;exact⟨p,xs,o,e,.inl (hk p RQ _ q),dd,Reps.mono h rs⟩
 | .l _,.non,_,_,_,r | .l _,.bl _,_,_,_,r | .l _,.int _,_,_,_,r | .l _,.str _,_,_,_,r | .l _,.tup _,_,_,_,r | .l _,.dct _ _ _,_,_,_,r=>by simp only[RepO]at r
 | .t _,.non,_,_,_,r | .t _,.bl _,_,_,_,r | .t _,.int _,_,_,_,r | .t _,.str _,_,_,_,r | .t _,.lst _,_,_,_,r | .t _,.dct _ _ _,_,_,_,r=>by simp only[RepO]at r
 | .d,.non,_,_,_,r | .d,.bl _,_,_,_,r | .d,.int _,_,_,_,r | .d,.str _,_,_,_,r | .d,.tup _,_,_,_,r | .d,.lst _,_,_,_,r=>by simp only[RepO]at r
theorem RepT.frozen(h:Same G G'):∀{cs:List O}{ds:List D}{xs:List V}{fp:List Addr},(∀p∈fp,∀u,H p=some u->G' p=some u)->RepT K G H cs ds xs fp->Reps K G' ds xs
 |[],[],_,_,_,r=>by simp only[RepT]at r;simp only[Reps];exact r.1
 |c::cs,d::ds,xs,fp,hk,r=>by
  simp only[RepT]at r;simp only[Reps];obtain⟨y,ys,a,b,e1,e2,r1,r2⟩:=r;subst e2;exact⟨y,ys,e1,RepO.frozen h (fun p hp=>hk p (R9 _ hp)) r1,RepT.frozen h (fun p hp=>hk p (RX _ hp)) r2⟩
 |[],_::_,_,_,_,r=>by simp only[RepT]at r
 |_::_,[],_,_,_,r=>by simp only[RepT]at r
end
theorem AllO.live{P:D->V->List Addr->Prop}:∀{ds:List D}{xs:List V}{fp:List Addr},(∀d v a,P d v a->∀p∈a,∃u,H p=some u)->AllO P ds xs fp->∀p∈fp,∃u,H p=some u
 |[],_,_,_,r=>by rw[r.2];intro p hp;cases hp
 |d::ds,xs,fp,h,r=>by
  obtain⟨y,ys,a,b,e1,e2,p,q⟩:=r;subst e2;intro z hz;rcases Ss.mp hz with hz|hz
  ·exact h _ _ _ p z hz
  ·exact AllO.live h q z hz
mutual
theorem RepO.live:∀{o:O}{d:D}{v:V}{fp:List Addr},RepO K G H o d v fp->∀p∈fp,∃u,H p=some u
 | .f,d,v,fp,r=>by
  simp only[RepO]at r;rw[r.2];intro p hp;cases hp
 | .pin p c,d,v,fp,r=>by
  simp only[RepO]at r;exact RepO.live r.2
 | .l c,.lst ds,v,fp,r=>by
  simp only[RepO]at r;obtain⟨p,xs,F9,e,q,e2,a⟩:=r;subst e2;intro z hz;rcases RV.mp hz with rfl|hz
  ·exact⟨_,q⟩
  ·exact AllO.live (fun d v a=>RepO.live) a z hz
 | .t cs,.tup ds,v,fp,r=>by
  simp only[RepO]at r;obtain⟨p,xs,e,q,a⟩:=r;exact RepT.live a
 | .d,.dct tk ks vs,v,fp,r=>by
  simp only[RepO]at r;obtain⟨p,xs,o,e,q,dd,e2,rs⟩:=r;subst e2;intro z hz;rw[S9]at hz;exact⟨_,hz▸q⟩
 | .l _,.non,_,_,r | .l _,.bl _,_,_,r | .l _,.int _,_,_,r | .l _,.str _,_,_,r | .l _,.tup _,_,_,r | .l _,.dct _ _ _,_,_,r=>by simp only[RepO]at r
 | .t _,.non,_,_,r | .t _,.bl _,_,_,r | .t _,.int _,_,_,r | .t _,.str _,_,_,r | .t _,.lst _,_,_,r | .t _,.dct _ _ _,_,_,r=>by simp only[RepO]at r
 | .d,.non,_,_,r | .d,.bl _,_,_,r | .d,.int _,_,_,r | .d,.str _,_,_,r | .d,.tup _,_,_,r | .d,.lst _,_,_,r=>by simp only[RepO]at r
theorem RepT.live:∀{cs:List O}{ds:List D}{xs:List V}{fp:List Addr},RepT K G H cs ds xs fp->∀p∈fp,∃u,H p=some u
 |[],[],_,_,r=>by
  simp only[RepT]at r;rw[r.2];intro p hp;cases hp
 |c::cs,d::ds,xs,fp,r=>by
  simp only[RepT]at r;obtain⟨y,ys,a,b,e1,e2,r1,r2⟩:=r;subst e2;intro z hz;rcases Ss.mp hz with hz|hz
  ·exact RepO.live r1 z hz
  ·exact RepT.live r2 z hz
 |[],_::_,_,_,r=>by simp only[RepT]at r
 |_::_,[],_,_,r=>by simp only[RepT]at r
end
theorem DictO.isM{o:HO}{tk:Bool}{ks:List D}{xs:List V}(h:DictO o tk ks xs):PV.isM o=true:=by
 cases tk with
 |true=>
  obtain⟨F5,e,_⟩:=h;rw[e];rfl
 |false=>
  obtain⟨F5,e,_⟩:=h;rw[e];rfl
theorem AllO.mut{P:D->V->List Addr->Prop}:∀{ds:List D}{xs:List V}{fp:List Addr},(∀d v a,P d v a->∀p∈a,∃u,H p=some u/\isM u=true)->AllO P ds xs fp->∀p∈fp,∃u,H p=some u/\isM u=true
 |[],_,_,_,r=>by rw[r.2];intro p hp;cases hp
 |d::ds,xs,fp,h,r=>by
  obtain⟨y,ys,a,b,e1,e2,p,q⟩:=r;subst e2;intro z hz;rcases Ss.mp hz with hz|hz
  ·exact h _ _ _ p z hz
  ·exact AllO.mut h q z hz
mutual
theorem RepO.mut:∀{o:O}{d:D}{v:V}{fp:List Addr},RepO K G H o d v fp->∀p∈fp,∃u,H p=some u/\isM u=true
 | .f,d,v,fp,r=>by
  simp only[RepO]at r;rw[r.2];intro p hp;cases hp
 | .pin p c,d,v,fp,r=>by
  simp only[RepO]at r;exact RepO.mut r.2
 | .l c,.lst ds,v,fp,r=>by
  simp only[RepO]at r;obtain⟨p,xs,F9,e,q,e2,a⟩:=r;subst e2;intro z hz;rcases RV.mp hz with rfl|hz
  ·exact⟨_,q,rfl⟩
  ·exact AllO.mut (fun d v a=>RepO.mut) a z hz
 | .t cs,.tup ds,v,fp,r=>by
  simp only[RepO]at r;obtain⟨p,xs,e,q,a⟩:=r;exact RepT.mut a
 | .d,.dct tk ks vs,v,fp,r=>by
  simp only[RepO]at r;obtain⟨p,xs,o,e,q,dd,e2,rs⟩:=r;subst e2;intro z hz;rw[S9]at hz;exact⟨_,hz▸q,dd.isM⟩
 | .l _,.non,_,_,r | .l _,.bl _,_,_,r | .l _,.int _,_,_,r | .l _,.str _,_,_,r | .l _,.tup _,_,_,r | .l _,.dct _ _ _,_,_,r=>by simp only[RepO]at r
 | .t _,.non,_,_,r | .t _,.bl _,_,_,r | .t _,.int _,_,_,r | .t _,.str _,_,_,r | .t _,.lst _,_,_,r | .t _,.dct _ _ _,_,_,r=>by simp only[RepO]at r
 | .d,.non,_,_,r | .d,.bl _,_,_,r | .d,.int _,_,_,r | .d,.str _,_,_,r | .d,.tup _,_,_,r | .d,.lst _,_,_,r=>by simp only[RepO]at r
theorem RepT.mut:∀{cs:List O}{ds:List D}{xs:List V}{fp:List Addr},RepT K G H cs ds xs fp->∀p∈fp,∃u,H p=some u/\isM u=true
 |[],[],_,_,r=>by
  simp only[RepT]at r;rw[r.2];intro p hp;cases hp
 |c::cs,d::ds,xs,fp,r=>by
  simp only[RepT]at r;obtain⟨y,ys,a,b,e1,e2,r1,r2⟩:=r;subst e2;intro z hz;rcases Ss.mp hz with hz|hz
  ·exact RepO.mut r1 z hz
  ·exact RepT.mut r2 z hz
 |[],_::_,_,_,r=>by simp only[RepT]at r
 |_::_,[],_,_,r=>by simp only[RepT]at r
end
noncomputable def RepE(K:W.Frag)(G H:Hp):Env->List (Option V)->List Addr->Prop
 |[],vs,fp=>vs=[]/\fp=[]
 |e::es,vs,fp=>∃y ys,vs=y::ys/\match e with
  |none=>RepE K G H es ys fp
  |some r=>∃v a b,y=some v/\fp=a++b/\RepO K G H r.1 r.2 v a/\RepE K G H es ys b
theorem RepE.step(h:Same G G'):∀{es:Env}{vs:List (Option V)}{fp:List Addr},(∀p∈fp,H' p=H p)->RepE K G H es vs fp->RepE K G' H' es vs fp
 |[],_,_,_,r=>r
 |none::es,vs,fp,hk,r=>by
  obtain⟨y,ys,e,r⟩:=r;exact⟨y,ys,e,RepE.step h hk r⟩
 |some r::es,vs,fp,hk,q=>by
  obtain⟨y,ys,e,v,a,b,e1,e2,r1,r2⟩:=q;subst e2;exact⟨y,ys,e,v,a,b,e1,rfl,RepO.step h (fun p hp=>hk p (R9 _ hp)) r1,RepE.step h (fun p hp=>hk p (RX _ hp)) r2⟩
theorem RepE.live:∀{es:Env}{vs:List (Option V)}{fp:List Addr},RepE K G H es vs fp->∀p∈fp,∃u,H p=some u
 |[],_,_,r=>by
  rw[r.2];intro p hp;cases hp
 |none::es,vs,fp,r=>by
  obtain⟨y,ys,e,r⟩:=r;exact RepE.live r
 |some r::es,vs,fp,q=>by
  obtain⟨y,ys,e,v,a,b,e1,e2,r1,r2⟩:=q;subst e2;intro z hz;rcases Ss.mp hz with hz|hz
  ·exact r1.live z hz
  ·exact RepE.live r2 z hz
theorem RepE.mut:∀{es:Env}{vs:List (Option V)}{fp:List Addr},RepE K G H es vs fp->∀p∈fp,∃u,H p=some u/\isM u=true
 |[],_,_,r=>by
  rw[r.2];intro p hp;cases hp
 |none::es,vs,fp,r=>by
  obtain⟨y,ys,e,r⟩:=r;exact RepE.mut r
 |some r::es,vs,fp,q=>by
  obtain⟨y,ys,e,v,a,b,e1,e2,r1,r2⟩:=q;subst e2;intro z hz;rcases Ss.mp hz with hz|hz
  ·exact r1.mut z hz
  ·exact RepE.mut r2 z hz
theorem RepE.length:∀{es:Env}{vs:List (Option V)}{fp:List Addr},RepE K G H es vs fp->vs.length=es.length
 |[],_,_,r=>by rw[r.1];rfl
 |none::es,vs,fp,r=>by
  obtain⟨y,ys,e,r⟩:=r;rw[e,R6,R6,RepE.length r]
 |some r::es,vs,fp,q=>by
  obtain⟨y,ys,e,v,a,b,e1,e2,r1,r2⟩:=q;rw[e,R6,R6,RepE.length r2]
theorem RepE.take:∀{es:Env}{vs:List (Option V)}{fp:List Addr}{i:Nat}{r:R},RepE K G H es vs fp->es[i]?=some (some r)->
  ∃v a b,vs[i]?=some (some v)/\RepO K G H r.1 r.2 v a/\RepE K G H (es.set i none) vs b/\fp.Perm (a++b)
 |[],_,_,_,_,_,e=>by simp at e
 |none::es,vs,fp,0,r,q,e=>by simp at e
 |some r'::es,vs,fp,0,r,q,e=>by
  obtain⟨y,ys,e0,v,a,b,e1,e2,r1,r2⟩:=q;simp at e;subst e;subst e0;subst e1;exact⟨v,a,b,rfl,r1,⟨some v,ys,rfl,r2⟩,by rw[e2]⟩
 |none::es,vs,fp,i+1,r,q,e=>by
  obtain⟨y,ys,e0,q⟩:=q;obtain⟨v,a,b,g1,g2,g3,g4⟩:=RepE.take q (i:=i) (r:=r) (by simpa using e);subst e0;exact⟨v,a,b,by simpa using g1,g2,⟨y,ys,rfl,g3⟩,g4⟩
 |some r'::es,vs,fp,i+1,r,q,e=>by
  obtain⟨y,ys,e0,v',a',b',e1,e2,r1,r2⟩:=q;obtain⟨v,a,b,g1,g2,g3,g4⟩:=RepE.take r2 (i:=i) (r:=r) (by simpa using e);subst e0;refine⟨v,a,a'++b,by simpa using g1,g2,⟨y,ys,rfl,v',a',b,e1,rfl,r1,g3⟩,?_⟩;rw[e2];refine(WK a' g4).trans ?_;rw[<-R7,<-R7];exact Wx b WL
theorem RepE.put:∀{es:Env}{vs:List (Option V)}{b:List Addr}{i:Nat}{r:R}{v:V}{a:List Addr},RepE K G H es vs b->es[i]?=some none->RepO K G H r.1 r.2 v a->
  ∃fp,RepE K G H (es.set i (some r)) (vs.set i (some v)) fp/\fp.Perm (a++b)
 |[],_,_,_,_,_,_,_,e,_=>by simp at e
 |none::es,vs,b,0,r,v,a,q,e,ro=>by
  obtain⟨y,ys,e0,q⟩:=q;subst e0;exact⟨a++b,⟨some v,ys,rfl,v,a,b,rfl,rfl,ro,q⟩,.refl _⟩
 |some r'::es,vs,b,0,r,v,a,q,e,ro=>by simp at e
 |none::es,vs,b,i+1,r,v,a,q,e,ro=>by
  obtain⟨y,ys,e0,q⟩:=q;obtain⟨fp,g1,g2⟩:=RepE.put q (i:=i) (r:=r) (by simpa using e) ro;subst e0;exact⟨fp,⟨y,_,rfl,g1⟩,g2⟩
 |some r'::es,vs,b,i+1,r,v,a,q,e,ro=>by
  obtain⟨y,ys,e0,v',a',b',e1,e2,r1,r2⟩:=q;obtain⟨fp,g1,g2⟩:=RepE.put r2 (i:=i) (r:=r) (by simpa using e) ro;subst e0;refine⟨a'++fp,⟨y,_,rfl,v',a',fp,e1,rfl,r1,g1⟩,?_⟩;rw[e2];refine(WK a' g2).trans ?_;rw[<-R7,<-R7];exact Wx b' WL
structure Rel(K:W.Frag)(G H:Hp)(es:Env)(vs:List (Option V))(fp:List Addr):Prop where
 rep:RepE K G H es vs fp
 nd:fp.Nodup
 gn:∀p∈fp,G p=none
 gh:Same G H
structure Step(G H:Hp)(fp:List Addr)(G' H':Hp)(F9:List Addr):Prop where
 gg:Same G G'
 keep:∀q u,H q=some u->q∉fp->H' q=some u
 fpn:∀q∈F9,q∈fp\/H q=none
 gnew:∀q u,G' q=some u->G q=some u\/q∈fp\/H q=none\/ND u=true/\H q=some u
 there:∀q u,H q=some u->∃u',H' q=some u'
theorem Step.refl{fp:List Addr}:Step G H fp G H fp:=⟨.refl _,fun _ _ h _=>h,fun _ h=>.inl h,fun _ _ h=>.inl h,fun _ u h=>⟨u,h⟩⟩
theorem Step.trans{G1 H1 G2 H2:Hp}{fp Gn GS:List Addr}(a:Step G H fp G1 H1 Gn)(b:Step G1 H1 Gn G2 H2 GS):Step G H fp G2 H2 GS:=by
 refine⟨a.gg.trans b.gg,fun q u h n=>?_,fun q hq=>?_,fun q u hq=>?_,fun q u h=>?_⟩
 ·refine b.keep q u (a.keep q u h n) fun hq=>?_
  rcases a.fpn q hq with z|z
  ·exact n z
  ·rw[z]at h;cases h
 ·rcases b.fpn q hq with z|z
  ·exact a.fpn q z
  ·cases e:H q with
   |none=>exact .inr rfl
   |some u=>
    obtain⟨u',e'⟩:=a.there q u e;rw[z]at e';cases e'
 ·rcases b.gnew q u hq with z|z|z|⟨t,z⟩
  ·exact a.gnew q u z
  ·exact .inr ((a.fpn q z).imp_right .inl)
  ·cases e:H q with
   |none=>exact .inr (.inr (.inl rfl))
   |some u=>
    obtain⟨u',e'⟩:=a.there q u e;rw[z]at e';cases e'
  ·cases e:H q with
   |none=>exact .inr (.inr (.inl rfl))
   |some u2=>
    by_cases hf:q∈fp
    ·exact .inr (.inl hf)
    ·rw[a.keep q u2 e hf]at z;cases z;exact .inr (.inr (.inr ⟨t,rfl⟩))
 ·obtain⟨u',h'⟩:=a.there q u h;exact b.there q u' h'
theorem Step.wide{fp fq F9 Rp:List Addr}(a:Step G H fp G' H' F9)(h:∀q∈fp,q∈fq)(h':∀q∈Rp,q∈F9\/q∈fq):Step G H fq G' H' Rp:=
 ⟨a.gg,fun q u e n=>a.keep q u e fun z=>n (h q z),fun q hq=>(h' q hq).elim (fun z=>(a.fpn q z).imp_left (h q)) .inl,fun q u e=>(a.gnew q u e).imp_right (Or.imp_left (h q)),a.there⟩
theorem Rel.perm{es:Env}{vs:List (Option V)}{fp fq:List Addr}(r:RepE K G H es vs fq)(nd:fp.Nodup)(gn:∀p∈fp,G p=none)(gh:Same G H)(h:fp.Perm fq):Rel K G H es vs fq:=
 ⟨r,h.nodup_iff.mp nd,fun p hp=>gn p (h.mem_iff.mpr hp),gh⟩
theorem Rel.frame{r:R}{v:V}{es:Env}{vs:List (Option V)}{fp:List Addr}(q:Rel K G H (some r::es) (some v::vs) fp):
  ∃a b,fp=a++b/\RepO K G H r.1 r.2 v a/\Rel K G H es vs b/\∀(G' H':Hp) (Jc:Env) (Oi:List (Option V)) (b':List Addr),Step G H b G' H' b'->Rel K G' H' Jc Oi b'->
   Rel K G' H' (some r::Jc) (some v::Oi) (a++b')/\Step G H (a++b) G' H' (a++b'):=by
 obtain⟨y,ys,e,v',a,b,e1,e2,r1,r2⟩:=q.rep;cases e;cases e1;subst e2;have nd:=S2.mp q.nd;refine⟨a,b,rfl,r1,⟨r2,nd.2.1,fun p hp=>q.gn p (RX _ hp),q.gh⟩,fun G' H' Jc Oi b' st k=>?_⟩;have nb:∀p∈a,p∉b:=fun p hp hb=>nd.2.2 p hp p hb rfl
 have same:∀p∈a,H' p=H p:=fun p hp=>by
  obtain⟨u,hu⟩:=r1.live p hp;rw[hu];exact st.keep p u hu (nb p hp)
 refine⟨⟨⟨some v,Oi,rfl,v,a,b',rfl,rfl,r1.step st.gg same,k.rep⟩,?_,fun p hp=>?_,k.gh⟩,st.wide (fun p hp=>RX _ hp) fun p hp=>?_⟩
 ·rw[S2];refine⟨nd.1,k.nd,fun p hp z hz e=>?_⟩;subst e;obtain⟨u,hu⟩:=r1.live p hp;rcases st.fpn p hz with z|z
  ·exact nb p hp z
  ·rw[z]at hu;cases hu
 ·rcases Ss.mp hp with hp|hp
  ·cases e:G' p with
   |none=>rfl
   |some u=>
    exfalso;obtain⟨u',hu⟩:=r1.live p hp;rcases st.gnew p u e with z|z|z|⟨t,z⟩
    ·rw[q.gn p (R9 _ hp)]at z;cases z
    ·exact nb p hp z
    ·rw[z]at hu;cases hu
    ·obtain⟨u2,h2,hm⟩:=r1.mut p hp;rw[z]at h2;cases h2;cases u with
     |tup _=>cases hm
     |frz _ _=>cases hm
     |_=>cases t
  ·exact k.gn p hp
 ·rcases Ss.mp hp with hp|hp
  ·exact .inr (R9 _ hp)
  ·exact .inl hp
theorem Rel.freeze{r:R}{v:V}{es:Env}{vs:List (Option V)}{fp:List Addr}(q:Rel K G H (some r::es) (some v::vs) fp):
  ∃G' b,Rep K G' r.2 v/\Rel K G' H es vs b/\Step G H fp G' H b:=by
 obtain⟨y,ys,e,v',a,b,e1,e2,r1,r2⟩:=q.rep;cases e;cases e1;subst e2;have nd:=S2.mp q.nd;have nb:∀p∈a,p∉b:=fun p hp hb=>nd.2.2 p hp p hb rfl
 have hg:Same G (fun p=>if p∈a then H p else G p):=fun p u e=>by
  show(if p∈a then H p else G p)=some u;by_cases hp:p∈a
  ·rw[Sa hp];exact q.gh p u e
  ·rw[Sf hp];exact e
 refine⟨fun p=>if p∈a then H p else G p,b,r1.frozen hg fun p hp u e=>?_,⟨r2.step hg fun _ _=>rfl,nd.2.1,fun p hp=>?_,fun p u e=>?_⟩,⟨hg,fun _ _ e _=>e,fun p hp=>.inl (RX _ hp),fun p u e=>?_,fun _ u e=>⟨u,e⟩⟩⟩
 ·show(if p∈a then H p else G p)=some u;rw[Sa hp];exact e
 ·show(if p∈a then H p else G p)=none;rw[Sf (fun z=>nb p z hp)];exact q.gn p (RX _ hp)
 ·have e:(if p∈a then H p else G p)=some u:=e;by_cases hp:p∈a
  ·rw[Sa hp]at e;exact e
  ·rw[Sf hp]at e;exact q.gh p u e
 ·have e:(if p∈a then H p else G p)=some u:=e;by_cases hp:p∈a
  ·exact .inr (.inl (R9 _ hp))
  ·rw[Sf hp]at e;exact .inl e
end
section
variable{K:W.Frag}{G G' H H':Hp}{es:Env}{vs:List (Option V)}{fp:List Addr}
theorem qr:∀{ds:List D}{xs:List V}{fp:List Addr},AllO (RepO K G H .f) ds xs fp<->Reps K G ds xs/\fp=[]
 |[],xs,fp=>by simp only[AllO,Reps]
 |d::ds,xs,fp=>by
  simp only[AllO,Reps,RepO];constructor
  ·rintro⟨y,ys,a,b,e1,e2,⟨r,e3⟩,q⟩;obtain⟨q1,q2⟩:=qr.mp q;subst e3;subst q2;exact⟨⟨y,ys,e1,r,q1⟩,e2⟩
  ·rintro⟨⟨y,ys,e1,r,q1⟩,e⟩;exact⟨y,ys,[],[],e1,e,⟨r,rfl⟩,qr.mpr ⟨q1,rfl⟩⟩
theorem fH{d:D}{v:V}{a:List Addr}:RepO K G H .f d v a<->Rep K G d v/\a=[]:=by simp only[RepO]
theorem fI{ds:List D}{v:V}{a:List Addr}:RepO K G H (.l .f) (.lst ds) v a<->∃p xs,v=.ref p/\H p=some (.lst xs)/\a=[p]/\Reps K G ds xs:=by
 rw[RepO];constructor
 ·rintro⟨p,xs,b,e,q,e2,r⟩;obtain⟨r',eb⟩:=qr.mp r;subst eb;exact⟨p,xs,e,q,e2,r'⟩
 ·rintro⟨p,xs,e,q,e2,r⟩;exact⟨p,xs,[],e,q,e2,qr.mpr ⟨r,rfl⟩⟩
theorem Reps.length:∀{ds:List D}{xs:List V},Reps K G ds xs->xs.length=ds.length
 |[],xs,r=>by simp only[Reps]at r;rw[r];rfl
 |d::ds,xs,r=>by
  simp only[Reps]at r;obtain⟨y,ys,e,_,q⟩:=r;rw[e,R6,R6,Reps.length q]
theorem Reps.get:∀{ds:List D}{xs:List V}{i:Nat}{d:D},Reps K G ds xs->ds[i]?=some d->∃v,xs[i]?=some v/\Rep K G d v
 |[],_,_,_,_,e=>by simp at e
 |d'::ds,xs,0,d,r,e=>by
  simp only[Reps]at r;obtain⟨y,ys,e1,q,_⟩:=r;simp at e;subst e;exact⟨y,by rw[e1];rfl,q⟩
 |d'::ds,xs,i+1,d,r,e=>by
  simp only[Reps]at r;obtain⟨y,ys,e1,_,q⟩:=r;obtain⟨v,a,b⟩:=Reps.get q (i:=i) (d:=d) (by simpa using e);exact⟨v,by rw[e1];simpa using a,b⟩
theorem Reps.app:∀{ds es:List D}{xs ys:List V},Reps K G ds xs->Reps K G es ys->Reps K G (ds++es) (xs++ys)
 |[],_,_,_,r,q=>by simp only[Reps]at r;rw[r];exact q
 |d::ds,es,xs,ys,r,q=>by
  simp only[Reps]at r;obtain⟨z,zs,e,r1,r2⟩:=r;rw[e];simp only[T5,Reps];exact⟨z,_,rfl,r1,r2.app q⟩
theorem Reps.one{d:D}{v:V}(r:Rep K G d v):Reps K G [d] [v]:=by
 simp only[Reps];exact⟨v,[],rfl,r,rfl⟩
theorem Reps.nil:Reps K G [] []:=by simp only[Reps]
theorem Reps.cons{d:D}{v:V}{ds:List D}{xs:List V}(r:Rep K G d v)(q:Reps K G ds xs):Reps K G (d::ds) (v::xs):=by
 simp only[Reps];exact⟨v,xs,rfl,r,q⟩
theorem Reps.cons_iff{d:D}{v:V}{ds:List D}{xs:List V}:Reps K G (d::ds) (v::xs)<->Rep K G d v/\Reps K G ds xs:=by
 simp only[Reps];constructor
 ·rintro⟨y,ys,e,r,q⟩;cases e;exact⟨r,q⟩
 ·rintro⟨r,q⟩;exact⟨v,xs,rfl,r,q⟩
theorem Reps.take:∀{ds:List D}{xs:List V}(n:Nat),Reps K G ds xs->Reps K G (ds.take n) (xs.take n)
 |_,_,0,_=>by rw[Vg,Vg];exact Reps.nil
 |[],xs,n+1,r=>by simp only[Reps]at r;rw[r];exact Reps.nil
 |d::ds,xs,n+1,r=>by
  simp only[Reps]at r;obtain⟨y,ys,e,r1,r2⟩:=r;rw[e,WZ,WZ];exact .cons r1 (r2.take n)
theorem Reps.drop:∀{ds:List D}{xs:List V}(n:Nat),Reps K G ds xs->Reps K G (ds.drop n) (xs.drop n)
 |_,_,0,r=>r
 |[],xs,n+1,r=>by simp only[Reps]at r;rw[r];exact Reps.nil
 |d::ds,xs,n+1,r=>by
  simp only[Reps]at r;obtain⟨y,ys,e,r1,r2⟩:=r;rw[e,W0,W0];exact r2.drop n
theorem Step.cut{fq:List Addr}(h:∀q∈fq,q∈fp):Step G H fp G H fq:=⟨.refl _,fun _ _ e _=>e,fun q hq=>.inl (h q hq),fun _ _ e=>.inl e,fun _ u e=>⟨u,e⟩⟩
theorem Rel.drop{r:R}{y:Option V}(q:Rel K G H (some r::es) (y::vs) fp):∃b,Rel K G H es vs b/\Step G H fp G H b:=by
 obtain⟨y,ys,e,v',a,b,e1,e2,r1,r2⟩:=q.rep;cases e;cases e1;subst e2;have nd:=S2.mp q.nd;exact⟨b,⟨r2,nd.2.1,fun p hp=>q.gn p (RX _ hp),q.gh⟩,Step.cut fun p hp=>RX _ hp⟩
theorem Rel.top{r:R}{v:V}(q:Rel K G H (some r::es) (some v::vs) fp):Rep K H r.2 v:=by
 obtain⟨y,ys,e,v',a,b,e1,e2,r1,r2⟩:=q.rep;cases e;cases e1;exact r1.frozen q.gh fun p hp u e=>e
theorem Rel.out{i:Nat}{r:R}(q:Rel K G H es vs fp)(e:es[i]?=some (some r)):∃v fq,vs[i]?=some (some v)/\Rel K G H (some r::es.set i none) (some v::vs) fq/\Step G H fp G H fq/\Step G H fq G H fp:=by
 obtain⟨v,a,b,e1,r1,r2,pm⟩:=q.rep.take e;exact⟨v,a++b,e1,Rel.perm ⟨some v,vs,rfl,v,a,b,rfl,rfl,r1,r2⟩ q.nd q.gn q.gh pm,Step.cut fun p hp=>pm.mem_iff.mpr hp,Step.cut fun p hp=>pm.mem_iff.mp hp⟩
theorem Rel.view{i:Nat}{r:R}(q:Rel K G H es vs fp)(e:es[i]?=some (some r)):∃v,vs[i]?=some (some v)/\Rep K H r.2 v:=by
 obtain⟨v,fq,e1,r1,_⟩:=q.out e;exact⟨v,e1,r1.top⟩
theorem mv{α:Type}{l:List α}{i:Nat}{x:α}(h:l[i]?=some x):l.set i x=l:=by
 apply Vd;intro j;by_cases e:i=j
 ·subst e;rw[UG (Se.mp h).1,h]
 ·rw[Vt e]
theorem Rel.store{i:Nat}{r:R}{v:V}(q:Rel K G H (some r::es) (some v::vs) fp)(hi:i<es.length):∃fq,Rel K G H (es.set i (some r)) (vs.set i (some v)) fq/\Step G H fp G H fq:=by
 obtain⟨y,ys,e,v',a,b,e1,e2,r1,r2⟩:=q.rep;cases e;cases e1;subst e2;obtain⟨c,hc⟩:∃c,es[i]?=some c:=⟨_,RP hi⟩
 have nd:=S2.mp q.nd;have key:∃b',RepE K G H (es.set i none) vs b'/\(∀p∈b',p∈b)/\b'.Nodup:=by
  cases c with
  |none=>exact⟨b,by rw[mv hc];exact r2,fun _ h=>h,nd.2.1⟩
  |some r'=>
   obtain⟨v2,a2,b2,_,_,g,pm⟩:=r2.take hc;refine⟨b2,g,fun p hp=>pm.mem_iff.mpr (RX _ hp),?_⟩;exact(S2.mp (pm.nodup_iff.mp nd.2.1)).2.1
 obtain⟨b',g,sub,ndb⟩:=key;obtain⟨fq,g2,pm⟩:=g.put (i:=i) (r:=r) (v:=v) (by rw[UG hi]) r1;rw[U4]at g2;have HE:(a++b').Nodup:=by
  rw[S2];exact⟨nd.1,ndb,fun p hp z hz=>nd.2.2 p hp z (sub z hz)⟩
 refine⟨fq,Rel.perm g2 HE (fun p hp=>?_) q.gh pm.symm,Step.cut fun p hp=>?_⟩
 ·refine q.gn p ?_;rcases Ss.mp hp with hp|hp
  ·exact R9 _ hp
  ·exact RX _ (sub p hp)
 ·rcases Ss.mp (pm.mem_iff.mp hp) with hp|hp
  ·exact R9 _ hp
  ·exact RX _ (sub p hp)
theorem Rel.back{i:Nat}{r:R}{v:V}(q:Rel K G H (some r::es) (some v::vs) fp)(hi:i<es.length)(hv:vs[i]?=some (some v)):∃fq,Rel K G H (es.set i (some r)) vs fq/\Step G H fp G H fq:=by
 obtain⟨fq,g,st⟩:=q.store hi;rw[mv hv]at g;exact⟨fq,g,st⟩
theorem Rel.freezeAt{i:Nat}{r:R}(q:Rel K G H es vs fp)(e:es[i]?=some (some r)):∃v G' fq,vs[i]?=some (some v)/\Rep K G' r.2 v/\Rel K G' H (es.set i (some (.f,r.2))) vs fq/\Step G H fp G' H fq:=by
 obtain⟨v,fq,ev,g,st,_⟩:=q.out e;obtain⟨G',b,rv,g2,F8⟩:=g.freeze;have g3:Rel K G' H (some (.f,r.2)::es.set i none) (some v::vs) b:=by
  refine⟨⟨some v,vs,rfl,v,[],b,rfl,rfl,?_,g2.rep⟩,g2.nd,g2.gn,g2.gh⟩;exact fH.mpr ⟨rv,rfl⟩
 obtain⟨fz,g4,Io⟩:=g3.back (i:=i) (by rw[UP];exact(Se.mp e).1) ev;rw[U4]at g4;exact⟨v,G',fz,ev,rv,g4,st.trans (F8.trans Io)⟩
theorem Rel.push{d:D}{v:V}(q:Rel K G H es vs fp)(r:Rep K G d v):Rel K G H (some (.f,d)::es) (some v::vs) fp:=by
 refine⟨⟨some v,vs,rfl,v,[],fp,rfl,rfl,?_,q.rep⟩,q.nd,q.gn,q.gh⟩;exact fH.mpr ⟨r,rfl⟩
theorem Rel.newF{p:Addr}{u:HO}(q:Rel K G H es vs fp)(hp:H p=none):Rel K (upd G p u) (upd H p u) es vs fp/\Step G H fp (upd G p u) (upd H p u) fp:=by
 have gp:G p=none:=by
  cases e:G p with
  |none=>rfl
  |some o=>rw[q.gh p o e]at hp;cases hp
 have np:p∉fp:=fun z=>by
  obtain⟨u,e⟩:=q.rep.live p z;rw[hp]at e;cases e
 have sg:Same G (upd G p u):=fun b o e=>by rw[az (aH e gp)];exact e
 have sh:Same H (upd H p u):=fun b o e=>by rw[az (aH e hp)];exact e
 refine⟨⟨q.rep.step sg fun z hz=>az fun e=>np (e▸hz),q.nd,fun z hz=>?_,fun b o e=>?_⟩,⟨sg,fun b o e _=>sh b o e,fun _ h=>.inl h,fun b o e=>?_,fun b o e=>⟨o,sh b o e⟩⟩⟩
 ·have:z≠p:=fun e=>np (e▸hz)
  rw[az this];exact q.gn z hz
 ·by_cases hb:b=p
  ·subst hb;rw[aW]at e ⊢;exact e
  ·rw[az hb]at e ⊢;exact q.gh b o e
 ·by_cases hb:b=p
  ·subst hb;exact .inr (.inr (.inl hp))
  ·rw[az hb]at e;exact .inl e
theorem Rel.newL{p:Addr}{ds:List D}{xs:List V}(q:Rel K G H es vs fp)(hp:H p=none)(r:Reps K G ds xs):
  Rel K G (upd H p (.lst xs)) (some (.l .f,.lst ds)::es) (some (.ref p)::vs) (p::fp)/\Step G H fp G (upd H p (.lst xs)) (p::fp):=by
 have gp:G p=none:=by
  cases e:G p with
  |none=>rfl
  |some o=>rw[q.gh p o e]at hp;cases hp
 have np:p∉fp:=fun z=>by
  obtain⟨u,e⟩:=q.rep.live p z;rw[hp]at e;cases e
 have sh:Same H (upd H p (.lst xs)):=fun b o e=>by rw[az (aH e hp)];exact e
 refine⟨⟨⟨some (.ref p),vs,rfl,.ref p,[p],fp,rfl,rfl,fI.mpr ⟨p,xs,rfl,aW,rfl,r⟩,q.rep.step (.refl _) fun z hz=>az fun e=>np (e▸hz)⟩,Sv.mpr ⟨np,q.nd⟩,fun z hz=>?_,fun b o e=>?_⟩,
  ⟨.refl _,fun b o e _=>sh b o e,fun b hb=>?_,fun b o e=>.inl e,fun b o e=>⟨o,sh b o e⟩⟩⟩
 ·rcases RV.mp hz with rfl|hz
  ·exact gp
  ·exact q.gn z hz
 ·exact sh b o (q.gh b o e)
 ·rcases RV.mp hb with rfl|hb
  ·exact .inr hp
  ·exact .inl hb
theorem Rel.chg{i:Nat}{ds ds':List D}(q:Rel K G H es vs fp)(e:es[i]?=some (some (.l .f,.lst ds))):∃p xs,vs[i]?=some (some (.ref p))/\H p=some (.lst xs)/\Reps K G ds xs/\
  ∀Hz,Reps K G ds' Hz->∃fq,Rel K G (upd H p (.lst Hz)) (es.set i (some (.l .f,.lst ds'))) vs fq/\Step G H fp G (upd H p (.lst Hz)) fq:=by
 obtain⟨v,fq,ev,g,st,Im⟩:=q.out e;obtain⟨y,ys,e0,v',a,b,e1,e2,r1,r2⟩:=g.rep;cases e0;cases e1;obtain⟨p,xs,e3,hp,e4,rs⟩:=fI.mp r1;subst e3;subst e4;subst e2;have nd:=Sv.mp (show(p::b).Nodup from g.nd);refine⟨p,xs,ev,hp,rs,fun Hz HX=>?_⟩;have g2:Rel K G (upd H p (.lst Hz)) (some (.l .f,.lst ds')::es.set i none) (some (.ref p)::vs) (p::b):=by
  refine⟨⟨some (.ref p),vs,rfl,.ref p,[p],b,rfl,rfl,fI.mpr ⟨p,Hz,rfl,aW,rfl,HX⟩,r2.step (.refl _) fun z hz=>az fun e=>nd.1 (e▸hz)⟩,g.nd,g.gn,fun z o ez=>?_⟩;have:z≠p:=fun w=>by
   subst w;rw[g.gn z RQ]at ez;cases ez
  rw[az this];exact g.gh z o ez
 have MV:Step G H (p::b) G (upd H p (.lst Hz)) (p::b):=by
  refine⟨.refl _,fun z o ez nz=>?_,fun z hz=>.inl hz,fun z o ez=>.inl ez,fun z o ez=>?_⟩
  ·have:z≠p:=fun w=>nz (by rw[w];exact RQ)
   rw[az this];exact ez
  ·by_cases w:z=p
   ·subst w;exact⟨_,aW⟩
   ·exact⟨o,by rw[az w];exact ez⟩
 obtain⟨fz,g3,GA⟩:=g2.back (i:=i) (by rw[UP];exact(Se.mp e).1) ev;rw[U4]at g3;exact⟨fz,g3,st.trans (MV.trans GA)⟩
end
mutual
noncomputable def dw:D->Bool
 | .tup ds=>flatDs ds
 | .lst _=>false
 | .dct _ _ _=>false
 |_=>true
noncomputable def flatDs:List D->Bool
 |[]=>true
 |d::ds=>dw d&&flatDs ds
end
mutual
noncomputable def cj:O->D->Bool
 | .f,d=>dw d
 | .l c,.lst ds=>ds.all (cj c)
 | .t cs,.tup ds=>j4 cs ds
 | .d,.dct _ _ vs=>flatDs vs
 | .pin _ c,d=>cj c d
 |_,_=>false
noncomputable def j4:List O->List D->Bool
 |[],[]=>true
 |c::cs,d::ds=>cj c d&&j4 cs ds
 |_,_=>false
end
def frz:Option R->Option R:=Option.map fun r=>(.f,r.2)
theorem dn:∀ds,flatDs ds=ds.all dw
 |[]=>rfl
 |d::ds=>by rw[flatDs,Vz,dn ds]
section
variable{K:W.Frag}{G G' G2 G3 H H' H2:Hp}{es:Env}{vs:List (Option V)}{fp:List Addr}
mutual
theorem Rep.flat(h:∀p u,ND u=true->G2 p=some u->G3 p=some u):∀{d:D}{v:V},dw d=true->Rep K G2 d v->Rep K G3 d v
 | .non,_,_,r=>by simpa only[Rep] using r
 | .bl _,_,_,r=>by simpa only[Rep] using r
 | .int _,_,_,r=>by simpa only[Rep] using r
 | .str _,_,_,r=>by simpa only[Rep] using r
 | .tup ds,_,e,r=>by
  simp only[Rep]at r ⊢;simp only[dw]at e;obtain⟨p,xs,ev,q,rs⟩:=r;exact⟨p,xs,ev,h _ _ rfl q,Reps.flat h e rs⟩
 | .lst ds,_,e,r=>by simp only[dw]at e;cases e
 | .dct _ _ _,_,e,r=>by simp only[dw]at e;cases e
theorem Reps.flat(h:∀p u,ND u=true->G2 p=some u->G3 p=some u):∀{ds:List D}{xs:List V},flatDs ds=true->Reps K G2 ds xs->Reps K G3 ds xs
 |[],_,_,r=>by simpa only[Reps] using r
 |d::ds,_,e,r=>by
  simp only[Reps]at r ⊢;simp only[flatDs,Si]at e;obtain⟨y,ys,ev,r1,r2⟩:=r;exact⟨y,ys,ev,Rep.flat h e.1 r1,Reps.flat h e.2 r2⟩
end
theorem AllO.clean{P P':D->V->List Addr->Prop}{c:D->Bool}:∀{ds:List D}{xs:List V}{fp:List Addr},(∀d v a,c d=true->P d v a->P' d v a)->ds.all c=true->AllO P ds xs fp->AllO P' ds xs fp
 |[],_,_,_,_,r=>r
 |d::ds,xs,fp,h,e,r=>by
  obtain⟨y,ys,a,b,e1,e2,p,q⟩:=r;rw[Vz,Si]at e;exact⟨y,ys,a,b,e1,e2,h _ _ _ e.1 p,AllO.clean h e.2 q⟩
mutual
theorem RepO.clean(h:∀p u,ND u=true->G2 p=some u->G3 p=some u):∀{o:O}{d:D}{v:V}{fp:List Addr},cj o d=true->RepO K G2 H o d v fp->RepO K G3 H o d v fp
 | .f,d,v,fp,e,r=>by
  simp only[RepO]at r ⊢;simp only[cj]at e;exact⟨r.1.flat h e,r.2⟩
 | .pin p c,d,v,fp,e,r=>by
  simp only[RepO]at r ⊢;simp only[cj]at e;exact⟨r.1,RepO.clean h e r.2⟩
 | .l c,.lst ds,v,fp,e,r=>by
  rw[RepO]at r ⊢;rw[cj]at e;obtain⟨p,xs,F9,ev,q,e2,a⟩:=r;exact⟨p,xs,F9,ev,q,e2,AllO.clean (fun d v a=>RepO.clean h) e a⟩
 | .t cs,.tup ds,v,fp,e,r=>by
  rw[RepO]at r ⊢;rw[cj]at e;obtain⟨p,xs,ev,q,a⟩:=r;exact⟨p,xs,ev,h _ _ rfl q,RepT.clean h e a⟩
 | .d,.dct tk ks vs,v,fp,e,r=>by
  rw[RepO]at r ⊢;rw[cj]at e;obtain⟨p,xs,o,ev,q,dd,e2,rs⟩:=r;exact⟨p,xs,o,ev,q,dd,e2,rs.flat h e⟩
 | .l _,.non,_,_,_,r | .l _,.bl _,_,_,_,r | .l _,.int _,_,_,_,r | .l _,.str _,_,_,_,r | .l _,.tup _,_,_,_,r | .l _,.dct _ _ _,_,_,_,r=>by simp only[RepO]at r
 | .t _,.non,_,_,_,r | .t _,.bl _,_,_,_,r | .t _,.int _,_,_,_,r | .t _,.str _,_,_,_,r | .t _,.lst _,_,_,_,r | .t _,.dct _ _ _,_,_,_,r=>by simp only[RepO]at r
 | .d,.non,_,_,_,r | .d,.bl _,_,_,_,r | .d,.int _,_,_,_,r | .d,.str _,_,_,_,r | .d,.tup _,_,_,_,r | .d,.lst _,_,_,_,r=>by simp only[RepO]at r
theorem RepT.clean(h:∀p u,ND u=true->G2 p=some u->G3 p=some u):∀{cs:List O}{ds:List D}{xs:List V}{fp:List Addr},j4 cs ds=true->RepT K G2 H cs ds xs fp->RepT K G3 H cs ds xs fp
 |[],[],_,_,_,r=>by simpa only[RepT] using r
 |c::cs,d::ds,xs,fp,e,r=>by
  rw[RepT]at r ⊢;rw[j4,Si]at e;obtain⟨y,ys,a,b,e1,e2,r1,r2⟩:=r;exact⟨y,ys,a,b,e1,e2,RepO.clean h e.1 r1,RepT.clean h e.2 r2⟩
 |[],_::_,_,_,_,r=>by simp only[RepT]at r
 |_::_,[],_,_,_,r=>by simp only[RepT]at r
end
theorem RepE.frz(h:Same G G'):∀{es:Env}{vs:List (Option V)}{fp:List Addr},(∀p∈fp,∀u,H p=some u->G' p=some u)->RepE K G H es vs fp->RepE K G' H' (es.map PV.frz) vs []
 |[],_,_,_,r=>⟨r.1,rfl⟩
 |none::es,vs,fp,hk,r=>by
  obtain⟨y,ys,e,r⟩:=r;exact⟨y,ys,e,RepE.frz h hk r⟩
 |some r::es,vs,fp,hk,q=>by
  obtain⟨y,ys,e,v,a,b,e1,e2,r1,r2⟩:=q;subst e2;exact⟨y,ys,e,v,[],[],e1,rfl,fH.mpr ⟨r1.frozen h (fun p hp=>hk p (R9 _ hp)),rfl⟩,RepE.frz h (fun p hp=>hk p (RX _ hp)) r2⟩
theorem RepE.rep(h:Same G G'):∀{es:Env}{vs:List (Option V)}{fp:List Addr}{i:Nat}{r:R}{v:V},(∀p∈fp,∀u,H p=some u->G' p=some u)->RepE K G H es vs fp->es[i]?=some (some r)->vs[i]?=some (some v)->Rep K G' r.2 v:=fun{es vs fp i r v} hk q e ev=>by
 obtain⟨v',a,b,e1,r1,_,pm⟩:=q.take e;rw[ev]at e1;cases e1;exact r1.frozen h fun p hp=>hk p (pm.mem_iff.mpr (R9 _ hp))
theorem Rel.lend(q:Rel K G H es vs fp):∃G1,Same G G1/\Same G1 H/\(∀(i:Nat) (r:R) (v:V),es[i]?=some (some r)->vs[i]?=some (some v)->Rep K G1 r.2 v)/\
  RepE K G1 H (es.map PV.frz) vs []/\
  ∀(H2 G2:Hp) (GS:List Addr) (r:R) (v:V),Step G1 H [] G2 H2 GS->Rel K G2 H2 [some r] [some v] GS->
   (cj r.1 r.2=true->∃G3 IS,Step G H fp G3 H2 IS/\Rel K G3 H2 (some r::es) (some v::vs) IS)/\
   ∃G3 IS,Step G H fp G3 H2 IS/\Rel K G3 H2 (some r::es.map PV.frz) (some v::vs) IS:=by
 have hg:Same G (fun p=>if p∈fp then H p else G p):=fun p u e=>by
  show(if p∈fp then H p else G p)=some u;by_cases hp:p∈fp
  ·rw[Sa hp];exact q.gh p u e
  ·rw[Sf hp];exact e
 have hh:Same (fun p=>if p∈fp then H p else G p) H:=fun p u e=>by
  have e:(if p∈fp then H p else G p)=some u:=e;by_cases hp:p∈fp
  ·rw[Sa hp]at e;exact e
  ·rw[Sf hp]at e;exact q.gh p u e
 have hk:∀p∈fp,∀u,H p=some u->(fun p=>if p∈fp then H p else G p) p=some u:=fun p hp u e=>by
  show(if p∈fp then H p else G p)=some u;rw[Sa hp];exact e
 refine⟨fun p=>if p∈fp then H p else G p,hg,hh,fun i r v e ev=>q.rep.rep hg hk e ev,q.rep.frz hg hk,fun H2 G2 GS r v st k=>?_⟩;obtain⟨y,ys,e0,v',a,b,e1,e2,r1,r2⟩:=k.rep;cases e0;cases e1;obtain⟨_,e3⟩:=r2;subst e3;rw[Sg]at e2;subst e2;have fresh:∀p∈GS,H p=none:=fun p hp=>by
  rcases st.fpn p hp with z|z
  ·cases z
  ·exact z
 have kept:∀p∈fp,H2 p=H p:=fun p hp=>by
  obtain⟨u,hu⟩:=q.rep.live p hp;rw[hu];exact st.keep p u hu (by simp)
 refine⟨fun cl=>?_,⟨G2,GS,⟨hg.trans st.gg,fun p u e n=>st.keep p u e (by simp),fun p hp=>.inr (fresh p hp),fun p u e=>?_,st.there⟩,?_⟩⟩
 ·have apart:∀p∈GS,p∉fp:=fun p hp hf=>by
   obtain⟨u,hu⟩:=q.rep.live p hf;rw[fresh p hp]at hu;cases hu
  have g3:Same G (fun p=>if p∈fp then none else G2 p):=fun p u e=>by
   show(if p∈fp then none else G2 p)=some u;rw[Sf (fun z=>by rw[q.gn p z]at e;cases e)];exact st.gg p u (hg p u e)
  refine⟨fun p=>if p∈fp then none else G2 p,GS++fp,⟨g3,fun p u e n=>st.keep p u e (by simp),fun p hp=>?_,fun p u e=>?_,st.there⟩,⟨⟨some v,vs,rfl,v,GS,fp,rfl,rfl,r1.clean (fun p u t e=>?_) cl,q.rep.step g3 kept⟩,?_,fun p hp=>?_,fun p u e=>?_⟩⟩
  ·rcases Ss.mp hp with hp|hp
   ·exact .inr (fresh p hp)
   ·exact .inl hp
  ·have e:(if p∈fp then none else G2 p)=some u:=e;by_cases hp:p∈fp
   ·rw[Sa hp]at e;cases e
   ·rw[Sf hp]at e;rcases st.gnew p u e with z|z|z
    ·have z:(if p∈fp then H p else G p)=some u:=z;rw[Sf hp]at z;exact .inl z
    ·cases z
    ·exact .inr (.inr z)
  ·show(if p∈fp then none else G2 p)=some u;by_cases hp:p∈fp
   ·exfalso;obtain⟨u',hu,hm⟩:=q.rep.mut p hp;have:=st.gg p u' (hk p hp u' hu);rw[e]at this;cases this;cases u with
    |lst _=>cases t
    |dK _=>cases t
    |dT _=>cases t
    |_=>cases hm
   ·rw[Sf hp];exact e
  ·rw[S2];exact⟨k.nd,q.nd,fun p hp z hz e=>apart p hp (e▸hz)⟩
  ·show(if p∈fp then none else G2 p)=none;by_cases hf:p∈fp
   ·rw[Sa hf]
   ·rw[Sf hf];rcases Ss.mp hp with hp|hp
    ·exact k.gn p hp
    ·exact absurd hp hf
  ·have e:(if p∈fp then none else G2 p)=some u:=e;by_cases hp:p∈fp
   ·rw[Sa hp]at e;cases e
   ·rw[Sf hp]at e;exact k.gh p u e
 ·rcases st.gnew p u e with z|z|z
  ·have z:(if p∈fp then H p else G p)=some u:=z;by_cases hp:p∈fp
   ·exact .inr (.inl hp)
   ·rw[Sf hp]at z;exact .inl z
  ·cases z
  ·exact .inr (.inr z)
 ·refine⟨⟨some v,vs,rfl,v,GS,[],rfl,(Sg _).symm,r1,q.rep.frz (hg.trans st.gg) fun p hp u e=>st.gg p u (hk p hp u e)⟩,k.nd,k.gn,k.gh⟩
end
end PV
namespace PV
open PySem PySem.Spec PyProof.Rows L2 NX
def Res.bind{α β:Type}:Res α->(α->Res β)->Res β
 | .ok a,f=>f a
 | .exc c,_=>.exc c
 | .bad,_=>.bad
inductive BindOk{α β:Type}(x:Res α)(f:α->Res β)(b:β):Prop
 |mk (a:α) (h:x=.ok a) (k:f a=.ok b):BindOk x f b
theorem ai{α β:Type}{x:Res α}{f:α->Res β}{b:β}(h:x.bind f=.ok b):BindOk x f b:=by
 cases x with
 |ok a=>exact⟨a,rfl,h⟩
 |exc c=>cases h
 |bad=>cases h
inductive Opd where
 |val (d:D)|var (i:Nat)
def OpdOk(K:W.Frag)(G:Hp)(σ:L2.St):Opd->V->Prop
 | .val d,v=>Rep K G d v
 | .var i,v=>σ[i]?=some (some v)
theorem OpdOk.mono{K:W.Frag}{G G':Hp}{σ:L2.St}{o:Opd}{v:V}(h:Same G G')(r:OpdOk K G σ o v):OpdOk K G' σ o v:=by
 cases o with
 |val d=>exact Rep.mono h r
 |var i=>exact r
def qu(K:W.Frag)(G:Hp)(σ:L2.St):List Opd->List V->Prop
 |[],vs=>vs=[]
 |o::os,vs=>∃y ys,vs=y::ys/\OpdOk K G σ o y/\qu K G σ os ys
def zq:O->Bool
 | .f=>true
 | .l .f=>true
 | .d=>true
 | .pin _ .f=>true
 | .pin _ (.l .f)=>true
 | .pin _ .d=>true
 |_=>false
def der(env:PV.Env):Opd->Res D
 | .val d=>.ok d
 | .var i=>match env[i]? with
  |some (some r)=>if zq r.1 then .ok r.2 else .bad
  |_=>.bad
def rF(env:PV.Env):Opd->Res D
 | .val d=>.ok d
 | .var i=>match env[i]? with
  |some (some r)=>.ok r.2
  |_=>.bad
def qv(env:PV.Env):List Opd->Res (List D)
 |[]=>.ok []
 |o::os=>(der env o).bind fun d=>(qv env os).bind fun ds=>.ok (d::ds)
def og(env:PV.Env):List Opd->Res (List D)
 |[]=>.ok []
 |o::os=>(rF env o).bind fun d=>(og env os).bind fun ds=>.ok (d::ds)
def Vw(K:W.Frag)(G H:Hp):D->V->Prop
 | .lst ds,v=>∃p xs,v=.ref p/\SqL K H p xs/\Reps K G ds xs
 | .dct tk ks vs,v=>∃p xs o,v=.ref p/\Rd H p o/\DictO o tk ks xs/\Reps K G vs xs
 |d,v=>Rep K G d v
def NF(K:W.Frag)(G H:Hp):List D->List V->Prop
 |[],vs=>vs=[]
 |d::ds,vs=>∃y ys,vs=y::ys/\Vw K G H d y/\NF K G H ds ys
section
variable{K:W.Frag}{G G' H H':Hp}{es:PV.Env}{σ:L2.St}{fp:List Addr}
theorem Vw.of{d:D}{v:V}(gh:Same G H)(r:Rep K G d v):Vw K G H d v:=by
 cases d with
 |lst ds=>
  rw[Rep]at r;obtain⟨p,xs,e,q,rs⟩:=r;exact⟨p,xs,e,gD gh q,rs⟩
 |dct tk ks vs=>
  rw[Rep]at r;obtain⟨p,xs,o,e,q,dd,rs⟩:=r;exact⟨p,xs,o,e,PV.Rd.mono gh q,dd,rs⟩
 |_=>exact r
theorem RepO.vw0{o:O}{d:D}{v:V}{a:List Addr}(gh:Same G H)(hs:o=.f\/o=.l .f\/o=.d)(r:RepO K G H o d v a):Vw K G H d v:=by
 rcases hs with rfl|rfl|rfl
 ·exact Vw.of gh (fH.mp r).1
 ·cases d with
  |lst ds=>
   obtain⟨p,xs,e,q,_,rs⟩:=fI.mp r;exact⟨p,xs,e,SqL.of q,rs⟩
  |_=>simp only[RepO]at r
 ·cases d with
  |dct tk ks vs=>
   rw[RepO]at r;obtain⟨p,xs,o,e,q,dd,_,rs⟩:=r;exact⟨p,xs,o,e,.inl q,dd,rs⟩
  |_=>simp only[RepO]at r
theorem RepO.vw{o:O}{d:D}{v:V}{a:List Addr}(gh:Same G H)(hs:zq o=true)(r:RepO K G H o d v a):Vw K G H d v:=by
 unfold zq at hs;split at hs
 ·exact r.vw0 gh (.inl rfl)
 ·exact r.vw0 gh (.inr (.inl rfl))
 ·exact r.vw0 gh (.inr (.inr rfl))
 ·rw[RepO]at r;exact r.2.vw0 gh (.inl rfl)
 ·rw[RepO]at r;exact r.2.vw0 gh (.inr (.inl rfl))
 ·rw[RepO]at r;exact r.2.vw0 gh (.inr (.inr rfl))
 ·cases hs
theorem Rel.vw{o:Opd}{v:V}{d:D}(q:Rel K G H es σ fp)(k:OpdOk K G σ o v)(e:der es o=.ok d):Vw K G H d v:=by
 cases o with
 |val d'=>
  cases e;exact Vw.of q.gh k
 |var i=>
  unfold der at e;dsimp only at e;split at e
  ·rename_i r hr;split at e
   ·rename_i hs;cases e;obtain⟨v',a,b,ev,r1,_⟩:=q.rep.take hr;have k:σ[i]?=some (some v):=k;rw[k]at ev;cases ev;exact r1.vw q.gh hs
   ·cases e
  ·cases e
theorem Rel.vwA{o:Opd}{v:V}{d:D}(q:Rel K G H es σ fp)(k:OpdOk K G σ o v)(e:rF es o=.ok d):Rep K H d v:=by
 cases o with
 |val d'=>
  cases e;exact Rep.mono q.gh k
 |var i=>
  unfold rF at e;dsimp only at e;split at e
  ·rename_i r hr;cases e;obtain⟨v',ev,r1⟩:=q.view hr;have k:σ[i]?=some (some v):=k;rw[k]at ev;cases ev;exact r1
  ·cases e
theorem Rel.vws(q:Rel K G H es σ fp):∀{os:List Opd}{vs:List V}{ds:List D},qu K G σ os vs->qv es os=.ok ds->NF K G H ds vs
 |[],_,_,k,e=>by
  cases e;exact k
 |o::os,_,_,⟨y,ys,e0,k1,k2⟩,e=>by
  unfold qv at e;obtain⟨d,e1,e⟩:=ai e;obtain⟨ds,e2,e⟩:=ai e;cases e;exact⟨y,ys,e0,q.vw k1 e1,Rel.vws q k2 e2⟩
theorem oh{G1:Hp}(gg:Same G G1)(ht:∀(i:Nat) (r:R) (v:V),es[i]?=some (some r)->σ[i]?=some (some v)->Rep K G1 r.2 v):∀{os:List Opd}{vs:List V}{ds:List D},qu K G σ os vs->og es os=.ok ds->Reps K G1 ds vs
 |[],_,_,k,e=>by
  cases e;have k:_=_:=k;rw[k];exact Reps.nil
 |o::os,_,_,⟨y,ys,e0,k1,k2⟩,e=>by
  unfold og at e;obtain⟨d,e1,e⟩:=ai e;obtain⟨ds,e2,e⟩:=ai e;cases e;rw[e0];refine .cons ?_ (oh gg ht k2 e2);cases o with
  |val d'=>
   cases e1;exact Rep.mono gg k1
  |var i=>
   unfold rF at e1;dsimp only at e1;split at e1
   ·rename_i r hr;cases e1;exact ht i r y hr k1
   ·cases e1
end
abbrev FX:=PV.Env->Res (R×PV.Env)
abbrev FO:=PV.Env->Res (Opd×PV.Env)
abbrev FOs:=PV.Env->Res (List Opd×PV.Env)
abbrev FT:=PV.Env->Res (Bool×PV.Env)
inductive Out where
 |nx (env:PV.Env)|rt (r:R)|bk (env:PV.Env)|ct (env:PV.Env)
abbrev FS:=PV.Env->Res Out
inductive tQ(K:W.Frag)(f:FX)(σ:L2.St)(H:Hp)(Q:VK):Prop
 |mk:∀G env fp r env',Rel K G H env σ fp->f env=.ok (r,env')->(∀v H' G' F9,Step G H fp G' H' F9->Rel K G' H' (some r::env') (some v::σ) F9->Q v H')->tQ K f σ H Q
inductive tO(K:W.Frag)(f:FO)(σ:L2.St)(H:Hp)(Q:VK):Prop
 |mk:∀G env fp o env',Rel K G H env σ fp->f env=.ok (o,env')->(∀v H' G' F9,Step G H fp G' H' F9->Rel K G' H' env' σ F9->OpdOk K G' σ o v->Q v H')->tO K f σ H Q
inductive tOs(K:W.Frag)(f:FOs)(σ:L2.St)(H:Hp)(Q:List V->Hp->Prop):Prop
 |mk:∀G env fp o env',Rel K G H env σ fp->f env=.ok (o,env')->(∀v H' G' F9,Step G H fp G' H' F9->Rel K G' H' env' σ F9->qu K G' σ o v->Q v H')->tOs K f σ H Q
inductive tQT(K:W.Frag)(f:FT)(σ:L2.St)(H:Hp)(Q:Bool->Hp->Prop):Prop
 |mk:∀G env fp b env',Rel K G H env σ fp->f env=.ok (b,env')->(∀H' G' F9,Step G H fp G' H' F9->Rel K G' H' env' σ F9->Q b H')->tQT K f σ H Q
inductive Mode where
 |plain|mut
def Fv(md:Mode)(K:W.Frag)(G H:Hp)(r:R)(v:V)(fp:List Addr):Prop:=match md with
 | .plain=>Rel K G H [some r] [some v] fp
 | .mut=>∃o d p c d0,r=(.t [o,.pin p c],.tup [d,d0])/\Rel K G H [some (o,d),some (.pin p c,d0)] [some v,some (.ref p)] fp
noncomputable def OutOk{md:Mode}(K:W.Frag)(G H:Hp)(fp:List Addr)(Dd:Ends):Res Out->Prop
 | .ok (.nx env')=>∀σ' H' G' F9,Step G H fp G' H' F9->Rel K G' H' env' σ' F9->Dd.nx σ' H'
 | .ok (.bk env')=>∀σ' H' G' F9,Step G H fp G' H' F9->Rel K G' H' env' σ' F9->Dd.bk σ' H'
 | .ok (.ct env')=>∀σ' H' G' F9,Step G H fp G' H' F9->Rel K G' H' env' σ' F9->Dd.ct σ' H'
 | .ok (.rt r)=>∀v H' G' F9,Step G H fp G' H' F9->Fv md K G' H' r v F9->Dd.rt v H'
 |_=>False
inductive tQS{md:Mode}(K:W.Frag)(g:FS)(Dd:Ends)(σ:L2.St)(H:Hp):Prop
 |mk:∀G env fp,Rel K G H env σ fp->OutOk (md:=md) K G H fp Dd (g env)->tQS (md:=md) K g Dd σ H
def QE(X:Cx)(e:Expr)(f:FX):Prop:=PE X e (tQ X.K f)
def QO(X:Cx)(e:Expr)(f:FO):Prop:=PE X e (tO X.K f)
def KL(X:Cx)(es:List Expr)(f:FOs):Prop:=PA X es (tOs X.K f)
def QT(X:Cx)(e:Expr)(f:FT):Prop:=PT X e (tQT X.K f)
def QW(X:Cx)(e:Expr)(f:FT):Prop:=PW X e (tQT X.K f)
def QS{md:Mode}(X:Cx)(st:Stmt)(g:FS):Prop:=PS X st (tQS (md:=md) X.K g)
def Lv{md:Mode}(X:Cx)(st:List Stmt)(g:FS):Prop:=PSs X st (tQS (md:=md) X.K g)
theorem bo{X:Cx}{e:Expr}{t t':TE}(h:PE X e t)(k:∀σ H Q,t' σ H Q->t σ H Q):PE X e t':=fun pr s σ H Q I w=>h pr s σ H Q I (k σ H Q w)
theorem oi{X:Cx}{e:Expr}{t t':TT}(h:PT X e t)(k:∀σ H Q,t' σ H Q->t σ H Q):PT X e t':=fun pr s σ H Q I w=>h pr s σ H Q I (k σ H Q w)
theorem xQ{X:Cx}{e:Expr}{t t':TT}(h:PW X e t)(k:∀σ H Q,t' σ H Q->t σ H Q):PW X e t':=fun wh pr s σ H Q I w=>h wh pr s σ H Q I (k σ H Q w)
theorem qw{X:Cx}{e:List Expr}{t t':TA}(h:PA X e t)(k:∀σ H Q,t' σ H Q->t σ H Q):PA X e t':=fun pos pr s σ H Q I w=>h pos pr s σ H Q I (k σ H Q w)
theorem ij{X:Cx}{e:Stmt}{t t':TS}(h:PS X e t)(k:∀D σ H,t' D σ H->t D σ H):PS X e t':=fun pr s σ H D I w=>h pr s σ H D I (k D σ H w)
theorem uf{X:Cx}{e:List Stmt}{t t':TS}(h:PSs X e t)(k:∀D σ H,t' D σ H->t D σ H):PSs X e t':=fun pr s σ H D I w=>h pr s σ H D I (k D σ H w)
theorem OutOk.imp{md:Mode}{K:W.Frag}{G H G1 H1:Hp}{fp Gn:List Addr}{Dd Om:Ends}{r:Res Out}(st:Step G H fp G1 H1 Gn)(h:OutOk (md:=md) K G H fp Dd r)(n:∀σ H,Dd.nx σ H->Om.nx σ H)(b:∀σ H,Dd.bk σ H->Om.bk σ H)(c:∀σ H,Dd.ct σ H->Om.ct σ H)(t:∀v H,Dd.rt v H->Om.rt v H):OutOk (md:=md) K G1 H1 Gn Om r:=by
 match r,h with
 | .ok (.nx env'),h=>exact fun σ' H' G' F9 s q=>n _ _ (h σ' H' G' F9 (st.trans s) q)
 | .ok (.bk env'),h=>exact fun σ' H' G' F9 s q=>b _ _ (h σ' H' G' F9 (st.trans s) q)
 | .ok (.ct env'),h=>exact fun σ' H' G' F9 s q=>c _ _ (h σ' H' G' F9 (st.trans s) q)
 | .ok (.rt r),h=>exact fun v H' G' F9 s q=>t _ _ (h v H' G' F9 (st.trans s) q)
theorem OutOk.after{md:Mode}{K:W.Frag}{G H G1 H1:Hp}{fp Gn:List Addr}{Dd:Ends}{r:Res Out}(st:Step G H fp G1 H1 Gn)(h:OutOk (md:=md) K G H fp Dd r):OutOk (md:=md) K G1 H1 Gn Dd r:=h.imp st (fun _ _ z=>z) (fun _ _ z=>z) (fun _ _ z=>z) fun _ _ z=>z
def ay(d:D):FX:=fun env=>.ok ((.f,d),env)
def fz:O->O
 | .pin p .f=>.pin p .f
 |_=>.f
def aJ(i:Nat):FX:=fun env=>match env[i]? with
 |some (some r)=>.ok ((.f,r.2),env.set i (some (fz r.1,r.2)))
 |_=>.bad
def iW(i:Nat):FX:=fun env=>match env[i]? with
 |some (some r)=>.ok (r,env.set i none)
 |_=>.bad
def aj(f:FX):FO:=fun env=>(f env).bind fun p=>.ok (.val p.1.2,p.2)
def aq(i:Nat):FO:=fun env=>match env[i]? with
 |some (some _)=>.ok (.var i,env)
 |_=>.bad
def ar:FOs:=fun env=>.ok ([],env)
def af(f:FO)(g:FOs):FOs:=fun env=>(f env).bind fun p=>(g p.2).bind fun q=>.ok (p.1::q.1,q.2)
section
variable{X:Cx}
theorem qx{e:Expr}{v:V}{d:D}(h:PE X e (tC v))(r:∀G,Rep X.K G d v):QE X e (ay d):=bo h fun σ H Q Gd=>by
 obtain⟨G,env,fp,rr,env',rel,e,k⟩:=Gd;cases e;exact k v H G fp .refl (rel.push (r G))
theorem ao{i j pos}:QE X (.Constant (.int i) j pos) (ay (.int i)):=qx sJ fun G=>by rw[Rep]
theorem mw{i j pos}:QE X (.Constant (.bool i) j pos) (ay (.bl i)):=qx Ds fun G=>by rw[Rep]
theorem aT{x j pos}{l:List Nat}(h:x=S l)(hl:l.length<=1000):QE X (.Constant (.str x) j pos) (ay (.str l)):=qx AI fun G=>by
 rw[Rep,h];exact⟨rfl,by rw[line_eq];lia⟩
theorem wO{x:Str}{p:Pos}{n:Int}(h:Gi X.mg x n)(hg:Gl X x)(hd:(x==("__debug__" : Str))=false:=by decide):QE X (.Name x p) (ay (.int n)):=qx (DR h hg hd) fun G=>by rw[Rep]
theorem aB{i:Nat}{e:Expr}(h:PE X e (rg i)):QE X e (aJ i):=bo h fun σ H Q Gd=>by
 obtain⟨G,env,fp,rr,env',rel,e,k⟩:=Gd;unfold aJ at e;split at e
 ·rename_i r hr;cases e;by_cases hf:fz r.1=.f
  ·obtain⟨v,G',fq,ev,rv,Gy,st⟩:=rel.freezeAt hr;rw[hf]at k;exact⟨v,ev,k v H G' fq st (Gy.push rv)⟩
  ·have hp:∃p,r.1=.pin p .f:=by
    unfold fz at hf;split at hf
    ·rename_i p hp;exact⟨p,hp⟩
    ·exact absurd rfl hf
   obtain⟨p,hp⟩:=hp;obtain⟨v,a,b,ev,r1,_,_⟩:=rel.rep.take hr;rw[hp,RepO]at r1;have es:env.set i (some (fz r.1,r.2))=env:=by
    refine mv ?_;rw[hr,hp];show some (some r)=some (some (.pin p .f,r.2));rw[<-hp]
   rw[es]at k;exact⟨v,ev,k v H G fp .refl (rel.push (fH.mp r1.2).1)⟩
 ·cases e
theorem d5{i:Nat}{e:Expr}(h:PE X e (rg i)):QE X e (iW i):=bo h fun σ H Q Gd=>by
 obtain⟨G,env,fp,rr,env',rel,e,k⟩:=Gd;unfold iW at e;split at e
 ·rename_i r hr;cases e;obtain⟨v,fq,ev,Gy,st,_⟩:=rel.out hr;exact⟨v,ev,k v H G fq st Gy⟩
 ·cases e
theorem aa{e:Expr}{f:FX}(h:QE X e f):QO X e (aj f):=bo h fun σ H Q Gd=>by
 obtain⟨G,env,fp,o,env',rel,e,k⟩:=Gd;obtain⟨⟨r,FZ⟩,e1,e⟩:=ai e;cases e;refine⟨G,env,fp,r,FZ,rel,e1,fun v H' G' F9 st Gy=>?_⟩;obtain⟨G2,b,rv,F3,F8⟩:=Gy.freeze;exact k v H' G2 b (st.trans F8) F3 rv
theorem ae{i:Nat}{e:Expr}(h:PE X e (rg i)):QO X e (aq i):=bo h fun σ H Q Gd=>by
 obtain⟨G,env,fp,o,env',rel,e,k⟩:=Gd;unfold aq at e;split at e
 ·rename_i r hr;cases e;obtain⟨v,ev,_⟩:=rel.view hr;exact⟨v,ev,k v H G fp .refl rel ev⟩
 ·cases e
theorem ah:KL X [] ar:=qw jS fun σ H Q Gd=>by
 obtain⟨G,env,fp,o,env',rel,e,k⟩:=Gd;cases e;exact k [] H G fp .refl rel rfl
theorem ab{e:Expr}{es:List Expr}{f:FO}{g:FOs}(h:QO X e f)(hs:KL X es g)(JF:starEach (e::es) X.env=(false,eval e X.env)::starEach es X.env:=by rfl):KL X (e::es) (af f g):=
 qw (eK h hs JF) fun σ H Q Gd=>by
  obtain⟨G,env,fp,o,env',rel,e,k⟩:=Gd;obtain⟨⟨o1,FZ⟩,e1,e⟩:=ai e;obtain⟨⟨os,Gm⟩,e2,e⟩:=ai e;cases e;exact⟨G,env,fp,o1,FZ,rel,e1,fun v H1 G1 Gn Ge F4 HB=>⟨G1,FZ,Gn,os,Gm,F4,e2,fun vs H2 G2 GS F8 F3 KN=>k _ H2 G2 GS (Ge.trans F8) F3 ⟨v,vs,rfl,HB.mono F8.gg,KN⟩⟩⟩
def aD(g:D->D->Res R)(fa fb:FO):FX:=fun env=>(fa env).bind fun p=>(fb p.2).bind fun q=>(der q.2 p.1).bind fun a=>(der q.2 q.1).bind fun b=>(g a b).bind fun r=>.ok (r,q.2)
def bW(g:D->D->Res R)(fa fb:FO):FX:=fun env=>(fa env).bind fun p=>(fb p.2).bind fun q=>(rF q.2 p.1).bind fun a=>(rF q.2 q.1).bind fun b=>(g a b).bind fun r=>.ok (r,q.2)
structure Goes(K:W.Frag)(H:Hp)(G:Hp)(fp:List Addr)(es:PV.Env)(vs:L2.St)(r:R)(Q:VK):Prop where
 rel:Rel K G H es vs fp
 goes:∀v H' G' F9,Step G H fp G' H' F9->Rel K G' H' (some r::es) (some v::vs) F9->Q v H'
inductive rG(K:W.Frag)(g:D->D->Res R)(x:V)(y:V)(H:Hp)(Q:VK):Prop
 |mk:∀G fp es vs a b r,Goes K H G fp es vs r Q->Vw K G H a x->Vw K G H b y->g a b=.ok r->rG K g x y H Q
inductive rGA(K:W.Frag)(g:D->D->Res R)(x:V)(y:V)(H:Hp)(Q:VK):Prop
 |mk:∀G fp es vs a b r,Goes K H G fp es vs r Q->Rep K H a x->Rep K H b y->g a b=.ok r->rGA K g x y H Q
variable{a b c:Expr}{fa fb fc:FO}{pos:Pos}{g g':D->D->Res R}
theorem qy{σ:L2.St}{H:Hp}{Q:VK}(h:tQ X.K (aD g fa fb) σ H Q):Nz (rG X.K g) (tO X.K fa) (tO X.K fb) σ H Q:=by
 obtain⟨G,env,fp,r,env',rel,e,k⟩:=h;obtain⟨⟨oa,e1⟩,ha,e⟩:=ai e;obtain⟨⟨ob,e2⟩,hb,e⟩:=ai e;obtain⟨da,MX,e⟩:=ai e;obtain⟨db,IA,e⟩:=ai e;obtain⟨r',hr,e⟩:=ai e;cases e;exact⟨G,env,fp,oa,e1,rel,ha,fun x H1 G1 Gn Ge F4 HB=>⟨G1,e1,Gn,ob,e2,F4,hb,fun y H2 G2 GS F8 F3 KN=>
  ⟨G2,GS,e2,σ,da,db,r,⟨F3,fun v H' G' F9 st Gy=>k v H' G' F9 (Ge.trans (F8.trans st)) Gy⟩,F3.vw (HB.mono F8.gg) MX,F3.vw KN IA,hr⟩⟩⟩
theorem ug{σ:L2.St}{H:Hp}{Q:VK}(h:tQ X.K (bW g fa fb) σ H Q):Nz (rGA X.K g) (tO X.K fa) (tO X.K fb) σ H Q:=by
 obtain⟨G,env,fp,r,env',rel,e,k⟩:=h;obtain⟨⟨oa,e1⟩,ha,e⟩:=ai e;obtain⟨⟨ob,e2⟩,hb,e⟩:=ai e;obtain⟨da,MX,e⟩:=ai e;obtain⟨db,IA,e⟩:=ai e;obtain⟨r',hr,e⟩:=ai e;cases e;exact⟨G,env,fp,oa,e1,rel,ha,fun x H1 G1 Gn Ge F4 HB=>⟨G1,e1,Gn,ob,e2,F4,hb,fun y H2 G2 GS F8 F3 KN=>
  ⟨G2,GS,e2,σ,da,db,r,⟨F3,fun v H' G' F9 st Gy=>k v H' G' F9 (Ge.trans (F8.trans st)) Gy⟩,F3.vwA (HB.mono F8.gg) MX,F3.vwA KN IA,hr⟩⟩⟩
theorem aI{op:Operator}(ho:GH X (binaryOp op) (rG X.K g))(ha:QO X a fa)(hb:QO X b fb):QE X (.BinOp a op b pos) (aD g fa fb):=bo (DD ho ha hb) fun _ _ _=>qy
theorem BF{op:CmpOp}(ho:GH X (compareOp op) (rG X.K g))(ha:QO X a fa)(hb:QO X b fb)(hm:behindInMarks op b=false):QE X (.Compare a [op] [b] pos) (aD g fa fb):=bo (sT ho ha hb hm) fun _ _ _=>qy
theorem mx{op:CmpOp}(ho:GH X (compareOp op) (rGA X.K g))(ha:QO X a fa)(hb:QO X b fb)(hm:behindInMarks op b=false):QE X (.Compare a [op] [b] pos) (bW g fa fb):=bo (sT ho ha hb hm) fun _ _ _=>ug
def Gz(f:FX):FT:=fun env=>(f env).bind fun p=>match p.1.2 with
 | .bl k=>.ok (k,p.2)
 |_=>.bad
theorem wQ{f:FX}{σ:L2.St}{H:Hp}{Q:Bool->Hp->Prop}(h:tQT X.K (Gz f) σ H Q):tQ X.K f σ H fun x H'=>∃k,x=.bl k/\Q k H':=by
 obtain⟨G,env,fp,k,env',rel,e,q⟩:=h;obtain⟨⟨⟨o,d⟩,FZ⟩,e1,e⟩:=ai e;dsimp only at e;split at e
 ·cases e;refine⟨G,env,fp,_,_,rel,e1,fun v H' G' F9 st Gy=>?_⟩;have hv:=Gy.top;rw[show((o,D.bl k):R).2=D.bl k from rfl,Rep]at hv;obtain⟨b,F3,F8⟩:=Gy.drop;exact⟨k,hv,q H' G' b (st.trans F8) F3⟩
 ·cases e
theorem dN{e:Expr}{f:FX}(h:QE X e f)(he:∀whole,isTrue e X.env whole=(do let v <-whole;standAt e.pos;holding [v] (truthy v)):=by intro _;rfl):QT X e (Gz f):=oi (AJ h he) fun _ _ _=>wQ
theorem dO{op:CmpOp}(ho:GH X (compareOp op) (rG X.K g))(ha:QO X a fa)(hb:QO X b fb)(hm:behindInMarks op b=false):QT X (.Compare a [op] [b] pos) (Gz (aD g fa fb)):=
 oi (sU ho ha hb hm) fun _ _ _ h=>qy (wQ h)
theorem bt{op:CmpOp}(ho:GH X (compareOp op) (rGA X.K g))(ha:QO X a fa)(hb:QO X b fb)(hm:behindInMarks op b=false):QT X (.Compare a [op] [b] pos) (Gz (bW g fa fb)):=
 oi (sU ho ha hb hm) fun _ _ _ h=>ug (wQ h)
def xR(f g:FT):FT:=fun env=>(f env).bind fun p=>if p.1 then g p.2 else .ok (false,p.2)
def KO(f g:FT):FT:=fun env=>(f env).bind fun p=>if p.1 then .ok (true,p.2) else g p.2
def qz(f:FT):FT:=fun env=>(f env).bind fun p=>.ok (!p.1,p.2)
variable{ga gb:FT}{dY:List Expr}
theorem pB(h:QT X a ga):QW X (.BoolOp .And [a] pos) ga:=yx h
theorem jj(h:QT X a ga):QW X (.BoolOp .Or [a] pos) ga:=AK h
theorem oj(h:QT X a ga)(h2:QW X (.BoolOp .And (b::dY) pos) gb):QW X (.BoolOp .And (a::b::dY) pos) (xR ga gb):=xQ (AL h h2) fun σ H Q Gd=>by
 obtain⟨G,env,fp,k,env',rel,e,q⟩:=Gd;obtain⟨⟨k1,FZ⟩,e1,e⟩:=ai e;refine⟨G,env,fp,k1,FZ,rel,e1,fun H1 G1 Gn Ge F4=>?_⟩;dsimp only at e;cases k1 with
 |true=>exact⟨G1,FZ,Gn,k,env',F4,e,fun H2 G2 GS F8 F3=>q H2 G2 GS (Ge.trans F8) F3⟩
 |false=>
  cases e;exact q H1 G1 Gn Ge F4
theorem lu(h:QT X a ga)(h2:QW X (.BoolOp .Or (b::dY) pos) gb):QW X (.BoolOp .Or (a::b::dY) pos) (KO ga gb):=xQ (Dt h h2) fun σ H Q Gd=>by
 obtain⟨G,env,fp,k,env',rel,e,q⟩:=Gd;obtain⟨⟨k1,FZ⟩,e1,e⟩:=ai e;refine⟨G,env,fp,k1,FZ,rel,e1,fun H1 G1 Gn Ge F4=>?_⟩;dsimp only at e;cases k1 with
 |false=>exact⟨G1,FZ,Gn,k,env',F4,e,fun H2 G2 GS F8 F3=>q H2 G2 GS (Ge.trans F8) F3⟩
 |true=>
  cases e;exact q H1 G1 Gn Ge F4
theorem QW.qt{e:Expr}{f:FT}(h:QW X e f):QT X e f:=h.pt
theorem fA(h:QT X a ga):QT X (.UnaryOp .Not a pos) (qz ga):=oi (AM h) fun σ H Q Gd=>by
 obtain⟨G,env,fp,k,env',rel,e,q⟩:=Gd;obtain⟨⟨k1,FZ⟩,e1,e⟩:=ai e;cases e;exact⟨G,env,fp,k1,FZ,rel,e1,fun H1 G1 Gn Ge F4=>q H1 G1 Gn Ge F4⟩
def DX(f g:FX):FX:=fun env=>(f env).bind fun p=>match p.1.2 with
 | .bl true=>g p.2
 | .bl false=>.ok ((.f,.bl false),p.2)
 |_=>.bad
def eOr(f g:FX):FX:=fun env=>(f env).bind fun p=>match p.1.2 with
 | .bl true=>.ok ((.f,.bl true),p.2)
 | .bl false=>g p.2
 |_=>.bad
def FK(f:FX):FX:=fun env=>(f env).bind fun p=>match p.1.2 with
 | .bl k=>.ok ((.f,.bl (!k)),p.2)
 |_=>.bad
def eIf(c:FT)(f g:FX):FX:=fun env=>(c env).bind fun p=>if p.1 then f p.2 else g p.2
variable{ea eb:FX}
theorem BG{op}(h:QE X a ea):QE X (.BoolOp op [a] pos) ea:=AN h
theorem cH{K:W.Frag}{G:Hp}(k:Bool):Rep K G (.bl k) (.bl k):=by rw[Rep]
theorem bu{K:W.Frag}{G:Hp}(k:Int):Rep K G (.int k) (.int k):=by rw[Rep]
theorem g5{K:W.Frag}{G:Hp}:Rep K G .non .non:=by rw[Rep]
theorem dy{K:W.Frag}{G:Hp}{l:List Nat}(h:l.length<=sizeLine):Rep K G (.str l) (.str (S l)):=by
 rw[Rep];exact⟨rfl,h⟩
theorem cI{K:W.Frag}{G:Hp}{k:Bool}{v:V}(h:Rep K G (.bl k) v):v=.bl k:=by rw[Rep]at h;exact h
theorem bG{K:W.Frag}{G:Hp}{k:Int}{v:V}(h:Rep K G (.int k) v):v=.int k:=by rw[Rep]at h;exact h
theorem cq{K:W.Frag}{G:Hp}{v:V}(h:Rep K G .non v):v=.non:=by rw[Rep]at h;exact h
theorem bg{K:W.Frag}{G:Hp}{l:List Nat}{v:V}(h:Rep K G (.str l) v):v=.str (S l)/\l.length<=sizeLine:=by rw[Rep]at h;exact h
inductive OfT(K:W.Frag)(G:Hp)(l:List D)(v:V):Prop
 |mk (p:Addr) (xs:List V) (e:v=.ref p) (q:SqT K G p xs) (r:Reps K G l xs):OfT K G l v
inductive OfL(K:W.Frag)(G:Hp)(l:List D)(v:V):Prop
 |mk (p:Addr) (xs:List V) (e:v=.ref p) (q:SqL K G p xs) (r:Reps K G l xs):OfL K G l v
theorem bh{K:W.Frag}{G:Hp}{l:List D}{v:V}(h:Rep K G (.tup l) v):OfT K G l v:=by
 rw[Rep]at h;obtain⟨p,xs,e,q,r⟩:=h;exact⟨p,xs,e,SqT.of q,r⟩
theorem uh{K:W.Frag}{G:Hp}{l:List D}{v:V}(h:Rep K G (.tup l) v):∃p xs,v=.ref p/\G p=some (.tup xs)/\Reps K G l xs:=by rw[Rep]at h;exact h
theorem bz{K:W.Frag}{G:Hp}{l:List D}{v:V}(h:Rep K G (.lst l) v):OfL K G l v:=by
 rw[Rep]at h;obtain⟨p,xs,e,q,r⟩:=h;exact⟨p,xs,e,q,r⟩
theorem DY{K:W.Frag}{G H:Hp}{k:Bool}{v:V}(h:Vw K G H (.bl k) v):v=.bl k:=cI (K:=K) (G:=G) h
theorem bq{K:W.Frag}{G H:Hp}{k:Int}{v:V}(h:Vw K G H (.int k) v):v=.int k:=bG (K:=K) (G:=G) h
theorem eB{K:W.Frag}{G H:Hp}{l:List Nat}{v:V}(h:Vw K G H (.str l) v):v=.str (S l)/\l.length<=sizeLine:=bg (K:=K) (G:=G) h
theorem jk{K:W.Frag}{G H:Hp}{l:List D}{v:V}(h:Vw K G H (.tup l) v):OfT K G l v:=bh (K:=K) (G:=G) h
theorem BH(h:QE X a ea)(h2:QE X (.BoolOp .And (b::dY) pos) eb):QE X (.BoolOp .And (a::b::dY) pos) (DX ea eb):=bo (AO h h2) fun σ H Q Gd=>by
 obtain⟨G,env,fp,r,env',rel,e,q⟩:=Gd;obtain⟨⟨⟨o,d⟩,FZ⟩,e1,e⟩:=ai e;refine⟨G,env,fp,_,FZ,rel,e1,fun v H1 G1 Gn Ge F4=>?_⟩;have hv:=F4.top;obtain⟨b',F3,F8⟩:=F4.drop;dsimp only at e hv;split at e
 ·exact⟨true,cI hv,Bj ⟨G1,FZ,b',r,env',F3,e,fun v H2 G2 GS GA Gs=>q v H2 G2 GS (Ge.trans (F8.trans GA)) Gs⟩⟩
 ·cases e;exact⟨false,cI hv,iteF (q _ H1 G1 b' (Ge.trans F8) (F3.push (cH _)))⟩
 ·cases e
noncomputable def j5(g g':D->D->Res R)(fa fb fc:FO):FX:=fun env=>(fa env).bind fun p=>(fb p.2).bind fun q=>(der q.2 p.1).bind fun a=>(der q.2 q.1).bind fun b=>(g a b).bind fun r=>match r with
 |(.f,.bl true)=>(fc q.2).bind fun t=>(der t.2 q.1).bind fun b=>(der t.2 t.1).bind fun c=>(g' b c).bind fun r=>.ok (r,t.2)
 |(.f,.bl false)=>.ok ((.f,.bl false),q.2)
 |_=>.bad
theorem qA{σ:L2.St}{H:Hp}{Q:VK}(h:tQ X.K (j5 g g' fa fb fc) σ H Q):sV (rG X.K g) (rG X.K g') (tO X.K fa) (tO X.K fb) (tO X.K fc) σ H Q:=by
 obtain⟨G,env,fp,r,env',rel,e,k⟩:=h;obtain⟨⟨oa,e1⟩,ha,e⟩:=ai e;obtain⟨⟨ob,e2⟩,hb,e⟩:=ai e;obtain⟨da,MX,e⟩:=ai e;obtain⟨db,IA,e⟩:=ai e;obtain⟨r',hr,e⟩:=ai e;refine⟨G,env,fp,oa,e1,rel,ha,fun x H1 G1 Gn Ge F4 HB=>⟨G1,e1,Gn,ob,e2,F4,hb,fun y H2 G2 GS F8 F3 KN=>
  ⟨G2,GS,e2,σ,da,db,r',⟨F3,fun v H3 G3 IS GA Gs=>?_⟩,F3.vw (HB.mono F8.gg) MX,F3.vw KN IA,hr⟩⟩⟩
 have hv:=Gs.top;obtain⟨b3,Hf,Io⟩:=Gs.drop;split at e
 ·refine⟨true,cI hv,Bj ?_⟩;obtain⟨⟨oc,e3⟩,hc,e⟩:=ai e;obtain⟨db',hdb',e⟩:=ai e;obtain⟨dc,QH,e⟩:=ai e;obtain⟨r2,hr2,e⟩:=ai e;cases e;exact⟨G3,e2,b3,oc,e3,Hf,hc,fun z H5 G5 MY Iz Hm ok5=>⟨G5,MY,e3,σ,db',dc,r,⟨Hm,fun v H' G' F9 st Gy=>k v H' G' F9 (Ge.trans (F8.trans (GA.trans (Io.trans (Iz.trans st))))) Gy⟩,
   Hm.vw ((KN.mono GA.gg).mono Iz.gg) hdb',Hm.vw ok5 QH,hr2⟩⟩
 ·cases e;exact⟨false,cI hv,iteF (k _ H3 G3 b3 (Ge.trans (F8.trans (GA.trans Io))) (Hf.push (cH _)))⟩
 ·cases e
theorem qB{op JC:CmpOp}(ho:GH X (compareOp op) (rG X.K g))(JE:GH X (compareOp JC) (rG X.K g'))(ha:QO X a fa)(hb:QO X b fb)(hc:QO X c fc)(hm:lastMarks [op,JC] [b,c]=false:=by with_unfolding_all rfl):
  QE X (.Compare a [op,JC] [b,c] pos) (j5 g g' fa fb fc):=bo (we ho JE ha hb hc hm) fun _ _ _=>qA
theorem wR{op JC:CmpOp}(ho:GH X (compareOp op) (rG X.K g))(JE:GH X (compareOp JC) (rG X.K g'))(ha:QO X a fa)(hb:QO X b fb)(hc:QO X c fc)(hm:lastMarks [op,JC] [b,c]=false:=by with_unfolding_all rfl):
  QT X (.Compare a [op,JC] [b,c] pos) (Gz (j5 g g' fa fb fc)):=oi (wg ho JE ha hb hc hm) fun _ _ _ h=>qA (wQ h)
inductive rC(K:W.Frag)(g:List D->Res R)(xs:List V)(H:Hp)(Q:VK):Prop
 |mk:∀G fp es vs ds r,Goes K H G fp es vs r Q->NF K G H ds xs->g ds=.ok r->rC K g xs H Q
def aZ(g:List D->Res R)(fs:FOs):FX:=fun env=>(fs env).bind fun p=>(qv p.2 p.1).bind fun ds=>(g ds).bind fun r=>.ok (r,p.2)
theorem uk{gg:List D->Res R}{fs:FOs}{σ:L2.St}{H:Hp}{Q:VK}(h:tQ X.K (aZ gg fs) σ H Q):P4 (rC X.K gg) (tOs X.K fs) σ H Q:=by
 obtain⟨G,env,fp,r,env',rel,e,k⟩:=h;obtain⟨⟨os,e1⟩,ha,e⟩:=ai e;obtain⟨ds,hd,e⟩:=ai e;obtain⟨r',hr,e⟩:=ai e;cases e;exact⟨G,env,fp,os,e1,rel,ha,fun vs H1 G1 Gn Ge F4 HB=>⟨G1,Gn,e1,σ,ds,r,⟨F4,fun v H' G' F9 st Gy=>k v H' G' F9 (Ge.trans st) Gy⟩,F4.vws HB hd,hr⟩⟩
variable{x:Str}{p:Pos}{e:Expr}{es:List Expr}{gg:List D->Res R}{fs:FOs}{id T:String}
theorem a9(hc:cU X (.builtin id) (rC X.K gg))(hg:Gl X x)(hm:X.mg x=none)(hv:bootBuiltins x=some (.builtin id))(ha:KL X (e::es) fs)(hn:x≠"__name__":=by decide)(IA:(x==("__debug__" : Str))=false:=by decide)
  (he:starEach (e::es) X.env=(false,eval e X.env)::starEach es X.env:=by rfl) (Ha:(backTo pos (starEach es X.env)).any (·.1)=false:=by rfl):QE X (.Call (.Name x p) (e::es) [] pos) (aZ gg fs):=
 bo (qe hc hg hm hv ha hn IA he Ha) fun _ _ _=>uk
theorem aU(hc:cU X (.type T) (rC X.K gg))(hg:Gl X x)(hm:X.mg x=none)(hv:bootBuiltins x=some (.type T))(ha:KL X (e::es) fs)(hn:x≠"__name__":=by decide)(IA:(x==("__debug__" : Str))=false:=by decide)
  (he:starEach (e::es) X.env=(false,eval e X.env)::starEach es X.env:=by rfl) (Ha:(backTo pos (starEach es X.env)).any (·.1)=false:=by rfl):QE X (.Call (.Name x p) (e::es) [] pos) (aZ gg fs):=
 bo (sZ hc hg hm hv ha hn IA he Ha) fun _ _ _=>uk
inductive spF(K:W.Frag)(F:List D->Res R)(vs:List V)(H:Hp)(Q:VK)(zz:XK):Prop
 |mk:∀G ds r,Same G H->Reps K G ds vs->F ds=.ok r->(∀v H' G' F9,Step G H [] G' H' F9->Rel K G' H' [some r] [some v] F9->Q v H')->spF K F vs H Q zz
def cx(F:List D->Res R)(fs:FOs):FX:=fun env=>(fs env).bind fun p=>(og p.2 p.1).bind fun ds=>(F ds).bind fun r=>.ok (r,if cj r.1 r.2 then p.2 else p.2.map frz)
theorem aQ{F:List D->Res R}{k:Nat}(C:Ct X.prog X.w X.K X.mg X.base x k (spF X.K F))(hr:Room k X.A)(hg:Gl X x)(ha:KL X (e::es) fs)(IA:(x==("__debug__" : Str))=false:=by decide)
  (he:starEach (e::es) X.env=(false,eval e X.env)::starEach es X.env:=by rfl) (Ha:(backTo pos (starEach es X.env)).any (·.1)=false:=by rfl):QE X (.Call (.Name x p) (e::es) [] pos) (cx F fs):=
 bo (DQ C hr hg ha IA he Ha) fun σ H Q Gd=>by
  obtain⟨G,env,fp,r,env',rel,e,k⟩:=Gd;obtain⟨⟨os,e1⟩,ha,e⟩:=ai e;obtain⟨ds,hd,e⟩:=ai e;obtain⟨r',hr,e⟩:=ai e;refine⟨G,env,fp,os,e1,rel,ha,fun vs H1 G1 Gn Ge F4 HB=>?_⟩;show spF X.K F (vs++[]) H1 Q _;rw[Sg];obtain⟨G2,QK,QL,JG,_,K4⟩:=F4.lend;refine⟨G2,ds,r',QL,oh QK JG HB hd,hr,fun v H' G' F9 st Gy=>?_⟩;obtain⟨k1,k2⟩:=K4 H' G' F9 r' v st Gy;by_cases hc:cj r'.1 r'.2=true
  ·rw[Sa hc]at e;cases e;obtain⟨G3,IS,GA,Gs⟩:=k1 hc;exact k v H' G3 IS (Ge.trans GA) Gs
  ·rw[Sf hc]at e;cases e;obtain⟨G3,IS,GA,Gs⟩:=k2;exact k v H' G3 IS (Ge.trans GA) Gs
end
def sSeq(g1 g2:FS):FS:=fun env=>(g1 env).bind fun o=>match o with
 | .nx e=>g2 e
 |o=>.ok o
def bV:FS:=fun env=>.ok (.nx env)
def dP:FS:=fun _=>.bad
def cp(i:Nat)(f:FX):FS:=fun env=>(f env).bind fun p=>if i<p.2.length then .ok (.nx (p.2.set i (some p.1))) else .bad
def fJ(f:FX):FS:=fun env=>(f env).bind fun p=>.ok (.nx p.2)
def dJ(f:FX):FS:=fun env=>(f env).bind fun p=>.ok (.rt p.1)
def Hb(c:FT)(g h:FS):FS:=fun env=>(c env).bind fun p=>if p.1 then g p.2 else h p.2
section
variable{md:Mode}{X:Cx}{st:Stmt}{QM:List Stmt}{g h:FS}{f:FX}{c:FT}{pos:Pos}{e:Expr}
theorem aN:Lv (md:=md) X [] bV:=uf yy fun D σ H ⟨G,env,fp,rel,k⟩=>k σ H G fp .refl rel
theorem ak(a:QS (md:=md) X st g):Lv (md:=md) X [st] g:=yz a
theorem ag(a:QS (md:=md) X st g)(b:Lv (md:=md) X QM h):Lv (md:=md) X (st::QM) (sSeq g h):=uf (vY a b) fun D σ H Gd=>by
 obtain⟨G,env,fp,rel,k⟩:=Gd;refine⟨G,env,fp,rel,?_⟩;have k:OutOk X.K G H fp D ((g env).bind fun o=>match o with | .nx e=>h e|o=>.ok o):=k;match q:g env,k with
 | .ok (.nx FZ),k=>exact fun σ1 H1 G1 Gn Ge F4=>⟨G1,FZ,Gn,F4,OutOk.after Ge k⟩
 | .ok (.bk FZ),k=>exact k
 | .ok (.ct FZ),k=>exact k
 | .ok (.rt r),k=>exact k
theorem b6:QS (md:=md) X st dP:=ij vZ fun D σ H ⟨G,env,fp,rel,k⟩=>k
theorem um{K:W.Frag}{G H:Hp}{fp:List Addr}{D:Ends}{i:Nat}{env:PV.Env}{σ:L2.St}(rel:Rel K G H env σ fp)(k:OutOk (md:=md) K G H fp D (cp i f env)):tQ K f σ H fun v H'=>D.nx (σ.set i (some v)) H':=by
 unfold cp at k;match q:f env,k with
 | .ok (r,FZ),k=>
  have k:OutOk K G H fp D (if i<FZ.length then .ok (.nx (FZ.set i (some r))) else .bad):=k;by_cases hi:i<FZ.length
  ·rw[Sa hi]at k;refine⟨G,env,fp,r,FZ,rel,q,fun v H1 G1 Gn Ge F4=>?_⟩;obtain⟨fq,F3,F8⟩:=F4.store hi;exact k _ H1 G1 fq (Ge.trans F8) F3
  ·rw[Sf hi]at k;exact k.elim
theorem aM{i:Nat}{x:Str}{pos':Pos}(hN:X.N.Nodup)(hi:X.N[i]?=some x)(hx:Loc X.env.scope x)(he:QE X e f)(hs:swapsWith e (some (.Name x pos')) pos.line X.env=pure false:=by rfl)(hf:X.fn x=true\/X.env.scope.names.lookup x=some .local:=by first|exact .inl rfl|exact .inr rfl|assumption):
  QS (md:=md) X (.Assign [.Name x pos'] e pos) (cp i f):=ij (AX (i:=i) hN hi hx he hs hf) fun D σ H ⟨G,env,fp,rel,k⟩=>um rel k
theorem dA(he:QE X e f)(hs:swapsWith e none pos.line X.env=pure false:=by rfl):QS (md:=md) X (.Expr e pos) (fJ f):=ij (yG he hs) fun D σ H Gd=>by
 obtain⟨G,env,fp,rel,k⟩:=Gd;unfold fJ at k;match q:f env,k with
 | .ok (r,FZ),k=>
  refine⟨G,env,fp,r,FZ,rel,q,fun v H1 G1 Gn Ge F4=>?_⟩;obtain⟨b,F3,F8⟩:=F4.drop;exact k _ H1 G1 b (Ge.trans F8) F3
theorem Rel.only{K:W.Frag}{G H:Hp}{r:R}{v:V}{es:PV.Env}{vs:L2.St}{fp:List Addr}(q:Rel K G H (some r::es) (some v::vs) fp):∃a,Rel K G H [some r] [some v] a/\Step G H fp G H a:=by
 obtain⟨y,ys,e,v',a,b,e1,e2,r1,r2⟩:=q.rep;cases e;cases e1;subst e2;have nd:=S2.mp q.nd;exact⟨a,⟨⟨some v,[],rfl,v,a,[],rfl,(Sg _).symm,r1,rfl,rfl⟩,nd.1,fun p hp=>q.gn p (R9 _ hp),q.gh⟩,Step.cut fun p hp=>R9 _ hp⟩
theorem aV(he:QE X e f):QS (md:=.plain) X (.Return (some e) pos) (dJ f):=ij (AQ he) fun D σ H Gd=>by
 obtain⟨G,env,fp,rel,k⟩:=Gd;unfold dJ at k;match q:f env,k with
 | .ok (r,FZ),k=>
  refine⟨G,env,fp,r,FZ,rel,q,fun v H1 G1 Gn Ge F4=>?_⟩;obtain⟨b,F3,F8⟩:=F4.only;exact k _ H1 G1 b (Ge.trans F8) F3
theorem Rel.nilF{K:W.Frag}{G H:Hp}{es:PV.Env}{vs:L2.St}{fp:List Addr}(q:Rel K G H es vs fp):Rel K G H [] [] []:=⟨⟨rfl,rfl⟩,UE,(fun _ h=>nomatch h),q.gh⟩
theorem bX{a b:List Stmt}{ct:Expr}(hc:QT X ct c)(ha:Lv (md:=md) X a g)(hb:Lv (md:=md) X b h):QS (md:=md) X (.If ct a b pos) (Hb c g h):=ij (Dx hc ha hb) fun D σ H Gd=>by
 obtain⟨G,env,fp,rel,k⟩:=Gd;unfold Hb at k;match q:c env,k with
 | .ok (true,FZ),k=>exact⟨G,env,fp,true,FZ,rel,q,fun H1 G1 Gn Ge F4=>Bj ⟨G1,FZ,Gn,F4,OutOk.after Ge k⟩⟩
 | .ok (false,FZ),k=>exact⟨G,env,fp,false,FZ,rel,q,fun H1 G1 Gn Ge F4=>iteF ⟨G1,FZ,Gn,F4,OutOk.after Ge k⟩⟩
def dQ(c:FT)(g:FS):Nat->FS
 | 0,_=>.bad
 |n+1,env=>(c env).bind fun p=>if p.1 then(g p.2).bind fun o=>match o with
  | .nx e=>dQ c g n e
  | .ct e=>dQ c g n e
  | .bk e=>.ok (.nx e)
  | .rt r=>.ok (.rt r)
  else .ok (.nx p.2)
theorem qD{ct:Expr}{body:List Stmt}(n:Nat)(hp:PassesOwn (model X.prog X.w) X.A X.env X.xe)(hc:QT X ct c)(hb:Lv (md:=md) X body g):QS (md:=md) X (.While ct body [] pos) (dQ c g n):=
 ij (wb hp hc hb) fun D σ H Gd=>by
  obtain⟨G,env,fp,rel,k⟩:=Gd;refine⟨fun m σ' H'=>∃G' env' F9,Rel X.K G' H' env' σ' F9/\OutOk X.K G' H' F9 D (dQ c g m env'),⟨n,G,env,fp,rel,k⟩,?_⟩;rintro m σ1 H1 ⟨G1,FZ,Gn,F4,k1⟩;cases m with
  |zero=>exact k1.elim
  |succ m=>
   unfold dQ at k1;match q:c FZ,k1 with
   | .ok (false,Gm),k1=>exact⟨G1,FZ,Gn,false,Gm,F4,q,fun H2 G2 GS F8 F3=>iteF (k1 _ H2 G2 GS F8 F3)⟩
   | .ok (true,Gm),k1=>
    refine⟨G1,FZ,Gn,true,Gm,F4,q,fun H2 G2 GS F8 F3=>Bj ?_⟩;refine⟨fun σ' H'=>∃G' env' F9,Rel X.K G' H' env' σ' F9/\OutOk X.K G' H' F9 D (dQ c g m env'),fun σ' H' z=>⟨m,TZ _,z⟩,G2,Gm,GS,F3,?_⟩;have k2:OutOk X.K G1 H1 Gn D ((g Gm).bind fun o=>match o with | .nx e=>dQ c g m e | .ct e=>dQ c g m e | .bk e=>.ok (.nx e) | .rt r=>.ok (.rt r)):=k1;match q2:g Gm,k2 with
    | .ok (.nx e),k2=>exact fun σ' H' G' F9 st rel=>⟨G',e,F9,rel,OutOk.after (F8.trans st) k2⟩
    | .ok (.ct e),k2=>exact fun σ' H' G' F9 st rel=>⟨G',e,F9,rel,OutOk.after (F8.trans st) k2⟩
    | .ok (.bk e),k2=>exact fun σ' H' G' F9 st rel=>k2 σ' H' G' F9 (F8.trans st) rel
    | .ok (.rt r),k2=>exact fun v H' G' F9 st rel=>k2 v H' G' F9 (F8.trans st) rel
def Walk(K:W.Frag)(G:Hp)(J:It)(ds:List D):Prop:=∀G' H' es vs fp,Same G G'->Rel K G' H' es vs fp->∀i:Nat,
 (∀d,ds[i]?=some d->J.go i H'/\∀x H2,J.yld i H' x H2->∃G2,Rep K G2 d x/\Rel K G2 H2 es vs fp/\Step G' H' fp G2 H2 fp)/\(i=ds.length->J.stop i H')
abbrev FI:=PV.Env->Res (List D×PV.Env)
inductive tQI(K:W.Frag)(f:FI)(σ:L2.St)(H:Hp)(R:It->Hp->Prop):Prop
 |mk:∀G env fp ds env',Rel K G H env σ fp->f env=.ok (ds,env')->(∀J H' G' F9,Step G H fp G' H' F9->Rel K G' H' env' σ F9->Walk K G' J ds->R J H')->tQI K f σ H R
def QI(X:Cx)(tg e:Expr)(f:FI):Prop:=PI X tg e (tQI X.K f)
theorem ik{X:Cx}{tg e:Expr}{t t':TI}(h:PI X tg e t)(k:∀σ H R,t' σ H R->t σ H R):PI X tg e t':=fun pr s σ H R I w=>h pr s σ H R I (k σ H R w)
abbrev FG:=D->PV.Env->Res PV.Env
inductive tQG(K:W.Frag)(a:FG)(v:V)(σ:L2.St)(H:Hp)(Q:L2.St->Hp->Prop):Prop
 |mk:∀G env fp d env',Rel K G H env σ fp->Rep K G d v->a d env=.ok env'->(∀σ' G' F9,Step G H fp G' H F9->Rel K G' H env' σ' F9->Q σ' H)->tQG K a v σ H Q
def QG(X:Cx)(tg:Expr)(a:FG):Prop:=PG X tg (tQG X.K a)
def au(i:Nat):FG:=fun d env=>if i<env.length then .ok (env.set i (some (.f,d))) else .bad
theorem xS{X:Cx}{tg:Expr}{t t':TG}(h:PG X tg t)(k:∀v σ H Q,t' v σ H Q->t v σ H Q):PG X tg t':=fun pr s σ H v u Q I r w=>h pr s σ H v u Q I r (k v σ H Q w)
theorem uo{X:Cx}{tg:List Expr}{t t':Ms}(h:MF X tg t)(k:∀v σ H Q,t' v σ H Q->t v σ H Q):MF X tg t':=fun pr s σ H v u Q I r w=>h pr s σ H v u Q I r (k v σ H Q w)
theorem aE{i:Nat}{x:Str}(hN:X.N.Nodup)(hi:X.N[i]?=some x)(hx:Loc X.env.scope x)(hf:X.fn x=true\/X.env.scope.names.lookup x=some .local:=by first|exact .inl rfl|exact .inr rfl|assumption):QG X (.Name x pos) (au i):=
 xS (yH (i:=i) hN hi hx hf) fun v σ H Q Gd=>by
  obtain⟨G,env,fp,d,env',rel,r,e,k⟩:=Gd;unfold au at e;split at e
  ·rename_i hl;cases e;obtain⟨fq,F3,F8⟩:=(rel.push r).store hl;exact k _ G fq F8 F3
  ·cases e
abbrev LI:=List D->PV.Env->Res PV.Env
inductive tQGs(K:W.Frag)(a:LI)(vs:List V)(σ:L2.St)(H:Hp)(Q:L2.St->Hp->Prop):Prop
 |mk:∀G env fp ds env',Rel K G H env σ fp->Reps K G ds vs->a ds env=.ok env'->(∀σ' G' F9,Step G H fp G' H F9->Rel K G' H env' σ' F9->Q σ' H)->tQGs K a vs σ H Q
def Pq(X:Cx)(tg:List Expr)(a:LI):Prop:=MF X tg (tQGs X.K a)
def cV:LI:=fun ds env=>match ds with
 |[]=>.ok env
 |_=>.bad
def aA(a:FG)(b:LI):LI:=fun ds env=>match ds with
 |d::ds=>(a d env).bind fun e=>b ds e
 |_=>.bad
theorem d6:Pq X [] cV:=uo yI fun vs σ H Q Gd=>by
 obtain⟨G,env,fp,ds,env',rel,r,e,k⟩:=Gd;cases ds with
 |nil=>
  cases e;rw[Reps]at r;exact⟨r,k σ G fp .refl rel⟩
 |cons d ds=>cases e
theorem aR{tg:Expr}{JY:List Expr}{a:FG}{b:LI}(h1:QG X tg a)(h2:Pq X JY b)(hs:(assignEach (tg::JY) X.env).map (·.2)=assign tg X.env::(assignEach JY X.env).map (·.2):=by rfl):Pq X (tg::JY) (aA a b):=
 uo (wa h1 h2 hs) fun vs σ H Q Gd=>by
  obtain⟨G,env,fp,ds,env',rel,r,e,k⟩:=Gd;cases ds with
  |nil=>cases e
  |cons d ds=>
   rw[Reps]at r;obtain⟨y,ys,ev,r1,r2⟩:=r;obtain⟨FZ,e1,e2⟩:=ai e;exact⟨y,ys,ev,G,env,fp,d,FZ,rel,r1,e1,fun σ1 G1 Gn Ge F4=>⟨G1,FZ,Gn,ds,env',F4,r2.mono Ge.gg,e2,fun σ2 G2 GS F8 F3=>k σ2 G2 GS (Ge.trans F8) F3⟩⟩
def iQ(n:Nat)(a:LI):FG:=fun d env=>match d with
 | .tup ds=>if ds.length=n then a ds env else .bad
 |_=>.bad
theorem gK{JY:List Expr}{k n:Nat}{a:LI}(hc:X.calm=true)(h:Pq X JY a)(hn:(assignEach JY X.env).length=n:=by rfl)(JF:(assignEach JY X.env).findIdx? (·.1)=none:=by rfl):QG X (.Tuple JY k pos) (iQ n a):=
 xS (AV hc h hn JF) fun v σ H Q Gd=>by
  obtain⟨G,env,fp,d,env',rel,r,e,k⟩:=Gd;unfold iQ at e;split at e
  ·rename_i ds;split at e
   ·rename_i hl;obtain⟨p,xs,ev,sq,rs⟩:=bh r;exact⟨p,xs,ev,bc rel.gh sq,rs.length.trans hl,G,env,fp,ds,env',rel,rs,e,k⟩
   ·cases e
  ·cases e
def jl(a:FG)(g:FS):List D->FS
 |[],env=>.ok (.nx env)
 |d::ds,env=>(a d env).bind fun e=>(g e).bind fun o=>match o with
  | .nx e=>jl a g ds e
  | .ct e=>jl a g ds e
  | .bk e=>.ok (.nx e)
  | .rt r=>.ok (.rt r)
def lj(f:FI)(a:FG)(g:FS):FS:=fun env=>(f env).bind fun p=>jl a g p.1 p.2
theorem c7{tg iter:Expr}{body:List Stmt}{fi:FI}{a:FG}(hp:PassesOwn (model X.prog X.w) X.A X.env X.xe)(hc:X.calm=true)(hi:QI X tg iter fi)(hg:QG X tg a)(hb:Lv (md:=md) X body g)(hs:∀x,foldedSetIterable iter X.env x=pure x:=by intro _;rfl):QS (md:=md) X (.For tg iter body [] pos) (lj fi a g):=
 ij (A4 hp hc hi hg hb hs) fun D σ H Gd=>by
  obtain⟨G,env,fp,rel,k⟩:=Gd;unfold lj at k;match q:fi env,k with
  | .ok (ds,FZ),k=>
   refine⟨G,env,fp,ds,FZ,rel,q,fun J H1 G1 Gn Ge F4 wk=>?_⟩;have k:OutOk X.K G H fp D (jl a g ds FZ):=k;refine⟨fun i m σ' H'=>m=ds.length-i/\i<=ds.length/\∃G' env' F9,Same G1 G'/\Rel X.K G' H' env' σ' F9/\OutOk X.K G' H' F9 D (jl a g (ds.drop i) env'),⟨_,rfl,Tu _,G1,FZ,Gn,.refl _,F4,OutOk.after Ge k⟩,?_⟩;rintro i m σ2 H2 ⟨rfl,hi,G2,Gm,GS,gg,F3,k2⟩;obtain⟨w1,w2⟩:=wk G2 H2 _ _ _ gg F3 i;by_cases He:i<ds.length
   ·have hd:ds[i]?=some ds[i]:=RP He;obtain⟨go,yl⟩:=w1 _ hd;rw[UW He]at k2;refine .inr ⟨go,fun σ' H'=>∃G' env' F9,Same G1 G'/\Rel X.K G' H' env' σ' F9/\OutOk X.K G' H' F9 D (jl a g (ds.drop (i+1)) env'),fun σ' H' z=>⟨ds.length-(i+1),by lia,rfl,He,z⟩,fun x H3 y=>?_⟩;obtain⟨G3,rx,Gs,GA⟩:=yl x H3 y;unfold jl at k2;match q3:a ds[i] Gm,k2 with
    | .ok Ip,k2=>
     refine⟨G3,Gm,GS,ds[i],Ip,Gs,rx,q3,fun σ4 G4 fp4 Io Hf=>⟨G4,Ip,fp4,Hf,?_⟩⟩;have k3:OutOk X.K G2 H2 GS D ((g Ip).bind fun o=>match o with | .nx e=>jl a g (ds.drop (i+1)) e | .ct e=>jl a g (ds.drop (i+1)) e | .bk e=>.ok (.nx e) | .rt r=>.ok (.rt r)):=k2;match q4:g Ip,k3 with
     | .ok (.nx e),k3=>exact fun σ' H' G' F9 st rel=>⟨G',e,F9,gg.trans (GA.gg.trans (Io.gg.trans st.gg)),rel,OutOk.after (GA.trans (Io.trans st)) k3⟩
     | .ok (.ct e),k3=>exact fun σ' H' G' F9 st rel=>⟨G',e,F9,gg.trans (GA.gg.trans (Io.gg.trans st.gg)),rel,OutOk.after (GA.trans (Io.trans st)) k3⟩
     | .ok (.bk e),k3=>exact fun σ' H' G' F9 st rel=>k3 σ' H' G' F9 (GA.trans (Io.trans st)) rel
     | .ok (.rt r),k3=>exact fun v H' G' F9 st rel=>k3 v H' G' F9 (GA.trans (Io.trans st)) rel
   ·have e:i=ds.length:=by lia
    subst e;rw[List.drop_length]at k2;exact .inl ⟨w2 rfl,k2 σ2 H2 G2 GS .refl F3⟩
def BI(f:FX):FI:=fun env=>(f env).bind fun p=>match p.1.2 with
 | .lst ds=>.ok (ds,p.2)
 |_=>.bad
def j6(f:FX):FI:=fun env=>(f env).bind fun p=>match p.1.2 with
 | .tup ds=>.ok (ds,p.2)
 |_=>.bad
variable{tg l:Expr}
theorem om{K:W.Frag}{G:Hp}{a:Addr}{xs:List V}{ds:List D}(sq:SqL K G a xs)(rs:Reps K G ds xs):Walk K G (Ny K a) ds:=by
 intro G' H' es vs fp gg rel i;have Hn:SqL K H' a xs:=gD rel.gh (gD gg sq);refine⟨fun d hd=>?_,fun e=>⟨xs,Hn,by rw[rs.length];lia⟩⟩;obtain⟨x,hx,rx⟩:=rs.get hd;refine⟨⟨xs,x,Hn,hx⟩,fun y H2 ⟨e,hy⟩=>?_⟩;subst e;have:=hy xs Hn;rw[hx]at this;cases this;exact⟨G',Rep.mono gg rx,rel,.refl⟩
theorem wU{K:W.Frag}{G:Hp}{a:Addr}{xs:List V}{ds:List D}(sq:SqT K G a xs)(rs:Reps K G ds xs):Walk K G (PU K a) ds:=by
 intro G' H' es vs fp gg rel i;have Hn:SqT K H' a xs:=bc rel.gh (bc gg sq);refine⟨fun d hd=>?_,fun e=>⟨xs,Hn,by rw[rs.length];lia⟩⟩;obtain⟨x,hx,rx⟩:=rs.get hd;refine⟨⟨xs,x,Hn,hx⟩,fun y H2 ⟨e,hy⟩=>?_⟩;subst e;have:=hy xs Hn;rw[hx]at this;cases this;exact⟨G',Rep.mono gg rx,rel,.refl⟩
theorem zr(h:QE X l f):QI X tg l (BI f):=ik (sO h) fun σ H R Gd=>by
 obtain⟨G,env,fp,ds,env',rel,e,k⟩:=Gd;obtain⟨⟨⟨o,d⟩,FZ⟩,e1,e⟩:=ai e;dsimp only at e;split at e
 ·cases e;refine⟨G,env,fp,_,_,rel,e1,fun v H1 G1 Gn Ge F4=>?_⟩;obtain⟨G2,b,rv,F3,F8⟩:=F4.freeze;obtain⟨p,xs,ev,sq,rs⟩:=bz rv;exact⟨p,ev,⟨xs,gD F3.gh sq⟩,k _ H1 G2 b (Ge.trans F8) F3 (om sq rs)⟩
 ·cases e
theorem lJ(h:QE X l f):QI X tg l (j6 f):=ik (AZ h) fun σ H R Gd=>by
 obtain⟨G,env,fp,ds,env',rel,e,k⟩:=Gd;obtain⟨⟨⟨o,d⟩,FZ⟩,e1,e⟩:=ai e;dsimp only at e;split at e
 ·cases e;refine⟨G,env,fp,_,_,rel,e1,fun v H1 G1 Gn Ge F4=>?_⟩;obtain⟨G2,b,rv,F3,F8⟩:=F4.freeze;obtain⟨p,xs,ev,sq,rs⟩:=bh rv;exact⟨p,ev,⟨xs,bc F3.gh sq⟩,k _ H1 G2 b (Ge.trans F8) F3 (wU sq rs)⟩
 ·cases e
def j7(f:FX):FI:=fun env=>(f env).bind fun p=>match p.1.2 with
 | .str l=>.ok (l.map fun c=>.str [c],p.2)
 |_=>.bad
theorem lK(h:QE X l f):QI X tg l (j7 f):=ik (Bo h) fun σ H R Gd=>by
 obtain⟨G,env,fp,ds,env',rel,e,k⟩:=Gd;obtain⟨⟨⟨o,d⟩,FZ⟩,e1,e⟩:=ai e;dsimp only at e;split at e
 ·rename_i cs;cases e;refine⟨G,env,fp,_,_,rel,e1,fun v H1 G1 Gn Ge F4=>?_⟩;obtain⟨G2,b,rv,F3,F8⟩:=F4.freeze;obtain⟨ev,hl⟩:=bg rv;refine⟨cs,ev,k _ H1 G2 b (Ge.trans F8) F3 fun G' H' es vs F9 gg Gy i=>⟨fun d hd=>?_,fun e=>?_⟩⟩
  ·rw[Sm]at hd;cases hc:cs[i]? with
   |none=>rw[hc]at hd;cases hd
   |some c=>
    rw[hc]at hd;cases hd;refine⟨(Se.mp hc).1,fun x H2 ⟨e1,e2⟩=>?_⟩;subst e1;refine⟨G',?_,Gy,.refl⟩;rw[e2];show Rep X.K G' (.str [c]) (.str (S [cs.getD i 0]));rw[Sj,hc];exact dy (by rw[line_eq];simp)
  ·rw[RU]at e;exact e
 ·cases e
def cm(f:FO):FI:=fun env=>(f env).bind fun p=>(der p.2 p.1).bind fun d=>match d with
 | .int j=>if -4611686018427387904<=j/\j<4611686018427387904 then .ok ((List.range j.toNat).map fun(k:Nat)=>D.int (k:Int),p.2) else .bad
 |_=>.bad
theorem rH{K:W.Frag}{G:Hp}(lo:Int)(n:Nat):Walk K G (Pd lo n) ((List.range n).map fun(k:Nat)=>D.int (lo+(k:Int))):=by
 intro G' H' es vs fp gg rel i;refine⟨fun d hd=>?_,fun e=>?_⟩
 ·rw[Sm]at hd;cases hc:(List.range n)[i]? with
  |none=>rw[hc]at hd;cases hd
  |some c=>
   rw[hc]at hd;cases hd;obtain⟨h1,h2⟩:=Se.mp hc;rw[Sh]at h1;rw[TV]at h2;subst h2;refine⟨h1,fun x H2 ⟨e1,e2⟩=>?_⟩;subst e1;exact⟨G',by rw[e2];exact bu _,rel,.refl⟩
 ·rw[RU,Sh]at e;exact Xt e.symm
theorem eC{a:Expr}{fa:FO}{p pos:Pos}(hg:Gl X "range")(hm:X.mg "range" = none)(ha:QO X a fa)(hs:starEach [a] X.env=[(false,eval a X.env)]:=by rfl):QI X tg (.Call (.Name "range" p) [a] [] pos) (cm fa):=
 ik (sP hg hm (ab ha ah hs) hs) fun σ H R Gd=>by
  obtain⟨G,env,fp,ds,env',rel,e,k⟩:=Gd;obtain⟨⟨o,FZ⟩,e1,e⟩:=ai e;obtain⟨d,e2,e⟩:=ai e;dsimp only at e;split at e
  ·rename_i j;split at e
   ·rename_i hj;cases e;refine⟨G,env,fp,[o],_,rel,by show(fa env).bind _=_;rw[e1];rfl,fun vs H1 G1 Gn Ge F4 HB=>?_⟩;obtain⟨y,ys,ev,k1,k2⟩:=HB;have k2:ys=[]:=k2;subst k2;have hv:=bq (F4.vw k1 e2);subst hv;refine⟨j,ev,by lia,by lia,k _ H1 G1 Gn Ge F4 ?_⟩;have w:=rH (K:=X.K) (G:=G1) 0 j.toNat
    simpa using w
   ·cases e
  ·cases e
noncomputable def DZ(fs:FOs):FI:=fun env=>(fs env).bind fun p=>(qv p.2 p.1).bind fun d=>match d with
 |[.int i,.int j]=>if(-4611686018427387904<=i/\i<4611686018427387904)/\-4611686018427387904<=j/\j<4611686018427387904 then .ok ((List.range (j-i).toNat).map fun(k:Nat)=>D.int (i+(k:Int)),p.2) else .bad
 |_=>.bad
def fK(k:Bool):D->Res (List D)
 | .lst ds=>if k then .ok ds else .bad
 | .tup ds=>if k then .bad else .ok ds
 |_=>.bad
def lA(k1 k2:Bool)(fs:FOs):FI:=fun env=>(fs env).bind fun p=>match p.1 with
 |[.val d1,.val d2]=>(fK k1 d1).bind fun a=>(fK k2 d2).bind fun b=>.ok ((a.zip b).map fun z=>D.tup [z.1,z.2],p.2)
 |_=>.bad
theorem jQ{K:W.Frag}{G:Hp}{k:Bool}{d:D}{ds:List D}{v:V}(e:fK k d=.ok ds)(r:Rep K G d v):∃p xs,v=.ref p/\(if k then SqL K G p xs else SqT K G p xs)/\Reps K G ds xs:=by
 cases d with
 |lst es=>
  cases k with
  |true=>
   cases e;obtain⟨p,xs,e1,q,rs⟩:=bz r;exact⟨p,xs,e1,q,rs⟩
  |false=>cases e
 |tup es=>
  cases k with
  |true=>cases e
  |false=>
   cases e;obtain⟨p,xs,e1,q,rs⟩:=bh r;exact⟨p,xs,e1,q,rs⟩
 |_=>cases e
theorem g6{K:W.Frag}{G G':Hp}{k:Bool}{p:Addr}{xs:List V}(h:Same G G')(r:if k then SqL K G p xs else SqT K G p xs):if k then SqL K G' p xs else SqT K G' p xs:=by
 cases k with
 |true=>exact gD h r
 |false=>exact bc h r
theorem wV{K:W.Frag}{G:Hp}{k1 k2:Bool}{p1 p2:Addr}{xs ys:List V}{as bs:List D}(s1:if k1 then SqL K G p1 xs else SqT K G p1 xs)(s2:if k2 then SqL K G p2 ys else SqT K G p2 ys)(r1:Reps K G as xs)(r2:Reps K G bs ys):
  Walk K G (Qe K k1 k2 p1 p2) ((as.zip bs).map fun z=>D.tup [z.1,z.2]):=by
 intro G' H' es vs fp gg rel i;have g1:=g6 (gg.trans rel.gh) s1;have g2:=g6 (gg.trans rel.gh) s2;refine⟨fun d hd=>?_,fun e=>⟨xs,ys,g1,g2,?_⟩⟩
 ·rw[Sm]at hd;cases hz:(as.zip bs)[i]? with
  |none=>rw[hz]at hd;cases hd
  |some z=>
   rw[hz]at hd;cases hd;obtain⟨h1,h2⟩:=Up.mp hz;obtain⟨x,hx,rx⟩:=r1.get h1;obtain⟨y,hy,ry⟩:=r2.get h2;refine⟨⟨xs,ys,x,y,g1,g2,hx,hy⟩,fun v H2 ⟨T,hT,ev,hh⟩=>?_⟩;have e2:=hh xs ys x y g1 g2 hx hy;subst e2;obtain⟨F3,F8⟩:=rel.newF (u:=.tup [x,y]) hT;refine⟨_,?_,F3,F8⟩;rw[Rep];exact⟨T,[x,y],ev,aW,.cons (Rep.mono (gg.trans F8.gg) rx) (.one (Rep.mono (gg.trans F8.gg) ry))⟩
 ·rw[RU,Ui]at e;rw[r1.length,r2.length];exact e
theorem qE(k1 k2:Bool){JY:List Expr}{kt:Nat}{pt:Pos}{e1 e2:Expr}{fs:FOs}{p pos:Pos}(hg:Gl X "zip")(hm:X.mg "zip" = none)(ha:KL X [e1,e2] fs)(he:starEach [e1,e2] X.env=(false,eval e1 X.env)::starEach [e2] X.env:=by rfl)(Ha:(backTo pos (starEach [e2] X.env)).any (·.1)=false:=by rfl):
  QI X (.Tuple JY kt pt) (.Call (.Name "zip" p) [e1,e2] [] pos) (lA k1 k2 fs):=
 ik (Bt k1 k2 hg hm ha he Ha) fun σ H R Gd=>by
  obtain⟨G,env,fp,ds,env',rel,e,k⟩:=Gd;obtain⟨⟨o,FZ⟩,e1,e⟩:=ai e;dsimp only at e;split at e
  ·rename_i d1 d2;obtain⟨a,ea,e⟩:=ai e;obtain⟨b,eb,e⟩:=ai e;cases e;refine⟨G,env,fp,_,_,rel,e1,fun vs H1 G1 Gn Ge F4 HB=>?_⟩;obtain⟨y,ys,ev,v1,z,zs,Lw,v2,e3⟩:=HB;have e3:zs=[]:=e3;subst e3;obtain⟨p1,NG,Oo,q1,r1⟩:=jQ ea v1;obtain⟨p2,K5,Oq,q2,r2⟩:=jQ eb v2;subst Oo;subst Oq;subst Lw;exact⟨p1,p2,NG,K5,ev,g6 F4.gh q1,g6 F4.gh q2,k _ H1 G1 Gn Ge F4 (wV q1 q2 r1 r2)⟩
  ·cases e
end
def fBody(np nn:Nat)(g:FS):List D->Res R:=fun ds=>if ds.length=np then(g (ds.map (fun d=>some (O.f,d))++List.replicate nn none)).bind fun o=>match o with
 | .rt r=>.ok r
 | .nx _=>.ok (.f,.non)
 |_=>.bad
 else .bad
theorem j8{K:W.Frag}{G H:Hp}(n:Nat):∀{ds:List D}{vs:List V},Reps K G ds vs->RepE K G H (ds.map (fun d=>some (O.f,d))++List.replicate n none) (vs.map some++List.replicate n none) []
 |[],vs,r=>by
  rw[Reps]at r;subst r;show RepE K G H (List.replicate n none) (List.replicate n none) [];induction n with
  |zero=>exact⟨rfl,rfl⟩
  |succ n ih=>exact⟨none,_,rfl,ih⟩
 |d::ds,vs,r=>by
  rw[Reps]at r;obtain⟨y,ys,e,r1,r2⟩:=r;subst e;exact⟨some y,_,rfl,y,[],[],rfl,rfl,fH.mpr ⟨r1,rfl⟩,j8 n r2⟩
theorem cT{P:Program}{w:World}{K:W.Frag}{mg:Str->Option Value}{base:Heap}{x:Str}{st:Stmt}{N ps:List Str}{k:Nat}{g:FS}(Df:Def K mg x st)(sc:FnScope N ps (defScope st))
  (hb:∀(kV doc pm:Value) (an:Option Addr) (Gw ct:Value) (us:List Value),us.length=ps.length->bindArgs (PySem.W.fnOf x x (fG st) (du st) (defScope st) .none kV doc pm an Gw ct) ⟨us,[]⟩=pure (ps.zip us))
  (body:∀(f:Addr) (Gw:Value) (A:Around) (outer:List PySem.Env) (s:Shared) (H:Hp) (E:XK),Room k (A.deeper (envOfC x (defScope st) s.heap.objs.size f Gw))->Lv (md:=.plain) (xF KZ P w K mg base N x (defScope st) f Gw A outer s H E).nox (du st) g):
  Ct P w K mg base x (k+1) (spF K (fBody ps.length (N.length-ps.length) g)):=by
 obtain⟨f,fd,F,m⟩:=Df;refine⟨f,fd,ps,F.ok sc (fun vs H Q E h=>?_) (fun Gw A outer s H vs Q E hr h=>?_),m,F.kp,F.binds hb⟩
 ·obtain⟨G,ds,r,_,rs,e,_⟩:=h;unfold fBody at e;split at e
  ·rename_i hl;rw[rs.length,hl]
  ·cases e
 ·obtain⟨G,ds,r,gh,rs,e,q⟩:=h;unfold fBody at e;split at e
  ·rename_i hl;refine⟨_,body f Gw A outer s H E hr,G,ds.map (fun d=>some (O.f,d))++List.replicate (N.length-ps.length) none,[],⟨?_,UE,(fun _ h=>nomatch h),gh⟩,?_⟩
   ·have:=j8 (K:=K) (G:=G) (H:=H) (N.length-ps.length) rs;unfold L2.ll;rw[rs.length,hl];exact this
   ·obtain⟨o,eo,e⟩:=ai e;rw[eo];cases o with
    |rt r'=>
     cases e;exact fun v H' G' F9 st rel=>q v H' G' F9 st rel
    |nx env'=>
     cases e;exact fun σ' H' G' F9 st rel=>q .non H' G' [] (st.trans (Step.cut fun _ h=>nomatch h)) (rel.nilF.push g5)
    |bk env'=>cases e
    |ct env'=>cases e
  ·cases e
def dB(ix:List (Option Nat))(env:PV.Env):PV.Env:=ix.map fun j=>j.bind fun j=>match env[j]? with
 |some (some r)=>some (O.f,r.2)
 |_=>none
def il:FT:=fun env=>.ok (true,env)
def dh(a:FG)(c:FT)(f:FX):List D->PV.Env->Res (List D)
 |[],_=>.ok []
 |d::ds,env=>(a d env).bind fun e=>(c e).bind fun p=>if p.1 then(f p.2).bind fun q=>(dh a c f ds q.2).bind fun rs=>.ok (q.1.2::rs) else dh a c f ds p.2
def gI(fi:FI)(ix:List (Option Nat))(a:FG)(c:FT)(f:FX):FX:=fun env=>(fi env).bind fun p=>(dh a c f p.1 (dB ix p.2)).bind fun ds=>if ds.length<=sizeLine then .ok ((.l .f,.lst ds),if flatDs ds then p.2 else p.2.map frz) else .bad
theorem my:∀ds,ds.all (cj .f)=flatDs ds
 |[]=>rfl
 |d::ds=>by rw[Vz,flatDs,my ds,cj]
theorem fL{K:W.Frag}{G1 H:Hp}{es:PV.Env}{σ:L2.St}(ht:∀(i:Nat) (r:R) (v:V),es[i]?=some (some r)->σ[i]?=some (some v)->Rep K G1 r.2 v)(hv:∀(i:Nat) (r:R),es[i]?=some (some r)->∃v,σ[i]?=some (some v)):
  ∀ix:List (Option Nat),RepE K G1 H (dB ix es) (lH ix σ) []
 |[]=>⟨rfl,rfl⟩
 |none::ix=>⟨none,_,rfl,fL ht hv ix⟩
 |some j::ix=>by
  show RepE K G1 H ((match es[j]? with|some (some r)=>some (O.f,r.2)|_=>none)::dB ix es) ((σ[j]?).bind id::lH ix σ) [];cases e:es[j]? with
  |none=>exact⟨_,_,rfl,fL ht hv ix⟩
  |some r=>
   cases r with
   |none=>exact⟨_,_,rfl,fL ht hv ix⟩
   |some r=>
    obtain⟨v,ev⟩:=hv j r e;refine⟨_,_,rfl,v,[],[],?_,rfl,fH.mpr ⟨ht j r v e ev,rfl⟩,fL ht hv ix⟩;rw[ev];rfl
section
variable{md:Mode}{X:Cx}{scope:Scope}{N:List Str}{tg iter elt:Expr}{ifs:List Expr}{pos:Pos}{fi:FI}{a:FG}{c:FT}{f:FX}
def QN(X:Cx)(ifs:List Expr)(c:FT):Prop:=Oa X ifs (tQT X.K c)
theorem di:QN X [] il:=fun pr s σ H Q I Gd=>by
 obtain⟨G,env,fp,b,env',rel,e,k⟩:=Gd;cases e;exact yZ pr s σ H Q I (k H G fp .refl rel)
end
section
variable{X:Cx}
inductive rCatS(K:W.Frag)(x:V)(y:V)(H:Hp)(Q:VK):Prop
 |mk:∀l b xs zs,x=.ref l->y=.ref b->SqL K H l xs->SqL K H b zs->xs.length+zs.length<=sizeLine->(∀p,H p=none->Q (.ref p) (upd H p (.lst (xs++zs))))->rCatS K x y H Q
theorem zt:GH X (binaryOp .Add) (rCatS X.K):=by
 intro pr s σ H x y v u Q I rx ry h;obtain⟨l,b,xs,zs,rfl,rfl,hH,hB,hz,q⟩:=h;cases rx;cases ry;obtain⟨F6,r1,p1,_⟩:=I.list hH;obtain⟨KY,r2,p2,_⟩:=I.list hB;have l1:=r1.length;have l2:=r2.length;obtain⟨⟨cls,dd,data,sl⟩,ho,hc,n,hd⟩:=id p1.isList;obtain⟨⟨NZ,Mu,data2,Mv⟩,Ic,Lq,n2,hd2⟩:=id p2.isList;simp only at hc hd Lq hd2;subst hc hd Lq hd2;have e:F6.toArray++KY.toArray=(F6++KY).toArray:=by simp
 refine concat_meets ⟨_,ho,rfl⟩ ⟨_,Ic,rfl⟩ noFill_list_add seq_list_add PySem.F.slot_list_add PySem.F.entry_list_add (PySem.F.args_list_add_2 _ _) (list_addW l b F6.toArray KY.toArray n n2 dd Mu sl Mv (by rw[RY,RY];lia)) ⟨ho,Ic,?_⟩;rw[e];exact⟨.ref _,_,I.lnew (t':=s.toks) (r1.append r2) (by rw[SM];lia),rfl,q _ I.fresh⟩
end
noncomputable def addD:D->D->Res R
 | .int i,.int j=>.ok (.f,.int (i+j))
 | .str a,.str b=>if a.length+b.length<=sizeLine then .ok (.f,.str (a++b)) else .bad
 | .lst a,.lst b=>if a.length+b.length<=sizeLine then .ok (.l .f,.lst (a++b)) else .bad
 | .tup a,.tup b=>if a≠[]/\a.length+b.length<=sizeLine then .ok (.f,.tup (a++b)) else .bad
 |_,_=>.bad
section
variable{X:Cx}
theorem mz{K:W.Frag}{G H:Hp}{fp:List Addr}{es:PV.Env}{vs:L2.St}{ds:List D}{xs:List V}{p:Addr}(rel:Rel K G H es vs fp)(hp:H p=none)(r:Reps K G ds xs):
  ∃G',Rel K G' (upd H p (.tup xs)) (some (.f,.tup ds)::es) (some (.ref p)::vs) fp/\Step G H fp G' (upd H p (.tup xs)) fp:=by
 obtain⟨F3,F8⟩:=rel.newF (u:=.tup xs) hp;refine⟨_,F3.push ?_,F8⟩;rw[Rep];exact⟨p,xs,rfl,aW,r.mono F8.gg⟩
theorem a8:GH X (binaryOp .Add) (rG X.K addD):=by
 rintro pr s σ H x y v u Q I rx ry ⟨G,fp,es,vs,a,b,r,⟨rel,k⟩,va,vb,e⟩;unfold addD at e;split at e
 ·rename_i i j;cases e;cases bq va;cases bq vb;exact A7 pr s σ H _ _ v u Q I rx ry ⟨i,j,rfl,rfl,k _ H G fp .refl (rel.push (bu _))⟩
 ·rename_i i j;split at e
  ·rename_i hl;cases e;obtain⟨e1,h1⟩:=eB va;obtain⟨e2,h2⟩:=eB vb;subst e1;subst e2;refine rk pr s σ H _ _ v u Q I rx ry ⟨_,_,rfl,rfl,by rw[gG,gG];exact hl,?_⟩;rw[Bm];exact k _ H G fp .refl (rel.push (dy (by rw[SM];exact hl)))
  ·cases e
 ·rename_i i j;split at e
  ·rename_i hl;cases e;obtain⟨p,xs,e1,h1,r1⟩:=va;obtain⟨p2,K5,e2,h2,r2⟩:=vb;subst e1;subst e2;refine zt pr s σ H _ _ v u Q I rx ry ⟨p,p2,xs,K5,rfl,rfl,h1,h2,by rw[r1.length,r2.length];exact hl,fun q hq=>?_⟩;obtain⟨F3,F8⟩:=rel.newL hq (r1.app r2);exact k _ _ G _ F8 F3
  ·cases e
 ·rename_i i j;split at e
  ·rename_i hl;cases e;obtain⟨p,xs,e1,h1,r1⟩:=jk va;obtain⟨p2,K5,e2,h2,r2⟩:=jk vb;subst e1;subst e2;have hx:xs≠[]:=fun z=>hl.1 (S7 (by rw[<-r1.length,z];rfl))
   refine yQ pr s σ H _ _ v u Q I rx ry ⟨p,p2,xs,K5,rfl,rfl,bc rel.gh h1,bc rel.gh h2,hx,by rw[r1.length,r2.length];exact hl.2,fun z=>?_,fun z q hq=>?_⟩
   ·have:j=[]:=S7 (by rw[<-r2.length,z];rfl);subst this;rw[Sg]at k;exact k _ H G fp .refl (rel.push va)
   ·obtain⟨G',F3,F8⟩:=mz rel hq (r1.app r2);exact k _ _ G' _ F8 F3
  ·cases e
 ·cases e
def zu:D->D->Res R
 | .int i,.int j=>.ok (.f,.int (i-j))
 |_,_=>.bad
theorem qF:GH X (binaryOp .Sub) (rG X.K zu):=by
 rintro pr s σ H x y v u Q I rx ry ⟨G,fp,es,vs,a,b,r,⟨rel,k⟩,va,vb,e⟩;unfold zu at e;split at e
 ·rename_i i j;cases e;cases bq va;cases bq vb;exact A8 pr s σ H _ _ v u Q I rx ry ⟨i,j,rfl,rfl,k _ H G fp .refl (rel.push (bu _))⟩
 ·cases e
def c8(i:Int):Bool:=decide (-(2 ^ 64)<i/\i<2 ^ 64)
def D0:D->D->Res R
 | .int i,.int j=>if c8 i||c8 j then .ok (.f,.int (i*j)) else .bad
 |_,_=>.bad
theorem BJ:GH X (binaryOp .Mult) (rG X.K D0):=by
 rintro pr s σ H x y v u Q I rx ry ⟨G,fp,es,vs,a,b,r,⟨rel,k⟩,va,vb,e⟩;unfold D0 at e;split at e
 ·rename_i i j;split at e
  ·rename_i hc;cases e;cases bq va;cases bq vb;have hc:CMul i j:=by
    rw[WG]at hc;exact hc.imp US US
   exact Ba pr s σ H _ _ v u Q I rx ry ⟨i,j,rfl,rfl,hc,k _ H G fp .refl (rel.push (bu _))⟩
  ·cases e
 ·cases e
def j9:D->D->Res R
 | .int i,.int j=>if 0<j/\j<1073741824 then .ok (.f,.int (i / j)) else .bad
 |_,_=>.bad
theorem iX:GH X (binaryOp .FloorDiv) (rG X.K j9):=by
 rintro pr s σ H x y v u Q I rx ry ⟨G,fp,es,vs,a,b,r,⟨rel,k⟩,va,vb,e⟩;unfold j9 at e;split at e
 ·rename_i i j;split at e
  ·rename_i hc;cases e;cases bq va;cases bq vb;exact yJ pr s σ H _ _ v u Q I rx ry ⟨i,j,rfl,rfl,hc,k _ H G fp .refl (rel.push (bu _))⟩
  ·cases e
 ·cases e
def gL:D->D->Res R
 | .int i,.int j=>if 0<j then .ok (.f,.int (i%j)) else .bad
 |_,_=>.bad
theorem cA:GH X (binaryOp .Mod) (rG X.K gL):=by
 rintro pr s σ H x y v u Q I rx ry ⟨G,fp,es,vs,a,b,r,⟨rel,k⟩,va,vb,e⟩;unfold gL at e;split at e
 ·rename_i i j;split at e
  ·rename_i hc;cases e;cases bq va;cases bq vb;exact Bb pr s σ H _ _ v u Q I rx ry ⟨i,j,rfl,rfl,hc,k _ H G fp .refl (rel.push (bu _))⟩
  ·cases e
 ·cases e
def powD:D->D->Res R
 | .int i,.int j=>if 0<=j/\j<=1000000/\i.natAbs<2 ^ 64 then .ok (.f,.int (i ^ j.toNat)) else .bad
 |_,_=>.bad
theorem oq:GH X (binaryOp .Pow) (rG X.K powD):=by
 rintro pr s σ H x y v u Q I rx ry ⟨G,fp,es,vs,a,b,r,⟨rel,k⟩,va,vb,e⟩;unfold powD at e;split at e
 ·rename_i i j;split at e
  ·rename_i hc;cases e;cases bq va;cases bq vb;exact Bc pr s σ H _ _ v u Q I rx ry ⟨i,j,rfl,rfl,hc,k _ H G fp .refl (rel.push (bu _))⟩
  ·cases e
 ·cases e
def NB:D->D->Res R
 | .int i,.int j=>.ok (.f,.bl (decide (i<j)))
 | .str a,.str b=>.ok (.f,.bl (decide (a<b)))
 |_,_=>.bad
theorem D1:GH X (compareOp .Lt) (rG X.K NB):=by
 rintro pr s σ H x y v u Q I rx ry ⟨G,fp,es,vs,a,b,r,⟨rel,k⟩,va,vb,e⟩;unfold NB at e;split at e
 ·rename_i i j;cases e;cases bq va;cases bq vb;exact DH pr s σ H _ _ v u Q I rx ry ⟨i,j,rfl,rfl,k _ H G fp .refl (rel.push (cH _))⟩
 ·rename_i i j;cases e;obtain⟨e1,h1⟩:=eB va;obtain⟨e2,h2⟩:=eB vb;subst e1;subst e2;refine sR pr s σ H _ _ v u Q I rx ry ⟨_,_,rfl,rfl,?_⟩;rw[dv,dv];exact k _ H G fp .refl (rel.push (cH _))
 ·cases e
def Lx:D->D->Res R
 | .int i,.int j=>.ok (.f,.bl (decide (i<=j)))
 | .str a,.str b=>.ok (.f,.bl (!decide (b<a)))
 |_,_=>.bad
theorem rJ:GH X (compareOp .LtE) (rG X.K Lx):=by
 rintro pr s σ H x y v u Q I rx ry ⟨G,fp,es,vs,a,b,r,⟨rel,k⟩,va,vb,e⟩;unfold Lx at e;split at e
 ·rename_i i j;cases e;cases bq va;cases bq vb;exact L2.DI pr s σ H _ _ v u Q I rx ry ⟨i,j,rfl,rfl,k _ H G fp .refl (rel.push (cH _))⟩
 ·rename_i i j;cases e;obtain⟨e1,h1⟩:=eB va;obtain⟨e2,h2⟩:=eB vb;subst e1;subst e2;refine tH pr s σ H _ _ v u Q I rx ry ⟨_,_,rfl,rfl,?_⟩;rw[dv,dv];exact k _ H G fp .refl (rel.push (cH _))
 ·cases e
def JZ:D->D->Res R
 | .int i,.int j=>.ok (.f,.bl (decide (j<i)))
 |_,_=>.bad
theorem ka:GH X (compareOp .Gt) (rG X.K JZ):=by
 rintro pr s σ H x y v u Q I rx ry ⟨G,fp,es,vs,a,b,r,⟨rel,k⟩,va,vb,e⟩;unfold JZ at e;split at e
 ·rename_i i j;cases e;cases bq va;cases bq vb;exact DJ pr s σ H _ _ v u Q I rx ry ⟨i,j,rfl,rfl,k _ H G fp .refl (rel.push (cH _))⟩
 ·cases e
def geD:D->D->Res R
 | .int i,.int j=>.ok (.f,.bl (decide (j<=i)))
 |_,_=>.bad
end
abbrev FDs:=PV.Env->Res (List D×PV.Env)
inductive tDs(K:W.Frag)(f:FDs)(σ:L2.St)(H:Hp)(Q:List V->Hp->Prop):Prop
 |mk:∀G env fp ds env',Rel K G H env σ fp->f env=.ok (ds,env')->(∀vs H' G' F9,Step G H fp G' H' F9->Rel K G' H' env' σ F9->Reps K G' ds vs->Q vs H')->tDs K f σ H Q
def Ot(X:Cx)(es:List Expr)(f:FDs):Prop:=PA X es (tDs X.K f)
def bH:FDs:=fun env=>.ok ([],env)
def aF(f:FX)(g:FDs):FDs:=fun env=>(f env).bind fun p=>(g p.2).bind fun q=>.ok (p.1.2::q.1,q.2)
section
variable{X:Cx}
theorem aP:Ot X [] bH:=qw jS fun σ H Q Gd=>by
 obtain⟨G,env,fp,o,env',rel,e,k⟩:=Gd;cases e;exact k [] H G fp .refl rel .nil
theorem av{e:Expr}{es:List Expr}{f:FX}{g:FDs}(h:QE X e f)(hs:Ot X es g)(JF:starEach (e::es) X.env=(false,eval e X.env)::starEach es X.env:=by rfl):Ot X (e::es) (aF f g):=
 qw (eK h hs JF) fun σ H Q Gd=>by
  obtain⟨G,env,fp,o,env',rel,e,k⟩:=Gd;obtain⟨⟨r,FZ⟩,e1,e⟩:=ai e;obtain⟨⟨ds,Gm⟩,e2,e⟩:=ai e;cases e;refine⟨G,env,fp,r,FZ,rel,e1,fun v H1 G1 Gn Ge F4=>?_⟩;obtain⟨G2,b,rv,F3,F8⟩:=F4.freeze;exact⟨G2,FZ,b,ds,Gm,F3,e2,fun vs H3 G3 IS GA Gs rs=>k _ H3 G3 IS (Ge.trans (F8.trans GA)) Gs (.cons (Rep.mono GA.gg rv) rs)⟩
def pC(fs:FDs):FX:=fun env=>(fs env).bind fun p=>if p.1.length<=1000 then .ok ((.f,.tup p.1),p.2) else .bad
def jm(fs:FDs):FX:=fun env=>(fs env).bind fun p=>if p.1.length<=1000 then .ok ((.l .f,.lst p.1),p.2) else .bad
variable{es:List Expr}{fs:FDs}{pos:Pos}
theorem fM{x1}(h:Ot X es fs):QE X (.Tuple es x1 pos) (pC fs):=bo (xD h) fun σ H Q Gd=>by
 obtain⟨G,env,fp,r,env',rel,e,k⟩:=Gd;obtain⟨⟨ds,FZ⟩,e1,e⟩:=ai e;dsimp only at e;split at e
 ·rename_i hl;cases e;refine⟨G,env,fp,ds,env',rel,e1,fun vs H1 G1 Gn Ge F4 rs=>⟨by rw[rs.length,line_eq];lia,fun p hp=>?_⟩⟩;obtain⟨G2,F3,F8⟩:=mz F4 hp rs;exact k _ _ G2 _ (Ge.trans F8) F3
 ·cases e
theorem cJ(h:Ot X es fs):QE X (.List es pos) (jm fs):=bo (xE h) fun σ H Q Gd=>by
 obtain⟨G,env,fp,r,env',rel,e,k⟩:=Gd;obtain⟨⟨ds,FZ⟩,e1,e⟩:=ai e;dsimp only at e;split at e
 ·rename_i hl;cases e;refine⟨G,env,fp,ds,env',rel,e1,fun vs H1 G1 Gn Ge F4 rs=>⟨by rw[rs.length,line_eq];lia,fun p hp=>?_⟩⟩;obtain⟨F3,F8⟩:=F4.newL hp rs;exact k _ _ G1 _ (Ge.trans F8) F3
 ·cases e
noncomputable def Gq:D->D->Res R
 | .lst ds,.int i=>match Hv ds i with
  |some d=>.ok (.f,d)
  |none=>.bad
 | .tup ds,.int i=>match Hv ds i with
  |some d=>.ok (.f,d)
  |none=>.bad
 | .str l,.int i=>match Hv l i with
  |some c=>.ok (.f,.str [c])
  |none=>.bad
 |_,_=>.bad
theorem qG{K:W.Frag}{G:Hp}{ds:List D}{xs:List V}{i:Int}{d:D}(r:Reps K G ds xs)(e:Hv ds i=some d):∃v,Hv xs i=some v/\Rep K G d v:=by
 unfold Hv at e ⊢;rw[r.length];cases hn:ixN ds.length i with
 |none=>rw[hn]at e;cases e
 |some j=>
  rw[hn]at e;exact r.get e
theorem D2:N5 X (rG X.K Gq):=by
 rintro value slice pr s σ H x y v u Q I rx ry ⟨G,fp,es,vs,a,b,r,⟨rel,k⟩,va,vb,e⟩ hs;unfold Gq at e;split at e
 ·rename_i ds i;split at e
  ·rename_i d hd;cases e;obtain⟨p,xs,ev,sq,rs⟩:=va;subst ev;cases bq vb;obtain⟨w',hw,GK⟩:=qG rs hd;exact tm value slice pr s σ H _ _ v u Q I rx ry ⟨p,xs,i,w',rfl,rfl,sq,hw,k _ H G fp .refl (rel.push GK)⟩ hs
  ·cases e
 ·rename_i ds i;split at e
  ·rename_i d hd;cases e;obtain⟨p,xs,ev,sq,rs⟩:=jk va;subst ev;cases bq vb;obtain⟨w',hw,GK⟩:=qG rs hd;exact xH value slice pr s σ H _ _ v u Q I rx ry ⟨p,xs,i,w',rfl,rfl,bc rel.gh sq,hw,k _ H G fp .refl (rel.push GK)⟩ hs
  ·cases e
 ·rename_i l i;split at e
  ·rename_i c hc;cases e;obtain⟨ev,hl⟩:=eB va;subst ev;cases bq vb;refine Bh value slice pr s σ H _ _ v u Q I rx ry ⟨_,i,c,rfl,rfl,by rw[gG];exact hl,by rw[dv];exact hc,?_⟩ hs;exact k _ H G fp .refl (rel.push (dy (l:=[c]) (by rw[line_eq];simp)))
  ·cases e
 ·cases e
variable{a b:Expr}{fa fb:FO}
theorem bS(ha:QO X a fa)(hb:QO X b fb)(hs:pq b:=by exact fun _ _=>rfl):QE X (.Subscript a b pos) (aD Gq fa fb):=bo (yS D2 ha hb hs) fun _ _ _=>qy
abbrev FP:=PV.Env->Res (Option Int×PV.Env)
inductive tQP(K:W.Frag)(f:FP)(σ:L2.St)(H:Hp)(Q:Option Int->Hp->Prop):Prop
 |mk:∀G env fp i env',Rel K G H env σ fp->f env=.ok (i,env')->(∀H' G' F9,Step G H fp G' H' F9->Rel K G' H' env' σ F9->Q i H')->tQP K f σ H Q
def QP(X:Cx)(e:Option Expr)(f:FP):Prop:=PO X e (tQP X.K f)
def eQ:FP:=fun env=>.ok (none,env)
def d7(f:FX):FP:=fun env=>(f env).bind fun p=>match p.1.2 with
 | .int i=>.ok (some i,p.2)
 |_=>.bad
theorem xT{X:Cx}{e:Option Expr}{t t':TO}(h:PO X e t)(k:∀σ H Q,t' σ H Q->t σ H Q):PO X e t':=fun pr s σ H Q I w=>h pr s σ H Q I (k σ H Q w)
theorem dC:QP X none eQ:=xT yO fun σ H Q Gd=>by
 obtain⟨G,env,fp,i,env',rel,e,k⟩:=Gd;cases e;exact k H G fp .refl rel
theorem cW{e:Expr}{f:FX}(h:QE X e f):QP X (some e) (d7 f):=xT (yP h) fun σ H Q Gd=>by
 obtain⟨G,env,fp,i,env',rel,e,k⟩:=Gd;obtain⟨⟨⟨o,d⟩,FZ⟩,e1,e⟩:=ai e;dsimp only at e;split at e
 ·rename_i j;cases e;refine⟨G,env,fp,_,_,rel,e1,fun v H1 G1 Gn Ge F4=>?_⟩;have hv:=F4.top;obtain⟨b,F3,F8⟩:=F4.drop;exact⟨j,bG hv,k H1 G1 b (Ge.trans F8) F3⟩
 ·cases e
def jG{α:Type}(xs:List α)(lo hi:Option Int):List α:=(xs.drop (HT.sIx xs.length 0 lo)).take (HT.sIx xs.length xs.length hi-HT.sIx xs.length 0 lo)
noncomputable def NH(k:D)(lo hi:Option Int):Res R:=match k with
 | .lst ds=>.ok (.l .f,.lst (jG ds lo hi))
 | .tup ds=>if ¬ (HT.sIx ds.length 0 lo=0/\HT.sIx ds.length ds.length hi=ds.length) then .ok (.f,.tup (jG ds lo hi)) else .bad
 | .str l=>.ok (.f,.str (jG l lo hi))
 |_=>.bad
def eSl(fa:FO)(lo hi:FP):FX:=fun env=>(fa env).bind fun p=>(lo p.2).bind fun q=>(hi q.2).bind fun t=>(der t.2 p.1).bind fun d=>(NH d q.1 t.1).bind fun r=>.ok (r,t.2)
theorem qH{K:W.Frag}{G:Hp}{ds:List D}{xs:List V}{lo hi:Option Int}(r:Reps K G ds xs):Reps K G (jG ds lo hi) (xG xs lo hi):=by
 unfold jG xG;rw[r.length];exact(r.drop _).take _
theorem zv{α:Type}(xs:List α)(lo hi:Option Int):(jG xs lo hi).length<=xs.length:=by
 unfold jG;rw[SA,Tx];lia
inductive rSl(K:W.Frag)(x:V)(lo:Option Int)(hi:Option Int)(H:Hp)(Q:VK):Prop
 |mk:∀G fp es vs d r,Goes K H G fp es vs r Q->Vw K G H d x->NH d lo hi=.ok r->rSl K x lo hi H Q
theorem BK:MJ X (rSl X.K):=by
 rintro pr s σ H x v vl vu lo hi sl Q I rx hs pl pu ⟨G,fp,es,vs,d,r,⟨rel,k⟩,vd,e⟩;unfold NH at e;split at e
 ·rename_i ds;cases e;obtain⟨p,xs,ev,sq,rs⟩:=vd;subst ev;refine yT pr s σ H _ v vl vu lo hi sl Q I rx hs pl pu ⟨p,xs,rfl,sq,fun q hq=>?_⟩;obtain⟨F3,F8⟩:=rel.newL hq (qH (lo:=lo) (hi:=hi) rs);exact k _ _ G _ F8 F3
 ·rename_i ds;split at e
  ·rename_i hw;cases e;obtain⟨p,xs,ev,sq,rs⟩:=jk vd;subst ev;refine Bg pr s σ H _ v vl vu lo hi sl Q I rx hs pl pu ⟨p,xs,rfl,bc rel.gh sq,by rw[rs.length];exact hw,fun q hq=>?_⟩;obtain⟨G2,F3,F8⟩:=mz rel hq (qH (lo:=lo) (hi:=hi) rs);exact k _ _ G2 _ F8 F3
  ·cases e
 ·rename_i l;cases e;obtain⟨ev,hl⟩:=eB vd;subst ev;exact Bn pr s σ H _ v vl vu lo hi sl Q I rx hs pl pu ⟨l,rfl,hl,k _ H G fp .refl (rel.push (dy (l:=Bl l lo hi) (Ta (zv l lo hi) hl)))⟩
 ·cases e
def mB(env:PV.Env)(i:Nat):Bool:=match env[i]? with
 |some (some (_,.lst _))=>true
 |_=>false
theorem mC{K:W.Frag}{G H:Hp}{es:PV.Env}{σ:L2.St}{fp:List Addr}{i:Nat}(rel:Rel K G H es σ fp)(h:mB es i=true):∃v,σ[i]?=some (some v)/\P6 K "list" v H:=by
 unfold mB at h;split at h
 ·rename_i o ds hr;obtain⟨v,ev,rv⟩:=rel.view hr;obtain⟨p,xs,e,sq,_⟩:=bz rv;subst e;exact⟨_,ev,.inl ⟨rfl,xs,sq⟩⟩
 ·cases h
def uq(i:Nat)(f:FX):FX:=fun env=>if mB env i then(f env).bind fun p=>match p.2[i]? with
 |some (some (.l .f,.lst ds))=>if ds.length<sizeLine then .ok ((.f,.non),p.2.set i (some (.l .f,.lst (ds++[p.1.2])))) else .bad
 |_=>.bad
 else .bad
theorem fN{i:Nat}{o e:Expr}{f:FX}{apos Gb:Pos}(ho:PE X o (rg i))(he:QE X e f)
  (GU:attributeBase o "append" X.env (eval o X.env)=eval o X.env:=by rfl)
  (HV:((backTo Gb (starEach [e] X.env)).all (fun x=>!x.1)&&(backToKw Gb (keywordEach [] X.env)).all (fun x=>x.1.isSome)&&decide ([e].length+([]:List Keyword).length+(if([]:List Keyword).isEmpty then 0 else 1)<30))=true:=by rfl)
  (GV:(apos.endLine==Gb.line)=true:=by rfl) (hs:starEach [e] X.env=(false,eval e X.env)::starEach [] X.env:=by rfl) (GD:(backTo Gb (starEach [] X.env)).any (·.1)=false:=by rfl):
  QE X (.Call (.Attribute o "append" apos) [e] [] Gb) (uq i f):=by
 refine bo (rp T8 Uu Uv fF ho (av he aP hs) GU HV GV hs GD) fun σ H Q Gk=>?_
 obtain⟨G,env,fp,r,env',rel,e,k⟩:=Gk;unfold uq at e;split at e
 ·rename_i hil;obtain⟨v,ev,ty⟩:=mC rel hil;obtain⟨⟨r1,FZ⟩,e1,e⟩:=ai e;dsimp only at e;split at e
  ·rename_i ds Kg;split at e
   ·rename_i hl;cases e;refine⟨v,ev,ty,G,env,fp,[r1.2],FZ,rel,by show(f env).bind _=_;rw[e1];rfl,fun vs H1 G1 Gn Ge F4 rs=>?_⟩;rw[Reps]at rs;obtain⟨y,ys,Ou,ry,rn⟩:=rs;rw[Reps]at rn;subst rn;obtain⟨p,xs,ep,hp,Ly,cg⟩:=F4.chg (ds':=ds++[r1.2]) Kg;rw[ev]at ep;cases ep;obtain⟨fq,F3,F8⟩:=cg (xs++[y]) (Ly.app (.one ry));exact⟨p,xs,y,rfl,Ou,hp,by rw[Ly.length];exact hl,k _ _ G1 fq (Ge.trans F8) (F3.push g5)⟩
   ·cases e
  ·cases e
 ·cases e
def D3:List D->Res R
 |[.lst ds]=>.ok (.f,.int ds.length)
 |[.tup ds]=>.ok (.f,.int ds.length)
 |[.str l]=>.ok (.f,.int l.length)
 |_=>.bad
theorem mD{K:W.Frag}{G H:Hp}{d:D}{xs:List V}(h:NF K G H [d] xs):∃v,xs=[v]/\Vw K G H d v:=by
 obtain⟨y,ys,e,v1,e2⟩:=h;have e2:ys=[]:=e2;subst e2;exact⟨y,e,v1⟩
theorem Fw{K:W.Frag}{G H:Hp}{d d':D}{xs:List V}(h:NF K G H [d,d'] xs):∃v w,xs=[v,w]/\Vw K G H d v/\Vw K G H d' w:=by
 obtain⟨y,ys,e,v1,h2⟩:=h;obtain⟨z,e2,v2⟩:=mD h2;subst e2;exact⟨y,z,e,v1,v2⟩
theorem BL:cU X (.builtin "len") (rC X.K D3):=by
 rintro pr s σ H xs us Q I rx ⟨G,fp,es,vs,ds,r,⟨rel,k⟩,vd,e⟩;unfold D3 at e;split at e
 ·rename_i ds;cases e;obtain⟨v,ev,p,ys,ep,sq,rs⟩:=mD vd;subst ev;subst ep;refine jg pr s σ H _ us Q I rx ⟨p,ys,rfl,.inl sq,?_⟩;rw[rs.length];exact k _ H G fp .refl (rel.push (bu _))
 ·rename_i ds;cases e;obtain⟨v,ev,vt⟩:=mD vd;obtain⟨p,ys,ep,sq,rs⟩:=jk vt;subst ev;subst ep;refine jg pr s σ H _ us Q I rx ⟨p,ys,rfl,.inr (bc rel.gh sq),?_⟩;rw[rs.length];exact k _ H G fp .refl (rel.push (bu _))
 ·rename_i l;cases e;obtain⟨v,ev,vt⟩:=mD vd;obtain⟨ep,hl⟩:=eB vt;subst ev;subst ep;refine nO pr s σ H _ us Q I rx ⟨S l,rfl,by rw[gG];exact hl,?_⟩;rw[gG];exact k _ H G fp .refl (rel.push (bu _))
 ·cases e
def ot:List D->Res R
 |[.lst ds]=>.ok (.l .f,.lst ds)
 |[.tup ds]=>.ok (.l .f,.lst ds)
 |_=>.bad
theorem mE:cU X (.type "list") (rC X.K ot):=by
 rintro pr s σ H xs us Q I rx ⟨G,fp,es,vs,ds,r,⟨rel,k⟩,vd,e⟩;unfold ot at e;split at e
 ·rename_i ds;cases e;obtain⟨v,ev,p,ys,ep,sq,rs⟩:=mD vd;subst ev;subst ep;refine jh pr s σ H _ us Q I rx ⟨p,ys,rfl,.inl sq,fun q hq=>?_⟩;obtain⟨F3,F8⟩:=rel.newL hq rs;exact k _ _ G _ F8 F3
 ·rename_i ds;cases e;obtain⟨v,ev,vt⟩:=mD vd;obtain⟨p,ys,ep,sq,rs⟩:=jk vt;subst ev;subst ep;refine jh pr s σ H _ us Q I rx ⟨p,ys,rfl,.inr (bc rel.gh sq),fun q hq=>?_⟩;obtain⟨F3,F8⟩:=rel.newL hq rs;exact k _ _ G _ F8 F3
 ·cases e
def gM:List D->Res R
 |[.lst ds]=>.ok (.f,.tup ds)
 |[.tup ds]=>.ok (.f,.tup ds)
 |_=>.bad
theorem eR:cU X (.type "tuple") (rC X.K gM):=by
 rintro pr s σ H xs us Q I rx ⟨G,fp,es,vs,ds,r,⟨rel,k⟩,vd,e⟩;unfold gM at e;split at e
 ·rename_i ds;cases e;obtain⟨v,ev,p,ys,ep,sq,rs⟩:=mD vd;subst ev;subst ep;refine h9 pr s σ H _ us Q I rx ⟨p,ys,rfl,.inl ⟨sq,fun q hq=>?_⟩⟩;obtain⟨G2,F3,F8⟩:=mz rel hq rs;exact k _ _ G2 _ F8 F3
 ·rename_i ds;cases e;obtain⟨v,ev,vt⟩:=mD vd;obtain⟨p,ys,ep,sq,rs⟩:=jk vt;subst ev;subst ep;exact h9 pr s σ H _ us Q I rx ⟨p,ys,rfl,.inr ⟨bc rel.gh sq,k _ H G fp .refl (rel.push vt)⟩⟩
 ·cases e
def ou:List D->Option (List Bool)
 |[]=>some []
 | .bl b::ds=>(ou ds).map (b:: ·)
 |_=>none
def gN:List D->Option (List Int)
 |[]=>some []
 | .int b::ds=>(gN ds).map (b:: ·)
 |_=>none
theorem lM{K:W.Frag}{G:Hp}:∀{ds:List D}{bs:List Bool}{xs:List V},ou ds=some bs->Reps K G ds xs->xs=bs.map V.bl
 |[],_,_,e,r=>by
  cases e;rw[Reps]at r;exact r
 | .bl b::ds,_,_,e,r=>by
  rw[ou,Sy]at e;obtain⟨bs,e1,e2⟩:=e;subst e2;rw[Reps]at r;obtain⟨y,ys,e3,r1,r2⟩:=r;rw[e3,cI r1,lM e1 r2];rfl
 | .non::_,_,_,e,_ | .int _::_,_,_,e,_ | .str _::_,_,_,e,_ | .tup _::_,_,_,e,_ | .lst _::_,_,_,e,_ | .dct _ _ _::_,_,_,e,_=>by simp[ou]at e
theorem g7{K:W.Frag}{G:Hp}:∀{ds:List D}{bs:List Int}{xs:List V},gN ds=some bs->Reps K G ds xs->xs=bs.map V.int
 |[],_,_,e,r=>by
  cases e;rw[Reps]at r;exact r
 | .int b::ds,_,_,e,r=>by
  rw[gN,Sy]at e;obtain⟨bs,e1,e2⟩:=e;subst e2;rw[Reps]at r;obtain⟨y,ys,e3,r1,r2⟩:=r;rw[e3,bG r1,g7 e1 r2];rfl
 | .non::_,_,_,e,_ | .bl _::_,_,_,e,_ | .str _::_,_,_,e,_ | .tup _::_,_,_,e,_ | .lst _::_,_,_,e,_ | .dct _ _ _::_,_,_,e,_=>by simp[gN]at e
theorem ur(ns:List Bool):ou (ns.map D.bl)=some ns:=by
 induction ns with
 |nil=>rfl
 |cons n ns ih=>rw[So,ou,ih];rfl
def uu:D->Option (List D)
 | .lst ds=>some ds
 | .tup ds=>some ds
 |_=>none
theorem uv{K:W.Frag}{G H:Hp}{d:D}{ds:List D}{v:V}(gh:Same G H)(e:uu d=some ds)(h:Vw K G H d v):∃p xs,v=.ref p/\(SqL K H p xs\/SqT K H p xs)/\Reps K G ds xs:=by
 cases d with
 |lst es=>
  cases e;obtain⟨p,xs,ev,sq,rs⟩:=h;exact⟨p,xs,ev,.inl sq,rs⟩
 |tup es=>
  cases e;obtain⟨p,xs,ev,sq,rs⟩:=bh h;exact⟨p,xs,ev,.inr (bc gh sq),rs⟩
 |_=>cases e
def Az:List D->Res R
 |[d]=>match(uu d).bind ou with
  |some bs=>.ok (.f,.bl (bs.all id))
  |none=>.bad
 |_=>.bad
theorem wW(bs:List Bool):(bs.map V.bl).all DS=true:=by
 rw[Uw,SD];intro b _;rfl
theorem zw(bs:List Bool):(bs.map V.bl).all Bp=bs.all id:=by
 rw[Uw];rfl
theorem xU(hc:X.calm=true):cU X (.builtin "all") (rC X.K Az):=by
 rintro pr s σ H xs us Q I rx ⟨G,fp,es,vs,ds,r,⟨rel,k⟩,vd,e⟩;unfold Az at e;split at e
 ·rename_i d;split at e
  ·rename_i bs hb;cases e;obtain⟨l,hl,hb⟩:=T9.mp hb;obtain⟨v,ev,vt⟩:=mD vd;obtain⟨p,ys,ep,sq,rs⟩:=uv rel.gh hl vt;have:=lM hb rs;subst this;subst ev;subst ep;refine wx hc pr s σ H _ us Q I rx ⟨p,_,rfl,sq,wW bs,?_⟩;rw[zw];exact k _ H G fp .refl (rel.push (cH _))
  ·cases e
 ·cases e
def maxD:List D->Res R
 |[d]=>match(uu d).bind gN with
  |some (n::ns)=>.ok (.f,.int (wz (n::ns)))
  |_=>.bad
 |[.int i,.int j]=>.ok (.f,.int (if i<j then j else i))
 |_=>.bad
theorem uw{K:W.Frag}{G H:Hp}{d:D}{ns:List Int}{v:V}(gh:Same G H)(hb:(uu d).bind gN=some ns)(vt:Vw K G H d v):∃p,v=.ref p/\(SqL K H p (ns.map V.int)\/SqT K H p (ns.map V.int)):=by
 obtain⟨l,hl,hb⟩:=T9.mp hb;obtain⟨p,ys,ep,sq,rs⟩:=uv gh hl vt;have:=g7 hb rs;subst this;exact⟨p,ep,sq⟩
end
mutual
noncomputable def Ga:D->D->Bool
 | .non,.non=>true
 | .bl a,.bl b=>a==b
 | .bl a,.int j=>(if a then 1 else 0)==j
 | .int i,.bl b=>i==(if b then 1 else 0)
 | .int i,.int j=>i==j
 | .str a,.str b=>a==b
 | .tup a,.tup b=>mF a b
 | .lst a,.lst b=>mF a b
 |_,_=>false
noncomputable def mF:List D->List D->Bool
 |[],[]=>true
 |a::as,b::bs=>Ga a b&&mF as bs
 |_,_=>false
end
mutual
noncomputable def plainD:Nat->D->Bool
 |n+1,.tup ds=>plainDs n ds
 |n+1,.lst ds=>plainDs n ds
 | 0,.tup _=>false
 | 0,.lst _=>false
 |_,.dct _ _ _=>false
 |_,_=>true
noncomputable def plainDs:Nat->List D->Bool
 |_,[]=>true
 |n,d::ds=>plainD n d&&plainDs n ds
end
theorem plainDs_mem:∀{n:Nat}{ds:List D},plainDs n ds=true->∀{i:Nat}{d:D},ds[i]?=some d->plainD n d=true
 |_,[],_,_,_,e=>by simp at e
 |n,a::ds,h,0,d,e=>by
  rw[plainDs,Si]at h;simp at e;rw[<-e];exact h.1
 |n,a::ds,h,i+1,d,e=>by
  rw[plainDs,Si]at h;exact plainDs_mem h.2 (i:=i) (by simpa using e)
theorem iq:∀{a b:List D},a.length≠b.length->mF a b=false
 |[],[],h=>absurd rfl h
 |[],_::_,_=>by simp only[mF]
 |_::_,[],_=>by simp only[mF]
 |x::xs,y::ys,h=>by
  rw[mF,iq (fun e=>h (by simp[e])),WW]
theorem eD:∀{a b:List D},a.length=b.length->(List.range a.length).all (fun j=>Ga (a.getD j .non) (b.getD j .non))=mF a b
 |[],[],_=>rfl
 |[],_::_,h=>by simp at h
 |_::_,[],h=>by simp at h
 |x::xs,y::ys,h=>by
  rw[mF,<-eD (a:=xs) (b:=ys) (by simpa using h),R6,List.range_succ_eq_map,Vz,Uw];rfl
section
variable{X:Cx}{pr:List (Addr×Obj)}{σ:L2.St}{H:Hp}{s:Shared}
theorem kc(I:Inv X pr σ H s){p:Addr}{xs ys:List V}(h:SqL X.K H p xs)(h':SqT X.K H p ys):False:=by
 obtain⟨us,_,p1,_⟩:=I.list h;obtain⟨ws,_,p2,_⟩:=I.tuple h';exact SeqAt.ne_of_list_tuple p1.isList (show s.heap.IsTuple p ws.toArray from p2) rfl
mutual
theorem mG(I:Inv X pr σ H s):∀(d e:D) (x:V) (n:Nat),plainD n d=true->Rep X.K H d x->Rep X.K H e x->d=e
 | .non,e,x,n,_,r,q=>by
  cases cq r;cases e with
  |non=>rfl
  |bl b=>cases cI q
  |int i=>cases bG q
  |str l=>cases(bg q).1
  |tup l=>obtain⟨p,xs,ev,_⟩:=bh q;cases ev
  |lst l=>obtain⟨p,xs,ev,_⟩:=bz q;cases ev
  |dct tk ks vs=>rw[Rep]at q;obtain⟨p,xs,o,ev,_⟩:=q;cases ev
 | .bl b,e,x,n,_,r,q=>by
  cases cI r;cases e with
  |non=>cases cq q
  |bl b=>cases cI q;rfl
  |int i=>cases bG q
  |str l=>cases(bg q).1
  |tup l=>obtain⟨p,xs,ev,_⟩:=bh q;cases ev
  |lst l=>obtain⟨p,xs,ev,_⟩:=bz q;cases ev
  |dct tk ks vs=>rw[Rep]at q;obtain⟨p,xs,o,ev,_⟩:=q;cases ev
 | .int i,e,x,n,_,r,q=>by
  cases bG r;cases e with
  |non=>cases cq q
  |bl b=>cases cI q
  |int i=>cases bG q;rfl
  |str l=>cases(bg q).1
  |tup l=>obtain⟨p,xs,ev,_⟩:=bh q;cases ev
  |lst l=>obtain⟨p,xs,ev,_⟩:=bz q;cases ev
  |dct tk ks vs=>rw[Rep]at q;obtain⟨p,xs,o,ev,_⟩:=q;cases ev
 | .str l,e,x,n,_,r,q=>by
  have hr:=(bg r).1;subst hr;cases e with
  |non=>cases cq q
  |bl b=>cases cI q
  |int i=>cases bG q
  |str l'=>
   have hq:=(bg q).1;injection hq with hq;rw[S_inj hq]
  |tup l=>obtain⟨p,xs,ev,_⟩:=bh q;cases ev
  |lst l=>obtain⟨p,xs,ev,_⟩:=bz q;cases ev
  |dct tk ks vs=>rw[Rep]at q;obtain⟨p,xs,o,ev,_⟩:=q;cases ev
 | .tup l,e,x,n,h,r,q=>by
  obtain⟨p,xs,ev,sq,rs⟩:=bh r;subst ev;cases e with
  |non=>cases cq q
  |bl b=>cases cI q
  |int i=>cases bG q
  |str l=>cases(bg q).1
  |tup l'=>
   obtain⟨p',Hz,HF,Hn,HX⟩:=bh q;cases HF;have:=I.tuple_inj sq Hn;subst this;cases n with
   |zero=>simp only[plainD]at h;cases h
   |succ n=>
    simp only[plainD]at h;rw[mH I l l' xs n h rs HX]
  |lst l'=>
   obtain⟨p',Hz,HF,Hn,HX⟩:=bz q;cases HF;exact(kc I Hn sq).elim
  |dct tk ks vs=>
   exfalso;rw[Rep]at q;obtain⟨p',Hz,o,HF,rd,dd,_⟩:=q;cases HF;obtain⟨F6,_,ip,_⟩:=I.tuple sq;obtain⟨ob,ho,hc,_⟩:=ip;have Ov:=rd.ok I.hok;cases tk with
   |true=>
    obtain⟨F5,eo,_⟩:=dd;subst eo;obtain⟨_,_,_,_,o2,_,_,Ic,ex,_⟩:=Ov;rw[ho]at Ic;cases Ic;rw[ex.1]at hc;exact absurd hc (by decide)
   |false=>
    obtain⟨F5,eo,_⟩:=dd;subst eo;obtain⟨_,_,_,_,o2,_,_,Ic,ex,_⟩:=Ov;rw[ho]at Ic;cases Ic;rw[ex.1]at hc;exact absurd hc (by decide)
 | .lst l,e,x,n,h,r,q=>by
  obtain⟨p,xs,ev,sq,rs⟩:=bz r;subst ev;cases e with
  |non=>cases cq q
  |bl b=>cases cI q
  |int i=>cases bG q
  |str l=>cases(bg q).1
  |tup l'=>
   obtain⟨p',Hz,HF,Hn,HX⟩:=bh q;cases HF;exact(kc I sq Hn).elim
  |lst l'=>
   obtain⟨p',Hz,HF,Hn,HX⟩:=bz q;cases HF;have:=I.list_inj sq Hn;subst this;cases n with
   |zero=>simp only[plainD]at h;cases h
   |succ n=>
    simp only[plainD]at h;rw[mH I l l' xs n h rs HX]
  |dct tk ks vs=>
   exfalso;rw[Rep]at q;obtain⟨p',Hz,o,HF,rd,dd,_⟩:=q;cases HF;obtain⟨F6,_,ip,_⟩:=I.list sq;obtain⟨ob,_,ho,hc,_⟩:=ip;have Ov:=rd.ok I.hok;cases tk with
   |true=>
    obtain⟨F5,eo,_⟩:=dd;subst eo;obtain⟨_,_,_,_,o2,_,_,Ic,ex,_⟩:=Ov;rw[ho]at Ic;cases Ic;rw[ex.1]at hc;exact absurd hc (by decide)
   |false=>
    obtain⟨F5,eo,_⟩:=dd;subst eo;obtain⟨_,_,_,_,o2,_,_,Ic,ex,_⟩:=Ov;rw[ho]at Ic;cases Ic;rw[ex.1]at hc;exact absurd hc (by decide)
 | .dct _ _ _,_,_,n,h,_,_=>by cases n <;> (simp only[plainD]at h;cases h)
theorem mH(I:Inv X pr σ H s):∀(ds es:List D) (xs:List V) (n:Nat),plainDs n ds=true->Reps X.K H ds xs->Reps X.K H es xs->ds=es
 |[],es,xs,n,_,r,q=>by
  rw[Reps]at r;subst r;cases es with
  |nil=>rfl
  |cons e es=>
   rw[Reps]at q;obtain⟨y,ys,ev,_⟩:=q;cases ev
 |d::ds,es,xs,n,h,r,q=>by
  rw[Reps]at r;obtain⟨y,ys,ev,r1,r2⟩:=r;subst ev;rw[plainDs,Si]at h;cases es with
  |nil=>
   rw[Reps]at q;cases q
  |cons e es=>
   rw[Reps]at q;obtain⟨y',Ri,ev,q1,q2⟩:=q;cases ev;rw[mG I d e y n h.1 r1 q1,mH I ds es ys n h.2 r2 q2]
end
mutual
theorem ir:∀(d:D) (n:Nat),plainD n d=true->Ga d d=true
 | .non,_,_=>by simp only[Ga]
 | .bl _,_,_=>by simp only[Ga,SQ]
 | .int _,_,_=>by simp only[Ga,SQ]
 | .str _,_,_=>by simp only[Ga,SQ]
 | .tup ds,0,h=>by simp only[plainD]at h;cases h
 | .tup ds,n+1,h=>by simp only[plainD]at h;simp only[Ga];exact kg ds n h
 | .lst ds,0,h=>by simp only[plainD]at h;cases h
 | .lst ds,n+1,h=>by simp only[plainD]at h;simp only[Ga];exact kg ds n h
 | .dct _ _ _,n,h=>by cases n <;> (simp only[plainD]at h;cases h)
theorem kg:∀(ds:List D) (n:Nat),plainDs n ds=true->mF ds ds=true
 |[],_,_=>by simp only[mF]
 |d::ds,n,h=>by
  rw[plainDs,Si]at h;rw[mF,ir d n h.1,kg ds n h.2];rfl
end
open PySem.SeqAt
theorem bA{n:Nat}{tk:Bool}{ks vs:List D}(h:plainD n (.dct tk ks vs)=true):False:=by cases n <;> (simp only[plainD]at h;cases h)
mutual
theorem BM(I:Inv X pr σ H s):∀(d e:D) (x y:V) (v u:Value) (A:Around) (n:Nat),plainD n d=true->plainD n e=true->A.units+n<cLine->Rep X.K H d x->Rep X.K H e y->RelV x v->RelV y u->EqAt A s v u (Ga d e)
 | .non,e,x,y,v,u,A,n,h,h',hu,r,q,rx,ry=>by
  cases cq r;cases rx;cases e with
  |non=>cases cq q;cases ry;simp only[Ga];exact .same _
  |bl b=>cases cI q;cases ry;simp only[Ga];exact .none_bool _
  |int i=>cases bG q;obtain⟨t,rfl⟩:=ry;simp only[Ga];exact .none_int _ _
  |str l=>cases(bg q).1;obtain⟨t,rfl⟩:=ry;simp only[Ga];exact .none_str _ _
  |tup l=>obtain⟨p,xs,rfl,sq,_⟩:=bh q;cases ry;obtain⟨F6,_,ip,_⟩:=I.tuple sq;simp only[Ga];exact .none_tuple (show s.heap.IsTuple p F6.toArray from ip) (by lia)
  |lst l=>obtain⟨p,xs,rfl,sq,_⟩:=bz q;cases ry;obtain⟨F6,_,ip,_⟩:=I.list sq;simp only[Ga];exact .none_list ip.isList (by lia)
  |dct tk ks vs=>exact(bA h').elim
 | .bl b,e,x,y,v,u,A,n,h,h',hu,r,q,rx,ry=>by
  cases cI r;cases rx;cases e with
  |non=>cases cq q;cases ry;simp only[Ga];exact .bool_none _
  |bl b=>cases cI q;cases ry;simp only[Ga];exact .bool_bool _ _
  |int i=>cases bG q;obtain⟨t,rfl⟩:=ry;simp only[Ga];exact .bool_int _ _ _
  |str l=>cases(bg q).1;obtain⟨t,rfl⟩:=ry;simp only[Ga];exact .bool_str _ _ _
  |tup l=>obtain⟨p,xs,rfl,sq,_⟩:=bh q;cases ry;obtain⟨F6,_,ip,_⟩:=I.tuple sq;simp only[Ga];exact .bool_tuple _ (show s.heap.IsTuple p F6.toArray from ip) (by lia)
  |lst l=>obtain⟨p,xs,rfl,sq,_⟩:=bz q;cases ry;obtain⟨F6,_,ip,_⟩:=I.list sq;simp only[Ga];exact .bool_list _ ip.isList (by lia)
  |dct tk ks vs=>exact(bA h').elim
 | .int b,e,x,y,v,u,A,n,h,h',hu,r,q,rx,ry=>by
  cases bG r;obtain⟨t0,rfl⟩:=rx;cases e with
  |non=>cases cq q;cases ry;simp only[Ga];exact .int_none _ _
  |bl b=>cases cI q;cases ry;simp only[Ga];exact .int_bool _ _ _
  |int i=>cases bG q;obtain⟨t,rfl⟩:=ry;simp only[Ga];exact .int_int _ _ _ _
  |str l=>cases(bg q).1;obtain⟨t,rfl⟩:=ry;simp only[Ga];exact .int_str _ _ _ _
  |tup l=>obtain⟨p,xs,rfl,sq,_⟩:=bh q;cases ry;obtain⟨F6,_,ip,_⟩:=I.tuple sq;simp only[Ga];exact .int_tuple _ _ (show s.heap.IsTuple p F6.toArray from ip) (by lia)
  |lst l=>obtain⟨p,xs,rfl,sq,_⟩:=bz q;cases ry;obtain⟨F6,_,ip,_⟩:=I.list sq;simp only[Ga];exact .int_list _ _ ip.isList (by lia)
  |dct tk ks vs=>exact(bA h').elim
 | .str b,e,x,y,v,u,A,n,h,h',hu,r,q,rx,ry=>by
  have hr:=(bg r).1;subst hr;obtain⟨t0,rfl⟩:=rx;cases e with
  |non=>cases cq q;cases ry;simp only[Ga];exact .str_none _ _
  |bl b=>cases cI q;cases ry;simp only[Ga];exact .str_bool _ _ _
  |int i=>cases bG q;obtain⟨t,rfl⟩:=ry;simp only[Ga];exact .str_int _ _ _ _
  |str l=>
   have hq:=(bg q).1;subst hq;obtain⟨t,rfl⟩:=ry;have e1:(b==l)=(S b==S l):=by
    rw[SH,SR,SR];exact⟨fun z=>by rw[z],S_inj⟩
   simp only[Ga,e1];exact .str_str _ _ _ _
  |tup l=>obtain⟨p,xs,rfl,sq,_⟩:=bh q;cases ry;obtain⟨F6,_,ip,_⟩:=I.tuple sq;simp only[Ga];exact .str_tuple _ _ (show s.heap.IsTuple p F6.toArray from ip) (by lia)
  |lst l=>obtain⟨p,xs,rfl,sq,_⟩:=bz q;cases ry;obtain⟨F6,_,ip,_⟩:=I.list sq;simp only[Ga];exact .str_list _ _ ip.isList (by lia)
  |dct tk ks vs=>exact(bA h').elim
 | .tup l,e,x,y,v,u,A,n,h,h',hu,r,q,rx,ry=>by
  have rr:=r;obtain⟨p,xs,ev,sq,rs⟩:=bh r;subst ev;cases rx;obtain⟨F6,vl,ip,_⟩:=I.tuple sq;have ip:s.heap.IsTuple p F6.toArray:=ip;cases e with
  |non=>cases cq q;cases ry;simp only[Ga];exact .tuple_none ip (by lia)
  |bl b=>cases cI q;cases ry;simp only[Ga];exact .tuple_bool _ ip (by lia)
  |int i=>cases bG q;obtain⟨t,rfl⟩:=ry;simp only[Ga];exact .tuple_int _ _ ip (by lia)
  |str l=>cases(bg q).1;obtain⟨t,rfl⟩:=ry;simp only[Ga];exact .tuple_str _ _ ip (by lia)
  |tup l'=>
   obtain⟨p',Hz,HF,Hn,HX⟩:=bh q;subst HF;cases ry;by_cases hp:p=p'
   ·subst hp;have hz:=mG I _ _ _ n h rr q;rw[<-hz,ir _ n h];exact .same _
   ·obtain⟨its',K6,HC,_⟩:=I.tuple Hn;have HC:s.heap.IsTuple p' its'.toArray:=HC;cases n with
    |zero=>simp only[plainD]at h;cases h
    |succ n=>
     simp only[plainD]at h h';have l1:=vl.length;have l2:=K6.length;have l3:=rs.length;have l4:=HX.length;have key:=RcAt.tuples (A:=A) (e:=fun j=>Ga (l.getD j .non) (l'.getD j .non)) ip HC (by lia) fun j h1 h2=>by
      simp only[RY]at h1 h2;have g1:l[j]?=some (l[j]'(by lia)):=RP _;have g2:l'[j]?=some (l'[j]'(by lia)):=RP _;obtain⟨w1,K8,K9⟩:=rs.get g1;obtain⟨w2,LJ,LM⟩:=HX.get g2;obtain⟨u1,Jn,Ky⟩:=vl.get K8;obtain⟨u2,JQ,La⟩:=K6.get LJ;have q1:F6.toArray[j]=u1:=by rw[RP h1]at Jn;simpa using Jn
      have q2:its'.toArray[j]=u2:=by rw[RP h2]at JQ;simpa using JQ
      rw[q1,q2,Sj,Sj,g1,g2];exact ow I l j _ g1 _ w1 w2 u1 u2 A.in1 n (plainDs_mem h g1) (plainDs_mem h' g2) (by show A.units+1+n<cLine;lia) K9 LM Ky La
     simp only[Ga];have fin:((List.range (min F6.toArray.size its'.toArray.size)).all (fun j=>Ga (l.getD j .non) (l'.getD j .non))&&F6.toArray.size==its'.toArray.size)=mF l l':=by
      simp only[RY];by_cases hl:l.length=l'.length
      ·rw[<-eD hl,show min F6.length its'.length=l.length by lia,show(F6.length==its'.length)=true by rw[SR];lia,Bool.and_true]
      ·rw[iq hl,show(F6.length==its'.length)=false by rw[Tn];lia,WW]
     rw[<-fin];exact .of_refs hp key
  |lst l'=>obtain⟨p',Hz,HF,Hn,_⟩:=bz q;subst HF;cases ry;obtain⟨its',_,HC,_⟩:=I.list Hn;simp only[Ga];exact .tuple_list ip HC.isList (by lia)
  |dct tk ks vs=>exact(bA h').elim
 | .lst l,e,x,y,v,u,A,n,h,h',hu,r,q,rx,ry=>by
  have rr:=r;obtain⟨p,xs,ev,sq,rs⟩:=bz r;subst ev;cases rx;obtain⟨F6,vl,ip,_⟩:=I.list sq;have ip:=ip.isList;cases e with
  |non=>cases cq q;cases ry;simp only[Ga];exact .list_none ip (by lia)
  |bl b=>cases cI q;cases ry;simp only[Ga];exact .list_bool _ ip (by lia)
  |int i=>cases bG q;obtain⟨t,rfl⟩:=ry;simp only[Ga];exact .list_int _ _ ip (by lia)
  |str l=>cases(bg q).1;obtain⟨t,rfl⟩:=ry;simp only[Ga];exact .list_str _ _ ip (by lia)
  |lst l'=>
   obtain⟨p',Hz,HF,Hn,HX⟩:=bz q;subst HF;cases ry;by_cases hp:p=p'
   ·subst hp;have hz:=mG I _ _ _ n h rr q;rw[<-hz,ir _ n h];exact .same _
   ·obtain⟨its',K6,HC,_⟩:=I.list Hn;have HC:=HC.isList;cases n with
    |zero=>simp only[plainD]at h;cases h
    |succ n=>
     simp only[plainD]at h h';have l1:=vl.length;have l2:=K6.length;have l3:=rs.length;have l4:=HX.length;simp only[Ga];by_cases hl:l.length=l'.length
     ·have key:=RcAt.lists (A:=A) (e:=fun j=>Ga (l.getD j .non) (l'.getD j .non)) ip HC (by simp only[RY];lia) (by lia) fun j h1 h2=>by
       simp only[RY]at h1 h2;have g1:l[j]?=some (l[j]'(by lia)):=RP _;have g2:l'[j]?=some (l'[j]'(by lia)):=RP _;obtain⟨w1,K8,K9⟩:=rs.get g1;obtain⟨w2,LJ,LM⟩:=HX.get g2;obtain⟨u1,Jn,Ky⟩:=vl.get K8;obtain⟨u2,JQ,La⟩:=K6.get LJ;have q1:F6.toArray[j]=u1:=by rw[RP h1]at Jn;simpa using Jn
       have q2:its'.toArray[j]=u2:=by rw[RP h2]at JQ;simpa using JQ
       rw[q1,q2,Sj,Sj,g1,g2];exact ow I l j _ g1 _ w1 w2 u1 u2 A.in1 n (plainDs_mem h g1) (plainDs_mem h' g2) (by show A.units+1+n<cLine;lia) K9 LM Ky La
      rw[<-eD hl,show l.length=F6.toArray.size by simp only[RY];lia];exact .of_refs hp key
     ·rw[iq hl];exact .of_refs hp (RcAt.lists_lengths ip HC (by simp only[RY,Ys];lia) (by lia))
  |tup l'=>obtain⟨p',Hz,HF,Hn,_⟩:=bh q;subst HF;cases ry;obtain⟨its',_,HC,_⟩:=I.tuple Hn;simp only[Ga];exact .list_tuple ip (show s.heap.IsTuple p' its'.toArray from HC) (by lia)
  |dct tk ks vs=>exact(bA h').elim
 | .dct _ _ _,_,_,_,_,_,_,n,h,_,_,_,_,_,_=>(bA h).elim
theorem ow(I:Inv X pr σ H s):∀(ds:List D) (j:Nat) (d:D),ds[j]?=some d->∀(e:D) (x y:V) (v u:Value) (A:Around) (n:Nat),plainD n d=true->plainD n e=true->A.units+n<cLine->Rep X.K H d x->Rep X.K H e y->RelV x v->RelV y u->EqAt A s v u (Ga d e)
 |[],_,_,hj=>by simp at hj
 |d'::ds,0,d,hj=>by
  simp at hj;subst hj;exact BM I d'
 |d'::ds,j+1,d,hj=>ow I ds j d (by simpa using hj)
end
end
section
variable{X:Cx}
def HR(a b:D):Res R:=if plainD 40 a&&plainD 40 b then .ok (.f,.bl (Ga a b)) else .bad
def IT(a b:D):Res R:=if plainD 40 a&&plainD 40 b then .ok (.f,.bl (!Ga a b)) else .bad
open PySem.SeqAt in
theorem BN{pr:List (Addr×Obj)}{σ:L2.St}{H:Hp}{s:Shared}(I:Inv X pr σ H s){d e:D}{x y:V}{v u:Value}{A:Around}(h:plainD 40 d=true)(h':plainD 40 e=true)(hu:A.units+64<cLine)(r:Rep X.K H d x)(q:Rep X.K H e y)(rx:RelV x v)(ry:RelV y u):
  RcAt A s v u (Ga d e)/\RcNeAt A s v u (!Ga d e):=by
 cases d with
 |non=>
  cases cq r;cases rx;cases e with
  |non=>cases cq q;cases ry;simp only[Ga];exact⟨.none_none,.none_none⟩
  |bl b=>cases cI q;cases ry;simp only[Ga];exact⟨.none_bool _,.none_bool _⟩
  |int i=>cases bG q;obtain⟨t,rfl⟩:=ry;simp only[Ga];exact⟨.none_int _ _,.none_int _ _⟩
  |str l=>cases(bg q).1;obtain⟨t,rfl⟩:=ry;simp only[Ga];exact⟨.none_str _ _,.none_str _ _⟩
  |tup l=>obtain⟨p,xs,rfl,sq,_⟩:=bh q;cases ry;obtain⟨F6,_,ip,_⟩:=I.tuple sq;simp only[Ga];exact⟨.none_tuple (show s.heap.IsTuple p F6.toArray from ip) (by lia),.none_tuple (show s.heap.IsTuple p F6.toArray from ip) (by lia)⟩
  |lst l=>obtain⟨p,xs,rfl,sq,_⟩:=bz q;cases ry;obtain⟨F6,_,ip,_⟩:=I.list sq;simp only[Ga];exact⟨.none_list ip.isList (by lia),.none_list ip.isList (by lia)⟩
  |dct tk ks vs=>exact(bA h').elim
 |bl b=>
  cases cI r;cases rx;cases e with
  |non=>cases cq q;cases ry;simp only[Ga];exact⟨.bool_none _,.bool_none _⟩
  |bl b=>cases cI q;cases ry;simp only[Ga];exact⟨.bool_bool _ _,.bool_bool _ _⟩
  |int i=>cases bG q;obtain⟨t,rfl⟩:=ry;simp only[Ga];exact⟨.bool_int _ _ _,.bool_int _ _ _⟩
  |str l=>cases(bg q).1;obtain⟨t,rfl⟩:=ry;simp only[Ga];exact⟨.bool_str _ _ _,.bool_str _ _ _⟩
  |tup l=>obtain⟨p,xs,rfl,sq,_⟩:=bh q;cases ry;obtain⟨F6,_,ip,_⟩:=I.tuple sq;simp only[Ga];exact⟨.bool_tuple _ (show s.heap.IsTuple p F6.toArray from ip) (by lia),.bool_tuple _ (show s.heap.IsTuple p F6.toArray from ip) (by lia)⟩
  |lst l=>obtain⟨p,xs,rfl,sq,_⟩:=bz q;cases ry;obtain⟨F6,_,ip,_⟩:=I.list sq;simp only[Ga];exact⟨.bool_list _ ip.isList (by lia),.bool_list _ ip.isList (by lia)⟩
  |dct tk ks vs=>exact(bA h').elim
 |int b=>
  cases bG r;obtain⟨t0,rfl⟩:=rx;cases e with
  |non=>cases cq q;cases ry;simp only[Ga];exact⟨.int_none _ _,.int_none _ _⟩
  |bl b=>cases cI q;cases ry;simp only[Ga];exact⟨.int_bool _ _ _,.int_bool _ _ _⟩
  |int i=>cases bG q;obtain⟨t,rfl⟩:=ry;simp only[Ga];exact⟨.int_int _ _ _ _,.int_int _ _ _ _⟩
  |str l=>cases(bg q).1;obtain⟨t,rfl⟩:=ry;simp only[Ga];exact⟨.int_str _ _ _ _,.int_str _ _ _ _⟩
  |tup l=>obtain⟨p,xs,rfl,sq,_⟩:=bh q;cases ry;obtain⟨F6,_,ip,_⟩:=I.tuple sq;simp only[Ga];exact⟨.int_tuple _ _ (show s.heap.IsTuple p F6.toArray from ip) (by lia),.int_tuple _ _ (show s.heap.IsTuple p F6.toArray from ip) (by lia)⟩
  |lst l=>obtain⟨p,xs,rfl,sq,_⟩:=bz q;cases ry;obtain⟨F6,_,ip,_⟩:=I.list sq;simp only[Ga];exact⟨.int_list _ _ ip.isList (by lia),.int_list _ _ ip.isList (by lia)⟩
  |dct tk ks vs=>exact(bA h').elim
 |str b=>
  have hr:=(bg r).1;subst hr;obtain⟨t0,rfl⟩:=rx;cases e with
  |non=>cases cq q;cases ry;simp only[Ga];exact⟨.str_none _ _,.str_none _ _⟩
  |bl b=>cases cI q;cases ry;simp only[Ga];exact⟨.str_bool _ _ _,.str_bool _ _ _⟩
  |int i=>cases bG q;obtain⟨t,rfl⟩:=ry;simp only[Ga];exact⟨.str_int _ _ _ _,.str_int _ _ _ _⟩
  |str l=>
   have hq:=(bg q).1;subst hq;obtain⟨t,rfl⟩:=ry;have e1:(b==l)=(S b==S l):=by
    rw[SH,SR,SR];exact⟨fun z=>by rw[z],S_inj⟩
   simp only[Ga,e1];exact⟨.str_str _ _ _ _,.str_str _ _ _ _⟩
  |tup l=>obtain⟨p,xs,rfl,sq,_⟩:=bh q;cases ry;obtain⟨F6,_,ip,_⟩:=I.tuple sq;simp only[Ga];exact⟨.str_tuple _ _ (show s.heap.IsTuple p F6.toArray from ip) (by lia),.str_tuple _ _ (show s.heap.IsTuple p F6.toArray from ip) (by lia)⟩
  |lst l=>obtain⟨p,xs,rfl,sq,_⟩:=bz q;cases ry;obtain⟨F6,_,ip,_⟩:=I.list sq;simp only[Ga];exact⟨.str_list _ _ ip.isList (by lia),.str_list _ _ ip.isList (by lia)⟩
  |dct tk ks vs=>exact(bA h').elim
 |tup l=>
  obtain⟨p,xs,ev,sq,rs⟩:=bh r;subst ev;cases rx;obtain⟨F6,vl,ip,_⟩:=I.tuple sq;have ip:s.heap.IsTuple p F6.toArray:=ip;cases e with
  |non=>cases cq q;cases ry;simp only[Ga];exact⟨.tuple_none ip (by lia),.tuple_none ip (by lia)⟩
  |bl b=>cases cI q;cases ry;simp only[Ga];exact⟨.tuple_bool _ ip (by lia),.tuple_bool _ ip (by lia)⟩
  |int i=>cases bG q;obtain⟨t,rfl⟩:=ry;simp only[Ga];exact⟨.tuple_int _ _ ip (by lia),.tuple_int _ _ ip (by lia)⟩
  |str l=>cases(bg q).1;obtain⟨t,rfl⟩:=ry;simp only[Ga];exact⟨.tuple_str _ _ ip (by lia),.tuple_str _ _ ip (by lia)⟩
  |tup l'=>
   obtain⟨p',Hz,HF,Hn,HX⟩:=bh q;subst HF;cases ry;obtain⟨its',K6,HC,_⟩:=I.tuple Hn;have HC:s.heap.IsTuple p' its'.toArray:=HC;simp only[plainD]at h h';have l1:=vl.length;have l2:=K6.length;have l3:=rs.length;have l4:=HX.length;have el:∀j (h1:j<F6.toArray.size) (h2:j<its'.toArray.size),EqAt A.in1 s F6.toArray[j] its'.toArray[j] ((fun j=>Ga (l.getD j .non) (l'.getD j .non)) j):=fun j h1 h2=>by
    simp only[RY]at h1 h2;have g1:l[j]?=some (l[j]'(by lia)):=RP _;have g2:l'[j]?=some (l'[j]'(by lia)):=RP _;obtain⟨w1,K8,K9⟩:=rs.get g1;obtain⟨w2,LJ,LM⟩:=HX.get g2;obtain⟨u1,Jn,Ky⟩:=vl.get K8;obtain⟨u2,JQ,La⟩:=K6.get LJ;have q1:F6.toArray[j]=u1:=by rw[RP h1]at Jn;simpa using Jn
    have q2:its'.toArray[j]=u2:=by rw[RP h2]at JQ;simpa using JQ
    dsimp only;rw[q1,q2,Sj,Sj,g1,g2];exact ow I l j _ g1 _ w1 w2 u1 u2 A.in1 39 (plainDs_mem h g1) (plainDs_mem h' g2) (by show A.units+1+39<cLine;lia) K9 LM Ky La
   simp only[Ga];have fin:((List.range (min F6.toArray.size its'.toArray.size)).all (fun j=>Ga (l.getD j .non) (l'.getD j .non))&&F6.toArray.size==its'.toArray.size)=mF l l':=by
    simp only[RY];by_cases hl:l.length=l'.length
    ·rw[<-eD hl,show min F6.length its'.length=l.length by lia,show(F6.length==its'.length)=true by rw[SR];lia,Bool.and_true]
    ·rw[iq hl,show(F6.length==its'.length)=false by rw[Tn];lia,WW]
   rw[<-fin];exact⟨.tuples ip HC (by lia) el,.tuples ip HC (by lia) el⟩
  |lst l'=>obtain⟨p',Hz,HF,Hn,_⟩:=bz q;subst HF;cases ry;obtain⟨its',_,HC,_⟩:=I.list Hn;simp only[Ga];exact⟨.tuple_list ip HC.isList (by lia),.tuple_list ip HC.isList (by lia)⟩
  |dct tk ks vs=>exact(bA h').elim
 |lst l=>
  obtain⟨p,xs,ev,sq,rs⟩:=bz r;subst ev;cases rx;obtain⟨F6,vl,ip,_⟩:=I.list sq;have ip:=ip.isList;cases e with
  |non=>cases cq q;cases ry;simp only[Ga];exact⟨.list_none ip (by lia),.list_none ip (by lia)⟩
  |bl b=>cases cI q;cases ry;simp only[Ga];exact⟨.list_bool _ ip (by lia),.list_bool _ ip (by lia)⟩
  |int i=>cases bG q;obtain⟨t,rfl⟩:=ry;simp only[Ga];exact⟨.list_int _ _ ip (by lia),.list_int _ _ ip (by lia)⟩
  |str l=>cases(bg q).1;obtain⟨t,rfl⟩:=ry;simp only[Ga];exact⟨.list_str _ _ ip (by lia),.list_str _ _ ip (by lia)⟩
  |lst l'=>
   obtain⟨p',Hz,HF,Hn,HX⟩:=bz q;subst HF;cases ry;obtain⟨its',K6,HC,_⟩:=I.list Hn;have HC:=HC.isList;simp only[plainD]at h h';have l1:=vl.length;have l2:=K6.length;have l3:=rs.length;have l4:=HX.length;simp only[Ga];by_cases hl:l.length=l'.length
   ·have el:∀j (h1:j<F6.toArray.size) (h2:j<its'.toArray.size),EqAt A.in1 s F6.toArray[j] its'.toArray[j] ((fun j=>Ga (l.getD j .non) (l'.getD j .non)) j):=fun j h1 h2=>by
     simp only[RY]at h1 h2;have g1:l[j]?=some (l[j]'(by lia)):=RP _;have g2:l'[j]?=some (l'[j]'(by lia)):=RP _;obtain⟨w1,K8,K9⟩:=rs.get g1;obtain⟨w2,LJ,LM⟩:=HX.get g2;obtain⟨u1,Jn,Ky⟩:=vl.get K8;obtain⟨u2,JQ,La⟩:=K6.get LJ;have q1:F6.toArray[j]=u1:=by rw[RP h1]at Jn;simpa using Jn
     have q2:its'.toArray[j]=u2:=by rw[RP h2]at JQ;simpa using JQ
     dsimp only;rw[q1,q2,Sj,Sj,g1,g2];exact ow I l j _ g1 _ w1 w2 u1 u2 A.in1 39 (plainDs_mem h g1) (plainDs_mem h' g2) (by show A.units+1+39<cLine;lia) K9 LM Ky La
    rw[<-eD hl,show l.length=F6.toArray.size by simp only[RY];lia];exact⟨.lists ip HC (by simp only[RY];lia) (by lia) el,.lists ip HC (by simp only[RY];lia) (by lia) el⟩
   ·rw[iq hl];exact⟨.lists_lengths ip HC (by simp only[RY,Ys];lia) (by lia),.lists_lengths ip HC (by simp only[RY,Ys];lia) (by lia)⟩
  |tup l'=>obtain⟨p',Hz,HF,Hn,_⟩:=bh q;subst HF;cases ry;obtain⟨its',_,HC,_⟩:=I.tuple Hn;simp only[Ga];exact⟨.list_tuple ip (show s.heap.IsTuple p' its'.toArray from HC) (by lia),.list_tuple ip (show s.heap.IsTuple p' its'.toArray from HC) (by lia)⟩
  |dct tk ks vs=>exact(bA h').elim
 |dct tk ks vs=>exact(bA h).elim
theorem iu(hu:X.A.units+64<cLine):GH X (compareOp .Eq) (rGA X.K HR):=by
 rintro pr s σ H x y v u Q I rx ry ⟨G,fp,es,vs,a,b,r,⟨rel,k⟩,va,vb,e⟩;unfold HR at e;split at e
 ·rename_i hp;cases e;rw[Si]at hp;exact(BN I hp.1 hp.2 hu va vb rx ry).1 _ _ _ _ ⟨.bl _,H,I,rfl,k _ H G fp .refl (rel.push (cH _))⟩
 ·cases e
theorem mI(hu:X.A.units+64<cLine):GH X (compareOp .NotEq) (rGA X.K IT):=by
 rintro pr s σ H x y v u Q I rx ry ⟨G,fp,es,vs,a,b,r,⟨rel,k⟩,va,vb,e⟩;unfold IT at e;split at e
 ·rename_i hp;cases e;rw[Si]at hp;exact(BN I hp.1 hp.2 hu va vb rx ry).2 _ _ _ _ ⟨.bl _,H,I,rfl,k _ H G fp .refl (rel.push (cH _))⟩
 ·cases e
def vT(a:D)(ds:List D):Bool:=ds.any fun d=>Ga d a
noncomputable def KP(a b:D):Res R:=match b with
 | .lst ds=>if plainD 40 a&&plainDs 40 ds then .ok (.f,.bl (vT a ds)) else .bad
 | .tup ds=>if plainD 40 a&&plainDs 40 ds then .ok (.f,.bl (vT a ds)) else .bad
 | .str l=>match a with
  | .str [c]=>.ok (.f,.bl (decide (c∈l)))
  |_=>.bad
 |_=>.bad
def AB(a b:D):Res R:=(KP a b).bind fun r=>match r.2 with
 | .bl k=>.ok (.f,.bl (!k))
 |_=>.bad
open PySem.SeqAt in
theorem qI{pr:List (Addr×Obj)}{σ:L2.St}{H:Hp}{s:Shared}(I:Inv X pr σ H s){a:D}{x:V}{v:Value}{A:Around}(h:plainD 40 a=true)(hu:A.units+64<cLine)(r:Rep X.K H a x)(rx:RelV x v):
  ∀(ds:List D) (xs:List V) (us:List Value),plainDs 40 ds=true->Reps X.K H ds xs->Vals xs us->∃e:Value->Bool,us.any e=vT a ds/\∀u∈us,EqAt A s u v (e u):=by
 classical
 intro ds xs us hp rs vl;refine⟨fun u=>decide (∃(j:Nat) (d:D),ds[j]?=some d/\us[j]?=some u/\Ga d a=true),?_,fun u hu'=>?_⟩
 ·rw[SH,UC];unfold vT;rw[UC];constructor
  ·rintro⟨u,_,hd⟩;obtain⟨j,d,h1,_,h2⟩:=US hd;exact⟨d,SG h1,h2⟩
  ·rintro⟨d,hd,h2⟩;obtain⟨j,hj⟩:=UN.mp hd;obtain⟨w1,K8,K9⟩:=rs.get hj;obtain⟨u1,Jn,Ky⟩:=vl.get K8;exact⟨u1,SG Jn,Sq ⟨j,d,hj,Jn,h2⟩⟩
 ·obtain⟨j,hj⟩:=UN.mp hu';have l1:=vl.length;have l2:=rs.length;have Rq:=(Se.mp hj).1;have g1:ds[j]?=some (ds[j]'(by lia)):=RP _;obtain⟨w1,K8,K9⟩:=rs.get g1;obtain⟨u1,Jn,Ky⟩:=vl.get K8;rw[hj]at Jn;cases Jn;have z:=BM I _ _ w1 x u v A 40 (plainDs_mem hp g1) h (by lia) K9 r Ky rx;have e:decide (∃(j:Nat) (d:D),ds[j]?=some d/\us[j]?=some u/\Ga d a=true)=Ga (ds[j]'(by lia)) a:=by
   rw[SH,R8];constructor
   ·rintro⟨j2,d2,k1,k2,k3⟩;obtain⟨w2,LJ,LM⟩:=rs.get k1;obtain⟨u2,JQ,La⟩:=vl.get LJ;rw[k2]at JQ;cases JQ;have:=Ky.inj La;subst this;rw[mG I _ _ _ 40 (plainDs_mem hp g1) K9 LM];exact k3
   ·intro k3;exact⟨j,_,g1,hj,k3⟩
  show EqAt A s u v (decide (∃(j:Nat) (d:D),ds[j]?=some d/\us[j]?=some u/\Ga d a=true));rw[e];exact z
theorem ox(l:List Nat)(c:Nat):(!(Builtin.Str.occurrences (S l) (S [c]) 0 (S l).length 1).isEmpty)=decide (c∈l):=by
 have h:=PySem.StrLaws.found_one (S l) c;rw[dv]at h;exact h
theorem mJ{e:Value->Bool}(us:List Value):us.toArray.any e=us.any e:=by simp
theorem zx(hu:X.A.units+65<cLine):GH X (compareOp .In) (rGA X.K KP):=by
 rintro pr s σ H x y v u Q I rx ry ⟨G,fp,es,vs,a,b,r,⟨rel,k⟩,va,vb,e⟩;unfold KP at e;split at e
 ·rename_i ds;split at e
  ·rename_i hp;cases e;rw[Si]at hp;obtain⟨p,xs,ev,sq,rs⟩:=bz vb;subst ev;cases ry;obtain⟨F6,vl,ip,_⟩:=I.list sq;obtain⟨ef,e1,e2⟩:=qI (A:=X.A.in1) I hp.1 (by show X.A.units+1+64<cLine;lia) va rx ds xs F6 hp.2 rs vl;refine SeqAt.in_listAt ef ip.isList (fun z hz=>e2 z (by simpa using hz)) ?_;rw[mJ,e1];exact⟨.bl _,H,I,rfl,k _ H G fp .refl (rel.push (cH _))⟩
  ·cases e
 ·rename_i ds;split at e
  ·rename_i hp;cases e;rw[Si]at hp;obtain⟨p,xs,ev,sq,rs⟩:=bh vb;subst ev;cases ry;obtain⟨F6,vl,ip,_⟩:=I.tuple sq;obtain⟨ef,e1,e2⟩:=qI (A:=X.A.in1) I hp.1 (by show X.A.units+1+64<cLine;lia) va rx ds xs F6 hp.2 rs vl;refine SeqAt.in_tupleAt ef (show s.heap.IsTuple p F6.toArray from ip) (fun z hz=>e2 z (by simpa using hz)) ?_;rw[mJ,e1];exact⟨.bl _,H,I,rfl,k _ H G fp .refl (rel.push (cH _))⟩
  ·cases e
 ·rename_i l;split at e
  ·rename_i c;cases e;obtain⟨e1,h1⟩:=bg va;obtain⟨e2,h2⟩:=bg vb;subst e1;subst e2;refine sS pr s σ H _ _ v u Q I rx ry ⟨_,_,rfl,rfl,?_⟩;rw[ox];exact k _ H G fp .refl (rel.push (cH _))
  ·cases e
 ·cases e
theorem BO(hu:X.A.units+65<cLine):GH X (compareOp .NotIn) (rGA X.K AB):=by
 rintro pr s σ H x y v u Q I rx ry ⟨G,fp,es,vs,a,b,r,⟨rel,k⟩,va,vb,e⟩;unfold AB at e;obtain⟨r0,e0,e⟩:=ai e;unfold KP at e0;split at e0
 ·rename_i ds;split at e0
  ·rename_i hp;cases e0;cases e;rw[Si]at hp;obtain⟨p,xs,ev,sq,rs⟩:=bz vb;subst ev;cases ry;obtain⟨F6,vl,ip,_⟩:=I.list sq;obtain⟨ef,e1,e2⟩:=qI (A:=X.A.in1) I hp.1 (by show X.A.units+1+64<cLine;lia) va rx ds xs F6 hp.2 rs vl;refine SeqAt.notIn_listAt ef ip.isList (fun z hz=>e2 z (by simpa using hz)) ?_;rw[mJ,e1];exact⟨.bl _,H,I,rfl,k _ H G fp .refl (rel.push (cH _))⟩
  ·cases e0
 ·rename_i ds;split at e0
  ·rename_i hp;cases e0;cases e;rw[Si]at hp;obtain⟨p,xs,ev,sq,rs⟩:=bh vb;subst ev;cases ry;obtain⟨F6,vl,ip,_⟩:=I.tuple sq;obtain⟨ef,e1,e2⟩:=qI (A:=X.A.in1) I hp.1 (by show X.A.units+1+64<cLine;lia) va rx ds xs F6 hp.2 rs vl;refine SeqAt.notIn_tupleAt ef (show s.heap.IsTuple p F6.toArray from ip) (fun z hz=>e2 z (by simpa using hz)) ?_;rw[mJ,e1];exact⟨.bl _,H,I,rfl,k _ H G fp .refl (rel.push (cH _))⟩
  ·cases e0
 ·rename_i l;split at e0
  ·rename_i c;cases e0;cases e;obtain⟨e1,h1⟩:=bg va;obtain⟨e2,h2⟩:=bg vb;subst e1;subst e2;refine nG pr s σ H _ _ v u Q I rx ry ⟨_,_,rfl,rfl,?_⟩;rw[ox];exact k _ H G fp .refl (rel.push (cH _))
  ·cases e0
 ·cases e0
def isO(a b:D):Res R:=match b with
 | .bl k=>.ok (.f,.bl (match a with | .bl j=>j==k|_=>false))
 | .non=>.ok (.f,.bl (match a with | .non=>true|_=>false))
 |_=>.bad
def FL(a b:D):Res R:=(isO a b).bind fun r=>match r.2 with
 | .bl k=>.ok (.f,.bl (!k))
 |_=>.bad
end
section
variable{X:Cx}
def Fx(f g:FX):FX:=fun env=>(f env).bind fun p=>(g p.2).bind fun q=>match(uu p.1.2).bind gN,q.1.2 with
 |some ns,.int d=>.ok ((.f,.int (NX.maxD ns d)),q.2)
 |_,_=>.bad
def xV:List D->Res R
 |[.bl b]=>.ok (.f,.int (if b then 1 else 0))
 |[.int i]=>.ok (.f,.int i)
 |_=>.bad
theorem xW:cU X (.type "int") (rC X.K xV):=by
 rintro pr s σ H xs us Q I rx ⟨G,fp,es,vs,ds,r,⟨rel,k⟩,vd,e⟩;unfold xV at e;split at e
 ·rename_i b;cases e;obtain⟨v,ev,v1⟩:=mD vd;subst ev;cases DY v1;obtain⟨u,rfl,ru⟩:=fE rx;cases ru;exact call_int_bool ⟨.int _,H,I.tok _,⟨_,rfl⟩,k _ H G fp .refl (rel.push (bu _))⟩
 ·rename_i i;cases e;obtain⟨v,ev,v1⟩:=mD vd;subst ev;cases bq v1;obtain⟨u,rfl,t,rfl⟩:=fE rx;first
   |exact Xe ⟨.int _,H,I.tok _,⟨_,rfl⟩,k _ H G fp .refl (rel.push (bu _))⟩
   |exact Xe ⟨.int _,H,I,⟨_,rfl⟩,k _ H G fp .refl (rel.push (bu _))⟩
 ·cases e
def pD:D->String
 | .non=>"NoneType"
 | .bl _=>"bool"
 | .int _=>"int"
 | .str _=>"str"
 | .tup _=>"tuple"
 | .lst _=>"list"
 | .dct _ _ _=>"dict"
def pE(T:String)(d:D):Bool:=pD d==T||(pD d == "bool" && T == "int")
def Lb(T:String)(f:FO):FX:=fun env=>(f env).bind fun p=>(rF p.2 p.1).bind fun d=>.ok ((.f,.bl (pE T d)),p.2)
theorem BP(K:W.Frag)(d:D){T:String}(hT:T = "int"\/T = "bool"\/T = "str"\/T = "list"\/T = "tuple"\/T = "dict"):PySem.W.kitOne K (.type (pD d)) (.type T)=some (pE T d):=by
 rcases hT with rfl|rfl|rfl|rfl|rfl|rfl <;> cases d <;> (unfold PySem.W.kitOne PySem.W.kitCls PySem.W.subIn;kernel_rfl)
theorem wX:cU X (.builtin "isinstance") (fun xs H Q=>∃d x T,xs=[x,.ty T]/\Rep X.K H d x/\(T = "int"\/T = "bool"\/T = "str"\/T = "list"\/T = "tuple"\/T = "dict")/\Q (.bl (pE T d)) H):=by
 intro pr s σ H xs us Q I r h;obtain⟨d,x,T,rfl,rd,hT,q⟩:=h;obtain⟨u,w',rfl,r1,r2⟩:=yK r;cases(show w'=Value.type T from r2);have e:=BP X.K d hT;have fin:∀tk,EP X pr σ Q (.bool (pE T d)) {s with toks:=tk}:=fun tk=>⟨.bl (pE T d),H,I.tok tk,rfl,q⟩
 cases d with
 |non=>cases cq rd;cases(show u=Value.none from r1);exact Uj PySem.W.kitx_none I.kIn True.intro e (fun z=>nomatch z) fin
 |bl y=>cases cI rd;cases(show u=Value.bool y from r1);exact Uj PySem.W.kitx_bool I.kIn True.intro e (fun z=>nomatch z) fin
 |int i=>cases bG rd;obtain⟨t,z⟩:=(show ∃t,u=Value.int i t from r1);cases z;exact Uj PySem.W.kitx_int I.kIn True.intro e (fun z=>nomatch z) fin
 |str l=>
  have hr:=(bg rd).1;subst hr;obtain⟨t,z⟩:=(show ∃t,u=Value.str (S l) t from r1)
  cases z;exact Uj PySem.W.kitx_str I.kIn True.intro e (fun z=>nomatch z) fin
 |lst l=>
  obtain⟨p,xs,ev,sq,_⟩:=bz rd;subst ev;cases(show u=Value.ref p from r1);obtain⟨F6,_,ip,_⟩:=I.list sq;obtain⟨o,ho,hc,_⟩:=ip.isList;exact Uj PySem.W.kitx_list I.kIn ⟨o,ho,hc⟩ e (fun z=>nomatch z) fin
 |tup l=>
  obtain⟨p,xs,ev,sq,_⟩:=bh rd;subst ev;cases(show u=Value.ref p from r1);obtain⟨F6,_,ip,_⟩:=I.tuple sq;obtain⟨o,ho,hc,_⟩:=ip;exact Uj PySem.W.kitx_tuple I.kIn ⟨o,ho,hc⟩ e (fun z=>nomatch z) fin
 |dct tk ks vs=>
  rw[Rep]at rd;obtain⟨p,xs,o,ev,hr,dd,_⟩:=rd;subst ev;cases(show u=Value.ref p from r1);have ok:=hr.ok I.hok;cases tk with
  |true=>
   obtain⟨F5,eo,_⟩:=dd;subst eo;obtain⟨_,_,_,_,o2,_,_,Ic,ex,_⟩:=ok;exact Uj PySem.W.kitx_dict I.kIn ⟨o2,Ic,ex.1⟩ e (fun z=>nomatch z) fin
  |false=>
   obtain⟨F5,eo,_⟩:=dd;subst eo;obtain⟨_,_,_,_,o2,_,_,Ic,ex,_⟩:=ok;exact Uj PySem.W.kitx_dict I.kIn ⟨o2,Ic,ex.1⟩ e (fun z=>nomatch z) fin
theorem mK{T:String}{x:Str}{e:Expr}{f:FO}{p q pos:Pos}(hT:T = "int"\/T = "bool"\/T = "str"\/T = "list"\/T = "tuple"\/T = "dict")(he:QO X e f)(hg:Gl X "isinstance")(hm:X.mg "isinstance" = none)(Ow:Gl X x)(NI:X.mg x=none)(hv2:bootBuiltins x=some (.type T))(hn:x≠"__name__":=by decide)(IA:(x==("__debug__" : Str))=false:=by decide)
  (hs:starEach [e,.Name x q] X.env=(false,eval e X.env)::starEach [.Name x q] X.env:=by rfl) (Lz:starEach [.Name x q] X.env=(false,eval (.Name x q) X.env)::starEach [] X.env:=by rfl) (Ha:(backTo pos (starEach [.Name x q] X.env)).any (·.1)=false:=by rfl):
  QE X (.Call (.Name "isinstance" p) [e,.Name x q] [] pos) (Lb T f):=
 bo (qe wX hg hm l7 (eK he (eK (yw (v:=.ty T) Ow NI hv2 rfl hn IA) jS Lz) hs) (by decide) (by decide) hs Ha) fun σ H Q Gd=>by
  obtain⟨G,env,fp,r,env',rel,e,k⟩:=Gd;obtain⟨⟨o,FZ⟩,e1,e⟩:=ai e;obtain⟨d,e2,e⟩:=ai e;cases e;exact⟨G,env,fp,o,_,rel,e1,fun v H1 G1 Gn Ge F4 HB=>⟨d,v,T,rfl,F4.vwA HB e2,hT,k _ H1 G1 Gn Ge (F4.push (cH _))⟩⟩
def Ho{α:Type}(f g:PV.Env->Res α):PV.Env->Res α:=fun env=>match f env with
 | .ok a=>.ok a
 |_=>g env
theorem xX{α:Type}{f g:PV.Env->Res α}{env:PV.Env}{a:α}(h:Ho f g env=.ok a):f env=.ok a\/g env=.ok a:=by
 unfold Ho at h;split at h
 ·rename_i b hb;cases h;exact .inl hb
 ·exact .inr h
theorem rK{tg e:Expr}{f g:FI}(h:QI X tg e f)(h2:QI X tg e g):QI X tg e (Ho f g):=fun pr s σ H R I Gd=>by
 obtain⟨G,env,fp,ds,env',rel,ee,k⟩:=Gd;rcases xX ee with z|z
 ·exact h pr s σ H R I ⟨G,env,fp,ds,env',rel,z,k⟩
 ·exact h2 pr s σ H R I ⟨G,env,fp,ds,env',rel,z,k⟩
end
section
variable{α:Type}
def ins(lt:α->α->Bool)(x:α):List α->List α
 |[]=>[x]
 |y::ys=>if lt y x then y::ins lt x ys else x::y::ys
def dj(lt:α->α->Bool)(l:List α):List α:=l.foldr (ins lt) []
structure Ord(lt:α->α->Bool):Prop where
 irr:∀a,lt a a=false
 trans:∀a b c,lt a b=true->lt b c=true->lt a c=true
 tot:∀a b,lt a b=false->lt b a=false->a=b
theorem mL(lt:α->α->Bool)(x:α):∀l,(ins lt x l).Perm (x::l)
 |[]=>.refl _
 |y::ys=>by
  unfold ins;split
  ·exact(List.Perm.cons y (mL lt x ys)).trans (List.Perm.swap x y ys)
  ·exact .refl _
theorem cX(lt:α->α->Bool):∀l,(dj lt l).Perm l
 |[]=>.refl _
 |x::l=>(mL lt x _).trans (List.Perm.cons x (cX lt l))
theorem lN{lt:α->α->Bool}(o:Ord lt)(x:α):∀l:List α,l.Pairwise (fun a b=>lt b a=false)->(ins lt x l).Pairwise (fun a b=>lt b a=false)
 |[],_=>by simp[ins]
 |y::ys,h=>by
  rw[TY]at h;unfold ins;split
  ·rename_i hy;rw[TY];refine⟨fun z hz=>?_,lN o x ys h.2⟩;rcases RV.mp ((mL lt x ys).mem_iff.mp hz) with rfl|hz
   ·cases e:lt z y with
    |false=>rfl
    |true=>
     have:=o.trans y z y hy e;rw[o.irr]at this;cases this
   ·exact h.1 z hz
  ·rename_i hy;have hy:lt y x=false:=by simpa using hy
   rw[TY,TY];refine⟨fun z hz=>?_,h⟩;rcases RV.mp hz with rfl|LN
   ·exact hy
   ·cases e:lt z x with
    |false=>rfl
    |true=>
     exfalso;cases e2:lt x y with
     |true=>
      have:=o.trans z x y e e2;rw[h.1 z LN]at this;cases this
     |false=>
      have hxy:=o.tot x y e2 hy;rw[hxy,h.1 z LN]at e;cases e
theorem fO{lt:α->α->Bool}(o:Ord lt):∀l:List α,(dj lt l).Pairwise (fun a b=>lt b a=false)
 |[]=>.nil
 |x::l=>lN o x _ (fO o l)
theorem oy{lt:α->α->Bool}(o:Ord lt):∀{a b:List α},a.Perm b->a.Pairwise (fun a b=>lt b a=false)->b.Pairwise (fun a b=>lt b a=false)->a=b
 |[],_,p,_,_=>p.nil_eq
 |x::xs,[],p,_,_=>absurd p.length_eq (by simp)
 |x::xs,y::ys,p,ha,hb=>by
  rw[TY]at ha hb;have hx:x∈y::ys:=p.mem_iff.mp RQ;have hy:y∈x::xs:=p.mem_iff.mpr RQ;have e:x=y:=by
   rcases RV.mp hx with e|hx
   ·exact e
   ·rcases RV.mp hy with e|hy
    ·exact e.symm
    ·exact o.tot x y (hb.1 x hx) (ha.1 y hy)
  subst e;rw[oy o p.cons_inv ha.2 hb.2]
theorem iw{lt:α->α->Bool}(o:Ord lt){l ms:List α}(p:ms.Perm l)(h:ms.Pairwise (fun a b=>lt b a=false)):ms=dj lt l:=oy o (p.trans (cX lt l).symm) h (fO o l)
end
def ltI(a b:Int):Bool:=decide (a<b)
def IU(a b:List Nat):Bool:=decide (a<b)
theorem zy:Ord ltI:=⟨fun a=>by simp[ltI],fun a b c=>by simp only[ltI,R8];lia,fun a b=>by simp only[ltI,SU];lia⟩
theorem pF:Ord IU:=by
 refine⟨fun a=>?_,fun a b c h1 h2=>?_,fun a b h1 h2=>?_⟩
 ·unfold IU;rw[SU];exact List.lt_irrefl a
 ·unfold IU at *;rw[R8] at *;exact List.lt_trans h1 h2
 ·unfold IU at *;rw[SU] at *;exact List.le_antisymm (We.mp h2) (We.mp h1)
theorem ux:Ord d4:=⟨g0,gx,gy⟩
def c9:List D->Option (List (List Nat))
 |[]=>some []
 | .str b::ds=>(c9 ds).map (b:: ·)
 |_=>none
def kh:D->Option Key
 | .int i=>some (.inl i)
 | .str l=>some (.inr (S l))
 |_=>none
def eS:List D->Option (List Key)
 |[]=>some []
 |d::ds=>(kh d).bind fun k=>(eS ds).map (k:: ·)
def eU:D->Option (List Key)
 | .tup ds=>eS ds
 |_=>none
def ki:List D->Option (List (List Key))
 |[]=>some []
 |d::ds=>(eU d).bind fun k=>(ki ds).map (k:: ·)
def kT(k:List Key):D:=.tup (k.map kD)
section
variable{K:W.Frag}{G:Hp}
theorem kj:∀{ds:List D}{bs:List (List Nat)}{xs:List V},c9 ds=some bs->Reps K G ds xs->xs=bs.map (fun l=>V.str (S l))/\∀l∈bs,l.length<=sizeLine
 |[],_,_,e,r=>by
  cases e;rw[Reps]at r;exact⟨r,fun _ h=>nomatch h⟩
 |d::ds,_,_,e,r=>by
  cases d with
  |str b=>
   rw[c9,Sy]at e;obtain⟨bs,e1,e2⟩:=e;subst e2;rw[Reps]at r;obtain⟨y,ys,e3,r1,r2⟩:=r;obtain⟨h1,h2⟩:=kj e1 r2;obtain⟨h3,h4⟩:=bg r1;subst h3;refine⟨by rw[e3,h1];rfl,fun l hl=>?_⟩;rcases RV.mp hl with rfl|hl
   ·exact h4
   ·exact h2 l hl
  |_=>simp[c9]at e
theorem iY{d:D}{k:Key}{v:V}(e:kh d=some k)(r:Rep K G d v):v=kV k/\d=kD k:=by
 cases d with
 |int i=>
  cases e;exact⟨bG r,rfl⟩
 |str l=>
  cases e;refine⟨(bg r).1,?_⟩;show D.str l=D.str (S l).cps.toList;rw[dv]
 |_=>cases e
theorem jn:∀{ds:List D}{ks:List Key}{xs:List V},eS ds=some ks->Reps K G ds xs->xs=ks.map kV/\ds=ks.map kD
 |[],_,_,e,r=>by
  cases e;rw[Reps]at r;exact⟨r,rfl⟩
 |d::ds,_,_,e,r=>by
  rw[eS,T9]at e;obtain⟨k,e1,e⟩:=e;rw[Sy]at e;obtain⟨ks,e2,e3⟩:=e;subst e3;rw[Reps]at r;obtain⟨y,ys,e4,r1,r2⟩:=r;obtain⟨h1,h2⟩:=iY e1 r1;obtain⟨h3,h4⟩:=jn e2 r2;rw[e4,h1,h2,h3,h4];exact⟨rfl,rfl⟩
theorem dD{d:D}{ks:List Key}{v:V}(e:eU d=some ks)(r:Rep K G d v):∃p,v=.ref p/\G p=some (.tup (ks.map kV))/\d=kT ks:=by
 cases d with
 |tup ds=>
  obtain⟨p,xs,ev,g,rs⟩:=uh r;obtain⟨h1,h2⟩:=jn e rs;subst h1;exact⟨p,ev,g,by rw[h2];rfl⟩
 |_=>cases e
theorem kl:∀{ds:List D}{ID:List (List Key)}{xs:List V},ki ds=some ID->Reps K G ds xs->∃al:List (Addr×List Key),xs=al.map (fun a=>V.ref a.1)/\ID=al.map (·.2)/\ds=al.map (fun a=>kT a.2)/\∀a∈al,G a.1=some (.tup (a.2.map kV))/\Rep K G (kT a.2) (.ref a.1)
 |[],_,_,e,r=>by
  cases e;rw[Reps]at r;exact⟨[],r,rfl,rfl,fun _ h=>nomatch h⟩
 |d::ds,_,_,e,r=>by
  rw[ki,T9]at e;obtain⟨k,e1,e⟩:=e;rw[Sy]at e;obtain⟨ks,e2,e3⟩:=e;subst e3;rw[Reps]at r;obtain⟨y,ys,e4,r1,r2⟩:=r;obtain⟨p,h1,h2,h5⟩:=dD e1 r1;obtain⟨al,h3,h4,h6,h7⟩:=kl e2 r2;subst h1;refine⟨(p,k)::al,by rw[e4,h3];rfl,by rw[h4];rfl,by rw[h5,h6];rfl,fun a ha=>?_⟩;rcases RV.mp ha with rfl|ha
  ·exact⟨h2,by rw[<-h5];exact r1⟩
  ·exact h7 a ha
theorem eX{α:Type}{f:α->D}{g:α->V}:∀{l:List α},(∀a∈l,Rep K G (f a) (g a))->Reps K G (l.map f) (l.map g)
 |[],_=>Reps.nil
 |a::l,h=>.cons (h a RQ) (eX fun b hb=>h b (RZ _ hb))
end
def sameKinds(k:List Key)(ID:List (List Key)):Bool:=!k.isEmpty&&ID.all fun j=>kinds j==kinds k
noncomputable def pG(ds:List D):Option (List D):=match gN ds with
 |some ns=>some ((dj ltI ns).map D.int)
 |none=>match c9 ds with
  |some ls=>some ((dj IU ls).map D.str)
  |none=>match ki ds with
   |some (k::ID)=>if sameKinds k ID then some ((dj d4 (k::ID)).map kT) else none
   |_=>none
noncomputable def fQ:List D->Res R
 |[.lst ds]=>if ds.length<64 then match pG ds with
  |some l=>.ok (.l .f,.lst l)
  |none=>.bad
  else .bad
 |[.dct true ks _]=>if ks.length<64 then match ks,ki ks with
  |[],_=>.ok (.l .f,.lst [])
  |_,some (k::ID)=>if sameKinds k ID then .ok (.l .f,.lst ((dj d4 (k::ID)).map kT)) else .bad
  |_,_=>.bad
  else .bad
 |_=>.bad
theorem iy{k:List Key}{ID:List (List Key)}(h:sameKinds k ID=true):∃top t,∀j∈k::ID,kinds j=top::t:=by
 unfold sameKinds at h;rw[Si,SD]at h;cases k with
 |nil=>simp at h
 |cons a k=>
  refine⟨a.isLeft,kinds k,fun j hj=>?_⟩;rcases RV.mp hj with rfl|hj
  ·rfl
  ·exact SR.mp (h.2 j hj)
def jo(H G:Hp):Hp:=fun p=>match H p with
 |some (HO.tup xs)=>some (HO.tup xs)
 |_=>G p
theorem rL{H G:Hp}{p:Addr}{xs:List V}(e:H p=some (.tup xs)):jo H G p=some (.tup xs):=by
 unfold jo;rw[e]
theorem km{H G:Hp}{p:Addr}{u:HO}(e:jo H G p=some u):G p=some u\/(ND u=true/\H p=some u):=by
 unfold jo at e;split at e
 ·rename_i xs hx;cases e;exact .inr ⟨rfl,hx⟩
 ·exact .inl e
theorem uy{H G:Hp}(gh:Same G H):Same G (jo H G):=fun p u e=>by
 unfold jo;rw[gh p u e];cases u with
 |tup xs=>rfl
 |_=>exact e
theorem Rel.addT{K:W.Frag}{G H:Hp}{es:PV.Env}{vs:L2.St}{fp:List Addr}(q:Rel K G H es vs fp):∃G',Rel K G' H es vs fp/\Step G H fp G' H fp/\∀p xs,H p=some (.tup xs)->G' p=some (.tup xs):=by
 have gg:=uy q.gh;refine⟨jo H G,⟨q.rep.step gg fun _ _=>rfl,q.nd,fun p hp=>?_,fun p u e=>?_⟩,⟨gg,fun _ _ e _=>e,fun _ h=>.inl h,fun p u e=>(km e).imp_right fun z=>.inr (.inr z),fun _ u e=>⟨u,e⟩⟩,fun p xs e=>rL e⟩
 ·cases e:jo H G p with
  |none=>rfl
  |some u=>
   exfalso;rcases km e with z|⟨t,z⟩
   ·rw[q.gn p hp]at z;cases z
   ·obtain⟨u2,h2,hm⟩:=q.rep.mut p hp;rw[z]at h2;cases h2;cases u with
    |tup _=>cases hm
    |frz _ _=>cases hm
    |_=>cases t
 ·rcases km e with z|z
  ·exact q.gh p u z
  ·exact z.2
theorem BQ{K:W.Frag}{G:Hp}{k:Key}(h:xP k):Rep K G (kD k) (kV k):=by
 cases k with
 |inl i=>exact bu i
 |inr x=>
  have:=dy (K:=K) (G:=G) (l:=x.cps.toList) h;rw[nQ]at this;exact this
theorem BR(k:Key):kh (kD k)=some k:=by
 cases k with
 |inl i=>rfl
 |inr x=>
  show some (Sum.inr (S x.cps.toList))=_;rw[nQ]
theorem kn:∀ks:List Key,eS (ks.map kD)=some ks
 |[]=>rfl
 |k::ks=>by
  rw[So,eS,BR,kn ks];rfl
theorem lO:∀ID:List (List Key),ki (ID.map kT)=some ID
 |[]=>rfl
 |k::ID=>by
  rw[So,ki];show(eS (k.map kD)).bind _=_;rw[kn,lO ID];rfl
section
variable{X:Cx}
theorem Rr{α:Type}{lt:α->α->Bool}{p:α->α->Prop}(h:∀a b,p a b->lt b a=false){l:List α}(q:l.Pairwise p):l.Pairwise (fun a b=>lt b a=false):=q.imp (h _ _)
theorem oA(hc:X.calm=true):cU X (.builtin "sorted") (rC X.K fQ):=by
 rintro pr s σ H xs us Q I rx ⟨G,fp,es,vs,ds,r,⟨rel,k⟩,vd,e⟩;unfold fQ at e;split at e
 ·rename_i ds;split at e
  ·rename_i Kw;split at e
   ·rename_i l hl;cases e;obtain⟨v,ev,p,ys,ep,sq,rs⟩:=mD vd;subst ev;subst ep;unfold pG at hl;split at hl
    ·rename_i ns Jl;cases hl;have hy:=g7 Jl rs;subst hy;have hlen:ns.length<64:=by have:=rs.length;rw[RU]at this;lia
     refine jD hc pr s σ H _ us Q I rx ⟨p,ns,rfl,sq,hlen,fun q ms hq pm sm=>?_⟩;have em:=iw zy pm (Rr (fun a b h=>by unfold ltI;rw[SU];lia) sm);subst em;obtain⟨F3,F8⟩:=rel.newL hq (eX (K:=X.K) (G:=G) (f:=D.int) (g:=V.int) fun a _=>bu a);exact k _ _ G _ F8 F3
    ·split at hl
     ·rename_i ls hls;cases hl;obtain⟨hy,hz⟩:=kj hls rs;subst hy;have hlen:ls.length<64:=by have:=rs.length;rw[RU]at this;lia
      refine jE hc pr s σ H _ us Q I rx ⟨p,ls,rfl,sq,hlen,fun q ms hq pm sm=>?_⟩;have em:=iw pF pm (Rr (fun a b h=>by unfold IU;rw[SU];exact h) sm);obtain⟨F3,F8⟩:=rel.newL hq (eX (K:=X.K) (G:=G) (f:=D.str) (g:=fun l=>V.str (S l)) (l:=ms) fun a ha=>dy (hz a (pm.mem_iff.mp ha)));rw[<-em]at k;exact k _ _ G _ F8 F3
     ·split at hl
      ·rename_i kk ID hk;split at hl
       ·rename_i hsk;cases hl;obtain⟨al,h1,h2,h3,h4⟩:=kl hk rs;obtain⟨top,t,IE⟩:=iy hsk;subst h1;have hlen:al.length<64:=by have:=rs.length;rw[RU]at this;lia
        refine jF hc pr s σ H _ us Q I rx ⟨p,al,top,t,rfl,sq,fun a ha=>⟨SqT.of (rel.gh _ _ (h4 a ha).1),IE a.2 (by rw[h2];exact TM.mpr ⟨a,ha,rfl⟩)⟩,hlen,fun q ms hq pm sm=>?_⟩;have em:ms.map (·.2)=dj d4 (kk::ID):=by
         rw[h2];refine iw ux (pm.map _) ?_;rw[V9];exact sm
        obtain⟨F3,F8⟩:=rel.newL hq (eX (K:=X.K) (G:=G) (f:=fun a:Addr×List Key=>kT a.2) (g:=fun a=>V.ref a.1) (l:=ms) fun a ha=>(h4 a (pm.mem_iff.mp ha)).2);have ek:ms.map (fun a=>kT a.2)=(dj d4 (kk::ID)).map kT:=by rw[<-em,SE];rfl
        rw[ek]at F3;exact k _ _ G _ F8 F3
       ·cases hl
      ·cases hl
   ·cases e
  ·cases e
 ·rename_i ks vv;split at e
  ·rename_i Kw;obtain⟨v,ev,vt⟩:=mD vd;obtain⟨p,ys,o,ep,rd,dd,rs⟩:=vt;subst ev;subst ep;obtain⟨F5,eo,ek,ex,Lc⟩:=dd;subst eo;have ek:ks=(F5.map (·.1)).map kT:=by rw[ek,SE];rfl
   have hlen:F5.length<64:=by rw[ek,RU,RU]at Kw;exact Kw
   have go:∀(top:Bool) (t:List Bool),(∀kv∈F5,kinds kv.1=top::t)->r=(.l .f,.lst ((dj d4 (F5.map (·.1))).map kT))->wpAny (model X.prog X.w) X.A (call (.builtin "sorted") us) (EP X pr σ Q) X.xe s:=fun top t IE er=>by
    subst er;refine lr hc pr s σ H _ us Q I rx ⟨p,F5,top,t,rfl,rd,IE,hlen,fun q ms hq hm pm sm=>?_⟩;have em:ms.map (·.2)=dj d4 (F5.map (·.1)):=by
     refine iw ux pm ?_;rw[V9];exact sm
    obtain⟨G2,F3,F8,ht⟩:=rel.addT;have JG:∀a∈ms,Rep X.K G2 (kT a.2) (.ref a.1):=fun a ha=>by
     unfold kT;rw[Rep];refine⟨a.1,_,rfl,ht _ _ (hm a ha),?_⟩;refine eX (f:=kD) (g:=kV) fun key J0=>BQ ?_
     have:a.2∈F5.map (·.1):=pm.mem_iff.mp (TM.mpr ⟨a,ha,rfl⟩);obtain⟨kv,JV,e2⟩:=TM.mp this;exact Lc kv JV key (by rw[e2];exact J0)
    obtain⟨Gs,GA⟩:=F3.newL hq (eX (K:=X.K) (G:=G2) (f:=fun a:Addr×List Key=>kT a.2) (g:=fun a=>V.ref a.1) (l:=ms) JG);have ek:ms.map (fun a=>kT a.2)=(dj d4 (F5.map (·.1))).map kT:=by rw[<-em,SE];rfl
    rw[ek]at Gs;exact k _ _ G2 _ (F8.trans GA) Gs
   rw[ek,lO]at e;split at e
   ·rename_i hnil;cases e;have:F5=[]:=by
     cases F5 with
     |nil=>rfl
     |cons a b=>cases hnil
    subst this;exact go true [] (fun _ h=>nomatch h) rfl
   ·rename_i kk ID heq Kj;split at e
    ·rename_i hsk;cases e;obtain⟨top,t,IE⟩:=iy hsk;have heq:F5.map (·.1)=kk::ID:=by
      injection heq
     refine go top t (fun kv JV=>IE kv.1 ?_) (by rw[heq]);rw[<-heq];exact TM.mpr ⟨kv,JV,rfl⟩
    ·cases e
   ·cases e
  ·cases e
 ·cases e
def Kn(a b:D):Res R:=match eU a,eU b with
 |some ks,some js=>if kinds ks==kinds js then .ok (.f,.bl (d4 ks js)) else .bad
 |_,_=>NB a b
def geO(a b:D):Res R:=match eU a,eU b with
 |some ks,some js=>if kinds ks==kinds js then .ok (.f,.bl (!d4 ks js)) else .bad
 |_,_=>match a,b with
  | .str a,.str b=>.ok (.f,.bl (!decide (a<b)))
  |a,b=>geD a b
theorem qJ(hu:X.A.units<cLine):GH X (compareOp .Lt) (rG X.K Kn):=by
 rintro pr s σ H x y v u Q I rx ry ⟨G,fp,es,vs,a,b,r,⟨rel,k⟩,va,vb,e⟩;unfold Kn at e;split at e
 ·rename_i ks js h1 h2;split at e
  ·rename_i hk;cases e;have ra:Rep X.K G a x:=by cases a <;> first|exact va|cases h1
   have rb:Rep X.K G b y:=by cases b <;> first|exact vb|cases h2
   obtain⟨p,e1,g1,_⟩:=dD h1 ra;obtain⟨p2,e2,g2,_⟩:=dD h2 rb;subst e1;subst e2;exact BA hu pr s σ H _ _ v u Q I rx ry ⟨p,p2,ks,js,rfl,rfl,SqT.of (rel.gh _ _ g1),SqT.of (rel.gh _ _ g2),SR.mp hk,k _ H G fp .refl (rel.push (cH _))⟩
  ·cases e
 ·exact D1 pr s σ H x y v u Q I rx ry ⟨G,fp,es,vs,a,b,r,⟨rel,k⟩,va,vb,e⟩
end
def eNewD(tk:Bool):FX:=fun env=>.ok ((.d,.dct tk [] []),env)
section
variable{md:Mode}{X:Cx}
theorem Rel.newD{K:W.Frag}{G H:Hp}{es:PV.Env}{vs:L2.St}{fp:List Addr}{p:Addr}{u:HO}{tk:Bool}(q:Rel K G H es vs fp)(hp:H p=none)(h:DictO u tk [] []):
  Rel K G (upd H p u) (some (.d,.dct tk [] [])::es) (some (.ref p)::vs) (p::fp)/\Step G H fp G (upd H p u) (p::fp):=by
 have gp:G p=none:=by
  cases e:G p with
  |none=>rfl
  |some o=>rw[q.gh p o e]at hp;cases hp
 have np:p∉fp:=fun z=>by
  obtain⟨u,e⟩:=q.rep.live p z;rw[hp]at e;cases e
 have sh:Same H (upd H p u):=fun b o e=>by rw[az (aH e hp)];exact e
 refine⟨⟨⟨some (.ref p),vs,rfl,.ref p,[p],fp,rfl,rfl,?_,q.rep.step (.refl _) fun z hz=>az fun e=>np (e▸hz)⟩,Sv.mpr ⟨np,q.nd⟩,fun z hz=>?_,fun b o e=>?_⟩,
  ⟨.refl _,fun b o e _=>sh b o e,fun b hb=>?_,fun b o e=>.inl e,fun b o e=>⟨o,sh b o e⟩⟩⟩
 ·rw[RepO];exact⟨p,[],u,rfl,aW,h,rfl,Reps.nil⟩
 ·rcases RV.mp hz with rfl|hz
  ·exact gp
  ·exact q.gn z hz
 ·exact sh b o (q.gh b o e)
 ·rcases RV.mp hb with rfl|hb
  ·exact .inr hp
  ·exact .inl hb
theorem zJ{pos:Pos}:QE X (.Dict [] [] pos) (eNewD false):=bo wH fun σ H Q Gd p hp=>by
 obtain⟨G,env,fp,r,env',rel,e,k⟩:=Gd;cases e;obtain⟨F3,F8⟩:=rel.newD (tk:=false) (u:=.dK []) hp ⟨[],rfl,rfl,rfl,fun _ h=>nomatch h⟩;exact k _ _ G _ F8 F3
def pH(ks vs:List D)(k v:D):List D×List D:=if ks.any (Ga k) then(ks,(ks.zip vs).map fun p=>if Ga k p.1 then v else p.2) else(ks++[k],vs++[v])
def eY(tk:Bool)(k:D):Bool:=if tk then(eU k).isSome else(kh k).isSome
noncomputable def Dl(i:Nat)(fk fv:FX):FS:=fun env=>(fv env).bind fun p=>(fk p.2).bind fun q=>match p.2[i]?,q.2[i]? with
 |some (some _),some (some (.d,.dct tk ks vs))=>if eY tk q.1.2&&decide (ks.length<sizeLine) then .ok (.nx (q.2.set i (some (.d,.dct tk (pH ks vs q.1.2 p.1.2).1 (pH ks vs q.1.2 p.1.2).2)))) else .bad
 |_,_=>.bad
theorem uz(a b:Key):Ga (kD a) (kD b)=decide (a=b):=by
 cases a with
 |inl i=>
  cases b with
  |inl j=>simp only[kD,Ga];rw[SH];simp
  |inr y=>simp only[kD,Ga];simp
 |inr x=>
  cases b with
  |inl j=>simp only[kD,Ga];simp
  |inr y=>
   simp only[kD,Ga];rw[SH];simp only[SR,R8,Sum.inr.injEq];exact⟨fun h=>by rw[<-nQ x,<-nQ y,h],fun h=>by rw[h]⟩
theorem uA:∀a b:List Key,mF (a.map kD) (b.map kD)=decide (a=b)
 |[],[]=>by simp[mF]
 |[],_::_=>by simp[mF]
 |_::_,[]=>by simp[mF]
 |a::r,b::t=>by
  rw[So,So,mF,uz,uA r t,SH];simp
theorem xY(a b:List Key):Ga (kT a) (kT b)=decide (a=b):=by
 unfold kT;rw[Ga];exact uA a b
theorem oB{κ:Type}[DecidableEq κ]{K:W.Frag}{G:Hp}(f:κ->D)(hf:∀a b,Ga (f a) (f b)=decide (a=b)){F5:List (κ×V)}{vs:List D}{k:κ}{v:D}{y:V}(r:Reps K G vs (F5.map (·.2)))(ry:Rep K G v y):
  (lq F5 k y).map (fun kv=>f kv.1)=(pH (F5.map fun kv=>f kv.1) vs (f k) v).1/\Reps K G (pH (F5.map fun kv=>f kv.1) vs (f k) v).2 ((lq F5 k y).map (·.2)):=by
 have e:(F5.map fun kv=>f kv.1).any (Ga (f k))=F5.any fun kv=>decide (kv.1=k):=by
  rw[VP];congr 1
  funext kv
  show Ga (f k) (f kv.1)=_;rw[hf,SH];simp only[R8];exact⟨fun z=>z.symm,fun z=>z.symm⟩
 unfold pH lq;rw[e];split
 ·refine⟨?_,?_⟩
  ·rw[SE];refine TH fun kv _=>?_
   show f (if kv.1=k then(kv.1,y) else kv).1=f kv.1;split <;> rfl
  ·rename_i hany;clear e hany;induction F5 generalizing vs with
   |nil=>
    have:vs=[]:=S7 (by rw[<-r.length];rfl);subst this;exact Reps.nil
   |cons kv F5 ih=>
    cases vs with
    |nil=>have:=r.length;simp at this
    |cons d vs=>
     rw[So,Reps.cons_iff]at r;rw[So,UJ,So,So,So];refine .cons ?_ (ih r.2);show Rep K G (if Ga (f k) (f kv.1)=true then v else d) (if kv.1=k then(kv.1,y) else kv).2;rw[hf];by_cases hk:kv.1=k
     ·rw[Sa (by simp[hk]),Sa hk];exact ry
     ·rw[Sf (by simp;exact fun z=>hk z.symm),Sf hk];exact r.1
 ·refine⟨?_,?_⟩
  ·rw[Sk];rfl
  ·rw[Sk];exact r.app (.one ry)
theorem Rel.chgD{K:W.Frag}{G H:Hp}{es:PV.Env}{vs:L2.St}{fp:List Addr}{i:Nat}{tk:Bool}{ks ws:List D}(q:Rel K G H es vs fp)(e:es[i]?=some (some (.d,.dct tk ks ws))):∃p xs u,vs[i]?=some (some (.ref p))/\H p=some u/\DictO u tk ks xs/\Reps K G ws xs/\
  ∀u' JP Hz Oj,DictO u' tk JP Hz->Reps K G Oj Hz->∃fq,Rel K G (upd H p u') (es.set i (some (.d,.dct tk JP Oj))) vs fq/\Step G H fp G (upd H p u') fq:=by
 obtain⟨v,fq,ev,g,st,Im⟩:=q.out e;obtain⟨y,ys,e0,v',a,b,e1,e2,r1,r2⟩:=g.rep;cases e0;cases e1;rw[RepO]at r1;obtain⟨p,xs,u,e3,hp,dd,e4,rs⟩:=r1;subst e3;subst e4;subst e2;have nd:=Sv.mp (show(p::b).Nodup from g.nd);refine⟨p,xs,u,ev,hp,dd,rs,fun u' JP Hz Oj Mw HX=>?_⟩;have g2:Rel K G (upd H p u') (some (.d,.dct tk JP Oj)::es.set i none) (some (.ref p)::vs) (p::b):=by
  refine⟨⟨some (.ref p),vs,rfl,.ref p,[p],b,rfl,rfl,?_,r2.step (.refl _) fun z hz=>az fun e=>nd.1 (e▸hz)⟩,g.nd,g.gn,fun z o ez=>?_⟩
  ·rw[RepO];exact⟨p,Hz,u',rfl,aW,Mw,rfl,HX⟩
  ·have:z≠p:=fun w=>by
    subst w;rw[g.gn z RQ]at ez;cases ez
   rw[az this];exact g.gh z o ez
 have MV:Step G H (p::b) G (upd H p u') (p::b):=by
  refine⟨.refl _,fun z o ez nz=>?_,fun z hz=>.inl hz,fun z o ez=>.inl ez,fun z o ez=>?_⟩
  ·have:z≠p:=fun w=>nz (by rw[w];exact RQ)
   rw[az this];exact ez
  ·by_cases w:z=p
   ·subst w;exact⟨_,aW⟩
   ·exact⟨o,by rw[az w];exact ez⟩
 obtain⟨fz,g3,GA⟩:=g2.back (i:=i) (by rw[UP];exact(Se.mp e).1) ev;rw[U4]at g3;exact⟨fz,g3,st.trans (MV.trans GA)⟩
theorem xZ{K:W.Frag}{G:Hp}{d:D}{k:Key}{v:V}(e:kh d=some k)(r:Rep K G d v):xP k:=by
 cases d with
 |int i=>cases e;trivial
 |str l=>
  cases e;show(S l).cps.toList.length<=sizeLine;rw[dv];exact(bg r).2
 |_=>cases e
theorem uB{K:W.Frag}{G:Hp}:∀{ds:List D}{ks:List Key}{xs:List V},eS ds=some ks->Reps K G ds xs->∀k∈ks,xP k
 |[],_,_,e,_=>by
  cases e;exact fun _ h=>nomatch h
 |d::ds,_,_,e,r=>by
  rw[eS,T9]at e;obtain⟨k,e1,e⟩:=e;rw[Sy]at e;obtain⟨ks,e2,e3⟩:=e;subst e3;rw[Reps]at r;obtain⟨y,ys,e4,r1,r2⟩:=r;intro z hz;rcases RV.mp hz with rfl|hz
  ·exact xZ e1 r1
  ·exact uB e2 r2 z hz
theorem qK{κ:Type}[DecidableEq κ]{P:κ->Prop}{F5:List (κ×V)}{k:κ}{y:V}(h:∀kv∈F5,P kv.1)(hk:P k):∀kv∈lq F5 k y,P kv.1:=by
 intro kv JV;unfold lq at JV;split at JV
 ·obtain⟨z,hz,e⟩:=TM.mp JV;rw[<-e];split
  ·exact h z hz
  ·exact h z hz
 ·rcases Ss.mp JV with JV|JV
  ·exact h kv JV
  ·rw[S9]at JV;rw[JV];exact hk
theorem BS{i:Nat}{o ix value:Expr}{fk fv:FX}{pos pos':Pos}(hu:X.A.units+1<cLine)(ho:PE X o (rg i))(hi:QE X ix fk)(hv:QE X value fv)(hs:swapsWith value (some (.Subscript o ix pos')) pos.line X.env=pure false:=by rfl):
  QS (md:=md) X (.Assign [.Subscript o ix pos'] value pos) (Dl i fk fv):=ij (zd hu ho hi hv hs) fun Dd σ H Gd=>by
 obtain⟨G,env,fp,rel,k⟩:=Gd;unfold Dl at k;match q1:fv env,k with
 | .ok (r1,FZ),k=>
  have k:OutOk X.K G H fp Dd ((fk FZ).bind fun q=>match FZ[i]?,q.2[i]? with
   |some (some _),some (some (.d,.dct tk ks vs))=>if eY tk q.1.2&&decide (ks.length<sizeLine) then .ok (.nx (q.2.set i (some (.d,.dct tk (pH ks vs q.1.2 r1.2).1 (pH ks vs q.1.2 r1.2).2)))) else .bad
   |_,_=>.bad):=k
  match q2:fk FZ,k with
  | .ok (r2,Gm),k=>
   have k:OutOk X.K G H fp Dd (match FZ[i]?,Gm[i]? with
    |some (some _),some (some (.d,.dct tk ks vs))=>if eY tk r2.2&&decide (ks.length<sizeLine) then .ok (.nx (Gm.set i (some (.d,.dct tk (pH ks vs r2.2 r1.2).1 (pH ks vs r2.2 r1.2).2)))) else .bad
    |_,_=>.bad):=k
   split at k
   ·rename_i rr tk ks ws h1 h2;split at k
    ·rename_i hc;rw[Si,R8]at hc;refine⟨G,env,fp,r1,FZ,rel,q1,fun y H1 G1 Gn Ge F4=>?_⟩;obtain⟨G2,b,ry,F3,F8⟩:=F4.freeze;obtain⟨v0,Rt,_⟩:=F3.view h1;refine⟨v0,Rt,G2,FZ,b,r2,Gm,F3,q2,fun z H3 G3 IS GA Gs=>?_⟩;obtain⟨G4,b4,rz,Hf,Io⟩:=Gs.freeze;obtain⟨p,xs,u,ep,hp,dd,rs,cg⟩:=Hf.chgD h2;rw[Rt]at ep;cases ep;have Ru:Rep X.K G4 r1.2 y:=Rep.mono (GA.gg.trans Io.gg) ry;cases tk with
     |true=>
      obtain⟨F5,eu,ek,ex,Lc⟩:=dd;subst eu;subst ex;have hk:=hc.1;unfold eY at hk;rw[Sa rfl,TU]at hk;obtain⟨kk,hk⟩:=hk;obtain⟨pz,ez,gz,dz⟩:=dD hk rz;subst ez;obtain⟨t1,t2⟩:=oB (K:=X.K) (G:=G4) kT xY (k:=kk) rs Ru;have ek:ks=F5.map fun kv=>kT kv.1:=ek
      rw[<-ek,<-dz]at t1 t2;have MZ:∀key∈kk,xP key:=by
       cases hd:r2.2 with
       |tup ds=>
        rw[hd]at hk rz;obtain⟨_,Hz,_,_,HX⟩:=uh rz;exact uB hk HX
       |_=>rw[hd]at hk;cases hk
      obtain⟨fq,Hm,Iz⟩:=cg (.dT (lq F5 kk y)) _ _ _ ⟨lq F5 kk y,rfl,t1.symm,rfl,qK (P:=fun ks=>∀k∈ks,xP k) Lc MZ⟩ t2;have hlen:F5.length<sizeLine:=by have:=hc.2;rw[ek,RU]at this;exact this
      exact⟨p,_,rfl,DPut.t hp (Hf.gh _ _ gz) hlen,k _ _ G4 fq (Ge.trans (F8.trans (GA.trans (Io.trans Iz)))) Hm⟩
     |false=>
      obtain⟨F5,eu,ek,ex,Lc⟩:=dd;subst eu;subst ex;have hk:=hc.1;unfold eY at hk;rw[Sf R4,TU]at hk;obtain⟨kk,hk⟩:=hk;obtain⟨ez,dz⟩:=iY hk rz;subst ez;obtain⟨t1,t2⟩:=oB (K:=X.K) (G:=G4) kD uz (k:=kk) rs Ru;rw[<-ek,<-dz]at t1 t2;obtain⟨fq,Hm,Iz⟩:=cg (.dK (lq F5 kk y)) _ _ _ ⟨lq F5 kk y,rfl,t1.symm,rfl,qK (P:=xP) Lc (xZ hk rz)⟩ t2;have hlen:F5.length<sizeLine:=by have:=hc.2;rw[ek,RU]at this;exact this
      exact⟨p,_,rfl,DPut.k hp hlen,k _ _ G4 fq (Ge.trans (F8.trans (GA.trans (Io.trans Iz)))) Hm⟩
    ·exact k.elim
   ·exact k.elim
end
end PV
namespace NX
open PySem PySem.Spec PyProof.Rows L2
section
variable{prog:Program}{w:World}{A:Around}{E:Value->Shared->Prop}{s:Shared}{d:Addr}{es:Array DictEntry}{ep:Nat}
theorem mM(nm:(d==sysModules)=false):MeetsIn prog w (Builtin.«dict.__len__» ⟨[.ref d],[]⟩) (fun _ R s=>RawD s.heap d es ep/\R (.ok (.ret (.int es.size s.toks))) {s with toks:=s.toks+1}):=
 .of_wp fun A R s Gd=>by
  obtain⟨⟨o,g,_,dat⟩,h⟩:=Gd;show wpAny _ _ (dictSize d >>= fun _=>_) _ _ s;unfold dictSize;refine RO (RO (Ve g dat (RT ?_)));show wpAny _ _ (Builtin.Dict.pendingCount d >>= fun _=>_) _ _ s;refine RO (wpAny_pendingCount_other nm (wpAny_ret_mkInt ?_));rw[Nat.add_zero];exact h
theorem zL{Q:Value->Shared->Prop}(nm:(d==sysModules)=false)(x:RawD s.heap d es ep)(hf:(es.size:Int)<2 ^ 63)(h:Q (.int es.size (s.toks+1)) {s with toks:=s.toks+1+1}):wpAny (model prog w) A (call (.builtin "len") [.ref d]) Q E s:=by
 have ty:=jP x;refine UU kind_len plain_len entry_len (args_len1 _) ?_;unfold Builtin.«len»;refine RO (m:=oneArg "len" _) (RT (RO (m:=callSpecial? (.ref d) (Str.ofString "__len__")) (Sr (name:=Str.ofString "__len__") ty F.slot_dict_len
  (call_meetsIn F.slot_dict_len ty F.entry_dict_len (F.args_dict_len_1 _) (mM (es:=es) (ep:=ep) nm) ⟨x,?_⟩))))
 show wpAny _ _ _ _ _ {s with toks:=s.toks+1};refine RO (Tv (RT (RO (U0 ?_))));show wpAny _ _ (if((es.size:Nat):Int)<0 then _ else _) _ _ _;rw[Sf (Int.not_lt.mpr (Int.natCast_nonneg _))];show wpAny _ _ (if((es.size:Nat):Int)>=2 ^ 63 then _ else _) _ _ _;rw[Sf (Int.not_le.mpr hf)];exact RO (wpAny_mkInt (RT ⟨_,rfl,h⟩))
end
end NX
namespace PV
open PySem PySem.Spec PyProof.Rows L2 NX
section
variable{X:Cx}
def iz:List D->Res R
 |[.dct _ ks _]=>.ok (.f,.int ks.length)
 |ds=>D3 ds
theorem BU{pr:List (Addr×Obj)}{σ:L2.St}{H:Hp}{s:Shared}(I:Inv X pr σ H s){p:Addr}{o:HO}{tk:Bool}{ks:List D}{xs:List V}(rd:Rd H p o)(dd:DictO o tk ks xs):(p==sysModules)=false/\∃es ep,RawD s.heap p es ep/\es.size=ks.length/\ks.length<=sizeLine:=by
 have ok:=rd.ok I.hok;cases tk with
 |true=>
  obtain⟨F5,eo,ek,_⟩:=dd;subst eo;obtain⟨z,nm,ws,r,o2,es,ep,h1,h2,h3,h4,_⟩:=ok;refine⟨nm,es,ep,⟨o2,h1,h2,h3⟩,?_,by rw[ek,RU];exact z⟩;have:=Tq List.length h4;rw[RU,Tb,<-Vx r]at this;rw[ek,RU];exact this
 |false=>
  obtain⟨F5,eo,ek,_⟩:=dd;subst eo;obtain⟨z,nm,ws,r,o2,es,ep,h1,h2,h3,h4,h5,_⟩:=ok;refine⟨nm,es,ep,⟨o2,h1,h2,h3⟩,?_,by rw[ek,RU];exact z⟩;have l1:=h5.length;have l2:F5.length=ws.length:=Vx r;rw[ek,RU];rw[Tb]at l1;lia
theorem cn:cU X (.builtin "len") (rC X.K iz):=by
 rintro pr s σ H xs us Q I rx ⟨G,fp,es,vs,ds,r,⟨rel,k⟩,vd,e⟩;unfold iz at e;split at e
 ·rename_i tk ks ws;cases e;obtain⟨v,ev,p,ys,o,ep,rd,dd,_⟩:=mD vd;subst ev;subst ep;obtain⟨u,rfl,ru⟩:=fE rx;cases ru;obtain⟨nm,en,ep,raw,h1,h2⟩:=BU I rd dd;refine zL nm raw (by rw[h1];rw[Tc]at h2;lia) ?_;refine⟨.int ks.length,H,I.tok _,⟨_,by rw[h1]⟩,k _ H G fp .refl (rel.push (bu _))⟩
 ·exact BL pr s σ H xs us Q I rx ⟨G,fp,es,vs,_,r,⟨rel,k⟩,vd,e⟩
def wY(g:List Nat->List D->Res R)(fa:FO)(fs:FOs):FX:=fun env=>(fa env).bind fun p=>match der p.2 p.1 with
 | .ok (.str l)=>(fs p.2).bind fun q=>(qv q.2 q.1).bind fun ds=>(g l ds).bind fun r=>.ok (r,q.2)
 |_=>.bad
inductive rMtS(K:W.Frag)(g:List Nat->List D->Res R)(x:V)(xs:List V)(H:Hp)(Q:VK):Prop
 |mk:∀G fp es vs l ds r,Goes K H G fp es vs r Q->x=.str (S l)->l.length<=sizeLine->NF K G H ds xs->g l ds=.ok r->rMtS K g x xs H Q
theorem oC{g:List Nat->List D->Res R}{id:String}{name:Str}{o e:Expr}{es:List Expr}{fa:FO}{fs:FOs}{apos Gb:Pos}(slot:Slot "str" name id)(N6:typeOf (.builtin id)=pure (.type "method_descriptor"))(hm:Pf X id (rMtS X.K g))(ho:QO X o fa)(ha:KL X (e::es) fs)
  (GU:attributeBase o name X.env (eval o X.env)=eval o X.env:=by rfl)
  (HV:((backTo Gb (starEach (e::es) X.env)).all (fun x=>!x.1)&&(backToKw Gb (keywordEach [] X.env)).all (fun x=>x.1.isSome)&&decide ((e::es).length+([]:List Keyword).length+(if([]:List Keyword).isEmpty then 0 else 1)<30))=true:=by rfl)
  (GV:(apos.endLine==Gb.line)=true:=by rfl) (hs:starEach (e::es) X.env=(false,eval e X.env)::starEach es X.env:=by rfl) (GD:(backTo Gb (starEach es X.env)).any (·.1)=false:=by rfl):
  QE X (.Call (.Attribute o name apos) (e::es) [] Gb) (wY g fa fs):=by
 refine bo (rp PySem.F.plainAttrs_str slot N6 hm ho ha GU HV GV hs GD) fun σ H Q Gk=>?_
 obtain⟨G,env,fp,r,env',rel,e,k⟩:=Gk;obtain⟨⟨oa,FZ⟩,e1,e⟩:=ai e;dsimp only at e;split at e
 ·rename_i l hl;obtain⟨⟨os,Gm⟩,e2,e⟩:=ai e;obtain⟨ds,e3,e⟩:=ai e;obtain⟨r',e4,e⟩:=ai e;cases e;refine⟨G,env,fp,oa,FZ,rel,e1,fun v H1 G1 Gn Ge F4 HB=>?_⟩;obtain⟨ev,hz⟩:=eB (F4.vw HB hl);subst ev;exact⟨rfl,G1,FZ,Gn,os,Gm,F4,e2,fun vs H2 G2 GS F8 F3 KN=>⟨G2,GS,Gm,σ,l,ds,r,⟨F3,fun v H' G' F9 st Gy=>k v H' G' F9 (Ge.trans (F8.trans st)) Gy⟩,rfl,hz,F3.vws KN e3,e4⟩⟩
 ·cases e
def pI(l:List Nat):List D->Res R
 |[.str c]=>match Builtin.Str.occurrences (S l) (S c) 0 (S l).length 1 with
  |i::_=>.ok (.f,.int i)
  |[]=>.bad
 |_=>.bad
theorem wZ:Pf X "str.index" (rMtS X.K pI):=by
 rintro pr s σ H x xs v us Q I rx rv ⟨G,fp,es,vs,l,ds,r,⟨rel,k⟩,ex,hz,vd,e⟩;unfold pI at e;split at e
 ·rename_i c;split at e
  ·rename_i i dY ho;cases e;subst ex;obtain⟨w',ew,vc⟩:=mD vd;obtain⟨ev,_⟩:=eB vc;subst ew;subst ev;obtain⟨t,rfl⟩:=rx;obtain⟨u,rfl,t',rfl⟩:=fE rv;exact call_gives Wy (V1 _ _ _) PySem.F.entry_str_index (PySem.F.args_str_index_2 _ _) (gives_str_index (S l) (S c) t t' i dY ho) ⟨.int i,H,I.tok _,⟨_,rfl⟩,k _ H G fp .refl (rel.push (bu _))⟩
  ·cases e
 ·cases e
end
theorem fnok_of{P:Program}{w:World}{K:W.Frag}{mg:Str->Option Value}{base:Heap}{x:Str}{st:Stmt}{N ps:List Str}{k:Nat}{g:FS}{f:Addr}{fd:FuncData}(F:Fun K x x st f fd)(sc:FnScope N ps (defScope st))
  (body:∀(Gw:Value) (A:Around) (outer:List PySem.Env) (s:Shared) (H:Hp) (E:XK),Room k (A.deeper (envOfC x (defScope st) s.heap.objs.size f Gw))->Lv (md:=.plain) (xF KZ P w K mg base N x (defScope st) f Gw A outer s H E).nox (du st) g):
  FnOk P w K mg base KZ (k+1) f fd ps (spF K (fBody ps.length (N.length-ps.length) g)):=by
 refine F.ok sc (fun vs H Q E h=>?_) (fun Gw A outer s H vs Q E hr h=>?_)
 ·obtain⟨G,ds,r,_,rs,e,_⟩:=h;unfold fBody at e;split at e
  ·rename_i hl;rw[rs.length,hl]
  ·cases e
 ·obtain⟨G,ds,r,gh,rs,e,q⟩:=h;unfold fBody at e;split at e
  ·rename_i hl;refine⟨_,body Gw A outer s H E hr,G,ds.map (fun d=>some (O.f,d))++List.replicate (N.length-ps.length) none,[],⟨?_,UE,(fun _ h=>nomatch h),gh⟩,?_⟩
   ·have:=j8 (K:=K) (G:=G) (H:=H) (N.length-ps.length) rs;unfold L2.ll;rw[rs.length,hl];exact this
   ·obtain⟨o,eo,e⟩:=ai e;rw[eo];cases o with
    |rt r'=>
     cases e;exact fun v H' G' F9 st rel=>q v H' G' F9 st rel
    |nx env'=>
     cases e;exact fun σ' H' G' F9 st rel=>q .non H' G' [] (st.trans (Step.cut fun _ h=>nomatch h)) (rel.nilF.push g5)
    |bk env'=>cases e
    |ct env'=>cases e
  ·cases e
def w4(K:W.Frag):Sp:=fun vs H Q _=>∃(a:Addr) (ns:List Int),vs=[.ref a]/\SqL K H a (ns.map V.int)/\ns.length<=63/\∀H',Q (.bl true) H'
theorem BX{K:W.Frag}{F:List D->Res R}(h:∀ns:List Int,ns.length<=63->∃o,F [.lst (ns.map D.int)]=.ok (o,.bl true)):∀vs H Q E,w4 K vs H Q E->spF K F vs H Q E:=by
 rintro vs H Q E ⟨a,ns,rfl,sq,hl,q⟩;obtain⟨o,e⟩:=h ns hl;refine⟨H,_,_,.refl _,?_,e,fun v H' G' F9 st rel=>?_⟩
 ·refine .one ?_;rw[Rep];exact⟨a,_,rfl,sq,eX fun n _=>bu n⟩
 ·rw[cI rel.top];exact q H'
theorem _root_.L2.Room.u65{k:Nat}{A:Around}(r:Room k A):A.units+65<cLine:=by have:=r.un;lia
def FN(f:FX)(a:FG):FS:=fun env=>(f env).bind fun p=>(a p.1.2 p.2).bind fun e=>.ok (.nx e)
theorem Fy{l:PySem.W.OpenLaw}{q:Program}{loose:List Str}{XP:(Str->Option Value)->Heap->Prop}{YP:World->Heap->Prop}{d:DefRec}{K:Params->W.Frag}{k:Nat}{x:Str}(hn:l.most=some 63)(N7:d.params.defaults=[])(hr:Room k PySem.callerA)
  (hY:∀(w:World) (h:Heap),YP w h->(K w.params).In h)
  (F:∀(w:World) (mg:Str->Option Value) (fa:Addr) (h:Heap),(K w.params).In h->h.Ns mainGlobals mg->mg d.name=some (.ref fa)->
   ∃fd:FuncData,(∀(s:Shared) (u:Value),BindsTo s fd ⟨[u],[]⟩ [(x,u)])/\∀base:Heap,(K w.params).In base->base.Ns mainGlobals mg->FnOk l.prog w (K w.params) mg base KZ k fa fd [x] (w4 (K w.params))):
  PySem.W.WalkO q loose XP YP l.row.toRowW d [] (fun f vs=>PySem.call f vs):=
 L2.yV (n:=63) (k:=k) (x:=x) (CX:=fun _=>KZ) (sp:=fun w=>w4 (K w.params)) hn (by decide) N7 hr hY F (fun _ _ a ns hl _ hS=>⟨a,ns,rfl,hS,hl,fun _=>rfl⟩) fun _ _ _ _ _ z=>z
theorem BY:bootBuiltins "min" = some (.builtin "min"):=by decide +kernel
theorem x3:bootBuiltins "all" = some (.builtin "all"):=by decide +kernel
theorem oD:bootBuiltins "sorted" = some (.builtin "sorted"):=by decide +kernel
theorem BZ{K:W.Frag}{h:Heap}{mg:Str->Option Value}{x:Str}{st:Stmt}{f:Addr}{oc:Value}{od an:Option Addr}{Lp:Array (Option Value)}{kV doc pm Gw ct:Value}(X:K.In h)(G:h.Ns mainGlobals mg)
  (a:PySem.W.nsIn K mainGlobals x=some (some (.ref f))) (l:K.lookup f=some ⟨oc,od,.func (PySem.W.fnOf x x (fG st) (du st) (defScope st) .none kV doc pm an Gw ct),Lp⟩)
  (c:PySem.W.codeIn K Gw x=true) (k:PySem.W.keepIn K (.ref f)=true):Def K mg x st:=⟨f,_,xJ l c k,Xf X G a⟩
theorem w5{K:W.Frag}{h:Heap}{mg:Str->Option Value}{x:Str}{n:Int}{t:Tok}(X:K.In h)(G:h.Ns mainGlobals mg)(a:PySem.W.nsIn K mainGlobals x=some (some (.int n t))):Gi mg x n:=⟨t,Xf X G a⟩
inductive tQL(K:W.Frag)(f:FI)(σ:L2.St)(H:Hp)(R:It->Hp->Prop):Prop
 |mk:∀G env fp ds env',Rel K G H env σ fp->f env=.ok (ds,env')->(∀J H' G' F9,Step G H fp G' H' F9->Rel K G' H' env' σ F9->(∀G2,Same G' G2->(∀(i:Nat) (r:PV.R) (v:V),env'[i]?=some (some r)->σ[i]?=some (some v)->Rep K G2 r.2 v)->Walk K G2 J ds)->R J H')->tQL K f σ H R
def M0(X:Cx)(tg e:Expr)(f:FI):Prop:=PI X tg e (tQL X.K f)
theorem Walk.mono{K:W.Frag}{G G2:Hp}{J:It}{ds:List D}(w:Walk K G J ds)(gg:Same G G2):Walk K G2 J ds:=fun G' H' es vs fp g rel=>w G' H' es vs fp (gg.trans g) rel
theorem x4{K:W.Frag}{fi:FI}{ix:List (Option Nat)}{a:FG}{c:FT}{f:FX}{σ:L2.St}{H:Hp}{Q:VK}(h:tQ K (gI fi ix a c f) σ H Q):yY (tQL K fi) ix (tQG K a) (tQT K c) (tQ K f) σ H Q:=by
 obtain⟨G,env,fp,r,env',rel,e,k⟩:=h;obtain⟨⟨ds,FZ⟩,e1,e⟩:=ai e;obtain⟨rs,e2,e⟩:=ai e;refine⟨G,env,fp,ds,FZ,rel,e1,fun J H1 G1 Gn Ge F4 wk D hD=>?_⟩;dsimp only at e e2;split at e
 ·rename_i hz;have er:r=(.l .f,.lst rs):=by cases e;rfl
  have ee:env'=if flatDs rs then FZ else FZ.map frz:=by cases e;rfl
  subst er;obtain⟨G2,QK,QL,JG,hrE,K4⟩:=F4.lend;have wk2:=wk G2 QK JG;have F3:Rel K G2 H1 (dB ix FZ) (lH ix σ) []:=⟨fL JG (fun i r er=>let⟨v,ev,_⟩:=F4.view er;⟨v,ev⟩) ix,UE,(fun _ h=>nomatch h),QL⟩
  obtain⟨Gs,GA⟩:=F3.newL (ds:=[]) (xs:=[]) hD .nil;refine⟨fun i m σ1 H2=>m=ds.length-i/\i<=ds.length/\∃G' es F9 acc dY,Step G2 H1 [] G' H2 F9/\Rel K G' H2 (some (.l .f,.lst acc)::es) (some (.ref D)::σ1) F9/\dh a c f (ds.drop i) es=.ok dY/\acc++dY=rs,
   ⟨_,rfl,Tu _,G2,dB ix FZ,_,[],rs,GA,Gs,e2,rfl⟩,?_⟩
  rintro i m σ1 H2 ⟨rfl,hi,G3,es,IS,acc,dY,Io,Hf,e4,Ld⟩;obtain⟨w1,w2⟩:=wk2 G3 H2 _ _ _ Io.gg Hf i;by_cases He:i<ds.length
  ·have hd:ds[i]?=some ds[i]:=RP He;obtain⟨go,yl⟩:=w1 _ hd;rw[UW He]at e4;unfold dh at e4;obtain⟨Rv,h1,e4⟩:=ai e4;obtain⟨⟨b,Ox⟩,h2,e4⟩:=ai e4;dsimp only at e4;refine .inr ⟨go,fun x H3 y=>?_⟩;obtain⟨G4,rx,Hm,Iz⟩:=yl x H3 y;obtain⟨fa,fb,Pr,ra,M1,bk⟩:=Hm.frame;refine⟨G4,es,fb,ds[i],Rv,M1,rx,h1,fun σ2 G5 MY st6 rel6=>?_⟩;refine⟨G5,Rv,MY,b,Ox,rel6,h2,fun H6 G6 Rw st7 Oy=>?_⟩;have Oz:=st6.trans st7;cases b with
   |false=>
    refine iteF ⟨ds.length-(i+1),by lia,rfl,He,?_⟩;obtain⟨J2,My⟩:=bk G6 H6 Ox σ2 Rw Oz Oy;rw[<-Pr]at My;exact⟨G6,Ox,_,acc,dY,Io.trans (Iz.trans My),J2,e4,Ld⟩
   |true=>
    have e4:((f Ox).bind fun q=>(dh a c f (ds.drop (i+1)) q.2).bind fun rs=>.ok (q.1.2::rs))=.ok dY:=e4;obtain⟨⟨r,QR⟩,h3,e4⟩:=ai e4;obtain⟨OA,h4,e4⟩:=ai e4;cases e4;refine Bj ⟨G6,Ox,Rw,r,QR,Oy,h3,fun v H7 G7 fp7 st8 rel8=>?_⟩;obtain⟨G8,fp8,rv,rel9,st9⟩:=rel8.freeze;obtain⟨J2,My⟩:=bk G8 H7 QR σ2 fp8 (Oz.trans (st8.trans st9)) rel9;rw[<-Pr]at My;obtain⟨p,xs,ep,hp,Ly,cg⟩:=J2.chg (i:=0) (ds:=acc) (ds':=acc++[r.2]) rfl;have ep:some (some (V.ref D))=some (some (V.ref p)):=ep;cases ep;obtain⟨fq,rely,sty⟩:=cg (xs++[v]) (Ly.app (.one rv));refine⟨xs,hp,?_,ds.length-(i+1),by lia,rfl,He,G8,QR,fq,acc++[r.2],OA,Io.trans (Iz.trans (My.trans sty)),rely,h4,?_⟩
    ·rw[Ly.length];have:=Tq List.length Ld;rw[SM,R6]at this;lia
    ·rw[<-Ld,R7];rfl
  ·have ei:i=ds.length:=by lia
   subst ei;rw[List.drop_length]at e4;cases e4;rw[Sg]at Ld;subst Ld;refine .inl ⟨w2 rfl,?_⟩;obtain⟨fa,relo,sto⟩:=Hf.only;obtain⟨k1,k2⟩:=K4 H2 G3 fa _ _ (Io.trans sto) relo;rw[ee]at k;by_cases hc:flatDs acc=true
   ·rw[Sa hc]at k;obtain⟨G5,MY,Iz,Hm⟩:=k1 (by rw[cj,my];exact hc);exact k _ H2 G5 MY (Ge.trans Iz) Hm
   ·rw[Sf hc]at k;obtain⟨G5,MY,Iz,Hm⟩:=k2;exact k _ H2 G5 MY (Ge.trans Iz) Hm
 ·cases e
section
variable{md:Mode}{X:Cx}{scope:Scope}{N:List Str}{tg iter elt:Expr}{ifs:List Expr}{pos:Pos}{fi:FI}{a:FG}{c:FT}{f:FX}
variable{l e:Expr}{g fj:FI}
theorem de(h:QI X tg e fi):M0 X tg e fi:=ik h fun σ H R ⟨G,env,fp,ds,env',rel,e,k⟩=>⟨G,env,fp,ds,env',rel,e,fun J H' G' F9 st Gy wk=>k J H' G' F9 st Gy fun _ gg _=>wk.mono gg⟩
theorem gO(h:M0 X tg e fi)(h2:M0 X tg e fj):M0 X tg e (Ho fi fj):=fun pr s σ H R I Gd=>by
 obtain⟨G,env,fp,ds,env',rel,ee,k⟩:=Gd;rcases xX ee with z|z
 ·exact h pr s σ H R I ⟨G,env,fp,ds,env',rel,z,k⟩
 ·exact h2 pr s σ H R I ⟨G,env,fp,ds,env',rel,z,k⟩
def mN(i:Nat):FI:=fun env=>match env[i]? with
 |some (some (_,.lst ds))=>.ok (ds,env)
 |_=>.bad
theorem ko{i:Nat}(h:PE X l (rg i)):M0 X tg l (mN i):=ik (sO h) fun σ H R Gd=>by
 obtain⟨G,env,fp,ds,env',rel,e,k⟩:=Gd;unfold mN at e;split at e
 ·rename_i o ds hr;cases e;obtain⟨v,ev,rv⟩:=rel.view hr;obtain⟨p,xs,Rx,sq,rs⟩:=bz rv;refine⟨v,ev,p,Rx,⟨xs,sq⟩,k _ H G fp .refl rel fun G2 gg JG=>?_⟩;obtain⟨p',Hz,OB,Hn,HX⟩:=bz (JG i _ v hr ev);rw[Rx]at OB;cases OB;exact om Hn HX
 ·cases e
theorem dR(ix:List (Option Nat))(N:List Str)(hc:X.calm=true)(hi:M0 X tg iter fi)(hg:∀C s H fp pn,QG (bQ X scope N C s H fp pn) tg a)(ht:∀C s H fp pn,QN (bQ X scope N C s H fp pn) ifs c)(he:∀C s H fp pn,QE (bQ X scope N C s H fp pn) elt f)
  (hf:ib scope X.env=true:=by rfl) (hk:scope.kind=.function:=by rfl) (GN:∀y∈scope.names,y.2≠.cell:=by decide +kernel) (Hw:∀y∈scope.names,y.2=.local->scope.names.lookup y.1=some .local:=by decide +kernel) (Jm:xM X scope N ix=true:=by rfl)
  (hs:∀x,foldedSetIterable iter X.env x=pure x:=by intro _;rfl):QE X (.ListComp elt [⟨tg,iter,ifs,0⟩] scope pos) (gI fi ix a c f):=
 bo (y0 (g:=tQG X.K a) (tc:=tQT X.K c) (te:=tQ X.K f) ix N hc hi hg ht he hf hk GN Hw Jm hs) fun _ _ _=>x4
theorem jR{i:Nat}{y:Str}{py Hx:Pos}(ix:List (Option Nat))(N:List Str)(hN:X.N.Nodup)(Qa:X.N[i]?=some y)(hy:Loc X.env.scope y)(hc:X.calm=true)(hi:M0 X tg iter fi)(hg:∀C s H fp pn,QG (bQ X scope N C s H fp pn) tg a)(ht:∀C s H fp pn,QN (bQ X scope N C s H fp pn) ifs c)
  (he:∀C s H fp pn,QE (bQ X scope N C s H fp pn) elt f) (Qb:swapsWith (.ListComp elt [⟨tg,iter,ifs,0⟩] scope pos) (some (.Name y py)) Hx.line X.env=pure true:=by rfl)
  (hf:ib scope X.env=true:=by rfl) (hk:scope.kind=.function:=by rfl) (GN:∀y∈scope.names,y.2≠.cell:=by decide +kernel) (Hw:∀y∈scope.names,y.2=.local->scope.names.lookup y.1=some .local:=by decide +kernel) (Jm:xM X scope N ix=true:=by rfl)
  (hs:∀x,foldedSetIterable iter X.env x=pure x:=by intro _;rfl) (KS:X.fn y=true\/X.env.scope.names.lookup y=some .local:=by first|exact .inl rfl|exact .inr rfl):
  QS (md:=md) X (.Assign [.Name y py] (.ListComp elt [⟨tg,iter,ifs,0⟩] scope pos) Hx) (cp i (gI fi ix a c f)):=
 ij (y4 (i:=i) (g:=tQG X.K a) (tc:=tQT X.K c) (te:=tQ X.K f) ix N hN Qa hy hc hi hg ht he Qb hf hk GN Hw Jm hs KS) fun D σ H ⟨G,env,fp,rel,k⟩=>x4 (um rel k)
end
section
variable{X:Cx}{a:Expr}{pos:Pos}{fa:FO}
def FQ(fa:FO):FX:=fun env=>(fa env).bind fun p=>(der p.2 p.1).bind fun d=>match d with
 | .int i=>.ok ((.f,.int (-i)),p.2)
 |_=>.bad
theorem uC{i:Int}(h:i.natAbs<2 ^ 1000):Builtin.Int.intBits i<=2 ^ 20:=by
 unfold Builtin.Int.intBits;split
 ·exact Tu _
 ·rename_i h0;have h1:i.natAbs≠0:=by
   intro e;rw[Int.natAbs_eq_zero]at e;exact h0 (by rw[e];rfl)
  have:=(XT h1).mpr h;have e:(2:Nat) ^ 20=1048576:=by decide
  lia
theorem zM:GH X (binaryOp .Mult) (rI (fun i j=>i.natAbs<2 ^ 1000/\j.natAbs<2 ^ 1000) fun i j=>.int (i*j)):=NV fun _ _ _ _ _ _ _ hc q=>mul_int q (.of_bits (uC hc.1) (uC hc.2))
theorem oE{α:Type}:∀(ls:List (Array α)) (acc:Array α),(ls.foldl (·++·) acc).toList=acc.toList++(ls.map Array.toList).flatten
 |[],acc=>by simp
 |a::ls,acc=>by
  rw[VE,oE ls,Array.toList_append,So,Us,R7]
theorem D4(l:List Nat)(n:Nat):(⟨(List.replicate n (S l).cps).foldl (·++·) #[]⟩:Str)=S (List.replicate n l).flatten:=by
 have h:((List.replicate n (S l).cps).foldl (·++·) #[]).toList=(List.replicate n l).flatten:=by
  rw[oE,List.map_replicate];simp only[dv,VI]
 show Str.mk _=Str.mk _;rw[<-h]
theorem zN(a b:Int):D0 (.int a) (.int b)=if c8 a||c8 b then .ok (.f,.int (a*b)) else .bad:=rfl
noncomputable def rM:D->D->Res R
 | .int i,.int j=>if c8 i||c8 j then .ok (.f,.int (i*j)) else if i.natAbs<2 ^ 1000/\j.natAbs<2 ^ 1000 then .ok (.f,.int (i*j)) else .bad
 | .str l,.int k=>if 2<=k/\k<=1000/\1<=l.length/\l.length<=1000 then .ok (.f,.str (List.replicate k.toNat l).flatten) else .bad
 |_,_=>.bad
theorem kr:GH X (binaryOp .Mult) (rG X.K rM):=by
 rintro pr s σ H x y v u Q I rx ry ⟨G,fp,es,vs,a,b,r,⟨rel,k⟩,va,vb,e⟩;unfold rM at e;split at e
 ·rename_i i j;split at e
  ·rename_i hc;exact BJ pr s σ H x y v u Q I rx ry ⟨G,fp,es,vs,.int i,.int j,r,⟨rel,k⟩,va,vb,by rw[zN,Sa hc];exact e⟩
  ·split at e
   ·rename_i hc;cases e;cases bq va;cases bq vb;exact zM pr s σ H _ _ v u Q I rx ry ⟨i,j,rfl,rfl,hc,k _ H G fp .refl (rel.push (bu _))⟩
   ·cases e
 ·rename_i l j;split at e
  ·rename_i hc;cases e;obtain⟨ev,hl⟩:=eB va;subst ev;cases bq vb;obtain⟨t,rfl⟩:=rx;obtain⟨t',rfl⟩:=ry;have hlen:(S l).length=l.length:=gG l;have hz:(List.replicate j.toNat l).flatten.length<=1000000:=by
    rw[tq];exact Nat.mul_le_mul (by lia:j.toNat<=1000) hc.2.2.2
   have LN:(List.replicate j.toNat l).flatten.length<=sizeLine:=Ta hz (by decide);refine PySem.P.mul_str ?_ ?_ ?_ ?_
   ·rw[Sb (by lia),Sb (by lia)];rfl
   ·intro _ _;rw[hlen];have h1:1000<=(2 ^ 63-1) / j:=(Int.le_ediv_iff_mul_le (by lia)).mpr (by lia);lia
   ·intro _ _;unfold Builtin.Str.tooLong;rw[SU,hlen,Nat.mul_comm,<-tq];lia
   ·rw[Sf (by lia),Sf (by rw[hlen,WG,SR,SR];lia),D4];refine⟨?_,?_⟩
    ·rw[gG];exact LN
    ·exact⟨.str (S (List.replicate j.toNat l).flatten),H,I.tok _,⟨_,rfl⟩,k _ H G fp .refl (rel.push (dy LN))⟩
  ·cases e
 ·cases e
end
end PV
namespace HT
open PySem PySem.Spec PyProof.Rows L2
variable{prog:Program}{w:World}{A:Around}{E:Value->Shared->Prop}{s:Shared}
theorem iA{t sl:Addr}{items:Array Value}{vl vu:Value}{lo hi:Option Int}{Q:Value->Shared->Prop}(ht:IsTup s.heap t items)(hs:s.heap.IsSliceOf sl vl vu .none)(pl:IsPart vl lo)(pu:IsPart vu hi)
  (hw:sIx items.size 0 lo=0/\sIx items.size items.size hi=items.size) (h:Q (.ref t) s):wpAny (model prog w) A (getItem (.ref t) (.ref sl)) Q E s:=by
 obtain⟨os,MI,Pe,Kg⟩:=id hs;have N0:s.TypeIs (.ref sl) "slice":=⟨os,MI,Pe⟩
 unfold getItem;try with_reducible refine Tv ?_
 first|refine RO (RT ?_)|skip
 refine RO (wpAny_sequenceKey ht.typeIs (by decide) ?_);refine RO (Sr (name:=Str.ofString "__getitem__") ht.typeIs TF
  (SF TF ht.typeIs entry_tuple_getitem ?_ (args_tuple_getitem _ _)))
 show wpAny _ _ (Builtin.Tuple.tupleItemsOf (.ref t) >>= _) _ _ s;refine RO (tupleItemsOf_ ht ?_);refine RO (UL N0 ?_);rw[Sa (by decide)];refine RO (fw hs pl pu ?_);have hyes:(((sIx items.size 0 lo:Nat):Int)==0&&(1:Int)==1&&(sIx items.size items.size hi-sIx items.size 0 lo)==items.size)=true:=by
  rw[hw.1,hw.2];simp
 show wpAny _ _ (if(((sIx items.size 0 lo:Nat):Int)==0&&(1:Int)==1&&(sIx items.size items.size hi-sIx items.size 0 lo)==items.size)=true then _ else _) _ _ s;rw[Sa hyes];refine RO (m:=Builtin.Tuple.tupleIsExact _) ?_;unfold Builtin.Tuple.tupleIsExact;refine RO (UL ht.typeIs (RT ?_));rw[Sa (by decide)];exact RO (VA (RT ⟨_,rfl,RT h⟩))
end HT
namespace PV
open PySem PySem.Spec PyProof.Rows L2 NX
section
variable{X:Cx}{pos:Pos}{fa:FO}
theorem zO:MJ X (fun x lo hi H Q=>∃a xs,x=.ref a/\SqT X.K H a xs/\(HT.sIx xs.length 0 lo=0/\HT.sIx xs.length xs.length hi=xs.length)/\Q x H):=by
 intro pr s σ H x v vl vu lo hi sl Q I rx hs pl pu h;obtain⟨a,xs,rfl,hx,hw,q⟩:=h;cases rx;obtain⟨F6,r,ht,hz⟩:=I.tuple hx;have hlen:F6.toArray.size=xs.length:=by rw[RY];exact r.length.symm
 refine⟨"tuple",_,PyProof.Rows.slot_tuple_getitem.lookup,ht.typeIs,?_⟩;exact HT.iA ht hs pl pu (by rw[hlen];exact hw) ⟨.ref a,H,I,rfl,q⟩
def LO(k:D)(lo hi:Option Int):Res R:=match k with
 | .tup ds=>if HT.sIx ds.length 0 lo=0/\HT.sIx ds.length ds.length hi=ds.length then .ok (.f,.tup ds) else NH k lo hi
 |_=>NH k lo hi
def lP(fa:FO)(lo hi:FP):FX:=fun env=>(fa env).bind fun p=>(lo p.2).bind fun q=>(hi q.2).bind fun t=>(der t.2 p.1).bind fun d=>(LO d q.1 t.1).bind fun r=>.ok (r,t.2)
inductive rSlW(K:W.Frag)(x:V)(lo:Option Int)(hi:Option Int)(H:Hp)(Q:VK):Prop
 |mk:∀G fp es vs d r,Goes K H G fp es vs r Q->Vw K G H d x->LO d lo hi=.ok r->rSlW K x lo hi H Q
theorem B0:MJ X (rSlW X.K):=by
 rintro pr s σ H x v vl vu lo hi sl Q I rx hs pl pu ⟨G,fp,es,vs,d,r,⟨rel,k⟩,vd,e⟩;unfold LO at e;split at e
 ·rename_i ds;split at e
  ·rename_i hw;cases e;obtain⟨p,xs,ev,sq,rs⟩:=jk vd;subst ev;refine zO pr s σ H _ v vl vu lo hi sl Q I rx hs pl pu ⟨p,xs,rfl,bc rel.gh sq,by rw[rs.length];exact hw,?_⟩;exact k _ H G fp .refl (rel.push vd)
  ·exact BK pr s σ H x v vl vu lo hi sl Q I rx hs pl pu ⟨G,fp,es,vs,_,r,⟨rel,k⟩,vd,e⟩
 ·exact BK pr s σ H x v vl vu lo hi sl Q I rx hs pl pu ⟨G,fp,es,vs,_,r,⟨rel,k⟩,vd,e⟩
theorem fB{e:Expr}{lo hi:Option Expr}{p2:Pos}{fl fh:FP}(he:QO X e fa)(hl:QP X lo fl)(hh:QP X hi fh):QE X (.Subscript e (.Slice lo hi none p2) pos) (lP fa fl fh):=
 bo (wm B0 he hl hh) fun σ H Q Gd=>by
  obtain⟨G,env,fp,r,env',rel,e,k⟩:=Gd;obtain⟨⟨o,FZ⟩,e1,e⟩:=ai e;obtain⟨⟨i,Gm⟩,e2,e⟩:=ai e;obtain⟨⟨j,Ip⟩,e3,e⟩:=ai e;obtain⟨d,e4,e⟩:=ai e;obtain⟨r',e5,e⟩:=ai e;cases e;exact⟨G,env,fp,o,FZ,rel,e1,fun v H1 G1 Gn Ge F4 HB=>⟨G1,FZ,Gn,i,Gm,F4,e2,fun H2 G2 GS F8 F3=>⟨G2,Gm,GS,j,Ip,F3,e3,fun H3 G3 IS GA Gs=>
   ⟨G3,IS,Ip,σ,d,r,⟨Gs,fun v H' G' F9 st Gy=>k v H' G' F9 (Ge.trans (F8.trans (GA.trans st))) Gy⟩,Gs.vw ((HB.mono F8.gg).mono GA.gg) e4,e5⟩⟩⟩⟩
end
end PV
namespace L2
open PySem PySem.Spec PyProof.Rows
def Pt(lo c:Int)(n:Nat):It where
 go:=fun i _=>i<n
 yld:=fun i H x H'=>H'=H/\x=V.int (lo+(i:Int)*c)
 stop:=fun i _=>n<=i
theorem rN{P:Program}{w:World}{K:W.Frag}{tg:Expr}(it:Addr)(lo c:Int)(n:Nat):Turn P w K tg (Pt lo c n) [it] it (fun i h=>IsRangeIter h it (lo+(i:Nat)*c) ((n:Int)-(i:Nat)) c) where
 mem:=by simp
 obj:=fun i h st b hb=>by
  have e:b=it:=by simpa using hb
  subst e;exact⟨_,st,fun v z=>by
   have z':Data.fields _=Data.cell v:=z;cases z'⟩
 keep:=fun i h h' st k=>k it (by simp) _ st
 item:=by
  intro X hP hw hK hc i pr s σ H E I hf st hg;subst hP hw hK;obtain⟨f0,f1,f2,f3,f4,f5⟩:=hf it (by simp);have W:=Walks.range (prog:=X.prog) (w:=X.w) (I.ok.hd hc) it lo c n;refine W.item i s _ _ hg st fun v h' tk hv Im kk=>?_
  obtain⟨t,rfl⟩:=hv;have I1:Inv X pr σ H {s with heap:=h',toks:=tk}:=I.turned (fun b o hb e=>kk b o (by simpa using hb) e) f0 f1 f3 f4 f5;exact⟨_,rfl,sM (s:={s with heap:=h',toks:=tk}) (n:="range_iterator") Im rfl rfl (by decide) ⟨.int (lo+i*c),H,I1,⟨t,rfl⟩,⟨rfl,rfl⟩,Im,fun b hb=>(hf b hb).1⟩⟩
 done:=by
  intro X hP hw hK hc i pr s σ H E I hf st hg;subst hP hw hK;obtain⟨f0,f1,f2,f3,f4,f5⟩:=hf it (by simp);exact wpAny_pyNext_range_end (I.ok.hd hc) st (by have:n<=i:=hg;lia) fun h' eb=>⟨rfl,I.turned (t':=s.toks) (fun b o hb e=>eb b o hb e) f0 f1 f3 f4 f5⟩
 self:=fun _ _ _ _ _ st h=>wpAny_pyIter_rangeiter st h
theorem gE{n:Int}(h:-(2 ^ 63)<=n)(h2:n<2 ^ 63):Builtin.Range.rangeFitsLong n=true:=by
 unfold Builtin.Range.rangeFitsLong;simp;lia
theorem jq{lo hi c:Int}(h1:-1048576<=lo)(h2:lo<=1048576)(h3:-1048576<=hi)(h4:hi<=1048576)(hc:c = -1\/1<=c):0<=Builtin.Range.rangeSize lo hi c/\Builtin.Range.rangeSize lo hi c<=4194304:=by
 unfold Builtin.Range.rangeSize;rcases hc with rfl|hc
 ·rw[Sf (by decide)];split
  ·show 0<=(lo-hi-1) / 1+1/\(lo-hi-1) / 1+1<=_;rw[Int.ediv_one];lia
  ·lia
 ·rw[Sa (by lia)];split
  ·have:=Int.ediv_le_self c (show 0<=hi-lo-1 by lia);have:=Int.ediv_nonneg (show 0<=hi-lo-1 by lia) (show 0<=c by lia);lia
  ·lia
theorem pJ{lo hi c:Int}(h1:-1048576<=lo)(h2:lo<=1048576)(h3:-1048576<=hi)(h4:hi<=1048576)(hc:c = -1\/1<=c)(h5:c<=1048576):Builtin.Range.small lo hi c=true:=by
 obtain⟨r1,r2⟩:=jq h1 h2 h3 h4 hc;unfold Builtin.Range.small;rw[gE (by lia) (by lia),gE (by lia) (by lia),gE (by lia) (by lia),gE (by lia) (by lia),gE (by lia) (by lia),gE (by lia) (by lia)];simp
section
variable{X:Cx}{tg:Expr}
theorem w6{pr:List (Addr×Obj)}{σ:St}{H:Hp}{s:Shared}{R:It->Hp->Prop}{E:Value->Shared->Prop}{lo hi c:Int}{t u v:Tok}{tk:Nat}(I:Inv X pr σ H s)(sm:Builtin.Range.small lo hi c=true)(r0:0<=Builtin.Range.rangeSize lo hi c)
  (q:R (Pt lo c (Builtin.Range.rangeSize lo hi c).toNat) H):wpAny (model X.prog X.w) X.A (pyIter (.ref s.heap.objs.size)) (PR X pr σ tg R) E {s with heap:=s.heap.push {cls:=.type "range",data:=.fields #[.int lo t,.int hi u,.int c v]},toks:=tk}:=by
 refine wpAny_pyIter_range (IsRange.new ..) sm ?_;have I1:Inv X pr σ H {s with heap:=s.heap.push {cls:=.type "range",data:=.fields #[.int lo t,.int hi u,.int c v]},toks:=tk}:=I.kept fun b o e=>RS _ e
 refine⟨(s.heap.push {cls:=.type "range",data:=.fields #[.int lo t,.int hi u,.int c v]}).objs.size,[(s.heap.push {cls:=.type "range",data:=.fields #[.int lo t,.int hi u,.int c v]}).objs.size],_,_,H,rfl,
  I1.kept (t':=tk) fun b o e=>RS _ e,rN _ lo c (Builtin.Range.rangeSize lo hi c).toNat,?_,fun b hb=>?_,q⟩
 ·have e1:lo+((0:Nat):Int)*c=lo:=by simp
  have e2:(((Builtin.Range.rangeSize lo hi c).toNat:Nat):Int)-((0:Nat):Int)=Builtin.Range.rangeSize lo hi c:=by lia
  show IsRangeIter _ _ (lo+((0:Nat):Int)*c) ((((Builtin.Range.rangeSize lo hi c).toNat:Nat):Int)-((0:Nat):Int)) c;rw[e1,e2];exact R5 _ rfl
 ·have e:b=(s.heap.push {cls:=.type "range",data:=.fields #[.int lo t,.int hi u,.int c v]}).objs.size:=by simpa using hb
  subst e;exact I1.fpOk (R1 _) (I1.hok.fresh (R1 _))
def iC(i j c:Int):Prop:=(-1048576<=i/\i<=1048576)/\(-1048576<=j/\j<=1048576)/\(c = -1\/1<=c)/\c<=1048576
instance (i j c:Int):Decidable (iC i j c):=by unfold iC;infer_instance
def D5(ta:TA):TI:=fun σ H R=>ta σ H fun vs H1=>∃i j c:Int,vs=[.int i,.int j,.int c]/\iC i j c/\R (Pt i c (Builtin.Range.rangeSize i j c).toNat) H1
theorem w9{x c:Int}(hc:c = -1\/1<=c)(h5:c<=1048576):Builtin.divisionGoesByPylong x c=false:=by
 unfold Builtin.divisionGoesByPylong;have h:¬ ((if(c==0)=true then 0 else c.natAbs.log2 / 30+1)>300):=by
  split
  ·lia
  ·have:c.natAbs.log2<60:=(XT (by lia)).mpr (by lia);lia
 simp only[Sb h,UD]
theorem uD{a b d:Expr}{ta:TA}{p pos:Pos}(hg:Gl X "range")(hm:X.mg "range" = none)(ha:PA X [a,b,d] ta)(hs:starEach [a,b,d] X.env=[(false,eval a X.env),(false,eval b X.env),(false,eval d X.env)]:=by rfl)(Lz:starEach [b,d] X.env=[(false,eval b X.env),(false,eval d X.env)]:=by rfl):
  PI X tg (.Call (.Name "range" p) [a,b,d] [] pos) (D5 ta):=by
 intro pr s σ H R I h;refine Call_ (hZ I hg hm boot_range (SY (Gp (ha pos pr s σ H _ I h) fun us s1 ⟨vs,H1,I1,r1,q1⟩=>?_) (by rw[hs,Lz]) (by rw[Lz];rfl)));obtain⟨i,j,c,e,⟨⟨q1,q2⟩,⟨q3,q4⟩,q5,q6⟩,q⟩:=q1;subst e;cases r1 with
 |cons r rr=>
  cases rr with
  |cons r' rr=>
   cases rr with
   |cons r'' rr=>
    cases rr;obtain⟨t,rfl⟩:=r;obtain⟨t',rfl⟩:=r';obtain⟨t'',rfl⟩:=r'';exact call_range_3 (by lia) (w6 (tk:=s1.toks) I1 (pJ q1 q2 q3 q4 q5 q6) (jq q1 q2 q3 q4 q5).1 q) (.inl (w9 q5 q6))
end
end L2
namespace PV
open PySem PySem.Spec PyProof.Rows L2 NX
section
variable{X:Cx}{tg:Expr}
def B1:List D->Res R
 |[d]=>match(uu d).bind gN with
  |some (n::ns)=>.ok (.f,.int (y6 (n::ns)))
  |_=>.bad
 |[.int i,.int j]=>.ok (.f,.int (if j<i then j else i))
 |_=>.bad
theorem B2(hc:X.calm=true):cU X (.builtin "min") (rC X.K B1):=by
 rintro pr s σ H xs us Q I rx ⟨G,fp,es,vs,ds,r,⟨rel,k⟩,vd,e⟩;unfold B1 at e;split at e
 ·rename_i d;split at e
  ·rename_i n ns hb;cases e;obtain⟨v,ev,vt⟩:=mD vd;obtain⟨p,ep,sq⟩:=uw rel.gh hb vt;subst ev;subst ep;exact tS hc pr s σ H _ us Q I rx ⟨p,n::ns,rfl,sq,by simp,k _ H G fp .refl (rel.push (bu _))⟩
  ·cases e
 ·rename_i i j;cases e;obtain⟨v,w',ev,v1,v2⟩:=Fw vd;subst ev;cases bq v1;cases bq v2;exact sW hc pr s σ H _ us Q I rx ⟨i,j,rfl,k _ H G fp .refl (rel.push (bu _))⟩
 ·cases e
def FR:List D->Res R
 |[.int i]=>.ok (.f,.int (if i<0 then -i else i))
 |_=>.bad
noncomputable def mO(fs:FOs):FI:=fun env=>(fs env).bind fun p=>(qv p.2 p.1).bind fun d=>match d with
 |[.int i,.int j,.int c]=>if iC i j c then .ok ((List.range (Builtin.Range.rangeSize i j c).toNat).map fun(k:Nat)=>D.int (i+(k:Int)*c),p.2) else .bad
 |_=>.bad
theorem rO{K:W.Frag}{G:Hp}(lo c:Int)(n:Nat):Walk K G (Pt lo c n) ((List.range n).map fun(k:Nat)=>D.int (lo+(k:Int)*c)):=by
 intro G' H' es vs fp gg rel i;refine⟨fun d hd=>?_,fun e=>?_⟩
 ·rw[Sm]at hd;cases hc:(List.range n)[i]? with
  |none=>rw[hc]at hd;cases hd
  |some c=>
   rw[hc]at hd;cases hd;obtain⟨h1,h2⟩:=Se.mp hc;rw[Sh]at h1;rw[TV]at h2;subst h2;refine⟨h1,fun x H2 ⟨e1,e2⟩=>?_⟩;subst e1;exact⟨G',by rw[e2];exact bu _,rel,.refl⟩
 ·rw[RU,Sh]at e;exact Xt e.symm
theorem oF{a b d:Expr}{fs:FOs}{p pos:Pos}(hg:Gl X "range")(hm:X.mg "range" = none)(ha:KL X [a,b,d] fs)(hs:starEach [a,b,d] X.env=[(false,eval a X.env),(false,eval b X.env),(false,eval d X.env)]:=by rfl)(Lz:starEach [b,d] X.env=[(false,eval b X.env),(false,eval d X.env)]:=by rfl):
  QI X tg (.Call (.Name "range" p) [a,b,d] [] pos) (mO fs):=
 ik (uD hg hm ha hs Lz) fun σ H R Gd=>by
  obtain⟨G,env,fp,ds,env',rel,e,k⟩:=Gd;obtain⟨⟨o,FZ⟩,e1,e⟩:=ai e;obtain⟨d,e2,e⟩:=ai e;dsimp only at e;split at e
  ·rename_i i j c;split at e
   ·rename_i hj;cases e;refine⟨G,env,fp,o,_,rel,e1,fun vs H1 G1 Gn Ge F4 HB=>?_⟩;obtain⟨y,ys,ev,v1,z,zs,Lw,v2,y3,zs3,OC,v3,e3⟩:=F4.vws HB e2;have e3:zs3=[]:=e3;subst e3;have h1:=bq v1;have h2:=bq v2;have h3:=bq v3;subst h1 h2 h3 OC Lw;exact⟨i,j,c,ev,hj,k _ H1 G1 Gn Ge F4 (rO i c _)⟩
   ·cases e
  ·cases e
end
end PV
namespace NX
open PySem PySem.Spec PyProof.Rows L2
section
open PySem.SeqAt
open PySem.AutoSeq1 (wpAny_loadPart')
end
end NX
namespace L2
open PySem PySem.Spec PyProof.Rows
section
variable{X:Cx}{o e:Expr}{es:List Expr}{to:TE}{t:TA}{name:Str}{apos Gb:Pos}{id:String}{r:V->List V->Hp->VK->Prop}
end
end L2
namespace PV
open PySem PySem.Spec PyProof.Rows L2 NX
section
variable{X:Cx}
noncomputable def FU(g:List D->List D->Res R)(fa:FO)(fs:FOs):FX:=fun env=>(fa env).bind fun p=>(der p.2 p.1).bind fun a=>match a with
 | .tup _=>(fs p.2).bind fun q=>(der q.2 p.1).bind fun a2=>match a2 with
  | .tup l=>(qv q.2 q.1).bind fun ds=>(g l ds).bind fun r=>.ok (r,q.2)
  |_=>.bad
 |_=>.bad
def Fz(l:List D):List D->Res R
 |[.str c]=>match c9 l with
  |some bs=>if c∈bs then .ok (.f,.int (bs.idxOf c:Nat)) else .bad
  |none=>.bad
 |_=>.bad
def FV(a b:D):Res R:=match a,b with
 | .tup [],.tup l=>.ok (.f,.tup l)
 |a,b=>addD a b
def FA(fs:FOs):FI:=Ho (lA true true fs) (Ho (lA true false fs) (Ho (lA false true fs) (lA false false fs)))
end
end PV
namespace NX
open PySem PySem.Spec PyProof.Rows L2
section
open PySem.AutoSeq1 (wpAny_loadPart')
end
end NX
namespace PV
open PySem PySem.Spec PyProof.Rows L2 NX
section
variable{md:Mode}{X:Cx}
def FW(a b:D):Res R:=match a,b with
 | .lst ds,.int k=>if 0<=k/\k<1000000/\ds.length*k.toNat<=sizeLine then .ok (.l .f,.lst (List.replicate k.toNat ds).flatten) else .bad
 |a,b=>rM a b
noncomputable def FC(i:Nat)(fk fv:FX):FS:=fun env=>(fv env).bind fun p=>(fk p.2).bind fun q=>match p.2[i]?,q.2[i]? with
 |some (some _),some (some (.l .f,.lst ds))=>(match q.1.2 with
  | .int k=>(match ixN ds.length k with
   |some j=>.ok (.nx (q.2.set i (some (.l .f,.lst (ds.set j p.1.2)))))
   |none=>.bad)
  |_=>.bad)
 |_,_=>.bad
end
section
variable{X:Cx}
def EG(fk fv:FX):FX:=fun env=>(fk env).bind fun p=>(fv p.2).bind fun q=>if eY false p.1.2 then .ok ((.d,.dct false [p.1.2] [q.1.2]),q.2) else .bad
def getD(ks vs:List D)(k:D):Option D:=((ks.zip vs).find? fun p=>Ga k p.1).map (·.2)
theorem ku{κ:Type}[DecidableEq κ]{K:W.Frag}{G:Hp}(f:κ->D)(hf:∀a b,Ga (f a) (f b)=decide (a=b)){k:κ}:∀{F5:List (κ×V)}{vs:List D},Reps K G vs (F5.map (·.2))->((getD (F5.map fun kv=>f kv.1) vs (f k)).isSome=(nZ F5 k).isSome)/\∀d,getD (F5.map fun kv=>f kv.1) vs (f k)=some d->∃v,nZ F5 k=some v/\Rep K G d v
 |[],vs,r=>⟨rfl,fun d h=>nomatch h⟩
 |kv::F5,vs,r=>by
  cases vs with
  |nil=>have:=r.length;simp at this
  |cons d0 vs=>
   rw[So,Reps.cons_iff]at r;obtain⟨h1,h2⟩:=ku f hf (k:=k) r.2;unfold getD nZ at h1 h2 ⊢;rw[So,UJ];have e:Ga (f k) (f kv.1)=decide (kv.1=k):=by
    rw[hf,SH,R8,R8];exact⟨fun z=>z.symm,fun z=>z.symm⟩
   by_cases hk:kv.1=k
   ·rw[UH (by show Ga (f k) (f kv.1)=true;rw[e];exact Sq hk),UH (by exact Sq hk)];refine⟨rfl,fun d h=>?_⟩;cases h;exact⟨_,rfl,r.1⟩
   ·rw[UI (by show ¬ Ga (f k) (f kv.1)=true;rw[e];simpa using hk),UI (by simpa using hk)];exact⟨h1,h2⟩
theorem uE{K:W.Frag}{G H:Hp}(gh:Same G H){tk:Bool}{ks vs:List D}{xs:List V}{o:HO}{p:Addr}{b:D}{y:V}(rd:Rd H p o)(dd:DictO o tk ks xs)(rs:Reps K G vs xs)(hk:eY tk b=true)(ry:Rep K G b y):
  ∃ov,DGet H p y ov/\(getD ks vs b).isSome=ov.isSome/\∀d,getD ks vs b=some d->∃v,ov=some v/\Rep K G d v:=by
 unfold eY at hk;cases tk with
 |true=>
  rw[Sa rfl,TU]at hk;obtain⟨kk,hk⟩:=hk;obtain⟨pz,ez,gz,dz⟩:=dD hk ry;obtain⟨F5,eo,ek,ex,_⟩:=dd;subst eo ex ez dz;have ek:ks=F5.map fun kv=>kT kv.1:=ek
  obtain⟨h1,h2⟩:=ku (K:=K) (G:=G) kT xY (k:=kk) rs;rw[<-ek]at h1 h2;exact⟨nZ F5 kk,.inr ⟨F5,kk,pz,rd,rfl,gh _ _ gz,rfl⟩,h1,h2⟩
 |false=>
  rw[Sf R4,TU]at hk;obtain⟨kk,hk⟩:=hk;obtain⟨ez,dz⟩:=iY hk ry;obtain⟨F5,eo,ek,ex,_⟩:=dd;subst eo ex ez dz;obtain⟨h1,h2⟩:=ku (K:=K) (G:=G) kD uz (k:=kk) rs;rw[<-ek]at h1 h2;exact⟨nZ F5 kk,.inl ⟨F5,kk,rd,rfl,rfl⟩,h1,h2⟩
def dgD(a b:D):Res R:=match a with
 | .dct tk ks vs=>if eY tk b then(match getD ks vs b with
  |some d=>.ok (.f,d)
  |none=>.bad) else .bad
 |_=>.bad
def OD(a b:D):Res R:=match b with
 | .dct tk ks vs=>if eY tk a then .ok (.f,.bl (getD ks vs a).isSome) else .bad
 |_=>KP a b
def FY(a b:D):Res R:=match b with
 | .dct tk ks vs=>if eY tk a then .ok (.f,.bl (!(getD ks vs a).isSome)) else .bad
 |_=>AB a b
theorem B3(hu:X.A.units+65<cLine):GH X (compareOp .In) (rGA X.K OD):=by
 rintro pr s σ H x y v u Q I rx ry ⟨G,fp,es,vs,a,b,r,⟨rel,k⟩,va,vb,e⟩;unfold OD at e;split at e
 ·rename_i tk ks ws;split at e
  ·rename_i J0;cases e;obtain⟨p,xs,o,ev,rd,dd,rs⟩:=vb;subst ev;cases ry;obtain⟨ov,g,h1,_⟩:=uE (K:=X.K) (G:=H) (fun _ _ z=>z) rd dd rs J0 va;exact Ft (by lia) I g rx fun s' I'=>⟨.bl ov.isSome,H,I',rfl,by rw[<-h1];exact k _ H G fp .refl (rel.push (cH _))⟩
  ·cases e
 ·exact zx hu pr s σ H x y v u Q I rx ry ⟨G,fp,es,vs,a,b,r,⟨rel,k⟩,va,vb,e⟩
end
section
variable{K:W.Frag}{G G' H H':Hp}{es:PV.Env}{vs:L2.St}{fp:List Addr}
end
section
variable{X:Cx}
end
section
variable{X:Cx}{x:Str}{p pos:Pos}{e:Expr}{es:List Expr}{fs:FOs}
end
section
variable{K:W.Frag}{G G' H H':Hp}
end
section
variable{X:Cx}{md:Mode}
end
end PV
namespace NX
open PySem PySem.Spec PyProof.Rows L2
end NX
namespace PV
open PySem PySem.Spec PyProof.Rows L2 NX
section
variable{X:Cx}
def zP(fa fb:FX):FX:=fun env=>(fa env).bind fun p=>(fb p.2).bind fun q=>.ok ((.t [.f,q.1.1],.tup [p.1.2,q.1.2]),q.2)
theorem zQ{a b:Expr}{fa fb:FX}{x1}{pos:Pos}(ha:QE X a fa)(hb:QE X b fb)(h1:starEach [a,b] X.env=(false,eval a X.env)::starEach [b] X.env:=by rfl)(h2:starEach [b] X.env=(false,eval b X.env)::starEach [] X.env:=by rfl):
  QE X (.Tuple [a,b] x1 pos) (zP fa fb):=
 bo (xD (eK ha (eK hb jS h2) h1)) fun σ H Q Gd=>by
  obtain⟨G,env,fp,r,env',rel,e,k⟩:=Gd;obtain⟨⟨r1,FZ⟩,e1,e⟩:=ai e;obtain⟨⟨⟨o2,d2⟩,Gm⟩,e2,e⟩:=ai e;cases e;refine⟨G,env,fp,r1,FZ,rel,e1,fun v H1 G1 Gn Ge F4=>?_⟩;obtain⟨G2,b,rv,F3,F8⟩:=F4.freeze;refine⟨G2,FZ,b,(o2,d2),Gm,F3,e2,fun v2 H3 G3 IS GA Gs=>⟨by rw[line_eq];exact(by decide:2<=16777216),fun p hp=>?_⟩⟩;obtain⟨Hf,Io⟩:=Gs.newF (u:=.tup [v,v2]) hp;refine k _ _ _ IS (Ge.trans (F8.trans (GA.trans Io))) ?_;obtain⟨y,ys,ey,v',a',b',ey2,ef,q1,q2⟩:=Hf.rep;cases ey;cases ey2;subst ef;refine⟨⟨some (.ref p),σ,rfl,.ref p,a',b',rfl,rfl,?_,q2⟩,Hf.nd,Hf.gn,Hf.gh⟩;show RepO X.K _ _ (.t [.f,o2]) (.tup [r1.2,d2]) (.ref p) a';rw[RepO];refine⟨p,[v,v2],rfl,aW,?_⟩;rw[RepT];refine⟨v,[v2],[],a',rfl,rfl,fH.mpr ⟨Rep.mono (GA.gg.trans Io.gg) rv,rfl⟩,?_⟩;rw[RepT];refine⟨v2,[],a',[],rfl,by rw[Sg],q1,?_⟩;rw[RepT];exact⟨rfl,rfl⟩
theorem uF:∀{xs:List V}{us:List Value},xs.length=us.length->(∀(i:Nat) (a:V) (b:Value),xs[i]?=some a->us[i]?=some b->RelV a b)->Vals xs us
 |[],[],_,_=>.nil
 |x::xs,u::us,hl,h=>.cons (h 0 x u rfl rfl) (uF (by simpa using hl) fun i a b ha hb=>h (i+1) a b (by simpa using ha) (by simpa using hb))
 |[],_::_,hl,_=>by simp at hl
 |_::_,[],hl,_=>by simp at hl
end
end PV
namespace NX
open PySem PySem.Spec PyProof.Rows L2
section
variable{prog:Program}{w:World}{A:Around}{E:Value->Shared->Prop}{s:Shared}
end
section
variable{prog:Program}{w:World}{A:Around}{E:Value->Shared->Prop}{s:Shared}
end
section
variable{X:Cx}{e:Expr}{ta:TA}{p p2 pos HG:Pos}
end
end NX
namespace PV
open PySem PySem.Spec PyProof.Rows L2 NX
section
variable{X:Cx}{e:Expr}{fs:FOs}{p p2 pos HG:Pos}
end
end PV
namespace NX
open PySem PySem.Spec PyProof.Rows L2
section
open PySem.AutoSeq1 (wpAny_loadPart')
end
end NX
namespace PV
open PySem PySem.Spec PyProof.Rows L2 NX
section
variable{X:Cx}
end
section
variable{md:Mode}{X:Cx}{scope:Scope}{N:List Str}{tg iter elt:Expr}{ifs:List Expr}{pos:Pos}{fi:FI}{a:FG}{c:FT}{f:FX}{j k0:Nat}
end
section
variable{X:Cx}{x:Str}{p pos:Pos}{e:Expr}{es:List Expr}{f0:FX}{fs:FOs}
end
def joinL(sep:List Nat):List (List Nat)->List Nat
 |[]=>[]
 |[x]=>x
 |x::y::r=>x++sep++joinL sep (y::r)
def oG(sep:List Nat):List D->Res R
 |[.lst ds]=>match c9 ds with
  |some ys=>if(ys.map List.length).sum+ys.length*sep.length<=16777216 then .ok (.f,.str (joinL sep ys)) else .bad
  |none=>.bad
 |_=>.bad
theorem uG(sep:List Nat):∀ys:List (List Nat),Str.join (S sep) (ys.map S)=S (joinL sep ys)
 |[]=>rfl
 |[x]=>rfl
 |x::y::r=>by
  have ih:=uG sep (y::r);show S x++S sep++Str.join (S sep) ((y::r).map S)=S (x++sep++joinL sep (y::r));rw[ih];apply Str.ext';simp[Str.cps_append]
theorem B4(sep:List Nat):∀ys:List (List Nat),Txt.join (S sep) (ys.map S)=S (joinL sep ys)
 |ys=>by
  show Builtin.Str.glued (S sep) (ys.map S)=_;rw[StrLaws.glued_eq_join];exact uG sep ys
theorem kx(sep:List Nat):∀ys:List (List Nat),(joinL sep ys).length<=(ys.map List.length).sum+ys.length*sep.length
 |[]=>Tu _
 |[x]=>by
  show x.length<=_;rw[So,Xg];lia
 |x::y::r=>by
  have ih:=kx sep (y::r);show(x++sep++joinL sep (y::r)).length<=_;rw[SM,SM,So,Xg,R6,Nat.add_mul];lia
theorem oH{K:W.Frag}{G:Hp}:∀{ds:List D}{ys:List (List Nat)}{xs:List V}{us:List Value},c9 ds=some ys->Reps K G ds xs->Vals xs us->StrsAre us (ys.map S)
 |[],ys,xs,us,e,r,v=>by
  cases e;rw[Reps]at r;subst r;cases v;exact .nil
 | .str b::ds,ys,xs,us,e,r,v=>by
  rw[Reps]at r;obtain⟨y,zs,ex,r1,r2⟩:=r;subst ex;cases v with
  |cons h t=>
   rw[c9,Sy]at e;obtain⟨ws,hw,rfl⟩:=e;rw[Rep]at r1;obtain⟨r1,_⟩:=r1;subst r1;obtain⟨tk,rfl⟩:=h;exact .cons _ tk (oH hw r2 t)
 | .non::_,_,_,_,e,_,_ | .bl _::_,_,_,_,e,_,_ | .int _::_,_,_,_,e,_,_ | .tup _::_,_,_,_,e,_,_ | .lst _::_,_,_,_,e,_,_ | .dct _ _ _::_,_,_,_,e,_,_=>by cases e
section
variable{X:Cx}
theorem mP:Pf X "str.join" (rMtS X.K oG):=by
 rintro pr s σ H x xs v us Q I rx rv ⟨G,fp,es,vs,l,ds,r,⟨rel,k⟩,ex,hz,vd,e⟩;unfold oG at e;split at e
 ·rename_i ds;split at e
  ·rename_i ys P8;split at e
   ·rename_i hb;cases e;subst ex;obtain⟨w',ew,p,zs,ep,sq,rs⟩:=mD vd;subst ew ep;obtain⟨t,rfl⟩:=rx;obtain⟨u,rfl,ru⟩:=fE rv;cases ru;obtain⟨F6,r',pl,LN⟩:=I.list sq;refine join_list pl.isList (ys:=ys.map S) (oH P8 rs r') ?_ fun t' kk=>?_
    ·rw[SE,RU];have e1:((fun x:Str=>x.length)∘S)=List.length:=by funext z;exact gG z
     rw[e1,gG];exact hb
    ·rw[B4];refine⟨.str (S (joinL l ys)),H,I.tok _,⟨_,rfl⟩,k _ H G fp .refl (rel.push ?_)⟩;rw[Rep];have:=kx l ys;exact⟨rfl,by rw[line_eq];lia⟩
   ·cases e
  ·cases e
 ·cases e
end
end PV
namespace NX
open PySem PySem.Spec PyProof.Rows L2
section
variable{prog:Program}{w:World}{A:Around}{R:Result->Shared->Prop}{it:Addr}{fp wr:List Addr}{n:Nat}{Pv:Nat->Value->Prop}{Sx:Nat->Heap->Prop}{kw:List (Str×Value)}
end
section
variable{X:Cx}{e k:Expr}{te tk:TE}{p pos NW:Pos}
end
end NX
namespace PV
open PySem PySem.Spec PyProof.Rows L2 NX
section
variable{X:Cx}
end
section
variable{X:Cx}
end
section
variable{K:W.Frag}{G G' H H':Hp}{es:PV.Env}{vs:L2.St}{fp:List Addr}
end
section
variable{X:Cx}{x:Str}{p pos:Pos}{e:Expr}{es:List Expr}{f0:FX}{fs:FOs}
end
theorem vals_pick{xs:List V}{us:List Value}(r:Vals xs us):∀ix:List Nat,Vals (ix.filterMap fun i=>xs[i]?) (ix.filterMap fun i=>us[i]?)
 |[]=>.nil
 |i::ix=>by
  have ih:=vals_pick r ix;cases e:xs[i]? with
  |none=>
   rw[Wa e,Wa (r.none_of e)];exact ih
  |some d=>
   obtain⟨v,e2,rv⟩:=r.get e;rw[Wb e,Wb e2];exact .cons rv ih
section
variable{X:Cx}{pos:Pos}{fa:FO}
end
section
variable{X:Cx}
end
section
variable{X:Cx}{scope:Scope}{N:List Str}{tg iter elt:Expr}{ifs:List Expr}{pos:Pos}{fi:FI}{a:FG}{c:FT}{f:FX}
end
end PV
namespace L2
open PySem PySem.Spec PyProof.Rows NX
section
variable{X:Cx}{tg:Expr}
end
end L2
namespace PV
open PySem PySem.Spec PyProof.Rows L2 NX
section
variable{X:Cx}{tg:Expr}
end
abbrev FB:=PV.Env->Bool
section
variable{X:Cx}{st:Stmt}{QM:List Stmt}{g:FS}{x:FB}{Ww:Hp->Prop}{c:FT}{pos np Gb:Pos}{e:Expr}{es:List Expr}{fs:FOs}{C:Addr}{y:Str}
end
abbrev FXE:=PV.Env->Option PV.Env
section
variable{md:Mode}{X:Cx}{x:Str}{p pos:Pos}{e a b:Expr}{es:List Expr}{C:Addr}{F:List D->Bool}{fs:FOs}{k:Nat}{xe:FXE}{dY:List Stmt}
end
section
variable{X:Cx}{x:Str}{p pos:Pos}{e:Expr}{es:List Expr}{fs:FOs}
end
section
variable{X:Cx}{x:Str}{p pos:Pos}{e:Expr}{es:List Expr}{f0:FX}{fs:FOs}
end
end PV
namespace NX
open PySem PySem.Spec PyProof.Rows L2
end NX
namespace PV
open PySem PySem.Spec PyProof.Rows L2 NX
section
variable{K:W.Frag}{G H:Hp}{es:PV.Env}{vs:L2.St}{fp:List Addr}
end
section
variable{md:Mode}{X:Cx}
end
section
variable{X:Cx}
end
end PV
namespace NX
open PySem PySem.Spec PyProof.Rows L2
section
variable{X:Cx}
def zR:V->List V->Hp->VK->Prop:=fun x vs H Q=>∃l xs y k,x=.ref l/\vs=[.int k,y]/\H l=some (.lst xs)/\xs.length<sizeLine/\(0<=k/\k.toNat<=xs.length)/\Q .non (upd H l (.lst (xs.take k.toNat++y::xs.drop k.toNat)))
theorem iZ:∀{vs:List V}{us:List Value},Vals vs us->∀k:Nat,Vals (vs.take k) (us.take k)/\Vals (vs.drop k) (us.drop k)
 |_,_,.nil,k=>⟨by rw[Xh,Xh];exact .nil,by rw[List.drop_nil,List.drop_nil];exact .nil⟩
 |_,_,.cons h r,0=>⟨.nil,.cons h r⟩
 |_,_,.cons h r,k+1=>⟨.cons h (iZ r k).1,(iZ r k).2⟩
theorem uH:MtM X "list.insert" zR:=by
 intro pr s σ H x vs v us Q I rx rv h;obtain⟨l,xs,y,k,rfl,rfl,hH,hz,hk,q⟩:=h;cases rx;obtain⟨u1,u,rfl,r1,ru⟩:=rv.two;obtain⟨t,rfl⟩:=r1;obtain⟨z,F6,n,r,hl,e⟩:=I.lstM hH;have LP:F6.length=xs.length:=by have:=r.length;lia
 have hf:¬ (!Builtin.List.listFitsIndex k)=true:=by
  have Kl:k.toNat<9223372036854775808:=W8 hk.2 (Sd hz (by rw[Tc];decide));have:Builtin.List.listFitsIndex k=true:=by
   unfold Builtin.List.listFitsIndex;rw[Si,R8,R8];lia
  rw[this];exact R4
 have hsz:F6.toArray.size<=sizeLine:=by rw[RY];lia
 refine call_meets F.slot_list_insert ⟨_,e,rfl⟩ F.entry_list_insert (F.args_list_insert_3 _ _ _) (PySem.AutoSeq1.list_insert_list_int_val_1 l F6.toArray n k t u hf hsz) ⟨e,?_⟩;obtain⟨t1,t2⟩:=iZ r k.toNat
 refine⟨.non,_,I.lset (its':=F6.take k.toNat++u::F6.drop k.toNat) hH e ?_ (t1.append (.cons ru t2)) ?_,rfl,q⟩
 ·dsimp only;rw[Sf (by lia),RY,VJ (by lia)];apply Array.ext';simp;exact Te (by rw[Tx];lia)
 ·rw[SM,R6,SA,Tx];lia
end
end NX
namespace PV
open PySem PySem.Spec PyProof.Rows L2 NX
noncomputable def Dm(i:Nat)(f g:FX):FX:=fun env=>if mB env i then(f env).bind fun p=>(g p.2).bind fun q=>match q.2[i]?,p.1.2 with
 |some (some (.l .f,.lst ds)),.int k=>if ds.length<sizeLine/\0<=k/\k.toNat<=ds.length then .ok ((.f,.non),q.2.set i (some (.l .f,.lst (ds.take k.toNat++q.1.2::ds.drop k.toNat)))) else .bad
 |_,_=>.bad
 else .bad
section
variable{X:Cx}
theorem uI{i:Nat}{o a e:Expr}{f g:FX}{apos Gb:Pos}(ho:PE X o (rg i))(ha:QE X a f)(he:QE X e g)
  (GU:attributeBase o "insert" X.env (eval o X.env)=eval o X.env:=by rfl)
  (HV:((backTo Gb (starEach [a,e] X.env)).all (fun x=>!x.1)&&(backToKw Gb (keywordEach [] X.env)).all (fun x=>x.1.isSome)&&decide ([a,e].length+([]:List Keyword).length+(if([]:List Keyword).isEmpty then 0 else 1)<30))=true:=by rfl)
  (GV:(apos.endLine==Gb.line)=true:=by rfl) (hs:starEach [a,e] X.env=(false,eval a X.env)::starEach [e] X.env:=by rfl) (Lz:starEach [e] X.env=(false,eval e X.env)::starEach [] X.env:=by rfl) (GD:(backTo Gb (starEach [e] X.env)).any (·.1)=false:=by rfl):
  QE X (.Call (.Attribute o "insert" apos) [a,e] [] Gb) (Dm i f g):=by
 refine bo (rp T8 PySem.F.slot_list_insert PySem.F.type_list_insert uH ho (av ha (av he aP Lz) hs) GU HV GV hs GD) fun σ H Q Gk=>?_
 obtain⟨G,env,fp,r,env',rel,e,k⟩:=Gk;unfold Dm at e;split at e
 ·rename_i hil;obtain⟨v,ev,ty⟩:=mC rel hil;obtain⟨⟨r1,FZ⟩,e1,e⟩:=ai e;obtain⟨⟨r2,Gm⟩,e2,e⟩:=ai e;dsimp only at e e2;split at e
  ·rename_i ds kk Kg Mx;split at e
   ·rename_i hl;cases e;refine⟨v,ev,ty,G,env,fp,[r1.2,r2.2],Gm,rel,by show(f env).bind _=_;rw[e1];show((g FZ).bind _).bind _=_;rw[e2];rfl,fun vs H1 G1 Gn Ge F4 rs=>?_⟩;rw[Reps]at rs;obtain⟨y1,ys1,eys1,Ry,rs⟩:=rs;rw[Reps]at rs;obtain⟨y,ys,Ou,ry,rn⟩:=rs;rw[Reps]at rn;subst rn Ou;rw[Mx]at Ry;have hz:=bG Ry;obtain⟨p,xs,ep,hp,Ly,cg⟩:=F4.chg (ds':=ds.take kk.toNat++r2.2::ds.drop kk.toNat) Kg;rw[ev]at ep;cases ep;obtain⟨fq,F3,F8⟩:=cg (xs.take kk.toNat++y::xs.drop kk.toNat) ((Ly.take _).app (.cons ry (Ly.drop _)));exact⟨p,xs,y,kk,rfl,by rw[eys1,hz],hp,by rw[Ly.length];exact hl.1,⟨hl.2.1,by rw[Ly.length];exact hl.2.2⟩,k _ _ G1 fq (Ge.trans F8) (F3.push g5)⟩
   ·cases e
  ·cases e
 ·cases e
end
inductive BExp where
 |con (b:Bool)|var (j:Nat)|not (x:BExp)|and (x y:BExp)
section
variable{X:Cx}{a:Addr}{o:Obj}{i:Nat}{e b:Expr}{dY:List Expr}{x y:BExp}{pos p q:Pos}{n:Str}
inductive Cls(mg:Str->Option Value):List Expr->List Addr->Prop
 |nil:Cls mg [] []
 |cons {x:Str}{p:Pos}{es:List Expr}{c:Addr}{cs:List Addr}:mg x=some (.ref c)->Cls mg es cs->Cls mg (.Name x p::es) (c::cs)
variable{C:Addr}{vs:Array Value}
end
section
variable{md:Mode}{X:Cx}{x:Str}{pos:Pos}{C:Addr}{xe:FXE}
end
end PV
namespace PV
open PySem PySem.Spec L2 NX
section
variable{X:Cx}
end
end PV
namespace PV
open PySem PySem.Spec PyProof.Rows L2 NX
section
variable{K:W.Frag}{G H:Hp}
theorem AllO.app{P:D->V->List Addr->Prop}{d:D}{v:V}{a:List Addr}(q:P d v a):∀{ds:List D}{xs:List V}{fp:List Addr},AllO P ds xs fp->AllO P (ds++[d]) (xs++[v]) (fp++a)
 |[],xs,fp,r=>by
  obtain⟨e1,e2⟩:=r;subst e1 e2;exact⟨v,[],a,[],rfl,by simp,q,rfl,rfl⟩
 |d'::ds,xs,fp,r=>by
  obtain⟨y,ys,a1,b1,e1,e2,p,r⟩:=r;subst e1 e2;exact⟨y,ys++[v],a1,b1++a,rfl,by rw[R7],p,AllO.app q r⟩
theorem AllO.length{P:D->V->List Addr->Prop}:∀{ds:List D}{xs:List V}{fp:List Addr},AllO P ds xs fp->xs.length=ds.length
 |[],xs,fp,r=>by
  rw[r.1];rfl
 |d'::ds,xs,fp,r=>by
  obtain⟨y,ys,a1,b1,e1,e2,p,r⟩:=r;subst e1;rw[R6,R6,r.length]
theorem pK{p:Addr}{u:HO}(gh:Same G H)(gp:G p=none):Same G (upd H p u):=fun z o ez=>by
 have:z≠p:=fun w=>by
  subst w;rw[gp]at ez;cases ez
 rw[az this];exact gh z o ez
theorem mQ{p:Addr}{u:HO}{fp:List Addr}(hp:p∈fp):Step G H fp G (upd H p u) fp:=by
 refine⟨.refl _,fun z o ez nz=>?_,fun z hz=>.inl hz,fun z o ez=>.inl ez,fun z o ez=>?_⟩
 ·have:z≠p:=fun w=>nz (w▸hp)
  rw[az this];exact ez
 ·by_cases w:z=p
  ·subst w;exact⟨_,aW⟩
  ·exact⟨o,by rw[az w];exact ez⟩
theorem Rel.pushO{c:O}{acc:List D}{d v:_}{es:PV.Env}{vs:L2.St}{p:Addr}{fp:List Addr}(q:Rel K G H (some (.l c,.lst acc)::some (c,d)::es) (some (.ref p)::some v::vs) fp):
  ∃xs,H p=some (.lst xs)/\xs.length=acc.length/\Rel K G (upd H p (.lst (xs++[v]))) (some (.l c,.lst (acc++[d]))::es) (some (.ref p)::vs) fp/\Step G H fp G (upd H p (.lst (xs++[v]))) fp:=by
 obtain⟨y,ys,e,v',a,b,e1,e2,r1,r2⟩:=q.rep;cases e;cases e1;have r1:RepO K G H (.l c) (.lst acc) (.ref p) a:=r1;rw[RepO]at r1;obtain⟨p',xs,fa,ep,hp,ea,al⟩:=r1;cases ep;subst ea;obtain⟨y,ys,e,v',a2,b2,e1,e3,r3,r4⟩:=r2;cases e;cases e1;subst e3;subst e2;have nd:=Sv.mp (show(p::(fa++(a2++b2))).Nodup from q.nd);have out:∀z∈fa++(a2++b2),upd H p (.lst (xs++[v])) z=H z:=fun z hz=>az fun e=>nd.1 (e▸hz)
 have r3:RepO K G (upd H p (.lst (xs++[v]))) c d v a2:=RepO.step (.refl _) (fun z hz=>out z (by simp[hz])) r3;have al:AllO (RepO K G (upd H p (.lst (xs++[v]))) c) acc xs fa:=AllO.imp (fun d v c hc=>RepO.step (.refl _) fun z hz=>out z (R9 _ (hc z hz))) al;refine⟨xs,hp,al.length,⟨⟨some (.ref p),vs,rfl,.ref p,p::(fa++a2),b2,rfl,by simp,?_,r4.step (.refl _) fun z hz=>out z (by simp[hz])⟩,q.nd,q.gn,pK q.gh (q.gn p (by simp))⟩,mQ (by simp)⟩;show RepO K G _ (.l c) (.lst (acc++[d])) (.ref p) _;rw[RepO];exact⟨p,xs++[v],fa++a2,rfl,aW,rfl,al.app r3⟩
theorem AllO.chg:∀{ds:List D}{xs:List V}{fp:List Addr}{m:Nat}{es:List D},fp.Nodup->AllO (RepO K G H (.l .f)) ds xs fp->ds[m]?=some (.lst es)->∃l zs,xs[m]?=some (.ref l)/\l∈fp/\H l=some (.lst zs)/\Reps K G es zs/\
  ∀Jc JW,Reps K G Jc JW->AllO (RepO K G (upd H l (.lst JW)) (.l .f)) (ds.set m (.lst Jc)) xs fp
 |[],xs,fp,m,es,nd,r,e=>by rw[List.getElem?_nil]at e;cases e
 |d::ds,xs,fp,m,es,nd,r,e=>by
  obtain⟨y,ys,a,b,e1,e2,p,q⟩:=r;subst e1 e2;obtain⟨n1,n2,n3⟩:=S2.mp nd;cases m with
  |zero=>
   rw[List.getElem?_cons_zero]at e;cases e;obtain⟨l,zs,el,hl,ea,rz⟩:=fI.mp p;subst el ea;refine⟨l,zs,rfl,by simp,hl,rz,fun Jc JW OE=>?_⟩;refine⟨.ref l,ys,[l],b,rfl,rfl,fI.mpr ⟨l,JW,rfl,aW,rfl,OE⟩,AllO.imp (fun d v c hc=>RepO.step (.refl _) fun z hz=>az fun e=>?_) q⟩;subst e;exact n3 z (by simp) z (hc z hz) rfl
  |succ m=>
   rw[Wg]at e;obtain⟨l,zs,el,ml,hl,rz,k⟩:=AllO.chg n2 q e;refine⟨l,zs,el,RX _ ml,hl,rz,fun Jc JW OE=>?_⟩;refine⟨y,ys,a,b,rfl,rfl,RepO.step (.refl _) (fun z hz=>az fun e=>?_) p,k Jc JW OE⟩;subst e;exact n3 z hz z ml rfl
theorem Rel.chgAt{i m:Nat}{ds es:List D}{env:PV.Env}{vs:L2.St}{fp:List Addr}(q:Rel K G H env vs fp)(e:env[i]?=some (some (.l (.l .f),.lst ds)))(em:ds[m]?=some (.lst es)):
  ∃p xs l zs,vs[i]?=some (some (.ref p))/\H p=some (.lst xs)/\xs.length=ds.length/\xs[m]?=some (.ref l)/\H l=some (.lst zs)/\Reps K G es zs/\
   ∀Jc JW,Reps K G Jc JW->∃fq,Rel K G (upd H l (.lst JW)) (env.set i (some (.l (.l .f),.lst (ds.set m (.lst Jc))))) vs fq/\Step G H fp G (upd H l (.lst JW)) fq:=by
 obtain⟨v,fq,ev,g,st,Im⟩:=q.out e;obtain⟨y,ys,e0,v',a,b,e1,e2,r1,r2⟩:=g.rep;cases e0;cases e1;have r1:RepO K G H (.l (.l .f)) (.lst ds) v a:=r1;rw[RepO]at r1;obtain⟨p,xs,fa,ep,hp,ea,al⟩:=r1;subst ep ea e2;have nd0:(p::(fa++b)).Nodup:=g.nd;have nd:=Sv.mp nd0;obtain⟨n1,n2,n3⟩:=S2.mp nd.2;obtain⟨l,zs,el,ml,hl,rz,k⟩:=AllO.chg n1 al em;refine⟨p,xs,l,zs,ev,hp,al.length,el,hl,rz,fun Jc JW OE=>?_⟩;have pl:p≠l:=fun z=>nd.1 (by rw[z];exact R9 _ ml)
 have g2:Rel K G (upd H l (.lst JW)) (some (.l (.l .f),.lst (ds.set m (.lst Jc)))::env.set i none) (some (.ref p)::vs) (p::(fa++b)):=by
  refine⟨⟨some (.ref p),vs,rfl,.ref p,p::fa,b,rfl,rfl,?_,r2.step (.refl _) fun z hz=>az fun e=>?_⟩,g.nd,g.gn,pK g.gh (g.gn l (by simp[ml]))⟩
  ·show RepO K G _ (.l (.l .f)) (.lst (ds.set m (.lst Jc))) (.ref p) (p::fa);rw[RepO];exact⟨p,xs,fa,rfl,by rw[az pl];exact hp,rfl,k Jc JW OE⟩
  ·subst e;exact n3 z ml z hz rfl
 have MV:Step G H (p::(fa++b)) G (upd H l (.lst JW)) (p::(fa++b)):=mQ (by simp[ml]);obtain⟨fz,g3,GA⟩:=g2.back (i:=i) (by rw[UP];exact(Se.mp e).1) ev;rw[U4]at g3;exact⟨fz,g3,st.trans (MV.trans GA)⟩
end
section
variable{md:Mode}{X:Cx}{scope:Scope}{N:List Str}{tg iter elt:Expr}{ifs:List Expr}{pos:Pos}{fi:FI}{a:FG}{c:FT}{f:FX}
theorem Rel.fz{K:W.Frag}{G H:Hp}{env:PV.Env}{σ:L2.St}{fp:List Addr}{i:Nat}{d:D}(q:Rel K G H env σ fp)(e:env[i]?=some (some (.f,d))):∃v,σ[i]?=some (some v)/\Rep K G d v:=by
 obtain⟨v,fq,ev,g,_⟩:=q.out e;obtain⟨y,ys,e0,v',a,b,e1,e2,r1,r2⟩:=g.rep;cases e0;cases e1;exact⟨v,ev,(fH.mp r1).1⟩
end
section
variable{X:Cx}{x:Str}{p pos MH:Pos}{e1 e2 e3:Expr}{fo:FO}{fb:FX}
end
section
variable{X:Cx}{x:Str}{p pos p1 p2 q1 q2:Pos}{o o':Expr}{j1 j2:_}
end
section
variable{K:W.Frag}{G H:Hp}
end
section
variable{X:Cx}{a b:Expr}{fa fb:FX}{pos:Pos}
end
abbrev tL:O:=.t [.f,.l .f]
section
variable{K:W.Frag}{G H:Hp}
theorem pL{a:D}{l:List D}{v:V}{fp:List Addr}:RepO K G H tL (.tup [a,.lst l]) v fp<->∃t y q zs,v=.ref t/\G t=some (.tup [y,.ref q])/\Rep K G a y/\H q=some (.lst zs)/\fp=[q]/\Reps K G l zs:=by
 unfold tL;rw[RepO];constructor
 ·rintro⟨t,xs,et,gt,rt⟩;rw[RepT]at rt;obtain⟨y1,t1,a1,b1,ex1,ea1,q1,rt⟩:=rt;rw[RepT]at rt;obtain⟨y2,t2,a2,b2,ex2,ea2,q2,rt⟩:=rt;rw[RepT]at rt;obtain⟨ett,eb⟩:=rt;obtain⟨rep1,ea⟩:=fH.mp q1;obtain⟨q,zs,el,hl,eal,rz⟩:=fI.mp q2;subst ea ett eb ex2 ex1 el eal ea2 ea1;exact⟨t,y1,q,zs,et,gt,rep1,hl,rfl,rz⟩
 ·rintro⟨t,y,q,zs,et,gt,ra,hq,ef,rz⟩;refine⟨t,[y,.ref q],et,gt,?_⟩;subst ef;rw[RepT];refine⟨y,[.ref q],[],[q],rfl,rfl,fH.mpr ⟨ra,rfl⟩,?_⟩;rw[RepT];refine⟨.ref q,[],[q],[],rfl,rfl,fI.mpr ⟨q,zs,rfl,hq,rfl,rz⟩,?_⟩;rw[RepT];exact⟨rfl,rfl⟩
end
section
variable{X:Cx}
end
section
variable{X:Cx}
end
section
variable{K:W.Frag}{G H:Hp}
theorem Rel.chgV{i:Nat}{o:O}{d:D}{env:PV.Env}{vs:L2.St}{fp:List Addr}(q:Rel K G H env vs fp)(e:env[i]?=some (some (o,d))):
  ∃v a,vs[i]?=some (some v)/\RepO K G H o d v a/\a.Nodup/\∀u x o' d',u∈a->RepO K G (upd H u x) o' d' v a->∃fq,Rel K G (upd H u x) (env.set i (some (o',d'))) vs fq/\Step G H fp G (upd H u x) fq:=by
 obtain⟨v,fq,ev,g,st,Im⟩:=q.out e;obtain⟨y,ys,e0,v',c,b,e1,e2,r1,r2⟩:=g.rep;cases e0;cases e1;subst e2;obtain⟨n1,n2,n3⟩:=S2.mp g.nd;refine⟨v,c,ev,r1,n1,fun u x o' d' hu r'=>?_⟩;have g2:Rel K G (upd H u x) (some (o',d')::env.set i none) (some v::vs) (c++b):=by
  refine⟨⟨some v,vs,rfl,v,c,b,rfl,rfl,r',r2.step (.refl _) fun z hz=>az fun e=>?_⟩,g.nd,g.gn,pK g.gh (g.gn u (R9 _ hu))⟩;subst e;exact n3 z hu z hz rfl
 have MV:Step G H (c++b) G (upd H u x) (c++b):=mQ (R9 _ hu);obtain⟨fz,g3,GA⟩:=g2.back (i:=i) (by rw[UP];exact(Se.mp e).1) ev;rw[U4]at g3;exact⟨fz,g3,st.trans (MV.trans GA)⟩
end
section
variable{X:Cx}{a b:Expr}{fa fb:FX}{pos:Pos}
end
section
variable{md:Mode}{X:Cx}{pos MH:Pos}
end
section
variable{X:Cx}{C:Addr}{pos:Pos}{dY a b:List Stmt}{ct:Expr}
end
section
variable{X:Cx}{x y:Str}{p pos pos' Gb:Pos}{e:Expr}{es:List Expr}{C:Addr}{F:List D->Bool}{fs:FOs}{k:Nat}{dY:List Stmt}{Ww:Hp->Prop}
end
section
variable{X:Cx}{a:Addr}{i j jc:Nat}{x1 x2:BExp}{e1 e2 vc:Expr}{n nc:Str}{pos pos1 HG pos' pos'' bp p:Pos}
end
section
variable{md:Mode}{X:Cx}{x:Str}{pos:Pos}{C:Addr}{xe:FXE}
end
def dg(i:Int):List Nat:=(Str.ofString (toString i)).cps.toList
theorem D6(i:Int):S (dg i)=Str.ofString (toString i):=by
 apply Str.ext';unfold dg;simp[S]
theorem dg_len{i:Int}(h:i.natAbs.log2<1920):(dg i).length<=sizeLine:=by
 have h2:(Str.ofString (toString i)).length<=sizeLine:=int_text_fits h;rw[<-D6,gG]at h2;exact h2
def uJ:List D->Res R
 |[.int i]=>if i.natAbs.log2<1920 then .ok (.f,.str (dg i)) else .bad
 |_=>.bad
def B5:List D->Res R
 |[.str l]=>(match PySem.intText? (S l) with
  |some n=>if l.length<=640 then .ok (.f,.int n) else .bad
  |none=>.bad)
 |ds=>xV ds
section
variable{X:Cx}
theorem ky:cU X (.type "str") (rC X.K uJ):=by
 rintro pr s σ H xs us Q I rx ⟨G,fp,es,vs,ds,r,⟨rel,k⟩,vd,e⟩;unfold uJ at e;split at e
 ·rename_i i;split at e
  ·rename_i hl;cases e;obtain⟨v,ev,v1⟩:=mD vd;subst ev;cases bq v1;obtain⟨u,rfl,t,rfl⟩:=fE rx;exact PySem.P.str_of_int hl ⟨.str (S (dg i)),H,I.tok _,⟨_,by rw[D6]⟩,k _ H G fp .refl (rel.push (dy (dg_len hl)))⟩
  ·cases e
 ·cases e
theorem zS:cU X (.type "int") (rC X.K B5):=by
 rintro pr s σ H xs us Q I rx ⟨G,fp,es,vs,ds,r,⟨rel,k⟩,vd,e⟩;unfold B5 at e;split at e
 ·rename_i l;split at e
  ·rename_i n hn;split at e
   ·rename_i hl;cases e;obtain⟨v,ev,v1⟩:=mD vd;subst ev;obtain⟨ev,_⟩:=eB v1;subst ev;obtain⟨u,rfl,t,rfl⟩:=fE rx;exact PySem.W.KIN.call_text hn (by rw[gG];exact hl) ⟨.int n,H,I.tok _,⟨_,rfl⟩,k _ H G fp .refl (rel.push (bu _))⟩
   ·cases e
  ·cases e
 ·exact xW pr s σ H xs us Q I rx ⟨G,fp,es,vs,ds,r,⟨rel,k⟩,vd,e⟩
def B6(f:FX):FX:=fun env=>(f env).bind fun p=>match p.1.2 with
 | .int i=>if i.natAbs.log2<1920 then .ok ((.f,.str (dg i)),p.2) else .bad
 | .str l=>.ok ((.f,.str l),p.2)
 |_=>.bad
theorem uK{v:Expr}{f:FX}{pos:Pos}(h:QE X v f):QE X (.FormattedValue v (-1) none pos) (B6 f):=fun pr s σ H Q I Gd=>by
 obtain⟨G,env,fp,r,env',rel,e,k⟩:=Gd;obtain⟨⟨r1,FZ⟩,e1,e⟩:=ai e;refine FormattedValue_plain (Gp (h pr s σ H (fun x H1=>∃G1 Gn,Step G H fp G1 H1 Gn/\Rel X.K G1 H1 (some r1::FZ) (some x::σ) Gn) I ⟨G,env,fp,r1,FZ,rel,e1,fun v H1 G1 Gn Ge F4=>⟨G1,Gn,Ge,F4⟩⟩) fun u s1 Gk=>?_);obtain⟨x,H1,I1,rx,G1,Gn,Ge,F4⟩:=Gk;obtain⟨b,F3,F8⟩:=F4.drop;have rt:=F4.top;dsimp only at e;split at e
 ·rename_i i hi;split at e
  ·rename_i hl;cases e;rw[hi]at rt;cases bG rt;obtain⟨t,rfl⟩:=rx;exact wpAny_formatField_int hl ⟨.str (S (dg i)),H1,I1.tok _,⟨_,by rw[D6]⟩,k _ H1 G1 b (Ge.trans F8) (F3.push (dy (dg_len hl)))⟩
  ·cases e
 ·rename_i l hi;cases e;rw[hi]at rt;obtain⟨ex,hz⟩:=bg rt;subst ex;obtain⟨t,rfl⟩:=rx;exact formatField_str (fun t' tk=>⟨.str (S l),H1,I1.tok _,⟨_,rfl⟩,k _ H1 G1 b (Ge.trans F8) (F3.push (dy hz))⟩) (by rw[gG];exact hz)
 ·cases e
def QJ(X:Cx)(es:List Expr)(fs:FDs):Prop:=∀(acc:List Nat) (pr:List (Addr×Obj)) (s:Shared) (σ:L2.St) (H:Hp) (Q:VK),Inv X pr σ H s->
 (∃G env fp ds env' ls,Rel X.K G H env σ fp/\fs env=.ok (ds,env')/\c9 ds=some ls/\(acc++ls.flatten).length<=sizeLine/\∀H' G' F9,Step G H fp G' H' F9->Rel X.K G' H' env' σ F9->Q (.str (S (acc++ls.flatten))) H')->
 wpAny (model X.prog X.w) X.A (joinParts (S acc) (evalEach es X.env)) (EP X pr σ Q) X.xe s
theorem B7:QJ X [] bH:=fun acc pr s σ H Q I Gd=>by
 obtain⟨G,env,fp,ds,env',ls,rel,e,hs,hl,k⟩:=Gd;cases e;cases hs;rw[Wj,Sg]at hl k;exact joinParts_nil ⟨.str (S acc),H,I.tok _,⟨_,rfl⟩,k H G fp .refl rel⟩ (by rw[gG];exact hl)
theorem kz{e:Expr}{es:List Expr}{f:FX}{g:FDs}(h:QE X e f)(hs:QJ X es g)(he:evalEach (e::es) X.env=eval e X.env::evalEach es X.env:=by rfl):QJ X (e::es) (aF f g):=fun acc pr s σ H Q I Gd=>by
 obtain⟨G,env,fp,ds,env',ls,rel,e0,Pu,hl,k⟩:=Gd;obtain⟨⟨r1,FZ⟩,e1,e0⟩:=ai e0;obtain⟨⟨ds1,Gm⟩,e2,e0⟩:=ai e0;cases e0;rw[he];refine joinParts_cons (Gp (h pr s σ H (fun x H1=>∃G1 Gn,Step G H fp G1 H1 Gn/\Rel X.K G1 H1 (some r1::FZ) (some x::σ) Gn) I ⟨G,env,fp,r1,FZ,rel,e1,fun v H1 G1 Gn Ge F4=>⟨G1,Gn,Ge,F4⟩⟩) fun u s1 Gk=>?_);obtain⟨x,H1,I1,rx,G1,Gn,Ge,F4⟩:=Gk;obtain⟨b,F3,F8⟩:=F4.drop;have rt:=F4.top;dsimp only at Pu;obtain⟨o1,d1⟩:=r1;cases d1 with
 |str l=>
  rw[c9,Sy]at Pu;obtain⟨ls1,Pw,rfl⟩:=Pu;obtain⟨ex,hz⟩:=bg rt;subst ex;obtain⟨t,rfl⟩:=rx;rw[Us,<-R7]at hl k;show(S acc++S l).length<=sizeLine/\wpAny _ _ (joinParts (S acc++S l) _) _ _ _;rw[Bm];refine⟨?_,hs (acc++l) pr s1 σ H1 Q I1 ⟨G1,FZ,b,ds1,Gm,ls1,F3,e2,Pw,hl,fun H' G' F9 st Gy=>k H' G' F9 (Ge.trans (F8.trans st)) Gy⟩⟩;rw[gG];rw[SM]at hl;lia
 |_=>cases Pu
def zT(fs:FDs):FX:=fun env=>(fs env).bind fun p=>match c9 p.1 with
 |some ls=>if ls.flatten.length<=sizeLine then .ok ((.f,.str ls.flatten),p.2) else .bad
 |none=>.bad
theorem zU{a b:Expr}{es:List Expr}{fs:FDs}{pos:Pos}(h:QJ X (a::b::es) fs):QE X (.JoinedStr (a::b::es) pos) (zT fs):=fun pr s σ H Q I Gd=>by
 obtain⟨G,env,fp,r,env',rel,e,k⟩:=Gd;obtain⟨⟨ds,FZ⟩,e1,e⟩:=ai e;dsimp only at e;split at e
 ·rename_i ls hls;split at e
  ·rename_i hl;cases e;exact JoinedStr_many (h [] pr s σ H Q I ⟨G,env,fp,ds,_,ls,rel,e1,hls,hl,fun H' G' F9 st Gy=>k _ H' G' F9 st (Gy.push (dy hl))⟩)
  ·cases e
 ·cases e
def D7(f:FX):FX:=fun env=>(f env).bind fun p=>.ok ((.f,p.1.2),p.2)
theorem B8{e:Expr}{f:FX}(h:QE X e f):QE X e (D7 f):=bo h fun σ H Q Gd=>by
 obtain⟨G,env,fp,r,env',rel,e,k⟩:=Gd;obtain⟨⟨r1,FZ⟩,e1,e⟩:=ai e;cases e;refine⟨G,env,fp,r1,_,rel,e1,fun v H1 G1 Gn Ge F4=>?_⟩;obtain⟨G2,b,rv,F3,F8⟩:=F4.freeze;exact k v H1 G2 b (Ge.trans F8) (F3.push rv)
end
section
variable{K:W.Frag}{G H:Hp}
theorem Rel.newO1{c:O}{d1:D}{v1:V}{es:PV.Env}{vs:L2.St}{t:Addr}{fp:List Addr}(q:Rel K G H (some (c,d1)::es) (some v1::vs) fp)(ht:H t=none):
  Rel K G (upd H t (.lst [v1])) (some (.l c,.lst [d1])::es) (some (.ref t)::vs) (t::fp)/\Step G H fp G (upd H t (.lst [v1])) (t::fp):=by
 have gt:G t=none:=by
  cases e:G t with
  |none=>rfl
  |some o=>rw[q.gh t o e]at ht;cases ht
 have nt:t∉fp:=fun z=>by
  obtain⟨u,e⟩:=q.rep.live t z;rw[ht]at e;cases e
 have sh:Same H (upd H t (.lst [v1])):=fun b o e=>by rw[az (aH e ht)];exact e
 obtain⟨y,ys,e,v',a,b,e1,e2,r1,r2⟩:=q.rep;cases e;cases e1;subst e2;have out:∀z∈a++b,upd H t (.lst [v1]) z=H z:=fun z hz=>az fun e=>nt (e▸hz)
 refine⟨⟨⟨some (.ref t),vs,rfl,.ref t,t::a,b,rfl,rfl,?_,r2.step (.refl _) fun z hz=>out z (RX _ hz)⟩,Sv.mpr ⟨nt,q.nd⟩,fun z hz=>?_,fun b o e=>sh b o (q.gh b o e)⟩,
  ⟨.refl _,fun b o e _=>sh b o e,fun b hb=>?_,fun b o e=>.inl e,fun b o e=>⟨o,sh b o e⟩⟩⟩
 ·show RepO K G _ (.l c) (.lst [d1]) (.ref t) _;rw[RepO];exact⟨t,[v1],a,rfl,aW,rfl,v1,[],a,[],rfl,(Sg _).symm,RepO.step (.refl _) (fun z hz=>out z (R9 _ hz)) r1,rfl,rfl⟩
 ·rcases RV.mp hz with rfl|hz
  ·exact gt
  ·exact q.gn z hz
 ·rcases RV.mp hb with rfl|hb
  ·exact .inr ht
  ·exact .inl hb
end
section
variable{X:Cx}{pos:Pos}
def zV(f:FX):FX:=fun env=>(f env).bind fun p=>match p.1.1 with
 | .l .f=>.ok ((.l (.l .f),.lst [p.1.2]),p.2)
 |_=>.bad
theorem zW{a:Expr}{fa:FX}(ha:QE X a fa)(h1:starEach [a] X.env=(false,eval a X.env)::starEach [] X.env:=by rfl):QE X (.List [a] pos) (zV fa):=
 bo (xE (eK ha jS h1)) fun σ H Q Gd=>by
  obtain⟨G,env,fp,r,env',rel,e,k⟩:=Gd;obtain⟨⟨⟨o1,d1⟩,FZ⟩,e1,e⟩:=ai e;dsimp only at e;split at e
  ·cases e;refine⟨G,env,fp,_,_,rel,e1,fun v H1 G1 Gn Ge F4=>⟨by rw[line_eq];exact(by decide:1<=16777216),fun t ht=>?_⟩⟩;obtain⟨Hf,Io⟩:=F4.newO1 ht;exact k _ _ G1 _ (Ge.trans Io) Hf
  ·cases e
noncomputable def xa(i:Nat)(f:FX):FX:=fun env=>if mB env i then(f env).bind fun p=>(match p.1.1,p.2[i]? with
 | .l .f,some (some (.l (.l .f),.lst ds))=>if ds.length<sizeLine then .ok ((.f,.non),p.2.set i (some (.l (.l .f),.lst (ds++[p.1.2])))) else .bad
 |_,_=>.bad)
 else .bad
theorem zX{i:Nat}{o e:Expr}{f:FX}{apos Gb:Pos}(ho:PE X o (rg i))(he:QE X e f)
  (GU:attributeBase o "append" X.env (eval o X.env)=eval o X.env:=by rfl)
  (HV:((backTo Gb (starEach [e] X.env)).all (fun x=>!x.1)&&(backToKw Gb (keywordEach [] X.env)).all (fun x=>x.1.isSome)&&decide ([e].length+([]:List Keyword).length+(if([]:List Keyword).isEmpty then 0 else 1)<30))=true:=by rfl)
  (GV:(apos.endLine==Gb.line)=true:=by rfl) (hs:starEach [e] X.env=(false,eval e X.env)::starEach [] X.env:=by rfl) (GD:(backTo Gb (starEach [] X.env)).any (·.1)=false:=by rfl):
  QE X (.Call (.Attribute o "append" apos) [e] [] Gb) (xa i f):=by
 refine bo (rp T8 Uu Uv fF ho (eK he jS hs) GU HV GV hs GD) fun σ H Q Gk=>?_
 obtain⟨G,env,fp,r,env',rel,e,k⟩:=Gk;unfold xa at e;split at e
 ·rename_i hil;obtain⟨v,ev,ty⟩:=mC rel hil;obtain⟨⟨⟨o1,d1⟩,FZ⟩,e1,e⟩:=ai e;dsimp only at e;split at e
  ·rename_i ds Kg;split at e
   ·rename_i hl;cases e;refine⟨v,ev,ty,G,env,fp,_,FZ,rel,e1,fun y H1 G1 Gn Ge F4=>?_⟩;obtain⟨fa,fb,Pr,ra,M1,bk⟩:=F4.frame;obtain⟨w,fq,ew,g,st,Im⟩:=M1.out Kg;rw[ev]at ew;cases ew;obtain⟨J2,My⟩:=bk G1 H1 _ _ fq st g;rw[<-Pr]at My;obtain⟨z,zs,ez,v',a',b',ez1,QU,Px,Py⟩:=g.rep;cases ez;cases ez1;have Px:RepO X.K G1 H1 (.l (.l .f)) (.lst ds) v a':=Px;rw[RepO]at Px;obtain⟨p,xs,F9,ep,hp,ea,al⟩:=Px;subst ep;have relw:Rel X.K G1 H1 (some (.l (.l .f),.lst ds)::some (.l .f,d1)::FZ.set i none) (some (.ref p)::some y::σ) ((a'++fa)++b'):=by
     refine⟨⟨some (.ref p),_,rfl,.ref p,a',fa++b',rfl,by rw[R7],?_,some y,σ,rfl,y,fa,b',rfl,rfl,ra,Py⟩,?_,fun w hw=>?_,J2.gh⟩
     ·rw[RepO];exact⟨p,xs,F9,rfl,hp,ea,al⟩
     ·have nd:=J2.nd;rw[QU]at nd;rw[R7];have pm:(fa++(a'++b')).Perm (a'++(fa++b')):=by
       rw[<-R7,<-R7];exact List.perm_append_comm.append_right b'
      exact pm.nodup_iff.mp nd
     ·refine J2.gn w ?_;rw[QU];rcases Ss.mp hw with hw|hw
      ·rcases Ss.mp hw with hw|hw
       ·exact RX _ (R9 _ hw)
       ·exact R9 _ hw
      ·exact RX _ (RX _ hw)
    obtain⟨K5,M3,lx,relp,stp⟩:=relw.pushO;rw[hp]at M3;cases M3;obtain⟨fz,Hm,Iz⟩:=relp.back (i:=i) (by rw[UP];exact(Se.mp Kg).1) ev;rw[U4]at Hm;have stw:Step G1 H1 (fa++fq) G1 H1 ((a'++fa)++b'):=Step.cut fun w hw=>by
     rw[QU];rcases Ss.mp hw with hw|hw
     ·rcases Ss.mp hw with hw|hw
      ·exact RX _ (R9 _ hw)
      ·exact R9 _ hw
     ·exact RX _ (RX _ hw)
    exact⟨p,xs,y,rfl,rfl,hp,by rw[lx];exact hl,k _ _ G1 fz (Ge.trans (My.trans (stw.trans (stp.trans Iz)))) (Hm.push g5)⟩
   ·cases e
  ·cases e
 ·cases e
noncomputable def rP(i:Nat)(c:Int)(l:Nat):FX:=fun env=>match env[i]?,env[l]? with
 |some (some (.l (.l .f),.lst ds)),some (some (.f,d))=>(match ixN ds.length c with
  |some m=>(match ds[m]? with
   |some (.lst es)=>if es.length<sizeLine then .ok ((.f,.non),env.set i (some (.l (.l .f),.lst (ds.set m (.lst (es++[d])))))) else .bad
   |_=>.bad)
  |none=>.bad)
 |_,_=>.bad
theorem D8{j p q}:PE X (.UnaryOp .USub (.Constant (.int 1) j p) q) (tC (.int (-1))):=bo (DE Bd sJ) fun σ H Q h=>⟨1,rfl,h⟩
theorem zY{i l:Nat}{c:Int}{o ke e:Expr}{Hx apos Gb:Pos}(ho:PE X o (rg i))(hk:PE X ke (tC (.int c)))(he:PE X e (rg l))(Ha:pq ke:=by exact fun _ _=>rfl)
  (GU:attributeBase (.Subscript o ke Hx) "append" X.env (eval (.Subscript o ke Hx) X.env)=eval (.Subscript o ke Hx) X.env:=by rfl)
  (HV:((backTo Gb (starEach [e] X.env)).all (fun x=>!x.1)&&(backToKw Gb (keywordEach [] X.env)).all (fun x=>x.1.isSome)&&decide ([e].length+([]:List Keyword).length+(if([]:List Keyword).isEmpty then 0 else 1)<30))=true:=by rfl)
  (GV:(apos.endLine==Gb.line)=true:=by rfl) (hs:starEach [e] X.env=(false,eval e X.env)::starEach [] X.env:=by rfl) (GD:(backTo Gb (starEach [] X.env)).any (·.1)=false:=by rfl):
  QE X (.Call (.Attribute (.Subscript o ke Hx) "append" apos) [e] [] Gb) (rP i c l):=by
 refine bo (rp T8 Uu Uv fF (yS tm ho hk Ha) (eK he jS hs) GU HV GV hs GD) fun σ H Q Gk=>?_
 obtain⟨G,env,fp,r,env',rel,e,k⟩:=Gk;unfold rP at e;split at e
 ·rename_i ds d hi hl;split at e
  ·rename_i m hm;split at e
   ·rename_i es hes;split at e
    ·rename_i hz;cases e;obtain⟨p,xs,q,zs,ev,hp,lx,ex,hq,rz,kk⟩:=rel.chgAt hi hes;obtain⟨vd,evd,rd⟩:=rel.fz hl;obtain⟨fq,F3,F8⟩:=kk (es++[d]) (zs++[vd]) (rz.app (.one rd));refine⟨.ref p,ev,p,xs,c,.ref q,rfl,rfl,SqL.of hp,?_,.inl ⟨rfl,zs,SqL.of hq⟩,vd,evd,q,zs,vd,rfl,rfl,hq,by rw[rz.length];exact hz,k _ _ G fq F8 (F3.push g5)⟩;unfold Hv;rw[lx,hm];exact ex
    ·cases e
   ·cases e
  ·cases e
 ·cases e
noncomputable def xb(i:Nat)(f:FX):FX:=fun env=>match env[i]? with
 |some (some (.t [.f,.l .f],.tup [_,.lst _]))=>(f env).bind fun q=>(match q.2[i]? with
  |some (some (.t [.f,.l .f],.tup [d,.lst ds]))=>if ds.length<sizeLine then .ok ((.f,.non),q.2.set i (some (.t [.f,.l .f],.tup [d,.lst (ds++[q.1.2])]))) else .bad
  |_=>.bad)
 |_=>.bad
theorem zZ{i:Nat}{o e:Expr}{f:FX}{j Hx ipos apos Gb}(ho:PE X o (rg i))(he:QE X e f)
  (GU:attributeBase (.Subscript o (.Constant (.int 1) j ipos) Hx) "append" X.env (eval (.Subscript o (.Constant (.int 1) j ipos) Hx) X.env)=eval (.Subscript o (.Constant (.int 1) j ipos) Hx) X.env:=by rfl)
  (HV:((backTo Gb (starEach [e] X.env)).all (fun x=>!x.1)&&(backToKw Gb (keywordEach [] X.env)).all (fun x=>x.1.isSome)&&decide ([e].length+([]:List Keyword).length+(if([]:List Keyword).isEmpty then 0 else 1)<30))=true:=by rfl)
  (GV:(apos.endLine==Gb.line)=true:=by rfl) (hs:starEach [e] X.env=(false,eval e X.env)::starEach [] X.env:=by rfl) (GD:(backTo Gb (starEach [] X.env)).any (·.1)=false:=by rfl):
  QE X (.Call (.Attribute (.Subscript o (.Constant (.int 1) j ipos) Hx) "append" apos) [e] [] Gb) (xb i f):=by
 refine bo (rp T8 Uu Uv fF (yS xH ho sJ (by exact fun _ _=>rfl)) (av he aP hs) GU HV GV hs GD) fun σ H Q Gk=>?_
 obtain⟨G,env,fp,r,env',rel,e,k⟩:=Gk;unfold xb at e;split at e
 ·rename_i d0 l0 hi;obtain⟨⟨r1,FZ⟩,e1,e⟩:=ai e;dsimp only at e;split at e
  ·rename_i d ds Kg;split at e
   ·rename_i hl;cases e;obtain⟨v,a,b,ev,r0,_,_⟩:=rel.rep.take hi;obtain⟨t,y,q,zs,et,gt,rd,hq,ef,rz⟩:=pL.mp r0;subst et;refine⟨.ref t,ev,t,[y,.ref q],1,.ref q,rfl,rfl,SqT.of (rel.gh _ _ gt),rfl,.inl ⟨rfl,zs,SqL.of hq⟩,G,env,fp,[r1.2],FZ,rel,by show(f env).bind _=_;rw[e1];rfl,fun vs H1 G1 Gn Ge F4 rs=>?_⟩;rw[Reps]at rs;obtain⟨x,ys,Ou,ry,rn⟩:=rs;rw[Reps]at rn;subst rn;obtain⟨v2,c,Lw,r2,nd,cg⟩:=F4.chgV Kg;rw[ev]at Lw;cases Lw;obtain⟨t2,y2,q2,QV,et2,Rz,rd2,hq2,ef2,Py⟩:=pL.mp r2;cases et2;have:=Ge.gg _ _ gt;rw[Rz]at this;cases this;subst ef2;obtain⟨fq,F3,F8⟩:=cg q (.lst (QV++[x])) tL (.tup [d,.lst (ds++[r1.2])]) (by simp) (pL.mpr ⟨t,y,q,QV++[x],rfl,Rz,rd2,aW,rfl,Py.app (.one ry)⟩);exact⟨q,QV,x,rfl,Ou,hq2,by rw[Py.length];exact hl,k _ _ G1 fq (Ge.trans F8) (F3.push g5)⟩
   ·cases e
  ·cases e
 ·cases e
end
end PV
namespace NX
open PySem PySem.Spec PyProof.Rows L2
section
variable{prog:Program}{w:World}{A:Around}{E:Value->Shared->Prop}{s:Shared}{k1:Bool}{S z TI TO i1 i2 i3 l1 l2 l3:Addr}
theorem zip_len:typeLookup (.type "zip") "__len__" = pure none:=by rw[typeLookup_type,builtinLookup_eq_fast];kernel_rfl
theorem xc:typeLookup (.type "zip") "__length_hint__" = pure none:=by rw[typeLookup_type,builtinLookup_eq_fast];kernel_rfl
theorem xf{r:Addr}{Q:Bool->Shared->Prop}(hT:s.TypeIs (.ref r) "zip")(h:Q true s):wpAny (model prog w) A (Builtin.List.listLengthHint (.ref r)) Q E s:=by
 unfold Builtin.List.listLengthHint;refine RO (wpAny_specialOf hT zip_len ?_);show wpAny _ _ (specialOf (Value.ref r) (Str.ofString "__length_hint__") >>= _) _ _ _;refine RO (wpAny_specialOf hT xc ?_);exact RT h
theorem z4{R:Result->Shared->Prop}{xs ys zs:Array Value}(hn:xs.size<=sizeLine)(hh:A.handled=none)(D:Ap3 z TI TO i1 i2 i3 l1 l2 l3)(hy:ys.size=xs.size)(hz:zs.size=xs.size)(hS:S∉[z,TO,i1,i2,i3])(hl:S≠l1/\S≠l2/\S≠l3/\S≠TI)(c0:Nat)
  (st:NC k1 z TI TO i1 i2 i3 l1 l2 l3 0 s.heap) (g1:IsSq k1 s.heap l1 xs) (g2:IsSq false s.heap l2 ys) (g3:IsSq false s.heap l3 zs) (gS:s.heap.get? S=some {cls:=.type "list",dict:=none,data:=.seq #[] c0,slots:=#[]})
  (hR:∀h' G0 JX,(∀c o,c∉S::[z,TO,i1,i2,i3]->s.heap.get? c=some o->h'.get? c=some o)->h'.get? S=some {cls:=.type "list",dict:=none,data:=.seq G0 JX,slots:=#[]}->Got xs ys zs S [z,TO,i1,i2,i3] G0 xs.size h'->R (.ok (.ret .none)) {s with heap:=h'}):
  wpAny (model prog w) A.in1 (Builtin.List.listExtendWith (.ref S) (.ref z) .none)
   (fun fin s'=>match fin with | .done f=>R (.ok f) s' | .again c'=>c'.quiet=true/\codeAny (model prog w) A c' R s') (fun e s'=>R (.error e) s') s:=by
 obtain⟨sz,Pz,⟨a,b,c,OF⟩,s1,s2,s3⟩:=st;have hT:s.TypeIs (.ref z) "zip":=⟨_,sz,rfl⟩
 obtain⟨n1,_⟩:=zo hS;unfold Builtin.List.listExtendWith;refine RO (UL hT ?_);have h1:Builtin.List.listSameRef (.ref S) (.ref z)=false:=by simp[Builtin.List.listSameRef,n1]
 have h2:(Value.type "zip" == Value.type "list")=false:=by decide
 have h3:(Value.type "zip" == Value.type "tuple")=false:=by decide
 simp only[h1,h2,h3,Bool.or_false,S4,VN];refine RO (UY sz ?_);refine RO (Tv (xf hT ?_));refine wpAny_ite_split (fun _=>?_) (fun KJ=>absurd (by simp) KJ);refine RO (VA (RO ?_));unfold Builtin.List.listTouch;show wpAny _ _ (updateSeq S (fun x=>x.push .none) >>= _) _ _ _;refine RO (U8 gS rfl ?_);have gA:=Tp (Obj.mapSeq (fun x=>x.push Value.none)) gS rfl;have kA:∀c o,c≠S->s.heap.get? c=some o->(s.heap.update S (Obj.mapSeq fun x=>x.push Value.none)).get? c=some o:=fun c o nc e=>(S8 _ _ (SO nc)).trans e
 generalize s.heap.update S (Obj.mapSeq fun x=>x.push Value.none)=hA at gA kA;show wpAny _ _ (updateSeq S (fun x=>x.pop)) _ _ _;refine U8 gA rfl ?_;have gB:=Tp (Obj.mapSeq (fun x:Array Value=>x.pop)) gA rfl;have kB:∀c o,c≠S->s.heap.get? c=some o->(hA.update S (Obj.mapSeq fun x=>x.pop)).get? c=some o:=fun c o nc e=>(S8 _ _ (SO nc)).trans (kA c o nc e)
 generalize hA.update S (Obj.mapSeq fun x=>x.pop)=hB at gB kB;obtain⟨m1,m2,m3,m4,m5⟩:=zo hS;refine RT ⟨plainId_quiet Uq _,?_⟩;exact DW hn hh D hy hz hS hl .none (xs.size-0) 0 {s with heap:=hB} #[] _ rfl (Tu _) ⟨.inl ⟨a,b,c,kB _ _ m1.symm sz,kB _ _ m2.symm OF⟩,kB _ _ hl.2.2.2.symm Pz,s1.at fun o e=>kB _ _ m3.symm e,s2.at fun o e=>kB _ _ m4.symm e,s3.at fun o e=>kB _ _ m5.symm e,_,kB _ _ m2.symm OF⟩ (g1.at fun o e=>kB _ _ hl.1.symm e) (g2.at fun o e=>kB _ _ hl.2.1.symm e) (g3.at fun o e=>kB _ _ hl.2.2.1.symm e) gB ⟨rfl,(fun j k _ hk=>absurd hk (WN k)),fun j hj=>absurd hj (WN j)⟩ fun h' G0 JX kk Pp got=>hR h' G0 JX (fun c o nc e=>kk c o nc (kB c o (fun q=>nc (q▸.head _)) e)) Pp got
theorem rQ{Q:Value->Shared->Prop}{xs ys zs:Array Value}(hn:xs.size<=sizeLine)(hh:A.handled=none)(D:Ap3 z TI TO i1 i2 i3 l1 l2 l3)(hy:ys.size=xs.size)(hz:zs.size=xs.size)
  (st:NC k1 z TI TO i1 i2 i3 l1 l2 l3 0 s.heap) (g1:IsSq k1 s.heap l1 xs) (g2:IsSq false s.heap l2 ys) (g3:IsSq false s.heap l3 zs)
  (hQ:∀h' G0 c',(∀c o,c∉[z,TO,i1,i2,i3]->s.heap.get? c=some o->h'.get? c=some o)->h'.get? s.heap.objs.size=some {cls:=.type "list",dict:=none,data:=.seq G0 c',slots:=#[]}->Got xs ys zs s.heap.objs.size [z,TO,i1,i2,i3] G0 xs.size h'->Q (.ref s.heap.objs.size) {s with heap:=h'}):
  wpAny (model prog w) A (call (.type "list") [.ref z]) Q E s:=by
 refine callType_codes (Q₁:=fun obj s₁=>obj=.ref s.heap.objs.size/\s₁={s with heap:=s.heap.push {cls:=.type "list",data:=.seq #[]}}) PySem.F.called_list (PySem.F.typeCall_list_1 _) PySem.F.entry_list_init
  (code_list_new _ ⟨rfl,rfl⟩) fun obj s₁ h₁=>?_
 obtain⟨rfl,rfl⟩:=h₁;have hS:(s.heap.push {cls:=.type "list",data:=.seq #[]}).get? s.heap.objs.size=some {cls:=.type "list",data:=.seq #[]}:=R5 _ rfl;refine⟨⟨_,hS,rfl⟩,PySem.F.args_list_init_2 _ _,?_⟩;show wpAny _ A.in1.in1 (do let old <-Builtin.List.listItems (.ref s.heap.objs.size);Builtin.List.listUpdate (.ref s.heap.objs.size) (fun _=>#[]);letGo old.toList.reverse;Builtin.List.listExtendWith (.ref s.heap.objs.size) (.ref z) .none) _ _ _;refine RO ?_;unfold Builtin.List.listItems;refine RO (SN hS rfl (RT ?_));show wpAny _ _ (updateSeq s.heap.objs.size (fun _=>#[]) >>= fun _=>letGo (#[]:Array Value).toList.reverse >>= fun _=>Builtin.List.listExtendWith (.ref s.heap.objs.size) (.ref z) .none) _ _ _;refine RO (U8 hS rfl ?_);have hS2:=Tp (Obj.mapSeq (fun _=>(#[]:Array Value))) hS rfl;have Km:∀b o,s.heap.get? b=some o->((s.heap.push {cls:=.type "list",data:=.seq #[]}).update s.heap.objs.size (Obj.mapSeq (fun _=>(#[]:Array Value)))).get? b=some o:=
  fun b o e=>(S8 _ _ (Ua (R0 e))).trans (RS _ e)
 have fr:∀c o,s.heap.get? c=some o->s.heap.objs.size≠c:=fun c o e=>Ua (R0 e)
 obtain⟨sz,Pz,⟨a,b,c,OF⟩,s1,s2,s3⟩:=st;obtain⟨o1,e1,_⟩:=s1.obj;obtain⟨o2,e2,_⟩:=s2.obj;obtain⟨o3,e3,_⟩:=s3.obj;have q1:∃o,s.heap.get? l1=some o:=by cases k1 <;> (obtain⟨o,e,_⟩:=g1;exact⟨o,e⟩)
 obtain⟨p1,q1⟩:=q1;obtain⟨p2,q2,_⟩:=id g2;obtain⟨p3,q3,_⟩:=id g3;have nS:s.heap.objs.size∉[z,TO,i1,i2,i3]:=by
  simp only[RV,Sn,Tz,ZK];exact⟨fr _ _ sz,fr _ _ OF,fr _ _ e1,fr _ _ e2,fr _ _ e3⟩
 refine RO (U0 ?_);refine z4 (A:=A.in1) hn hh D hy hz nS ⟨fr _ _ q1,fr _ _ q2,fr _ _ q3,fr _ _ Pz⟩ _ ⟨Km _ _ sz,Km _ _ Pz,⟨a,b,c,Km _ _ OF⟩,s1.at fun o e=>Km _ _ e,s2.at fun o e=>Km _ _ e,s3.at fun o e=>Km _ _ e⟩ (g1.at fun o e=>Km _ _ e) (g2.at fun o e=>Km _ _ e) (g3.at fun o e=>Km _ _ e) hS2 fun h' G0 c' kk gS got=>?_
 exact⟨rfl,hQ h' G0 c' (fun c o nc e=>kk c o (fun q=>by
  rcases RV.mp q with q|q
  ·exact fr _ _ e q.symm
  ·exact nc q) (Km c o e)) gS got⟩
end
theorem inv_many{X:Cx}{pr:List (Addr×Obj)}{σ:List (Option V)}{H H':Hp}{s:Shared}{h':Heap}{t':Nat}(I:Inv X pr σ H s)(kk:∀b o,s.heap.get? b=some o->h'.get? b=some o)(hH:∀c ob,H c=some ob->H' c=some ob)(OG:∀c ob,H' c=some ob->H c=some ob\/(s.heap.objs.size<=c/\ObjOk X.prog X.w H' h' c ob)):Inv X pr σ H' {s with heap:=h',toks:=t'}:=
 I.step (ch:=[]) (fun _ hb=>nomatch hb) (fun b o _ _ _ e _=>kk b o e) (fun b o _ _ _ e _=>⟨o.slots,kk b o e⟩) (fun b o _ e n=>by
  cases hb:H' b with
  |none=>rfl
  |some ob=>
   rcases OG b ob hb with h|h
   ·rw[n]at h;cases h
   ·exact absurd (R0 e) (Nat.not_lt.mpr h.1)) (fun b o _ e=>⟨o,kk b o e⟩) (fun b xs e=>hH _ _ e) (fun b o u e=>hH _ _ e) (fun b ps e=>⟨#[],by rw[hH _ _ e];simp⟩)
  (fun m hm=>by
   obtain⟨o,es,ep,ho,r⟩:=hm;exact⟨o,es,ep,kk _ _ ho,r⟩) (fun c ob e=>by
   rcases OG c ob e with h|h
   ·exact(I.hok c ob h).stay (fun d w' _ q=>kk d w' q) (fun d q=>hH _ _ q) fun d l q=>hH _ _ q
   ·exact h.2) I.bare
def x5(H:Hp):List Addr->List (V×V×V)->Hp
 |T::Ts,t::ts=>x5 (upd H T (.tup [t.1,t.2.1,t.2.2])) Ts ts
 |_,_=>H
theorem iE{c:Addr}:∀(Ts:List Addr) (ts:List (V×V×V)) (H:Hp),c∉Ts->x5 H Ts ts c=H c
 |[],_,_,_=>rfl
 |_::_,[],_,_=>rfl
 |T::Ts,t::ts,H,h=>by
  show x5 (upd H T _) Ts ts c=_;rw[iE Ts ts _ fun q=>h (.tail _ q),az fun q:c=T=>h (by rw[q];exact .head _)]
theorem qL:∀(Ts:List Addr) (ts:List (V×V×V)) (H:Hp),Ts.Nodup->∀(j:Nat) (T:Addr) (t:V×V×V),Ts[j]?=some T->ts[j]?=some t->x5 H Ts ts T=some (.tup [t.1,t.2.1,t.2.2])
 |[],_,_,_,j,T,t,h,_=>by simp at h
 |_::_,[],_,_,j,T,t,_,h=>by simp at h
 |T0::Ts,t0::ts,H,nd,0,T,t,h1,h2=>by
  simp at h1 h2;subst h1 h2;show x5 (upd H T0 _) Ts ts T0=_;rw[iE Ts ts _ (Sv.mp nd).1,aW]
 |T0::Ts,t0::ts,H,nd,j+1,T,t,h1,h2=>qL Ts ts _ (Sv.mp nd).2 j T t (by simpa using h1) (by simpa using h2)
section
variable{X:Cx}{p p2 pos HG:Pos}
noncomputable def tLZ(K:W.Frag)(k1:Bool)(ta:TA):TE:=fun σ H Q=>ta σ H fun vs H1=>∃a b c xs ys zs,vs=[.ref a,.ref b,.ref c]/\(if k1 then SqL K H1 a xs else SqT K H1 a xs)/\SqT K H1 b ys/\SqT K H1 c zs/\ys.length=xs.length/\zs.length=xs.length/\xs.length<=sizeLine/\
 ∀Ts L,Ts.length=xs.length->(L::Ts).Nodup->(∀T∈L::Ts,H1 T=none)->Q (.ref L) (upd (x5 H1 Ts (xs.zip (ys.zip zs))) L (.lst (Ts.map V.ref)))
theorem xg(k1:Bool){e1 e2 e3:Expr}{ta:TA}(hc:X.calm=true)(hg:Gl X "list")(hm:X.mg "list" = none)(Ow:Gl X "zip")(NI:X.mg "zip" = none)(ha:PA X [e1,e2,e3] ta)
  (he:starEach [.Call (.Name "zip" p2) [e1,e2,e3] [] HG] X.env=(false,eval (.Call (.Name "zip" p2) [e1,e2,e3] [] HG) X.env)::starEach [] X.env:=by rfl) (Ha:(backTo pos (starEach [] X.env)).any (·.1)=false:=by rfl)
  (PB:starEach [e1,e2,e3] X.env=(false,eval e1 X.env)::starEach [e2,e3] X.env:=by rfl) (M4:(backTo HG (starEach [e2,e3] X.env)).any (·.1)=false:=by rfl):
  PE X (.Call (.Name "list" p) [.Call (.Name "zip" p2) [e1,e2,e3] [] HG] [] pos) (tLZ X.K k1 ta):=by
 intro pr s σ H Q I h;refine TR (hZ I hg hm (by decide +kernel:bootBuiltins "list" = some (.type "list")) ?_ (by decide) (by decide));refine SY ?_ he Ha;rw[he];show wpAny _ _ (spliced ((false,eval (.Call (.Name "zip" p2) [e1,e2,e3] [] HG) X.env)::backTo pos (starEach [] X.env))) _ _ s;refine U5 ?_;refine TR (hZ I Ow NI (by decide +kernel:bootBuiltins "zip" = some (.type "zip")) ?_ (by decide) (by decide));refine SY (Gp (ha HG pr s σ H _ I h) fun us s1 ⟨vs,H1,I1,r1,a,b,c,xs,ys,zs,ev,Oe,Of,QD,ly,lz,hn,q⟩=>?_) PB M4;subst ev;obtain⟨u,w',w2,rfl,ra,rb,rc⟩:=BC r1;cases ra;cases rb;cases rc;obtain⟨us,v1,q1⟩:=gH I1 Oe;obtain⟨ws,v2,q2⟩:=gH (k:=false) I1 Of;obtain⟨ts,v3,q3⟩:=gH (k:=false) I1 QD;have z1:=v1.length;have z2:=v2.length;have z3:=v3.length;refine qq q1 q2 q3 fun h0 st k0=>?_
 refine VZ ?_;have lt:∀c o,s1.heap.get? c=some o->c<s1.heap.objs.size:=fun c o e=>R0 e
 have QX:∃o,s1.heap.get? a=some o:=by cases k1 <;> (obtain⟨o,e,_⟩:=q1;exact⟨o,e⟩)
 obtain⟨o1,QX⟩:=QX;obtain⟨o2,q2e,_⟩:=id q2;obtain⟨o3,q3e,_⟩:=id q3;have nl:∀{l:Addr}{o:Obj},s1.heap.get? l=some o->∀c∈[s1.heap.objs.size+5,s1.heap.objs.size+4,s1.heap.objs.size,s1.heap.objs.size+1,s1.heap.objs.size+2],l≠c:=fun e c hc=>by
  have:=lt _ _ e;simp only[RV,Sn,Tz]at hc;rcases hc with rfl|rfl|rfl|rfl|rfl <;> lia
 have D:Ap3 (s1.heap.objs.size+5) (s1.heap.objs.size+3) (s1.heap.objs.size+4) s1.heap.objs.size (s1.heap.objs.size+1) (s1.heap.objs.size+2) a b c:=by
  refine⟨?_,?_,?_,?_,?_,?_,?_,?_,?_,?_,?_,?_,?_,?_,?_,nl QX,nl q2e,nl q3e⟩ <;> lia
 refine rQ (xs:=us.toArray) (ys:=ws.toArray) (zs:=ts.toArray) (by simp only[RY];lia) (I1.ok.hd hc) D (by simp only[RY];lia) (by simp only[RY];lia) st (q1.at fun o e=>k0 _ _ e) (q2.at fun o e=>k0 _ _ e) (q3.at fun o e=>k0 _ _ e) fun h' G0 c' kk gS got=>?_
 obtain⟨ga,gb,gc⟩:=got;simp only[RY]at ga gb gc;have sz0:s1.heap.objs.size+5<h0.objs.size:=R0 st.1;have keep:∀b o,s1.heap.get? b=some o->h'.get? b=some o:=fun b o e=>kk b o (fun q=>nl e _ q rfl) (k0 _ _ e)
 have N0:∃Ts:List Addr,G0.toList=Ts.map Value.ref/\Ts.length=us.length:=by
  have:∀v∈G0.toList,∃T,v=Value.ref T:=fun v hv=>by
   obtain⟨j,hj,e⟩:=To hv;rw[Tb,ga]at hj;obtain⟨T,x,y,v',a1,_⟩:=gc j hj;rw[Su (by lia)]at a1;injection a1 with a1;exact⟨T,by rw[<-e,WT];exact a1⟩
  have key:∀l:List Value,(∀v∈l,∃T,v=Value.ref T)->∃Ts:List Addr,l=Ts.map Value.ref:=fun l=>by
   induction l with
   |nil=>exact fun _=>⟨[],rfl⟩
   |cons v l ih=>
    intro h;obtain⟨T,e⟩:=h v RQ;obtain⟨Ts,e2⟩:=ih fun v hv=>h v (RZ _ hv)
    exact⟨T::Ts,by rw[e,e2];rfl⟩
  obtain⟨Ts,e⟩:=key _ this;exact⟨Ts,e,by have:=Tq List.length e;rw[Tb,RU,ga]at this;exact this.symm⟩
 obtain⟨Ts,eT,lT⟩:=N0;have at':∀j,G0[j]?=Ts[j]?.map Value.ref:=fun j=>by rw[<-Vj,eT,Sm]
 have RA:Ts.Nodup:=by
  refine VW.mpr fun j k hj hk QF e=>?_
  have:=gb j k QF (by lia);rw[at',at',RP hj,RP hk,e]at this;exact this rfl
 have OH:∀T∈Ts,h0.objs.size<T:=fun T hT=>by
  obtain⟨j,hj,e⟩:=To hT;obtain⟨T',x,y,v',a1,_,a0,_⟩:=gc j (by lia);rw[at',RP hj,e]at a1;cases a1;exact a0
 have nd:(h0.objs.size::Ts).Nodup:=Sv.mpr ⟨fun q=>T6 _ (OH _ q),RA⟩;have fr:∀T∈h0.objs.size::Ts,s1.heap.objs.size<=T:=fun T hT=>by
  rcases RV.mp hT with rfl|hT
  ·lia
  ·have:=OH T hT;lia
 have Le:∀T∈h0.objs.size::Ts,H1 T=none:=fun T hT=>I1.hok.fresh (fr T hT)
 have hq:=q Ts h0.objs.size (by lia) nd Le;have zl:(xs.zip (ys.zip zs)).length=xs.length:=by rw[Ui,Ui];lia
 refine⟨.ref h0.objs.size,_,inv_many (s:=s1) (h':=h') (t':=s1.toks) I1 keep (fun c ob e=>?_) (fun c ob e=>?_),rfl,hq⟩
 ·rw[az (aH e (Le _ (.head _))),iE Ts _ _ (fun hT=>by rw[Le c (.tail _ hT)]at e;cases e)];exact e
 ·by_cases ec:c=h0.objs.size
  ·right;refine⟨fr c (ec▸.head _),?_⟩;subst ec;rw[aW]at e;cases e;refine⟨by rw[RU];lia,G0.toList,c',?_,by rw[Array.toArray_toList];exact gS⟩;rw[eT];refine PV.uF (by rw[RU,RU]) fun i x y hx hy=>?_
   rw[Sm]at hx hy;cases hT:Ts[i]? with
   |none=>rw[hT]at hx;cases hx
   |some T=>rw[hT]at hx hy;cases hx;cases hy;exact rfl
  ·rw[az ec]at e;by_cases hT:c∈Ts
   ·right;refine⟨fr c (.tail _ hT),?_⟩;obtain⟨j,hj,ej⟩:=To hT;have hjx:j<xs.length:=by lia
    have e1:Ts[j]?=some c:=by rw[RP hj,ej]
    have e2:(xs.zip (ys.zip zs))[j]?=some (xs[j],ys[j]'(by lia),zs[j]'(by lia)):=by
     rw[RP (by lia),Vs,Vs]
    rw[qL Ts _ _ RA j c _ e1 e2]at e;cases e;obtain⟨T',x,y,v',a1,_,_,b1,b2,b3,tr⟩:=gc j (by lia);rw[at',e1]at a1;cases a1;obtain⟨u1,Jn,Ky⟩:=v1.get (RP hjx);obtain⟨u2,JQ,La⟩:=v2.get (RP (by lia:j<ys.length));obtain⟨u3,hu3,ru3⟩:=v3.get (RP (by lia:j<zs.length));rw[Vk,Jn]at b1;rw[Vk,JQ]at b2;rw[Vk,hu3]at b3;cases b1;cases b2;cases b3;exact⟨by simp only[R6,UM];rw[Tc];decide,[x,y,v'],.cons Ky (.cons La (.cons ru3 .nil)),⟨_,tr,rfl,⟨0,rfl⟩,rfl⟩⟩
   ·left;rw[iE Ts _ _ hT]at e;exact e
end
end NX
namespace PV
open PySem PySem.Spec PyProof.Rows L2 NX
def oI(a b c:List D):List D:=((a.zip b).zip c).map fun z=>D.tup [z.1.1,z.1.2,z.2]
def mR(k1:Bool)(fs:FOs):FI:=fun env=>(fs env).bind fun p=>match p.1 with
 |[.val d1,.val (.tup b),.val (.tup c)]=>(fK k1 d1).bind fun a=>if a.length=b.length/\a.length=c.length then .ok (oI a b c,p.2) else .bad
 |_=>.bad
def kC(fs:FOs):FI:=Ho (mR true fs) (mR false fs)
section
variable{X:Cx}
theorem uL{K:W.Frag}{G:Hp}{k1:Bool}{p1 p2 p3:Addr}{xs ys zs:List V}{as bs cs:List D}(s1:if k1 then SqL K G p1 xs else SqT K G p1 xs)(s2:SqT K G p2 ys)(s3:SqT K G p3 zs)(r1:Reps K G as xs)(r2:Reps K G bs ys)(r3:Reps K G cs zs)(l2:as.length=bs.length)(l3:as.length=cs.length):
  Walk K G (Qv K k1 p1 p2 p3) (oI as bs cs):=by
 intro G' H' es vs fp gg rel i;have g1:=g6 (gg.trans rel.gh) s1;have g2:=bc (gg.trans rel.gh) s2;have g3:=bc (gg.trans rel.gh) s3;refine⟨fun d hd=>?_,fun e=>⟨xs,g1,?_⟩⟩
 ·unfold oI at hd;rw[Sm]at hd;cases hz:((as.zip bs).zip cs)[i]? with
  |none=>rw[hz]at hd;cases hd
  |some z=>
   rw[hz]at hd;cases hd;obtain⟨h12,h3⟩:=Up.mp hz;obtain⟨h1,h2⟩:=Up.mp h12;obtain⟨x,hx,rx⟩:=r1.get h1;obtain⟨y,hy,ry⟩:=r2.get h2;obtain⟨t,ht,rt⟩:=r3.get h3;refine⟨⟨xs,ys,zs,x,y,t,g1,g2,g3,hx,hy,ht⟩,fun v H2 ⟨T,hT,ev,hh⟩=>?_⟩;have e2:=hh xs ys zs x y t g1 g2 g3 hx hy ht;subst e2;obtain⟨F3,F8⟩:=rel.newF (u:=.tup [x,y,t]) hT;refine⟨_,?_,F3,F8⟩;rw[Rep];exact⟨T,[x,y,t],ev,aW,.cons (Rep.mono (gg.trans F8.gg) rx) (.cons (Rep.mono (gg.trans F8.gg) ry) (.one (Rep.mono (gg.trans F8.gg) rt)))⟩
 ·unfold oI at e;rw[RU,Ui,Ui]at e;rw[r1.length];lia
theorem uM(k1:Bool){JY:List Expr}{kt:Nat}{pt:Pos}{e1 e2 e3:Expr}{fs:FOs}{p pos:Pos}(hg:Gl X "zip")(hm:X.mg "zip" = none)(ha:KL X [e1,e2,e3] fs)(he:starEach [e1,e2,e3] X.env=(false,eval e1 X.env)::starEach [e2,e3] X.env:=by rfl)(Ha:(backTo pos (starEach [e2,e3] X.env)).any (·.1)=false:=by rfl):
  QI X (.Tuple JY kt pt) (.Call (.Name "zip" p) [e1,e2,e3] [] pos) (mR k1 fs):=
 ik (zj k1 hg hm ha he Ha) fun σ H R Gd=>by
  obtain⟨G,env,fp,ds,env',rel,e,k⟩:=Gd;obtain⟨⟨o,FZ⟩,e1,e⟩:=ai e;dsimp only at e;split at e
  ·rename_i d1 b c;obtain⟨a,ea,e⟩:=ai e;split at e
   ·rename_i hl;cases e;refine⟨G,env,fp,_,_,rel,e1,fun vs H1 G1 Gn Ge F4 HB=>?_⟩;obtain⟨y,ys,ev,v1,z,zs,Lw,v2,t,ts,OC,v3,e3⟩:=HB;have e3:ts=[]:=e3;subst e3;obtain⟨p1,NG,Oo,q1,r1⟩:=jQ ea v1;obtain⟨p2,K5,Oq,q2,r2⟩:=bh v2;obtain⟨p3,PD,QY,q3,r3⟩:=bh v3;subst Oo Oq QY OC Lw;exact⟨p1,p2,p3,NG,K5,PD,ev,g6 F4.gh q1,bc F4.gh q2,bc F4.gh q3,k _ H1 G1 Gn Ge F4 (uL q1 q2 q3 r1 r2 r3 hl.1 hl.2)⟩
   ·cases e
  ·cases e
theorem qM{JY:List Expr}{kt:Nat}{pt:Pos}{e1 e2 e3:Expr}{fs:FOs}{p pos:Pos}(hg:Gl X "zip")(hm:X.mg "zip" = none)(ha:KL X [e1,e2,e3] fs)(he:starEach [e1,e2,e3] X.env=(false,eval e1 X.env)::starEach [e2,e3] X.env:=by rfl)(Ha:(backTo pos (starEach [e2,e3] X.env)).any (·.1)=false:=by rfl):
  QI X (.Tuple JY kt pt) (.Call (.Name "zip" p) [e1,e2,e3] [] pos) (kC fs):=rK (uM true hg hm ha he Ha) (uM false hg hm ha he Ha)
end
noncomputable def eGet(fa fb fc:FO):FX:=fun env=>(fa env).bind fun p=>(der p.2 p.1).bind fun d0=>match d0 with
 | .dct _ _ _=>(fb p.2).bind fun q=>(fc q.2).bind fun t=>(der t.2 p.1).bind fun da=>(der t.2 q.1).bind fun db=>(der t.2 t.1).bind fun dc=>match da,dc with
  | .dct tk ks vs,.tup l=>if eY tk db then .ok ((.f,(getD ks vs db).getD (.tup l)),t.2) else .bad
  |_,_=>.bad
 |_=>.bad
section
variable{X:Cx}{apos Gb:Pos}
theorem B9{o ke ve:Expr}{fa fb fc:FO}(hu:X.A.units+1<cLine)(ho:QO X o fa)(hk:QO X ke fb)(hv:QO X ve fc)(m:M2 X o "get" apos ke ve Gb):
  QE X (.Call (.Attribute o "get" apos) [ke,ve] [] Gb) (eGet fa fb fc):=bo (wI hu ho hk hv m) fun σ H Q Gd=>by
 obtain⟨G,env,fp,r,env',rel,e,k⟩:=Gd;unfold eGet at e;obtain⟨⟨oa,e1⟩,ha,e⟩:=ai e;obtain⟨d0,hd0,e⟩:=ai e;dsimp only at e;split at e
 ·rename_i tk0 ks0 vs0;obtain⟨⟨ob,e2⟩,hb,e⟩:=ai e;obtain⟨⟨oc,e3⟩,hc,e⟩:=ai e;obtain⟨da,MX,e⟩:=ai e;obtain⟨db,IA,e⟩:=ai e;obtain⟨dc,QH,e⟩:=ai e;cases da with
  |dct tk ks vs=>
   cases dc with
   |tup l=>
    dsimp only at e;split at e
    ·rename_i J0;cases e;refine⟨G,env,fp,oa,e1,rel,ha,fun x H1 G1 Gn Ge F4 HB=>?_⟩;obtain⟨p,xs,u,ev,rd,dd,rs⟩:=F4.vw HB hd0;subst ev;have isd:IsD H1 p:=by
      cases tk0 with
      |true=>obtain⟨F5,eo,_⟩:=dd;subst eo;exact .inr ⟨F5,rd⟩
      |false=>obtain⟨F5,eo,_⟩:=dd;subst eo;exact .inl ⟨F5,rd⟩
     refine⟨p,rfl,isd,G1,e1,Gn,ob,e2,F4,hb,fun y H2 G2 GS F8 F3 KN=>⟨G2,e2,GS,oc,_,F3,hc,fun z H3 G3 IS GA Gs ok3=>?_⟩⟩;obtain⟨p',Hz,u',HF,rd',Mw,HX⟩:=Gs.vw ((HB.mono F8.gg).mono GA.gg) MX;cases HF;have vb:=Gs.vw (KN.mono GA.gg) IA;have vc:Rep X.K G3 (.tup l) z:=Gs.vw ok3 QH;have vb':Rep X.K G3 db y:=by
      cases db with
      |lst l=>cases tk <;> simp[eY,eU,kh]at J0
      |dct _ _ _=>cases tk <;> simp[eY,eU,kh]at J0
      |_=>exact vb
     obtain⟨ov,g,h1,h2⟩:=uE Gs.gh rd' Mw HX J0 vb';refine⟨ov,g,?_⟩;cases hgd:getD ks vs db with
     |some d=>
      obtain⟨v,ho,rv⟩:=h2 d hgd;subst ho;rw[hgd]at k;exact k _ H3 G3 IS (Ge.trans (F8.trans GA)) (Gs.push rv)
     |none=>
      rw[hgd]at h1 k;cases ov with
      |some v=>cases h1
      |none=>exact k _ H3 G3 IS (Ge.trans (F8.trans GA)) (Gs.push vc)
    ·cases e
   |_=>cases e
  |_=>cases e
 ·cases e
end
noncomputable def eZL1(k1:Bool)(fs:FOs):FX:=fun env=>(fs env).bind fun p=>match p.1 with
 |[.val d1,.val (.tup b),.val (.tup c)]=>(fK k1 d1).bind fun a=>if a.length=b.length/\a.length=c.length/\a.length<=sizeLine then .ok ((.l .f,.lst (oI a b c)),p.2) else .bad
 |_=>.bad
section
variable{X:Cx}{p p2 pos HG:Pos}
theorem uN{K:W.Frag}:∀(as bs cs:List D) (xs ys zs:List V) (Ts:List Addr) {G H:Hp}{es:PV.Env}{vs:L2.St}{fp:List Addr},Rel K G H es vs fp->Reps K G as xs->Reps K G bs ys->Reps K G cs zs->as.length=bs.length->as.length=cs.length->Ts.length=xs.length->Ts.Nodup->(∀T∈Ts,H T=none)->
  ∃G2,Rel K G2 (x5 H Ts (xs.zip (ys.zip zs))) es vs fp/\Step G H fp G2 (x5 H Ts (xs.zip (ys.zip zs))) fp/\Reps K G2 (oI as bs cs) (Ts.map V.ref)
 |[],bs,cs,xs,ys,zs,Ts,G,H,es,vs,fp,rel,r1,r2,r3,l1,l2,l3,nd,hn=>by
  rw[Reps]at r1;subst r1;obtain rfl:=S7 l3;exact⟨G,rel,.refl,.nil⟩
 |a::as,[],_,_,_,_,_,_,_,_,_,_,_,_,_,_,l1,_,_,_,_=>by cases l1
 |a::as,b::bs,[],_,_,_,_,_,_,_,_,_,_,_,_,_,_,l2,_,_,_=>by cases l2
 |a::as,b::bs,c::cs,xs,ys,zs,Ts,G,H,es,vs,fp,rel,r1,r2,r3,l1,l2,l3,nd,hn=>by
  rw[Reps]at r1 r2 r3;obtain⟨x,xs,rfl,rx,r1⟩:=r1;obtain⟨y,ys,rfl,ry,r2⟩:=r2;obtain⟨z,zs,rfl,rz,r3⟩:=r3;cases Ts with
  |nil=>cases l3
  |cons T Ts=>
   obtain⟨F3,F8⟩:=rel.newF (u:=.tup [x,y,z]) (hn T RQ);obtain⟨G3,Gs,GA,rs⟩:=uN as bs cs xs ys zs Ts F3 (r1.mono F8.gg) (r2.mono F8.gg) (r3.mono F8.gg) (by simpa using l1) (by simpa using l2) (by simpa using l3) (Sv.mp nd).2 fun T' RB=>by
    rw[az fun q:T'=T=>(Sv.mp nd).1 (by rw[<-q];exact RB)];exact hn T' (RZ _ RB)
   refine⟨G3,Gs,F8.trans GA,?_⟩;show Reps K G3 (D.tup [a,b,c]::oI as bs cs) (V.ref T::Ts.map V.ref);rw[Reps];refine⟨_,_,rfl,?_,rs⟩;rw[Rep];exact⟨T,[x,y,z],rfl,GA.gg _ _ aW,.cons (Rep.mono (F8.gg.trans GA.gg) rx) (.cons (Rep.mono (F8.gg.trans GA.gg) ry) (.one (Rep.mono (F8.gg.trans GA.gg) rz)))⟩
theorem uO(k1:Bool){e1 e2 e3:Expr}{fs:FOs}(hc:X.calm=true)(hg:Gl X "list")(hm:X.mg "list" = none)(Ow:Gl X "zip")(NI:X.mg "zip" = none)(ha:KL X [e1,e2,e3] fs)
  (he:starEach [.Call (.Name "zip" p2) [e1,e2,e3] [] HG] X.env=(false,eval (.Call (.Name "zip" p2) [e1,e2,e3] [] HG) X.env)::starEach [] X.env:=by rfl) (Ha:(backTo pos (starEach [] X.env)).any (·.1)=false:=by rfl)
  (PB:starEach [e1,e2,e3] X.env=(false,eval e1 X.env)::starEach [e2,e3] X.env:=by rfl) (M4:(backTo HG (starEach [e2,e3] X.env)).any (·.1)=false:=by rfl):
  QE X (.Call (.Name "list" p) [.Call (.Name "zip" p2) [e1,e2,e3] [] HG] [] pos) (eZL1 k1 fs):=
 bo (xg k1 hc hg hm Ow NI ha he Ha PB M4) fun σ H Q Gd=>by
  obtain⟨G,env,fp,r,env',rel,e,k⟩:=Gd;obtain⟨⟨o,FZ⟩,e1,e⟩:=ai e;dsimp only at e;split at e
  ·rename_i d1 b c;obtain⟨a,ea,e⟩:=ai e;split at e
   ·rename_i hl;cases e;refine⟨G,env,fp,_,_,rel,e1,fun vs H1 G1 Gn Ge F4 HB=>?_⟩;obtain⟨y,ys,ev,v1,z,zs,Lw,v2,t,ts,OC,v3,e3⟩:=HB;have e3:ts=[]:=e3;subst e3;obtain⟨p1,NG,Oo,q1,r1⟩:=jQ ea v1;obtain⟨p2,K5,Oq,q2,r2⟩:=bh v2;obtain⟨p3,PD,QY,q3,r3⟩:=bh v3;subst Oo Oq QY OC Lw;have l1:=r1.length;have l2:=r2.length;have l3:=r3.length;refine⟨p1,p2,p3,NG,K5,PD,ev,g6 F4.gh q1,bc F4.gh q2,bc F4.gh q3,by lia,by lia,by lia,fun Ts L lT nd hn=>?_⟩;obtain⟨nL,nT⟩:=Sv.mp nd;obtain⟨G2,F3,F8,rs⟩:=uN a b c NG K5 PD Ts F4 r1 r2 r3 hl.1 hl.2.1 lT nT fun T hT=>hn T (RZ _ hT)
    obtain⟨Gs,GA⟩:=F3.newL (p:=L) (by rw[iE Ts _ _ nL];exact hn L RQ) rs;exact k _ _ G2 _ (Ge.trans (F8.trans GA)) Gs
   ·cases e
  ·cases e
end
end PV
namespace LW
open PySem L2 NX PV
abbrev rR(f:FX):FI:=Ho (BI f) (Ho (j6 f) (j7 f))
def kF:FS:=(dJ (j5 Lx Lx (aj (ay (.str [97]))) (aq 0) (aj (ay (.str [122])))))
def bP:List D->Res R:=fBody 1 0 kF
def kH:FS:=(dJ (j5 Lx Lx (aj (ay (.str [48]))) (aq 0) (aj (ay (.str [57])))))
def bY:List D->Res R:=fBody 1 0 kH
noncomputable def oJ:FS:=(sSeq (Hb (Gz (cx bP (af (aq 0) ar)))
  (dJ (ay (.str [108,101,116,116,101,114])))
  bV)
  (sSeq (Hb (Gz (cx bY (af (aq 0) ar)))
  (dJ (ay (.str [102,105,103,117,114,101])))
  bV)
  (sSeq (Hb (Gz (bW HR (aq 0) (aj (ay (.str [32])))))
  (dJ (ay (.str [98,108,97,110,107])))
  bV)
  (sSeq (Hb (Gz (bW HR (aq 0) (aj (ay (.str [59])))))
  (dJ (ay (.str [115,101,109,105,99,111,108,111,110])))
  bV)
  dP))))
def cK:List D->Res R:=fBody 1 0 oJ
def dE:FS:=(cp 3 (aD addD (aq 3) (aj (ay (.int 1)))))
def gP:FS:=(dQ (xR (Gz (aD Kn (aq 3) (aj (aZ iz (af (aq 0) ar))))) (Gz (bW HR (aj (cx cK (af (aj (aD Gq (aq 0) (aq 3))) ar))) (aq 2))))
  dE 100000)
def fR:FS:=(dJ (iW 3))
def fU:FS:=(sSeq (cp 3 (aD addD (aq 1) (aj (ay (.int 1)))))
  (sSeq (Hb (Gz (bW HR (aq 2) (aj (ay (.str [115,101,109,105,99,111,108,111,110])))))
  (dJ (iW 3))
  bV)
  (sSeq gP
  fR)))
def bB:List D->Res R:=fBody 3 1 fU
noncomputable def fV:FS:=(sSeq (Hb (Gz (aD JZ (aj (aZ iz (af (aq 0) ar))) (aj (ay (.int 60)))))
  dP
  bV)
  (Hb (xR (Gz (aD JZ (aj (aZ iz (af (aq 0) ar))) (aj (ay (.int 1))))) (Gz (bW HR (aj (aD Gq (aq 0) (aj (ay (.int 0))))) (aj (ay (.str [48]))))))
  dP
  bV))
def bI:List D->Res R:=fBody 1 0 fV
noncomputable def gF:FS:=(sSeq (cp 3 (cx cK (af (aj (aD Gq (aq 0) (aq 2))) ar)))
  (sSeq (cp 4 (cx bB (af (aq 0) (af (aq 2) (af (aq 3) ar)))))
  (sSeq (cp 5 (lP (aq 0) (d7 (aJ 2)) (d7 (aJ 4))))
  (sSeq (Hb (Gz (bW HR (aq 3) (aj (ay (.str [102,105,103,117,114,101])))))
  (fJ (cx bI (af (aq 5) ar)))
  bV)
  (sSeq (Hb (Gz (bW IT (aq 3) (aj (ay (.str [98,108,97,110,107])))))
  (fJ (uq 1 (aJ 5)))
  bV)
  (cp 2 (aJ 4)))))))
def oK:FS:=(dQ (Gz (aD Kn (aq 2) (aj (aZ iz (af (aq 0) ar)))))
  gF 100000)
def lQ:FS:=(dJ (iW 1))
def uP:FS:=(sSeq (Hb (qz (Gz (Lb "str" (aq 0))))
  dP
  bV)
  (sSeq (cp 1 (jm bH))
  (sSeq (cp 2 (ay (.int 0)))
  (sSeq oK
  lQ))))
def i4:List D->Res R:=fBody 1 5 uP
noncomputable def oM:FS:=(sSeq (Hb (KO (Gz (bW HR (aq 0) (aj (ay (.str [109,111,118,101,115]))))) (qz (Gz (j5 Lx Lx (aj (ay (.int 1))) (aj (aZ iz (af (aq 0) ar))) (aj (ay (.int 8)))))))
  (dJ (ay (.bl false)))
  bV)
  (dJ (aZ Az (af (aj (gI (Ho (mN 0) (Ho (j6 (aJ 0)) (j7 (aJ 0)))) [none] (au 0) il (cx bP (af (aq 0) ar)))) ar))))
def eE:List D->Res R:=fBody 1 0 oM
noncomputable def pM:FS:=(dJ (aZ Az (af (aj (gI (Ho (lA true true (af (aj (aJ 0)) (af (aj (lP (aq 0) (d7 (ay (.int 1))) eQ)) ar))) (Ho (lA true false (af (aj (aJ 0)) (af (aj (lP (aq 0) (d7 (ay (.int 1))) eQ)) ar))) (Ho (lA false true (af (aj (aJ 0)) (af (aj (lP (aq 0) (d7 (ay (.int 1))) eQ)) ar))) (lA false false (af (aj (aJ 0)) (af (aj (lP (aq 0) (d7 (ay (.int 1))) eQ)) ar)))))) [none,none] (iQ 2 (aA (au 0) (aA (au 1) cV))) il (aD Kn (aq 0) (aq 1)))) ar)))
def fW:List D->Res R:=fBody 1 0 pM
def dk:FS:=(Hb (Gz (bW HR (aq 2) (aj (ay (.str [59])))))
  (fJ (xa 1 (jm bH)))
  (fJ (rP 1 (-1) 2)))
def jt:FS:=(lj (rR (cx i4 (af (aq 0) ar))) (au 2)
  dk)
def iG:FS:=(dJ (iW 1))
def lR:FS:=(sSeq (cp 1 (zV (jm bH)))
  (sSeq jt
  iG))
def dq:List D->Res R:=fBody 1 2 lR
def kI:FS:=(sSeq (Hb (qz (Gz (cx bY (af (aj (aD Gq (aq 0) (aj (ay (.int 0))))) ar))))
  dP
  bV)
  (dJ (aZ B5 (af (aq 0) ar))))
def bZ:List D->Res R:=fBody 1 0 kI
def oN:FS:=(sSeq (Hb (qz (Gz (cx eE (af (aq 0) ar))))
  dP
  bV)
  (dJ (iW 0)))
def cu:List D->Res R:=fBody 1 0 oN
noncomputable def lS:FS:=(sSeq (Hb (Gz (bW IT (aj (lP (aq 0) eQ (d7 (ay (.int 1))))) (aj (jm (aF (ay (.str [109,111,118,101,115])) bH)))))
  dP
  bV)
  (sSeq (Hb (Gz (aD JZ (aj (aD zu (aj (aZ iz (af (aq 0) ar))) (aj (ay (.int 1))))) (aj (ay (.int 5)))))
  dP
  bV)
  (dJ (gI (rR (lP (aq 0) (d7 (ay (.int 1))) eQ)) [none] (au 0) il (cx cu (af (aq 0) ar))))))
def dr:List D->Res R:=fBody 1 0 lS
def ju:FS:=(dJ (wY oG (aj (ay (.str [59,32]))) (af (aj (aD addD (aj (jm (aF (wY oG (aj (ay (.str [32]))) (af (aj (aD addD (aj (jm (aF (ay (.str [109,111,118,101,115])) bH))) (aj (aZ ot (af (aq 0) ar))))) ar)) bH))) (aq 1))) ar)))
def cB:List D->Res R:=fBody 2 0 ju
noncomputable def df:FS:=(fJ (uq 1 (pC (aF (cx cu (af (aj (aD Gq (aq 0) (aq 2))) ar)) (aF (cx bZ (af (aj (aD Gq (aq 0) (aj (aD addD (aq 2) (aj (ay (.int 1))))))) ar)) (aF (cx bZ (af (aj (aD Gq (aq 0) (aj (aD addD (aq 2) (aj (ay (.int 2))))))) ar)) bH))))))
def kJ:FS:=(lj (mO (af (aj (ay (.int 1))) (af (aj (aZ iz (af (aq 0) ar))) (af (aj (ay (.int 3))) ar)))) (au 2)
  df)
def jv:FS:=(dJ (pC (aF (cx bZ (af (aj (aD Gq (aq 0) (aj (ay (.int 0))))) ar)) (aF (aJ 1) bH))))
def oO:FS:=(sSeq (Hb (Gz (bW IT (aj (aD gL (aj (aZ iz (af (aq 0) ar))) (aj (ay (.int 3))))) (aj (ay (.int 1)))))
  dP
  bV)
  (sSeq (cp 1 (jm bH))
  (sSeq kJ
  jv)))
def cM:List D->Res R:=fBody 1 2 oO
def iH:FS:=(Hb (qz (Gz (cx fW (af (aq 0) ar))))
  dP
  bV)
def b7:List D->Res R:=fBody 1 0 iH
def bJ:FS:=(sSeq (Hb (Gz (bW AB (aq 4) (aq 0)))
  dP
  bV)
  (sSeq (Hb (Gz (bW OD (aq 4) (aq 3)))
  dP
  bV)
  (Dl 3 (aJ 4) (pC (aF (aJ 5) (aF (aJ 6) bH))))))
def gQ:FS:=(lj (rR (aJ 2)) (iQ 3 (aA (au 4) (aA (au 5) (aA (au 6) cV))))
  bJ)
noncomputable def fX:FS:=(sSeq (cp 7 (gI (Ho (mN 0) (Ho (j6 (aJ 0)) (j7 (aJ 0)))) [none,some 3] (au 0) il (eGet (aq 1) (aq 0) (aj (pC (aF (ay (.int 0)) (aF (ay (.int 0)) bH)))))))
  (dJ (pC (aF (aJ 1) (aF (aZ gM (af (aj (gI (Ho (mN 7) (Ho (j6 (aJ 7)) (j7 (aJ 7)))) [none,none] (iQ 2 (aA (au 0) (aA (au 1) cV))) il (aJ 0))) ar)) (aF (aZ gM (af (aj (gI (Ho (mN 7) (Ho (j6 (aJ 7)) (j7 (aJ 7)))) [none,none] (iQ 2 (aA (au 0) (aA (au 1) cV))) il (aJ 1))) ar)) bH))))))
def jw:FS:=(sSeq (cp 3 (eNewD false))
  (sSeq gQ
  fX))
def bC:List D->Res R:=fBody 3 5 jw
noncomputable def lU:FS:=(sSeq (cp 1 (D7 (cx dq (af (aq 0) ar))))
  (sSeq (cp 2 (aZ gM (af (aj (aZ fQ (af (aj (cx dr (af (aj (aD Gq (aq 1) (aj (ay (.int 0))))) ar))) ar))) ar)))
  (sSeq (Hb (Gz (aD JZ (aj (aD zu (aj (aZ iz (af (aq 1) ar))) (aj (ay (.int 1))))) (aj (ay (.int 200)))))
  dP
  bV)
  (sSeq (cp 3 (gI (rR (lP (aq 1) (d7 (ay (.int 1))) eQ)) [none] (au 0) il (cx cM (af (aq 0) ar))))
  (sSeq (fJ (cx b7 (af (aq 2) ar)))
  (dJ (zP (aJ 2) (gI (Ho (mN 3) (Ho (j6 (aJ 3)) (j7 (aJ 3)))) [none,none,some 2] (iQ 2 (aA (au 0) (aA (au 1) cV))) il (cx bC (af (aq 2) (af (aq 0) (af (aq 1) ar))))))))))))
def cC:List D->Res R:=fBody 1 3 lU
def bK:FS:=(Hb (KO (Gz (aD JZ (aq 4) (aj (ay (.int 0))))) (Gz (aD JZ (aq 5) (aj (ay (.int 0))))))
  (fJ (uq 2 (zT (aF (B6 (aJ 3)) (aF (ay (.str [32])) (aF (B6 (aJ 4)) (aF (ay (.str [32])) (aF (B6 (aJ 5)) bH))))))))
  bV)
def gR:FS:=(lj (kC (af (aj (aJ 0)) (af (aj (aD Gq (aq 1) (aj (ay (.int 1))))) (af (aj (aD Gq (aq 1) (aj (ay (.int 2))))) ar)))) (iQ 3 (aA (au 3) (aA (au 4) (aA (au 5) cV))))
  bK)
def fY:FS:=(dJ (wY oG (aj (ay (.str [32]))) (af (aq 2) ar)))
def jx:FS:=(sSeq (cp 2 (jm (aF (aZ uJ (af (aj (aD Gq (aq 1) (aj (ay (.int 0))))) ar)) bH)))
  (sSeq gR
  fY))
def bN:List D->Res R:=fBody 2 4 jx
def lV:FS:=(dJ (cx cB (af (aj (aD Gq (aq 0) (aj (ay (.int 0))))) (af (aj (gI (rR (aD Gq (aq 0) (aj (ay (.int 1))))) [none,some 0] (au 0) il (cx bN (af (aj (aD Gq (aq 1) (aj (ay (.int 0))))) (af (aq 0) ar))))) ar))))
def cD:List D->Res R:=fBody 1 0 lV
def gU:FS:=(sSeq (Hb (Gz (aD Kn (aq 1) (aj (aZ iz (af (aq 0) ar)))))
  (dJ (aD Gq (aq 0) (aq 1)))
  bV)
  (dJ (ay (.int 0))))
def ax:List D->Res R:=fBody 2 0 gU
noncomputable def jy:FS:=(sSeq (cp 3 (ay (.str [97,98,99,100,101,102,103,104,105,106,107,108,109,110,111,112,113,114,115,116,117,118,119,120,121,122])))
  (sSeq (cp 4 (aD gL (aq 0) (aj (aD powD (aj (ay (.int 10))) (aj (ay (.int 20)))))))
  (sSeq (cp 5 (ay (.str [])))
  (sSeq (lj (cm (aj (aD addD (aj (ay (.int 1))) (aj (aD gL (aq 4) (aj (ay (.int 8)))))))) (au 6)
  (cp 5 (aD addD (aq 5) (aj (aD Gq (aq 3) (aj (aD gL (aj (aD addD (aj (aD j9 (aq 4) (aj (aD addD (aq 6) (aj (ay (.int 1))))))) (aj (aD rM (aj (aD rM (aj (ay (.int 3))) (aq 6))) (aq 6))))) (aj (ay (.int 26))))))))))
  (sSeq (cp 7 (aD gL (aq 1) (aj (aZ iz (af (aq 5) ar)))))
  (sSeq (cp 8 (wY pI (aq 3) (af (aj (aD Gq (aq 5) (aq 7))) ar)))
  (sSeq (cp 9 (jm bH))
  (sSeq (lj (cm (aq 2)) (au 6)
  (sSeq (cp 10 (aD addD (aj (aD addD (aj (lP (aq 5) eQ (d7 (aJ 7)))) (aj (aD Gq (aq 3) (aj (aD gL (aj (aD addD (aq 8) (aq 6))) (aj (ay (.int 26))))))))) (aj (lP (aq 5) (d7 (aD addD (aq 7) (aj (ay (.int 1))))) eQ))))
  (fJ (uq 9 (aD Gq (aj (jm (aF (aJ 10) (aF (ay (.str [109,111,118,101,115,97])) bH)))) (aj (aZ xV (af (aj (bW HR (aq 10) (aj (ay (.str [109,111,118,101,115]))))) ar))))))))
  (dJ (aZ fQ (af (aq 9) ar)))))))))))
def cE:List D->Res R:=fBody 3 8 jy
noncomputable def iI:FS:=(sSeq (cp 0 (aD gL (aj (aD rM (aj (aD j9 (aq 0) (aj (aD addD (aj (aD rM (aj (ay (.int 7))) (aq 1))) (aj (ay (.int 1))))))) (aj (ay (.int 48271))))) (aj (aD powD (aj (ay (.int 10))) (aj (ay (.int 61)))))))
  (sSeq (Hb (Gz (bW HR (aj (aD gL (aq 0) (aj (ay (.int 4))))) (aj (ay (.int 0)))))
  (dJ (aD gL (aj (aD j9 (aq 0) (aj (ay (.int 4))))) (aj (aD powD (aj (ay (.int 10))) (aj (ay (.int 60)))))))
  bV)
  (dJ (aD Gq (aj (jm (aF (ay (.int 0)) (aF (aD gL (aj (aD j9 (aq 0) (aj (ay (.int 4))))) (aj (ay (.int 13)))) bH)))) (aj (aD gL (aq 0) (aj (ay (.int 2)))))))))
def aK:List D->Res R:=fBody 2 0 iI
noncomputable def bx:FS:=(sSeq (cp 4 (gI (cm (aj (ay (.int 3)))) [none,some 0,some 3] (au 0) il (aD gL (aj (cx ax (af (aq 1) (af (aj (aD addD (aq 2) (aq 0))) ar)))) (aj (aD powD (aj (ay (.int 10))) (aj (ay (.int 64))))))))
  (sSeq (cp 5 (gI (cm (aq 1)) [none,some 4] (au 0) il (cx aK (af (aj (aD Gq (aq 1) (aj (ay (.int 1))))) (af (aq 0) ar)))))
  (sSeq (cp 6 (gI (cm (aq 1)) [none,some 4] (au 0) il (cx aK (af (aj (aD Gq (aq 1) (aj (ay (.int 2))))) (af (aq 0) ar)))))
  (fJ (uq 2 (pC (aF (cx aK (af (aj (aD Gq (aq 4) (aj (ay (.int 0))))) (af (aj (ay (.int 1))) ar))) (aF (aZ gM (af (aq 5) ar)) (aF (aZ gM (af (aq 6) ar)) bH)))))))))
def fZ:FS:=(lj (mO (af (aj (ay (.int 5))) (af (aj (aZ B1 (af (aj (aZ iz (af (aq 0) ar))) (af (aj (ay (.int 62))) ar)))) (af (aj (ay (.int 3))) ar)))) (au 3)
  bx)
def fC:FS:=(dJ (iW 2))
def iJ:FS:=(sSeq (cp 2 (jm bH))
  (sSeq fZ
  fC))
def b8:List D->Res R:=fBody 2 5 iJ
noncomputable def cN:FS:=(sSeq (cp 3 (aD gL (aj (aD addD (aj (aD rM (aq 3) (aj (ay (.int 48271))))) (aj (ay (.int 11))))) (aj (ay (.int 2147483647)))))
  (fJ (Dm 2 (aD gL (aj (aD j9 (aq 3) (aj (ay (.int 7))))) (aj (aD addD (aj (aZ iz (af (aq 2) ar))) (aj (ay (.int 1)))))) (aJ 4))))
def gW:FS:=(lj (rR (aJ 0)) (au 4)
  cN)
def f6:FS:=(dJ (iW 2))
def jz:FS:=(sSeq (cp 2 (jm bH))
  (sSeq (cp 3 (aD addD (aj (aD gL (aq 1) (aj (ay (.int 2147483629))))) (aj (ay (.int 1)))))
  (sSeq gW
  f6)))
def b5:List D->Res R:=fBody 2 3 jz
noncomputable def cO:FS:=(Hb (KO (Gz (aD JZ (aq 8) (aj (ay (.int 0))))) (KO (Gz (aD JZ (aq 9) (aj (ay (.int 0))))) (Gz (bW HR (aj (aD gL (aq 2) (aj (ay (.int 3))))) (aj (ay (.int 1)))))))
  (cp 3 (aD addD (aq 3) (aj (jm (aF (aJ 7) (aF (aZ uJ (af (aq 8) ar)) (aF (aZ uJ (af (aq 9) ar)) bH)))))))
  bV)
def jA:FS:=(lj (rR (cx b5 (af (aj (eZL1 true (af (aj (aJ 0)) (af (aj (aJ 5)) (af (aj (aJ 6)) ar))))) (af (aj (aD addD (aq 2) (aj (aD gL (aq 4) (aj (ay (.int 1000))))))) ar)))) (iQ 3 (aA (au 7) (aA (au 8) (aA (au 9) cV))))
  cO)
def cP:FS:=(sSeq (cp 3 (aD addD (aq 3) (aj (jm (aF (ay (.str [59])) (aF (aZ uJ (af (aq 4) ar)) bH))))))
  jA)
def jB:FS:=(lj (rR (aJ 1)) (iQ 3 (aA (au 4) (aA (au 5) (aA (au 6) cV))))
  cP)
def iK:FS:=(dJ (iW 3))
def lW:FS:=(sSeq (cp 3 (aD addD (aj (jm (aF (ay (.str [109,111,118,101,115])) bH))) (aj (cx b5 (af (aq 0) (af (aq 2) ar))))))
  (sSeq jB
  iK))
def dt:List D->Res R:=fBody 3 7 lW
noncomputable def cv:FS:=(Hb (KO (Gz (aD JZ (aq 7) (aj (ay (.int 0))))) (Gz (aD JZ (aq 8) (aj (ay (.int 0))))))
  (cp 2 (aD addD (aj (aD addD (aj (aD addD (aj (aD addD (aj (aD addD (aj (aD addD (aq 2) (aj (ay (.str [32]))))) (aq 6))) (aj (ay (.str [32]))))) (aj (aZ uJ (af (aq 7) ar))))) (aj (ay (.str [32]))))) (aj (aZ uJ (af (aq 8) ar)))))
  bV)
def iL:FS:=(lj (kC (af (aj (aJ 0)) (af (aj (aJ 4)) (af (aj (aJ 5)) ar)))) (iQ 3 (aA (au 6) (aA (au 7) (aA (au 8) cV))))
  cv)
def cw:FS:=(sSeq (cp 2 (aD addD (aj (aD addD (aq 2) (aj (ay (.str [59,32]))))) (aj (aZ uJ (af (aq 3) ar)))))
  iL)
def iM:FS:=(lj (rR (aJ 1)) (iQ 3 (aA (au 3) (aA (au 4) (aA (au 5) cV))))
  cw)
def gX:FS:=(dJ (iW 2))
def kK:FS:=(sSeq (cp 2 (wY oG (aj (ay (.str [32]))) (af (aj (aD addD (aj (jm (aF (ay (.str [109,111,118,101,115])) bH))) (aq 0))) ar)))
  (sSeq iM
  gX))
def cY:List D->Res R:=fBody 2 7 kK
noncomputable def cy:FS:=(sSeq (cp 5 (lP (aj (ay (.str [32,32]))) eQ (d7 (aJ 1))))
  (sSeq (Hb (xR (Gz (aD JZ (aq 4) (aj (ay (.int 0))))) (xR (Gz (bW HR (aq 1) (aj (ay (.int 0))))) (xR (Gz (bW IT (aj (aD Gq (aq 0) (aq 4))) (aj (ay (.str [59]))))) (Gz (bW IT (aj (aD Gq (aq 0) (aj (aD zu (aq 4) (aj (ay (.int 1))))))) (aj (ay (.str [59]))))))))
  (Hb (Gz (bW HR (aj (bW KP (aj (aD Gq (aj (aD Gq (aq 0) (aq 4))) (aj (ay (.int 0))))) (aq 2))) (aj (bW KP (aj (aD Gq (aj (aD Gq (aq 0) (aj (aD zu (aq 4) (aj (ay (.int 1))))))) (aj (ay (.int 0))))) (aq 2)))))
  (cp 5 (ay (.str [32])))
  bV)
  bV)
  (cp 3 (aD addD (aj (aD addD (aq 3) (aq 5))) (aj (aD Gq (aq 0) (aq 4)))))))
def f7:FS:=(lj (cm (aj (aZ iz (af (aq 0) ar)))) (au 4)
  cy)
def fD:FS:=(dJ (iW 3))
def iN:FS:=(sSeq (cp 2 (ay (.str [97,98,99,100,101,102,103,104,105,106,107,108,109,110,111,112,113,114,115,116,117,118,119,120,121,122])))
  (sSeq (cp 3 (ay (.str [])))
  (sSeq f7
  fD)))
def b9:List D->Res R:=fBody 2 4 iN
def bD:FS:=(Hb (KO (Gz (Lb "bool" (aq 3))) (qz (Gz (Lb "int" (aq 3)))))
  (dJ (ay (.bl false)))
  bV)
def eF:FS:=(lj (rR (aD addD (aj (aD addD (aj (jm (aF (aD Gq (aq 1) (aj (ay (.int 0)))) bH))) (aj (aZ ot (af (aj (aD Gq (aq 1) (aj (ay (.int 1))))) ar))))) (aj (aZ ot (af (aj (aD Gq (aq 1) (aj (ay (.int 2))))) ar))))) (au 3)
  bD)
def bf:FS:=(Hb (qz (Gz (Lb "tuple" (aq 2))))
  (dJ (ay (.bl false)))
  bV)
def eG:FS:=(lj (rR (lP (aq 1) (d7 (ay (.int 1))) eQ)) (au 2)
  bf)
def dS:FS:=eF
def bT:FS:=(sSeq (Hb (KO (qz (Gz (Lb "tuple" (aq 1)))) (Gz (bW IT (aj (aZ iz (af (aq 1) ar))) (aj (ay (.int 3))))))
  (dJ (ay (.bl false)))
  bV)
  (sSeq eG
  dS))
def eI:FS:=(lj (rR (aD Gq (aq 0) (aj (ay (.int 1))))) (au 1)
  bT)
def dU:FS:=(dJ (ay (.bl true)))
noncomputable def f9:FS:=(sSeq (Hb (KO (qz (Gz (Lb "tuple" (aq 0)))) (KO (Gz (bW IT (aj (aZ iz (af (aq 0) ar))) (aj (ay (.int 2))))) (qz (Gz (Lb "tuple" (aj (aD Gq (aq 0) (aj (ay (.int 0))))))))))
  (dJ (ay (.bl false)))
  bV)
  (sSeq (Hb (qz (Gz (Lb "list" (aj (aD Gq (aq 0) (aj (ay (.int 1))))))))
  (dJ (ay (.bl false)))
  bV)
  (sSeq eI
  dU)))
def bL:List D->Res R:=fBody 1 3 f9
def mS:FS:=(sSeq (cp 8 (cx cC (af (aq 7) ar)))
  (sSeq (Hb (KO (qz (Gz (cx bL (af (aq 8) ar)))) (Gz (bW IT (aq 8) (aq 4))))
  (dJ (ay (.bl false)))
  bV)
  (fJ (xb 8 (pC (aF (ay (.int 0)) (aF (pC bH) (aF (pC bH) bH))))))))
def uQ:FS:=(lj (rR (jm (aF (aJ 5) (aF (cx b9 (af (aq 6) (af (aj (aD gL (aj (cx ax (af (aq 0) (af (aj (ay (.int 3))) ar)))) (aj (ay (.int 3))))) ar))) bH)))) (au 7)
  mS)
def qN:FS:=(sSeq (cp 9 (cx cC (af (aq 5) ar)))
  (dJ (DX (bW HR (aq 9) (aq 4)) (Lb "str" (aj (cx cD (af (aq 9) ar)))))))
noncomputable def Ca:FS:=(sSeq (cp 1 (aD gL (aj (cx ax (af (aq 0) (af (aj (ay (.int 0))) ar)))) (aj (ay (.int 6)))))
  (sSeq (cp 2 (cx cE (af (aj (aD j9 (aj (cx ax (af (aq 0) (af (aj (ay (.int 0))) ar)))) (aj (ay (.int 6))))) (af (aj (cx ax (af (aq 0) (af (aj (ay (.int 1))) ar)))) (af (aq 1) ar)))))
  (sSeq (cp 3 (cx b8 (af (aq 0) (af (aq 1) ar))))
  (sSeq (cp 4 (pC (aF (aZ gM (af (aq 2) ar)) (aF (aJ 3) bH))))
  (sSeq (cp 5 (cx cY (af (aq 2) (af (aq 3) ar))))
  (sSeq (Hb (Gz (bW IT (aj (cx cD (af (aj (pC (aF (aZ gM (af (aq 2) ar)) (aF (aZ ot (af (aq 3) ar)) bH)))) ar))) (aq 5)))
  (dJ (ay (.bl false)))
  bV)
  (sSeq (cp 6 (cx dt (af (aq 2) (af (aq 3) (af (aj (aD gL (aj (cx ax (af (aq 0) (af (aj (ay (.int 2))) ar)))) (aj (aD powD (aj (ay (.int 10))) (aj (ay (.int 12))))))) ar)))))
  (sSeq uQ
  qN))))))))
def z5:List D->Res R:=fBody 1 9 Ca
end LW
namespace LW
open PySem PySem.Spec PyProof.Rows L2 NX PV
theorem pe{α:Type}{Q:List α->Prop}(h:∀a,Q [a]):∀us,us.length=1->Q us
 |[a],_=>h a
theorem x6{α:Type}{Q:List α->Prop}(h:∀a b,Q [a,b]):∀us,us.length=2->Q us
 |[a,b],_=>h a b
theorem Dn{α:Type}{Q:List α->Prop}(h:∀a b c,Q [a,b,c]):∀us,us.length=3->Q us
 |[a,b,c],_=>h a b c
theorem eJ{X:Cx}{tg e:Expr}{f:FX}(h:QE X e f):QI X tg e (Ho (BI f) (Ho (j6 f) (j7 f))):=rK (zr h) (rK (lJ h) (lK h))
def top(i:Nat):Stmt:=PySem.Challenge.pw_netfinder_k11_nets_read_and_shown.main.body.getD i (.Pass ⟨0,0,0,0⟩)
theorem FD:Str.ofString "a" = S [97]:=by decide +kernel
theorem FE:Str.ofString "z" = S [122]:=by decide +kernel
theorem EH:Str.ofString "0" = S [48]:=by decide +kernel
theorem FF:Str.ofString "9" = S [57]:=by decide +kernel
theorem Cb:Str.ofString ";" = S [59]:=by decide +kernel
theorem EI:Str.ofString "semicolon" = S [115,101,109,105,99,111,108,111,110]:=by decide +kernel
theorem vU:Str.ofString " " = S [32]:=by decide +kernel
theorem EJ:Str.ofString "blank" = S [98,108,97,110,107]:=by decide +kernel
theorem EK:Str.ofString "figure" = S [102,105,103,117,114,101]:=by decide +kernel
theorem FH:Str.ofString "letter" = S [108,101,116,116,101,114]:=by decide +kernel
theorem rS:Str.ofString "moves" = S [109,111,118,101,115]:=by decide +kernel
theorem Cc:Str.ofString "; " = S [59,32]:=by decide +kernel
theorem D9:Str.ofString "movesa" = S [109,111,118,101,115,97]:=by decide +kernel
theorem Cd:Str.ofString "" = S []:=by decide +kernel
theorem Ce:Str.ofString "abcdefghijklmnopqrstuvwxyz" = S [97,98,99,100,101,102,103,104,105,106,107,108,109,110,111,112,113,114,115,116,117,118,119,120,121,122]:=by decide +kernel
theorem Ea:Str.ofString "  " = S [32,32]:=by decide +kernel
section
variable{P:Program}{w:World}{K:W.Frag}{mg:Str->Option Value}{base:Heap}
abbrev g8:Stmt:=top 6
theorem oP:FnScope ["sign"] ["sign"] (defScope g8):=fs
theorem oQ(Df:Def K mg "is_letter" g8):Ct P w K mg base "is_letter" 1 (spF K bP):=
 cT Df oP (fun _ _ _ _ _ _=>pe fun _=>rfl) fun f Gw A outer s H E hr=>
  (ak (aV (qB rJ rJ (aa (aT FD (by decide))) (ae (pv 0)) (aa (aT FE (by decide))))))
abbrev g9:Stmt:=top 7
theorem oR:FnScope ["sign"] ["sign"] (defScope g9):=fs
theorem oS(Df:Def K mg "is_figure" g9):Ct P w K mg base "is_figure" 1 (spF K bY):=
 cT Df oR (fun _ _ _ _ _ _=>pe fun _=>rfl) fun f Gw A outer s H E hr=>
  (ak (aV (qB rJ rJ (aa (aT EH (by decide))) (ae (pv 0)) (aa (aT FF (by decide))))))
abbrev kM:Stmt:=top 8
theorem rT:FnScope ["sign"] ["sign"] (defScope kM):=fs
theorem rV(Df:Def K mg "kind_of" kM)(Hg:Ct P w K mg base "is_figure" 1 (spF K bY))(Hh:Ct P w K mg base "is_letter" 1 (spF K bP)):Ct P w K mg base "kind_of" 2 (spF K cK):=
 cT Df rT (fun _ _ _ _ _ _=>pe fun _=>rfl) fun f Gw A outer s H E hr=>
  (ag (bX (dN (aQ Hh hr.m (by rfl) (ab (ae (pv 0)) ah)))
  (ak (aV (aT FH (by decide))))
  aN)
  (ag (bX (dN (aQ Hg hr.m (by rfl) (ab (ae (pv 0)) ah)))
  (ak (aV (aT EK (by decide))))
  aN)
  (ag (bX (bt (iu hr.units) (ae (pv 0)) (aa (aT vU (by decide))) (aY _))
  (ak (aV (aT EJ (by decide))))
  aN)
  (ag (bX (bt (iu hr.units) (ae (pv 0)) (aa (aT Cb (by decide))) (aY _))
  (ak (aV (aT EI (by decide))))
  aN)
  (ak b6)))))
abbrev gf:Stmt:=top 9
theorem eZ:FnScope ["text","start","kind","end"] ["text","start","kind"] (defScope gf):=fs
theorem mT(Df:Def K mg "end_of_run" gf)(HY:Ct P w K mg base "kind_of" 2 (spF K cK))(Gg:mg "len" = none):Ct P w K mg base "end_of_run" 3 (spF K bB):=
 cT Df eZ (fun _ _ _ _ _ _=>Dn fun _ _ _=>rfl) fun f Gw A outer s H E hr=>
  (ag (aM (i:=3) eZ.nd rfl (lo rfl) (aI a8 (ae (pv 1)) (aa ao)))
  (ag (bX (bt (iu hr.units) (ae (pv 2)) (aa (aT EI (by decide))) (aY _))
  (ak (aV (d5 (pv 3))))
  aN)
  (ag (qD 100000 Sz (QW.qt (oj (dO (qJ hr.units0) (ae (pv 3)) (aa (a9 cn (by rfl) Gg bt_len (ab (ae (pv 0)) ah))) (aY _)) (pB (bt (iu hr.units) (aa (aQ HY hr.m (by rfl) (ab (aa (bS (ae (pv 0)) (ae (pv 3)))) ah))) (ae (pv 2)) (aY _)))))
  (ak (aM (i:=3) eZ.nd rfl (lo rfl) (aI a8 (ae (pv 3)) (aa ao)))))
  (ak (aV (d5 (pv 3)))))))
abbrev dF:Stmt:=top 10
theorem jH:FnScope ["figures"] ["figures"] (defScope dF):=fs
theorem jI(Df:Def K mg "check_figures" dF)(Gu:Gi mg "MOST_FIGURES" (60))(Gg:mg "len" = none):Ct P w K mg base "check_figures" 1 (spF K bI):=
 cT Df jH (fun _ _ _ _ _ _=>pe fun _=>rfl) fun f Gw A outer s H E hr=>
  (ag (bX (dO ka (aa (a9 cn (by rfl) Gg bt_len (ab (ae (pv 0)) ah))) (aa (wO Gu (by rfl))) (aY _))
  (ak b6)
  aN)
  (ak (bX (QW.qt (oj (dO ka (aa (a9 cn (by rfl) Gg bt_len (ab (ae (pv 0)) ah))) (aa ao) (aY _)) (pB (bt (iu hr.units) (aa (bS (ae (pv 0)) (aa ao))) (aa (aT EH (by decide))) (aY _)))))
  (ak b6)
  aN)))
abbrev pN:Stmt:=top 11
theorem e7:FnScope ["text","told","start","kind","end","word"] ["text"] (defScope pN):=fs
theorem xh(Df:Def K mg "words" pN)(Iq:Ct P w K mg base "check_figures" 1 (spF K bI))(Jo:Ct P w K mg base "end_of_run" 3 (spF K bB))(HY:Ct P w K mg base "kind_of" 2 (spF K cK))(F7:mg "isinstance" = none)(Gg:mg "len" = none)(GJ:mg "str" = none):Ct P w K mg base "words" 4 (spF K i4):=
 cT Df e7 (fun _ _ _ _ _ _=>pe fun _=>rfl) fun f Gw A outer s H E hr=>
  (ag (bX (fA (dN (mK (T:="str") (by decide) (ae (pv 0)) (by rfl) F7 (by rfl) GJ ia)))
  (ak b6)
  aN)
  (ag (aM (i:=1) e7.nd rfl (lo rfl) (cJ aP))
  (ag (aM (i:=2) e7.nd rfl (lo rfl) ao)
  (ag (qD 100000 Sz (dO (qJ hr.units0) (ae (pv 2)) (aa (a9 cn (by rfl) Gg bt_len (ab (ae (pv 0)) ah))) (aY _))
  (ag (aM (i:=3) e7.nd rfl (lo rfl) (aQ HY hr.m (by rfl) (ab (aa (bS (ae (pv 0)) (ae (pv 2)))) ah)))
  (ag (aM (i:=4) e7.nd rfl (lo rfl) (aQ Jo hr.m (by rfl) (ab (ae (pv 0)) (ab (ae (pv 2)) (ab (ae (pv 3)) ah)))))
  (ag (aM (i:=5) e7.nd rfl (lo rfl) (fB (ae (pv 0)) (cW (aB (pv 2))) (cW (aB (pv 4)))))
  (ag (bX (bt (iu hr.units) (ae (pv 3)) (aa (aT EK (by decide))) (aY _))
  (ak (dA (aQ Iq hr.m (by rfl) (ab (ae (pv 5)) ah))))
  aN)
  (ag (bX (bt (mI hr.units) (ae (pv 3)) (aa (aT EJ (by decide))) (aY _))
  (ak (dA (fN (pv 1) (aB (pv 5)))))
  aN)
  (ak (aM (i:=2) e7.nd rfl (lo rfl) (aB (pv 4))))))))))
  (ak (aV (d5 (pv 1))))))))
abbrev kN:Stmt:=top 15
theorem rW:FnScope ["text"] ["text"] (defScope kN):=fs
theorem rX(Df:Def K mg "is_name" kN)(Hh:Ct P w K mg base "is_letter" 1 (spF K bP))(Gv:Gi mg "LONGEST_NAME" (8))(Jd:mg "all" = none)(Gg:mg "len" = none):Ct P w K mg base "is_name" 2 (spF K eE):=
 cT Df rW (fun _ _ _ _ _ _=>pe fun _=>rfl) fun f Gw A outer s H E hr=>
  (ag (bX (QW.qt (lu (bt (iu hr.units) (ae (pv 0)) (aa (aT rS (by decide))) (aY _)) (jj (fA (wR rJ rJ (aa ao) (aa (a9 cn (by rfl) Gg bt_len (ab (ae (pv 0)) ah))) (aa (wO Gv (by rfl))))))))
  (ak (aV mw))
  aN)
  (ak (aV (a9 (xU rfl) (by rfl) Jd x3 (ab (aa (dR [none] ["sign"] rfl (gO (ko (pv 0)) (gO (de (lJ (aB (pv 0)))) (de (lK (aB (pv 0)))))) (fun _ _ _ _ _=>(aE (i:=0) (show List.Nodup (["sign"]:List Str) from by decide +kernel) rfl (lo rfl))) (fun _ _ _ _ _=>di) (fun _ _ _ _ _=>(aQ Hh hr.m (by rfl) (ab (ae (pv 0)) ah))))) ah)))))
abbrev pO:Stmt:=top 16
theorem xi:FnScope ["values"] ["values"] (defScope pO):=fs
theorem xj(Df:Def K mg "rises" pO)(Jd:mg "all" = none)(GW:mg "zip" = none):Ct P w K mg base "rises" 1 (spF K fW):=
 cT Df xi (fun _ _ _ _ _ _=>pe fun _=>rfl) fun f Gw A outer s H E hr=>
  (ak (aV (a9 (xU rfl) (by rfl) Jd x3 (ab (aa (dR [none,none] ["one","other"] rfl (de (rK (qE true true (by rfl) GW (ab (aa (aB (pv 0))) (ab (aa (fB (ae (pv 0)) (cW ao) dC)) ah))) (rK (qE true false (by rfl) GW (ab (aa (aB (pv 0))) (ab (aa (fB (ae (pv 0)) (cW ao) dC)) ah))) (rK (qE false true (by rfl) GW (ab (aa (aB (pv 0))) (ab (aa (fB (ae (pv 0)) (cW ao) dC)) ah))) (qE false false (by rfl) GW (ab (aa (aB (pv 0))) (ab (aa (fB (ae (pv 0)) (cW ao) dC)) ah))))))) (fun _ _ _ _ _=>(have h:=(show List.Nodup (["one","other"]:List Str) from by decide +kernel);(gK rfl (aR (aE (i:=0) h rfl (lo rfl)) (aR (aE (i:=1) h rfl (lo rfl)) d6))))) (fun _ _ _ _ _=>di) (fun _ _ _ _ _=>(BF (qJ hr.units0) (ae (pv 0)) (ae (pv 1)) (aY _))))) ah))))
abbrev i5:Stmt:=top 18
theorem hJ:FnScope ["text","parts","word"] ["text"] (defScope i5):=fs
theorem pP(Df:Def K mg "parts_of" i5)(LQ:Ct P w K mg base "words" 4 (spF K i4)):Ct P w K mg base "parts_of" 5 (spF K dq):=
 cT Df hJ (fun _ _ _ _ _ _=>pe fun _=>rfl) fun f Gw A outer s H E hr=>
  (ag (aM (i:=1) hJ.nd rfl (lo rfl) (zW (cJ aP)))
  (ag (c7 Sz rfl (eJ (aQ LQ hr.m (by rfl) (ab (ae (pv 0)) ah))) (aE (i:=2) hJ.nd rfl (lo rfl))
  (ak (bX (bt (iu hr.units) (ae (pv 2)) (aa (aT Cb (by decide))) (aY _))
  (ak (dA (zX (pv 1) (cJ aP))))
  (ak (dA (zY (pv 1) D8 (pv 2)))))))
  (ak (aV (d5 (pv 1))))))
abbrev hU:Stmt:=top 19
theorem oU:FnScope ["word"] ["word"] (defScope hU):=fs
theorem oV(Df:Def K mg "number_of" hU)(Hg:Ct P w K mg base "is_figure" 1 (spF K bY))(Ie:mg "int" = none):Ct P w K mg base "number_of" 2 (spF K bZ):=
 cT Df oU (fun _ _ _ _ _ _=>pe fun _=>rfl) fun f Gw A outer s H E hr=>
  (ag (bX (fA (dN (aQ Hg hr.m (by rfl) (ab (aa (bS (ae (pv 0)) (aa ao))) ah))))
  (ak b6)
  aN)
  (ak (aV (aU zS (by rfl) Ie tJ (ab (ae (pv 0)) ah)))))
abbrev kO:Stmt:=top 20
theorem rY:FnScope ["word"] ["word"] (defScope kO):=fs
theorem rZ(Df:Def K mg "name_of" kO)(Kz:Ct P w K mg base "is_name" 2 (spF K eE)):Ct P w K mg base "name_of" 3 (spF K cu):=
 cT Df rY (fun _ _ _ _ _ _=>pe fun _=>rfl) fun f Gw A outer s H E hr=>
  (ag (bX (fA (dN (aQ Kz hr.m (by rfl) (ab (ae (pv 0)) ah))))
  (ak b6)
  aN)
  (ak (aV (d5 (pv 0)))))
abbrev i6:Stmt:=top 21
theorem pQ:FnScope ["part"] ["part"] (defScope i6):=fs
theorem pR(Df:Def K mg "names_of" i6)(HZ:Ct P w K mg base "name_of" 3 (spF K cu))(GC:Gi mg "MOST_MOVES" (5))(Gg:mg "len" = none):Ct P w K mg base "names_of" 4 (spF K dr):=
 cT Df pQ (fun _ _ _ _ _ _=>pe fun _=>rfl) fun f Gw A outer s H E hr=>
  (ag (bX (bt (mI hr.units) (aa (fB (ae (pv 0)) dC (cW ao))) (aa (cJ (av (aT rS (by decide)) aP))) (aY _))
  (ak b6)
  aN)
  (ag (bX (dO ka (aa (aI qF (aa (a9 cn (by rfl) Gg bt_len (ab (ae (pv 0)) ah))) (aa ao))) (aa (wO GC (by rfl))) (aY _))
  (ak b6)
  aN)
  (ak (aV (dR [none] ["word"] rfl (de (eJ (fB (ae (pv 0)) (cW ao) dC))) (fun _ _ _ _ _=>(aE (i:=0) (show List.Nodup (["word"]:List Str) from by decide +kernel) rfl (lo rfl))) (fun _ _ _ _ _=>di) (fun _ _ _ _ _=>(aQ HZ hr.m (by rfl) (ab (ae (pv 0)) ah))))))))
abbrev gj:Stmt:=top 22
theorem mU:FnScope ["moves","parts"] ["moves","parts"] (defScope gj):=fs
theorem mV(Df:Def K mg "show_parts" gj)(GI:mg "list" = none):Ct P w K mg base "show_parts" 1 (spF K cB):=
 cT Df mU (fun _ _ _ _ _ _=>x6 fun _ _=>rfl) fun f Gw A outer s H E hr=>
  (@ak _ _ _ _ (@aV _ _ _ _ (@oC _ _ _ _ _ _ _ _ _ _ _ UQ UR mP (@aa _ _ _ (aT Cc (by decide))) (@ab _ _ _ _ _ (@aa _ _ _ (@aI _ _ _ _ _ _ _ _ a8 (@aa _ _ _ (@cJ _ _ _ _ (@av _ _ _ _ _ (@oC _ _ _ _ _ _ _ _ _ _ _ UQ UR mP (@aa _ _ _ (aT vU (by decide))) (@ab _ _ _ _ _ (@aa _ _ _ (@aI _ _ _ _ _ _ _ _ a8 (@aa _ _ _ (@cJ _ _ _ _ (av (aT rS (by decide)) aP))) (aa (aU mE (by rfl) GI jV (ab (ae (pv 0)) ah))))) ah (by rfl)) (by rfl) (by rfl) (by rfl) (by rfl) (by rfl)) aP (by rfl)))) (ae (pv 1)))) ah (by rfl)) (by rfl) (by rfl) (by rfl) (by rfl) (by rfl))))
abbrev kP:Stmt:=top 25
theorem i7:FnScope ["part","told","at"] ["part"] (defScope kP):=fs
theorem r6(Df:Def K mg "told_of" kP)(HZ:Ct P w K mg base "name_of" 3 (spF K cu))(Hi:Ct P w K mg base "number_of" 2 (spF K bZ))(Gg:mg "len" = none)(Gr:mg "range" = none):Ct P w K mg base "told_of" 4 (spF K cM):=
 cT Df i7 (fun _ _ _ _ _ _=>pe fun _=>rfl) fun f Gw A outer s H E hr=>
  (ag (bX (bt (mI hr.units) (aa (aI cA (aa (a9 cn (by rfl) Gg bt_len (ab (ae (pv 0)) ah))) (aa ao))) (aa ao) (aY _))
  (ak b6)
  aN)
  (ag (aM (i:=1) i7.nd rfl (lo rfl) (cJ aP))
  (ag (c7 Sz rfl (oF (by rfl) Gr (ab (aa ao) (ab (aa (a9 cn (by rfl) Gg bt_len (ab (ae (pv 0)) ah))) (ab (aa ao) ah)))) (aE (i:=2) i7.nd rfl (lo rfl))
  (ak (dA (fN (pv 1) (fM (av (aQ HZ hr.m (by rfl) (ab (aa (bS (ae (pv 0)) (ae (pv 2)))) ah)) (av (aQ Hi hr.m (by rfl) (ab (aa (bS (ae (pv 0)) (aa (aI a8 (ae (pv 2)) (aa ao))))) ah)) (av (aQ Hi hr.m (by rfl) (ab (aa (bS (ae (pv 0)) (aa (aI a8 (ae (pv 2)) (aa ao))))) ah)) aP))))))))
  (ak (aV (fM (av (aQ Hi hr.m (by rfl) (ab (aa (bS (ae (pv 0)) (aa ao))) ah)) (av (aB (pv 1)) aP))))))))
abbrev e8:Stmt:=top 26
theorem lB:FnScope ["moves"] ["moves"] (defScope e8):=fs
theorem lC(Df:Def K mg "check_moves" e8)(LR:Ct P w K mg base "rises" 1 (spF K fW)):Ct P w K mg base "check_moves" 2 (spF K b7):=
 cT Df lB (fun _ _ _ _ _ _=>pe fun _=>rfl) fun f Gw A outer s H E hr=>
  (ak (bX (fA (dN (aQ LR hr.m (by rfl) (ab (ae (pv 0)) ah))))
  (ak b6)
  aN))
abbrev gk:Stmt:=top 27
theorem cb:FnScope ["moves","beads","told","by_move","name","takes","gives","pairs"] ["moves","beads","told"] (defScope gk):=fs
theorem mW(Df:Def K mg "place_from" gk)(Gj:mg "tuple" = none):Ct P w K mg base "place_from" 1 (spF K bC):=
 cT Df cb (fun _ _ _ _ _ _=>Dn fun _ _ _=>rfl) fun f Gw A outer s H E hr=>
  (ag (aM (i:=3) cb.nd rfl (lo rfl) zJ)
  (ag (c7 Sz rfl (eJ (aB (pv 2))) (gK rfl (aR (aE (i:=4) cb.nd rfl (lo rfl)) (aR (aE (i:=5) cb.nd rfl (lo rfl)) (aR (aE (i:=6) cb.nd rfl (lo rfl)) d6))))
  (ag (bX (bt (BO hr.u65) (ae (pv 4)) (ae (pv 0)) (by with_unfolding_all rfl))
  (ak b6)
  aN)
  (ag (bX (bt (B3 hr.u65) (ae (pv 4)) (ae (pv 3)) (by with_unfolding_all rfl))
  (ak b6)
  aN)
  (ak (BS (hu_of hr) (pv 3) (aB (pv 4)) (fM (av (aB (pv 5)) (av (aB (pv 6)) aP))))))))
  (ag (jR (i:=7) [none,some 3] ["move","by_move"] cb.nd rfl (lo rfl) rfl (gO (ko (pv 0)) (gO (de (lJ (aB (pv 0)))) (de (lK (aB (pv 0)))))) (fun _ _ _ _ _=>(aE (i:=0) (show List.Nodup (["move","by_move"]:List Str) from by decide +kernel) rfl (lo rfl))) (fun _ _ _ _ _=>di) (fun _ _ _ _ _=>(B9 (hu_of hr) (ae (pv 1)) (ae (pv 0)) (aa (fM (av ao (av ao aP)))) ⟨by rfl,by rfl,by rfl,by rfl⟩)))
  (ak (aV (fM (av (aB (pv 1)) (av (aU eR (by rfl) Gj cG (ab (aa (dR [none,none] ["takes","gives"] rfl (gO (ko (pv 7)) (gO (de (lJ (aB (pv 7)))) (de (lK (aB (pv 7)))))) (fun _ _ _ _ _=>(have h:=(show List.Nodup (["takes","gives"]:List Str) from by decide +kernel);(gK rfl (aR (aE (i:=0) h rfl (lo rfl)) (aR (aE (i:=1) h rfl (lo rfl)) d6))))) (fun _ _ _ _ _=>di) (fun _ _ _ _ _=>(aB (pv 0))))) ah)) (av (aU eR (by rfl) Gj cG (ab (aa (dR [none,none] ["takes","gives"] rfl (gO (ko (pv 7)) (gO (de (lJ (aB (pv 7)))) (de (lK (aB (pv 7)))))) (fun _ _ _ _ _=>(have h:=(show List.Nodup (["takes","gives"]:List Str) from by decide +kernel);(gK rfl (aR (aE (i:=0) h rfl (lo rfl)) (aR (aE (i:=1) h rfl (lo rfl)) d6))))) (fun _ _ _ _ _=>di) (fun _ _ _ _ _=>(aB (pv 1))))) ah)) aP)))))))))
abbrev i8:Stmt:=top 28
theorem e9:FnScope ["text","parts","moves","told_parts"] ["text"] (defScope i8):=fs
theorem pS(Df:Def K mg "read_net" i8)(IV:Ct P w K mg base "check_moves" 2 (spF K b7))(J3:Ct P w K mg base "names_of" 4 (spF K dr))(J4:Ct P w K mg base "parts_of" 5 (spF K dq))(Jp:Ct P w K mg base "place_from" 1 (spF K bC))(KA:Ct P w K mg base "told_of" 4 (spF K cM))(Gx:Gi mg "MOST_PLACES" (200))(Gg:mg "len" = none)(GX:mg "sorted" = none)(Gj:mg "tuple" = none):Ct P w K mg base "read_net" 6 (spF K cC):=
 cT Df e9 (fun _ _ _ _ _ _=>pe fun _=>rfl) fun f Gw A outer s H E hr=>
  (ag (aM (i:=1) e9.nd rfl (lo rfl) (B8 (aQ J4 hr.m (by rfl) (ab (ae (pv 0)) ah))))
  (ag (aM (i:=2) e9.nd rfl (lo rfl) (aU eR (by rfl) Gj cG (ab (aa (a9 (oA rfl) (by rfl) GX oD (ab (aa (aQ J3 hr.m (by rfl) (ab (aa (bS (ae (pv 1)) (aa ao))) ah))) ah))) ah)))
  (ag (bX (dO ka (aa (aI qF (aa (a9 cn (by rfl) Gg bt_len (ab (ae (pv 1)) ah))) (aa ao))) (aa (wO Gx (by rfl))) (aY _))
  (ak b6)
  aN)
  (ag (jR (i:=3) [none] ["part"] e9.nd rfl (lo rfl) rfl (de (eJ (fB (ae (pv 1)) (cW ao) dC))) (fun _ _ _ _ _=>(aE (i:=0) (show List.Nodup (["part"]:List Str) from by decide +kernel) rfl (lo rfl))) (fun _ _ _ _ _=>di) (fun _ _ _ _ _=>(aQ KA hr.m (by rfl) (ab (ae (pv 0)) ah))))
  (ag (dA (aQ IV hr.m (by rfl) (ab (ae (pv 2)) ah)))
  (ak (aV (zQ (aB (pv 2)) (dR [none,none,some 2] ["beads","told","moves"] rfl (gO (ko (pv 3)) (gO (de (lJ (aB (pv 3)))) (de (lK (aB (pv 3)))))) (fun _ _ _ _ _=>(have h:=(show List.Nodup (["beads","told","moves"]:List Str) from by decide +kernel);(gK rfl (aR (aE (i:=0) h rfl (lo rfl)) (aR (aE (i:=1) h rfl (lo rfl)) d6))))) (fun _ _ _ _ _=>di) (fun _ _ _ _ _=>(aQ Jp hr.m (by rfl) (ab (ae (pv 2)) (ab (ae (pv 0)) (ab (ae (pv 1)) ah))))))))))))))
abbrev gm:Stmt:=top 29
theorem cQ:FnScope ["moves","place","told","move","takes","gives"] ["moves","place"] (defScope gm):=fs
theorem mX(Df:Def K mg "show_place" gm)(GJ:mg "str" = none)(GW:mg "zip" = none):Ct P w K mg base "show_place" 1 (spF K bN):=
 cT Df cQ (fun _ _ _ _ _ _=>x6 fun _ _=>rfl) fun f Gw A outer s H E hr=>
  (ag (aM (i:=2) cQ.nd rfl (lo rfl) (cJ (av (aU ky (by rfl) GJ ia (ab (aa (bS (ae (pv 1)) (aa ao))) ah)) aP)))
  (ag (c7 Sz rfl (qM (by rfl) GW (ab (aa (aB (pv 0))) (ab (aa (bS (ae (pv 1)) (aa ao))) (ab (aa (bS (ae (pv 1)) (aa ao))) ah)))) (gK rfl (aR (aE (i:=3) cQ.nd rfl (lo rfl)) (aR (aE (i:=4) cQ.nd rfl (lo rfl)) (aR (aE (i:=5) cQ.nd rfl (lo rfl)) d6))))
  (ak (bX (QW.qt (lu (dO ka (ae (pv 4)) (aa ao) (aY _)) (jj (dO ka (ae (pv 5)) (aa ao) (aY _)))))
  (ak (dA (fN (pv 2) (zU (kz (uK (aB (pv 3))) (kz (aT vU (by decide)) (kz (uK (aB (pv 4))) (kz (aT vU (by decide)) (kz (uK (aB (pv 5))) B7)))))))))
  aN)))
  (ak (aV (oC UQ UR mP (aa (aT vU (by decide))) (ab (ae (pv 2)) ah))))))
abbrev i9:Stmt:=top 30
theorem pT:FnScope ["net"] ["net"] (defScope i9):=fs
theorem pU(Df:Def K mg "show_net" i9)(Jq:Ct P w K mg base "show_parts" 1 (spF K cB))(Jr:Ct P w K mg base "show_place" 1 (spF K bN)):Ct P w K mg base "show_net" 2 (spF K cD):=
 cT Df pT (fun _ _ _ _ _ _=>pe fun _=>rfl) fun f Gw A outer s H E hr=>
  (ak (aV (aQ Jq hr.m (by rfl) (ab (aa (bS (ae (pv 0)) (aa ao))) (ab (aa (dR [none,some 0] ["place","net"] rfl (de (eJ (bS (ae (pv 0)) (aa ao)))) (fun _ _ _ _ _=>(aE (i:=0) (show List.Nodup (["place","net"]:List Str) from by decide +kernel) rfl (lo rfl))) (fun _ _ _ _ _=>di) (fun _ _ _ _ _=>(aQ Jr hr.m (by rfl) (ab (aa (bS (ae (pv 1)) (aa ao))) (ab (ae (pv 0)) ah)))))) ah)))))
abbrev d8:Stmt:=top 32
theorem kQ:FnScope ["_law_script","_law_k"] ["_law_script","_law_k"] (defScope d8):=fs
theorem kR(Df:Def K mg "_law_cell_at" d8)(Gg:mg "len" = none):Ct P w K mg base "_law_cell_at" 1 (spF K ax):=
 cT Df kQ (fun _ _ _ _ _ _=>x6 fun _ _=>rfl) fun f Gw A outer s H E hr=>
  (ag (bX (dO (qJ hr.units0) (ae (pv 1)) (aa (a9 cn (by rfl) Gg bt_len (ab (ae (pv 0)) ah))) (aY _))
  (ak (aV (bS (ae (pv 0)) (ae (pv 1)))))
  aN)
  (ak (aV ao)))
abbrev gq:Stmt:=top 33
theorem aX:FnScope ["_law_cell","_law_where","_law_count","_law_letters","_law_number_here","_law_base","_law_k","_law_there","_law_at_first","_law_names_here","_law_name"] ["_law_cell","_law_where","_law_count"] (defScope gq):=fs
theorem mY(Df:Def K mg "_law_names" gq)(Ie:mg "int" = none)(Gg:mg "len" = none)(Gr:mg "range" = none)(GX:mg "sorted" = none):Ct P w K mg base "_law_names" 1 (spF K cE):=
 cT Df aX (fun _ _ _ _ _ _=>Dn fun _ _ _=>rfl) fun f Gw A outer s H E hr=>
  (ag (aM (i:=3) aX.nd rfl (lo rfl) (aT Ce (by decide)))
  (ag (aM (i:=4) aX.nd rfl (lo rfl) (aI cA (ae (pv 0)) (aa (aI oq (aa ao) (aa ao)))))
  (ag (aM (i:=5) aX.nd rfl (lo rfl) (aT Cd (by decide)))
  (ag (c7 Sz rfl (eC (by rfl) Gr (aa (aI a8 (aa ao) (aa (aI cA (ae (pv 4)) (aa ao)))))) (aE (i:=6) aX.nd rfl (lo rfl))
  (ak (aM (i:=5) aX.nd rfl (lo rfl) (aI a8 (ae (pv 5)) (aa (bS (ae (pv 3)) (aa (aI cA (aa (aI a8 (aa (aI iX (ae (pv 4)) (aa (aI a8 (ae (pv 6)) (aa ao))))) (aa (aI kr (aa (aI kr (aa ao) (ae (pv 6)))) (ae (pv 6)))))) (aa ao)))))))))
  (ag (aM (i:=7) aX.nd rfl (lo rfl) (aI cA (ae (pv 1)) (aa (a9 cn (by rfl) Gg bt_len (ab (ae (pv 5)) ah)))))
  (ag (aM (i:=8) aX.nd rfl (lo rfl) (oC Wy PySem.F.type_str_index wZ (ae (pv 3)) (ab (aa (bS (ae (pv 5)) (ae (pv 7)))) ah)))
  (ag (aM (i:=9) aX.nd rfl (lo rfl) (cJ aP))
  (ag (c7 Sz rfl (eC (by rfl) Gr (ae (pv 2))) (aE (i:=6) aX.nd rfl (lo rfl))
  (ag (aM (i:=10) aX.nd rfl (lo rfl) (aI a8 (aa (aI a8 (aa (fB (ae (pv 5)) dC (cW (aB (pv 7))))) (aa (bS (ae (pv 3)) (aa (aI cA (aa (aI a8 (ae (pv 8)) (ae (pv 6)))) (aa ao))))))) (aa (fB (ae (pv 5)) (cW (aI a8 (ae (pv 7)) (aa ao))) dC))))
  (ak (dA (fN (pv 9) (bS (aa (cJ (av (aB (pv 10)) (av (aT D9 (by decide)) aP)))) (aa (aU xW (by rfl) Ie tJ (ab (aa (mx (iu hr.units) (ae (pv 10)) (aa (aT rS (by decide))) (aY _))) ah)))))))))
  (ak (aV (a9 (oA rfl) (by rfl) GX oD (ab (ae (pv 9)) ah))))))))))))
abbrev fe:Stmt:=top 34
theorem gY:FnScope ["_law_number_here","_law_k"] ["_law_number_here","_law_k"] (defScope fe):=fs
theorem lD(Df:Def K mg "_law_number" fe):Ct P w K mg base "_law_number" 1 (spF K aK):=
 cT Df gY (fun _ _ _ _ _ _=>x6 fun _ _=>rfl) fun f Gw A outer s H E hr=>
  (ag (aM (i:=0) gY.nd rfl (lo rfl) (aI cA (aa (aI kr (aa (aI iX (ae (pv 0)) (aa (aI a8 (aa (aI kr (aa ao) (ae (pv 1)))) (aa ao))))) (aa ao))) (aa (aI oq (aa ao) (aa ao)))))
  (ag (bX (bt (iu hr.units) (aa (aI cA (ae (pv 0)) (aa ao))) (aa ao) (aY _))
  (ak (aV (aI cA (aa (aI iX (ae (pv 0)) (aa ao))) (aa (aI oq (aa ao) (aa ao))))))
  aN)
  (ak (aV (bS (aa (cJ (av ao (av (aI cA (aa (aI iX (ae (pv 0)) (aa ao))) (aa ao)) aP)))) (aa (aI cA (ae (pv 0)) (aa ao))))))))
abbrev fg:Stmt:=top 35
theorem bR:FnScope ["_law_script","_law_count","_law_places_here","_law_k","_law_cells","_law_takes","_law_gives"] ["_law_script","_law_count"] (defScope fg):=fs
theorem lE(Df:Def K mg "_law_places" fg)(Gh:Ct P w K mg base "_law_cell_at" 1 (spF K ax))(GR:Ct P w K mg base "_law_number" 1 (spF K aK))(Gg:mg "len" = none)(Ko:mg "min" = none)(Gr:mg "range" = none)(Gj:mg "tuple" = none):Ct P w K mg base "_law_places" 2 (spF K b8):=
 cT Df bR (fun _ _ _ _ _ _=>x6 fun _ _=>rfl) fun f Gw A outer s H E hr=>
  (ag (aM (i:=2) bR.nd rfl (lo rfl) (cJ aP))
  (ag (c7 Sz rfl (oF (by rfl) Gr (ab (aa ao) (ab (aa (a9 (B2 rfl) (by rfl) Ko BY (ab (aa (a9 cn (by rfl) Gg bt_len (ab (ae (pv 0)) ah))) (ab (aa ao) ah)))) (ab (aa ao) ah)))) (aE (i:=3) bR.nd rfl (lo rfl))
  (ag (aM (i:=4) bR.nd rfl (lo rfl) (dR [none,some 0,some 3] ["_law_j","_law_script","_law_k"] rfl (de (eC (by rfl) Gr (aa ao))) (fun _ _ _ _ _=>(aE (i:=0) (show List.Nodup (["_law_j","_law_script","_law_k"]:List Str) from by decide +kernel) rfl (lo rfl))) (fun _ _ _ _ _=>di) (fun _ _ _ _ _=>(aI cA (aa (aQ Gh hr.m (by rfl) (ab (ae (pv 1)) (ab (aa (aI a8 (ae (pv 2)) (ae (pv 0)))) ah)))) (aa (aI oq (aa ao) (aa ao)))))))
  (ag (jR (i:=5) [none,some 4] ["_law_j","_law_cells"] bR.nd rfl (lo rfl) rfl (de (eC (by rfl) Gr (ae (pv 1)))) (fun _ _ _ _ _=>(aE (i:=0) (show List.Nodup (["_law_j","_law_cells"]:List Str) from by decide +kernel) rfl (lo rfl))) (fun _ _ _ _ _=>di) (fun _ _ _ _ _=>(aQ GR hr.m (by rfl) (ab (aa (bS (ae (pv 1)) (aa ao))) (ab (ae (pv 0)) ah)))))
  (ag (jR (i:=6) [none,some 4] ["_law_j","_law_cells"] bR.nd rfl (lo rfl) rfl (de (eC (by rfl) Gr (ae (pv 1)))) (fun _ _ _ _ _=>(aE (i:=0) (show List.Nodup (["_law_j","_law_cells"]:List Str) from by decide +kernel) rfl (lo rfl))) (fun _ _ _ _ _=>di) (fun _ _ _ _ _=>(aQ GR hr.m (by rfl) (ab (aa (bS (ae (pv 1)) (aa ao))) (ab (ae (pv 0)) ah)))))
  (ak (dA (fN (pv 2) (fM (av (aQ GR hr.m (by rfl) (ab (aa (bS (ae (pv 4)) (aa ao))) (ab (aa ao) ah))) (av (aU eR (by rfl) Gj cG (ab (ae (pv 5)) ah)) (av (aU eR (by rfl) Gj cG (ab (ae (pv 6)) ah)) aP)))))))))))
  (ak (aV (d5 (pv 2))))))
abbrev gr:Stmt:=top 36
theorem cR:FnScope ["_law_row_here","_law_cell","_law_about_here","_law_number_here","_law_thing"] ["_law_row_here","_law_cell"] (defScope gr):=fs
theorem mZ(Df:Def K mg "_law_about" gr)(Gg:mg "len" = none):Ct P w K mg base "_law_about" 1 (spF K b5):=
 cT Df cR (fun _ _ _ _ _ _=>x6 fun _ _=>rfl) fun f Gw A outer s H E hr=>
  (ag (aM (i:=2) cR.nd rfl (lo rfl) (cJ aP))
  (ag (aM (i:=3) cR.nd rfl (lo rfl) (aI a8 (aa (aI cA (ae (pv 1)) (aa ao))) (aa ao)))
  (ag (c7 Sz rfl (eJ (aB (pv 0))) (aE (i:=4) cR.nd rfl (lo rfl))
  (ag (aM (i:=3) cR.nd rfl (lo rfl) (aI cA (aa (aI a8 (aa (aI kr (ae (pv 3)) (aa ao))) (aa ao))) (aa ao)))
  (ak (dA (uI (pv 2) (aI cA (aa (aI iX (ae (pv 3)) (aa ao))) (aa (aI a8 (aa (a9 cn (by rfl) Gg bt_len (ab (ae (pv 2)) ah))) (aa ao)))) (aB (pv 4)))))))
  (ak (aV (d5 (pv 2)))))))
abbrev ja:Stmt:=top 37
theorem bE:FnScope ["_law_names_here","_law_places_here","_law_cell","_law_row_here","_law_beads","_law_takes","_law_gives","_law_name","_law_taken","_law_given"] ["_law_names_here","_law_places_here","_law_cell"] (defScope ja):=fs
theorem pV(Df:Def K mg "_law_row" ja)(HI:Ct P w K mg base "_law_about" 1 (spF K b5))(GI:mg "list" = none)(GJ:mg "str" = none)(GW:mg "zip" = none):Ct P w K mg base "_law_row" 2 (spF K dt):=
 cT Df bE (fun _ _ _ _ _ _=>Dn fun _ _ _=>rfl) fun f Gw A outer s H E hr=>
  (ag (aM (i:=3) bE.nd rfl (lo rfl) (aI a8 (aa (cJ (av (aT rS (by decide)) aP))) (aa (aQ HI hr.m (by rfl) (ab (ae (pv 0)) (ab (ae (pv 2)) ah))))))
  (ag (c7 Sz rfl (eJ (aB (pv 1))) (gK rfl (aR (aE (i:=4) bE.nd rfl (lo rfl)) (aR (aE (i:=5) bE.nd rfl (lo rfl)) (aR (aE (i:=6) bE.nd rfl (lo rfl)) d6))))
  (ag (aM (i:=3) bE.nd rfl (lo rfl) (aI a8 (ae (pv 3)) (aa (cJ (av (aT Cb (by decide)) (av (aU ky (by rfl) GJ ia (ab (ae (pv 4)) ah)) aP))))))
  (ak (c7 Sz rfl (eJ (aQ HI hr.m (by rfl) (ab (aa (uO true rfl (by rfl) GI (by rfl) GW (ab (aa (aB (pv 0))) (ab (aa (aB (pv 5))) (ab (aa (aB (pv 6))) ah))))) (ab (aa (aI a8 (ae (pv 2)) (aa (aI cA (ae (pv 4)) (aa ao))))) ah)))) (gK rfl (aR (aE (i:=7) bE.nd rfl (lo rfl)) (aR (aE (i:=8) bE.nd rfl (lo rfl)) (aR (aE (i:=9) bE.nd rfl (lo rfl)) d6))))
  (ak (bX (QW.qt (lu (dO ka (ae (pv 8)) (aa ao) (aY _)) (lu (dO ka (ae (pv 9)) (aa ao) (aY _)) (jj (bt (iu hr.units) (aa (aI cA (ae (pv 2)) (aa ao))) (aa ao) (aY _))))))
  (ak (aM (i:=3) bE.nd rfl (lo rfl) (aI a8 (ae (pv 3)) (aa (cJ (av (aB (pv 7)) (av (aU ky (by rfl) GJ ia (ab (ae (pv 8)) ah)) (av (aU ky (by rfl) GJ ia (ab (ae (pv 9)) ah)) aP))))))))
  aN))))))
  (ak (aV (d5 (pv 3))))))
abbrev hV:Stmt:=top 38
theorem br:FnScope ["_law_names_here","_law_places_here","_law_text_here","_law_beads","_law_takes","_law_gives","_law_name","_law_taken","_law_given"] ["_law_names_here","_law_places_here"] (defScope hV):=fs
theorem oW(Df:Def K mg "_law_text" hV)(GJ:mg "str" = none)(GW:mg "zip" = none):Ct P w K mg base "_law_text" 1 (spF K cY):=
 cT Df br (fun _ _ _ _ _ _=>x6 fun _ _=>rfl) fun f Gw A outer s H E hr=>
  (ag (aM (i:=2) br.nd rfl (lo rfl) (oC UQ UR mP (aa (aT vU (by decide))) (ab (aa (aI a8 (aa (cJ (av (aT rS (by decide)) aP))) (ae (pv 0)))) ah)))
  (ag (c7 Sz rfl (eJ (aB (pv 1))) (gK rfl (aR (aE (i:=3) br.nd rfl (lo rfl)) (aR (aE (i:=4) br.nd rfl (lo rfl)) (aR (aE (i:=5) br.nd rfl (lo rfl)) d6))))
  (ag (aM (i:=2) br.nd rfl (lo rfl) (aI a8 (aa (aI a8 (ae (pv 2)) (aa (aT Cc (by decide))))) (aa (aU ky (by rfl) GJ ia (ab (ae (pv 3)) ah)))))
  (ak (c7 Sz rfl (qM (by rfl) GW (ab (aa (aB (pv 0))) (ab (aa (aB (pv 4))) (ab (aa (aB (pv 5))) ah)))) (gK rfl (aR (aE (i:=6) br.nd rfl (lo rfl)) (aR (aE (i:=7) br.nd rfl (lo rfl)) (aR (aE (i:=8) br.nd rfl (lo rfl)) d6))))
  (ak (bX (QW.qt (lu (dO ka (ae (pv 7)) (aa ao) (aY _)) (jj (dO ka (ae (pv 8)) (aa ao) (aY _)))))
  (ak (aM (i:=2) br.nd rfl (lo rfl) (aI a8 (aa (aI a8 (aa (aI a8 (aa (aI a8 (aa (aI a8 (aa (aI a8 (ae (pv 2)) (aa (aT vU (by decide))))) (ae (pv 6)))) (aa (aT vU (by decide))))) (aa (aU ky (by rfl) GJ ia (ab (ae (pv 7)) ah))))) (aa (aT vU (by decide))))) (aa (aU ky (by rfl) GJ ia (ab (ae (pv 8)) ah))))))
  aN))))))
  (ak (aV (d5 (pv 2))))))
abbrev fm:Stmt:=top 39
theorem bF:FnScope ["_law_row_here","_law_blanks","_law_letters","_law_text_here","_law_k","_law_gap"] ["_law_row_here","_law_blanks"] (defScope fm):=fs
theorem lF(Df:Def K mg "_law_joined" fm)(Gg:mg "len" = none)(Gr:mg "range" = none):Ct P w K mg base "_law_joined" 1 (spF K b9):=
 cT Df bF (fun _ _ _ _ _ _=>x6 fun _ _=>rfl) fun f Gw A outer s H E hr=>
  (ag (aM (i:=2) bF.nd rfl (lo rfl) (aT Ce (by decide)))
  (ag (aM (i:=3) bF.nd rfl (lo rfl) (aT Cd (by decide)))
  (ag (c7 Sz rfl (eC (by rfl) Gr (aa (a9 cn (by rfl) Gg bt_len (ab (ae (pv 0)) ah)))) (aE (i:=4) bF.nd rfl (lo rfl))
  (ag (aM (i:=5) bF.nd rfl (lo rfl) (fB (aa (aT Ea (by decide))) dC (cW (aB (pv 1)))))
  (ag (bX (QW.qt (oj (dO ka (ae (pv 4)) (aa ao) (aY _)) (oj (bt (iu hr.units) (ae (pv 1)) (aa ao) (aY _)) (oj (bt (mI hr.units) (aa (bS (ae (pv 0)) (ae (pv 4)))) (aa (aT Cb (by decide))) (aY _)) (pB (bt (mI hr.units) (aa (bS (ae (pv 0)) (aa (aI qF (ae (pv 4)) (aa ao))))) (aa (aT Cb (by decide))) (aY _)))))))
  (ak (bX (bt (iu hr.units) (aa (mx (zx hr.u65) (aa (bS (aa (bS (ae (pv 0)) (ae (pv 4)))) (aa ao))) (ae (pv 2)) (by with_unfolding_all rfl))) (aa (mx (zx hr.u65) (aa (bS (aa (bS (ae (pv 0)) (aa (aI qF (ae (pv 4)) (aa ao))))) (aa ao))) (ae (pv 2)) (by with_unfolding_all rfl))) (aY _))
  (ak (aM (i:=5) bF.nd rfl (lo rfl) (aT vU (by decide))))
  aN))
  aN)
  (ak (aM (i:=3) bF.nd rfl (lo rfl) (aI a8 (aa (aI a8 (ae (pv 3)) (ae (pv 5)))) (aa (bS (ae (pv 0)) (ae (pv 4))))))))))
  (ak (aV (d5 (pv 3)))))))
abbrev dG:Stmt:=top 40
theorem cz:FnScope ["_law_found","_law_place","_law_row_here","_law_number_here"] ["_law_found"] (defScope dG):=fs
theorem jJ(Df:Def K mg "_law_is_plain" dG)(Js:mg "bool" = none)(Ie:mg "int" = none)(F7:mg "isinstance" = none)(Gg:mg "len" = none)(GI:mg "list" = none)(Gj:mg "tuple" = none):Ct P w K mg base "_law_is_plain" 1 (spF K bL):=
 cT Df cz (fun _ _ _ _ _ _=>pe fun _=>rfl) fun f Gw A outer s H E hr=>
  (ag (bX (QW.qt (lu (fA (dN (mK (T:="tuple") (by decide) (ae (pv 0)) (by rfl) F7 (by rfl) Gj cG))) (lu (bt (mI hr.units) (aa (a9 cn (by rfl) Gg bt_len (ab (ae (pv 0)) ah))) (aa ao) (aY _)) (jj (fA (dN (mK (T:="tuple") (by decide) (aa (bS (ae (pv 0)) (aa ao))) (by rfl) F7 (by rfl) Gj cG)))))))
  (ak (aV mw))
  aN)
  (ag (bX (fA (dN (mK (T:="list") (by decide) (aa (bS (ae (pv 0)) (aa ao))) (by rfl) F7 (by rfl) GI jV)))
  (ak (aV mw))
  aN)
  (ag (c7 Sz rfl (eJ (bS (ae (pv 0)) (aa ao))) (aE (i:=1) cz.nd rfl (lo rfl))
  (ag (bX (QW.qt (lu (fA (dN (mK (T:="tuple") (by decide) (ae (pv 1)) (by rfl) F7 (by rfl) Gj cG))) (jj (bt (mI hr.units) (aa (a9 cn (by rfl) Gg bt_len (ab (ae (pv 1)) ah))) (aa ao) (aY _)))))
  (ak (aV mw))
  aN)
  (ag (c7 Sz rfl (eJ (fB (ae (pv 1)) (cW ao) dC)) (aE (i:=2) cz.nd rfl (lo rfl))
  (ak (bX (fA (dN (mK (T:="tuple") (by decide) (ae (pv 2)) (by rfl) F7 (by rfl) Gj cG)))
  (ak (aV mw))
  aN)))
  (ak (c7 Sz rfl (eJ (aI a8 (aa (aI a8 (aa (cJ (av (bS (ae (pv 1)) (aa ao)) aP))) (aa (aU mE (by rfl) GI jV (ab (aa (bS (ae (pv 1)) (aa ao))) ah))))) (aa (aU mE (by rfl) GI jV (ab (aa (bS (ae (pv 1)) (aa ao))) ah))))) (aE (i:=3) cz.nd rfl (lo rfl))
  (ak (bX (QW.qt (lu (dN (mK (T:="bool") (by decide) (ae (pv 3)) (by rfl) F7 (by rfl) Js yX)) (jj (fA (dN (mK (T:="int") (by decide) (ae (pv 3)) (by rfl) F7 (by rfl) Ie tJ))))))
  (ak (aV mw))
  aN)))))))
  (ak (aV mw)))))
abbrev m6:Stmt:=top 41
theorem gZ:FnScope ["_law_script","_law_count","_law_names_here","_law_places_here","_law_net","_law_text_here","_law_row_here","_law_written","_law_found","_law_again"] ["_law_script"] (defScope m6):=fs
theorem Cf{f:Addr}{fd:FuncData}(F:Fun K "law" "law" m6 f fd)(Gh:Ct P w K mg base "_law_cell_at" 1 (spF K ax))(Ir:Ct P w K mg base "_law_is_plain" 1 (spF K bL))(IW:Ct P w K mg base "_law_joined" 1 (spF K b9))(Jt:Ct P w K mg base "_law_names" 1 (spF K cE))(IX:Ct P w K mg base "_law_places" 2 (spF K b8))(J5:Ct P w K mg base "_law_row" 2 (spF K dt))(JH:Ct P w K mg base "_law_text" 1 (spF K cY))(IF:Ct P w K mg base "read_net" 6 (spF K cC))(IG:Ct P w K mg base "show_net" 2 (spF K cD))(F7:mg "isinstance" = none)(GI:mg "list" = none)(GJ:mg "str" = none)(Gj:mg "tuple" = none):FnOk P w K mg base KZ 7 f fd ["_law_script"] (spF K z5):=
 fnok_of F gZ fun Gw A outer s H E hr=>
  (ag (aM (i:=1) gZ.nd rfl (lo rfl) (aI cA (aa (aQ Gh hr.m (by rfl) (ab (ae (pv 0)) (ab (aa ao) ah)))) (aa ao)))
  (ag (aM (i:=2) gZ.nd rfl (lo rfl) (aQ Jt hr.m (by rfl) (ab (aa (aI iX (aa (aQ Gh hr.m (by rfl) (ab (ae (pv 0)) (ab (aa ao) ah)))) (aa ao))) (ab (aa (aQ Gh hr.m (by rfl) (ab (ae (pv 0)) (ab (aa ao) ah)))) (ab (ae (pv 1)) ah)))))
  (ag (aM (i:=3) gZ.nd rfl (lo rfl) (aQ IX hr.m (by rfl) (ab (ae (pv 0)) (ab (ae (pv 1)) ah))))
  (ag (aM (i:=4) gZ.nd rfl (lo rfl) (fM (av (aU eR (by rfl) Gj cG (ab (ae (pv 2)) ah)) (av (aB (pv 3)) aP))))
  (ag (aM (i:=5) gZ.nd rfl (lo rfl) (aQ JH hr.m (by rfl) (ab (ae (pv 2)) (ab (ae (pv 3)) ah))))
  (ag (bX (bt (mI hr.units) (aa (aQ IG hr.m (by rfl) (ab (aa (fM (av (aU eR (by rfl) Gj cG (ab (ae (pv 2)) ah)) (av (aU mE (by rfl) GI jV (ab (ae (pv 3)) ah)) aP)))) ah))) (ae (pv 5)) (aY _))
  (ak (aV mw))
  aN)
  (ag (aM (i:=6) gZ.nd rfl (lo rfl) (aQ J5 hr.m (by rfl) (ab (ae (pv 2)) (ab (ae (pv 3)) (ab (aa (aI cA (aa (aQ Gh hr.m (by rfl) (ab (ae (pv 0)) (ab (aa ao) ah)))) (aa (aI oq (aa ao) (aa ao))))) ah)))))
  (ag (c7 Sz rfl (eJ (cJ (av (aB (pv 5)) (av (aQ IW hr.m (by rfl) (ab (ae (pv 6)) (ab (aa (aI cA (aa (aQ Gh hr.m (by rfl) (ab (ae (pv 0)) (ab (aa ao) ah)))) (aa ao))) ah))) aP)))) (aE (i:=7) gZ.nd rfl (lo rfl))
  (ag (aM (i:=8) gZ.nd rfl (lo rfl) (aQ IF hr.m (by rfl) (ab (ae (pv 7)) ah)))
  (ag (bX (QW.qt (lu (fA (dN (aQ Ir hr.m (by rfl) (ab (ae (pv 8)) ah)))) (jj (bt (mI hr.units) (ae (pv 8)) (ae (pv 4)) (aY _)))))
  (ak (aV mw))
  aN)
  (ak (dA (zZ (pv 8) (fM (av ao (av (fM aP) (av (fM aP) aP))))))))))
  (ag (aM (i:=9) gZ.nd rfl (lo rfl) (aQ IF hr.m (by rfl) (ab (ae (pv 5)) ah)))
  (ak (aV (BH (mx (iu hr.units) (ae (pv 9)) (ae (pv 4)) (aY _)) (BG (mK (T:="str") (by decide) (aa (aQ IG hr.m (by rfl) (ab (ae (pv 9)) ah))) (by rfl) F7 (by rfl) GJ ia))))))))))))))
end
end LW
namespace PV
open PySem L2 NX
class Cont (α β:Type) where
 run:α->Res β
def Res.bnd{α β:Type}[f:Cont α β](x:Res α):Res β:=x.bind f.run
theorem Hq{α β:Type}(a:α)(f:α->Res β):Res.bnd (Res.ok a) (f:=⟨f⟩)=f a:=id rfl
theorem bBad{α β:Type}(f:α->Res β):Res.bnd (Res.bad:Res α) (f:=⟨f⟩)=.bad:=id rfl
section
variable(env:PV.Env)(i n:Nat)(d:D)(f g:FX)(c c':FT)(fo NJ OI:FO)(fs:FOs)(fd:FDs)(s t:FS)(op JC:D->D->Res R)(F:List D->Res R)(a:FG)(as:LI)(fi fj:FI)(fp F9:FP)(T:String)
theorem M5:ay d env=.ok ((.f,d),env):=id rfl
theorem Kp:aJ i env=match env[i]? with|some (some r)=>.ok ((.f,r.2),env.set i (some (fz r.1,r.2)))|_=>.bad:=id rfl
theorem OJ:fz .f=.f:=id rfl
theorem OK(c:O):fz (.l c)=.f:=id rfl
theorem Lf(p:Addr):zq (.pin p .d)=true:=id rfl
theorem LS:iW i env=match env[i]? with|some (some r)=>.ok (r,env.set i none)|_=>.bad:=id rfl
theorem M6:aj f env=Res.bnd (f env) (f:=⟨fun p=>.ok (.val p.1.2,p.2)⟩):=id rfl
theorem M7:aq i env=match env[i]? with|some (some _)=>.ok (.var i,env)|_=>.bad:=id rfl
theorem LU:ar env=.ok ([],env):=id rfl
theorem Lg:af fo fs env=Res.bnd (fo env) (f:=⟨fun p=>Res.bnd (fs p.2) (f:=⟨fun q=>.ok (p.1::q.1,q.2)⟩)⟩):=id rfl
theorem LV:bH env=.ok ([],env):=id rfl
theorem Lh:aF f fd env=Res.bnd (f env) (f:=⟨fun p=>Res.bnd (fd p.2) (f:=⟨fun q=>.ok (p.1.2::q.1,q.2)⟩)⟩):=id rfl
theorem M8:der env (.val d)=.ok d:=id rfl
theorem M9:der env (.var i)=match env[i]? with|some (some r)=>if zq r.1 then .ok r.2 else .bad|_=>.bad:=id rfl
theorem LY:rF env (.val d)=.ok d:=id rfl
theorem LZ:rF env (.var i)=match env[i]? with|some (some r)=>.ok r.2|_=>.bad:=id rfl
theorem L0:qv env []=.ok []:=id rfl
theorem L4(o:Opd)(os:List Opd):qv env (o::os)=Res.bnd (der env o) (f:=⟨fun d=>Res.bnd (qv env os) (f:=⟨fun ds=>.ok (d::ds)⟩)⟩):=id rfl
theorem Li:og env []=.ok []:=id rfl
theorem Lj(o:Opd)(os:List Opd):og env (o::os)=Res.bnd (rF env o) (f:=⟨fun d=>Res.bnd (og env os) (f:=⟨fun ds=>.ok (d::ds)⟩)⟩):=id rfl
theorem L5:zq .f=true:=id rfl
theorem L6:zq (.l .f)=true:=id rfl
theorem Na:aD op fo NJ env=Res.bnd (fo env) (f:=⟨fun p=>Res.bnd (NJ p.2) (f:=⟨fun q=>Res.bnd (der q.2 p.1) (f:=⟨fun a=>Res.bnd (der q.2 q.1) (f:=⟨fun b=>Res.bnd (op a b) (f:=⟨fun r=>.ok (r,q.2)⟩)⟩)⟩)⟩)⟩):=id rfl
theorem L7:bW op fo NJ env=Res.bnd (fo env) (f:=⟨fun p=>Res.bnd (NJ p.2) (f:=⟨fun q=>Res.bnd (rF q.2 p.1) (f:=⟨fun a=>Res.bnd (rF q.2 q.1) (f:=⟨fun b=>Res.bnd (op a b) (f:=⟨fun r=>.ok (r,q.2)⟩)⟩)⟩)⟩)⟩):=id rfl
theorem OL:Gz f env=Res.bnd (f env) (f:=⟨fun p=>match p.1.2 with | .bl k=>.ok (k,p.2)|_=>.bad⟩):=id rfl
theorem Nb:xR c c' env=Res.bnd (c env) (f:=⟨fun p=>if p.1 then c' p.2 else .ok (false,p.2)⟩):=id rfl
theorem OM:KO c c' env=Res.bnd (c env) (f:=⟨fun p=>if p.1 then .ok (true,p.2) else c' p.2⟩):=id rfl
theorem Nc:qz c env=Res.bnd (c env) (f:=⟨fun p=>.ok (!p.1,p.2)⟩):=id rfl
theorem Nd:DX f g env=Res.bnd (f env) (f:=⟨fun p=>match p.1.2 with | .bl true=>g p.2 | .bl false=>.ok ((.f,.bl false),p.2)|_=>.bad⟩):=id rfl
theorem Lk:j5 op JC fo NJ OI env=Res.bnd (fo env) (f:=⟨fun p=>Res.bnd (NJ p.2) (f:=⟨fun q=>Res.bnd (der q.2 p.1) (f:=⟨fun a=>Res.bnd (der q.2 q.1) (f:=⟨fun b=>Res.bnd (op a b) (f:=⟨fun r=>match r with
 |(.f,.bl true)=>Res.bnd (OI q.2) (f:=⟨fun t=>Res.bnd (der t.2 q.1) (f:=⟨fun b=>Res.bnd (der t.2 t.1) (f:=⟨fun c=>Res.bnd (JC b c) (f:=⟨fun r=>.ok (r,t.2)⟩)⟩)⟩)⟩)
 |(.f,.bl false)=>.ok ((.f,.bl false),q.2)
 |_=>.bad⟩)⟩)⟩)⟩)⟩):=id rfl
theorem L8:aZ F fs env=Res.bnd (fs env) (f:=⟨fun p=>Res.bnd (qv p.2 p.1) (f:=⟨fun ds=>Res.bnd (F ds) (f:=⟨fun r=>.ok (r,p.2)⟩)⟩)⟩):=id rfl
theorem Nf:cx F fs env=Res.bnd (fs env) (f:=⟨fun p=>Res.bnd (og p.2 p.1) (f:=⟨fun ds=>Res.bnd (F ds) (f:=⟨fun r=>.ok (r,if cj r.1 r.2 then p.2 else p.2.map frz)⟩)⟩)⟩):=id rfl
theorem Ng:pC fd env=Res.bnd (fd env) (f:=⟨fun p=>if p.1.length<=1000 then .ok ((.f,.tup p.1),p.2) else .bad⟩):=id rfl
theorem Nh:jm fd env=Res.bnd (fd env) (f:=⟨fun p=>if p.1.length<=1000 then .ok ((.l .f,.lst p.1),p.2) else .bad⟩):=id rfl
theorem L9:eQ env=.ok (none,env):=id rfl
theorem Ma:d7 f env=Res.bnd (f env) (f:=⟨fun p=>match p.1.2 with | .int i=>.ok (some i,p.2)|_=>.bad⟩):=id rfl
theorem Ni:uq i f env=if mB env i then(Res.bnd (f env) (f:=⟨fun(p:R×PV.Env)=>match p.2[i]? with
 |some (some (.l .f,.lst ds))=>if ds.length<sizeLine then .ok ((.f,.non),p.2.set i (some (.l .f,.lst (ds++[p.1.2])))) else .bad
 |_=>.bad⟩)) else .bad:=id rfl
theorem Mb:mB env i=match env[i]? with|some (some (_,.lst _))=>true|_=>false:=id rfl
theorem ON:Lb T fo env=Res.bnd (fo env) (f:=⟨fun p=>Res.bnd (rF p.2 p.1) (f:=⟨fun d=>.ok ((.f,.bl (pE T d)),p.2)⟩)⟩):=id rfl
theorem Nj(gg:List Nat->List D->Res R):wY gg fo fs env=Res.bnd (fo env) (f:=⟨fun p=>match der p.2 p.1 with
 | .ok (.str l)=>Res.bnd (fs p.2) (f:=⟨fun q=>Res.bnd (qv q.2 q.1) (f:=⟨fun ds=>Res.bnd (gg l ds) (f:=⟨fun r=>.ok (r,q.2)⟩)⟩)⟩)
 |_=>.bad⟩):=id rfl
theorem Mc(tk:Bool):eNewD tk env=.ok ((.d,.dct tk [] []),env):=id rfl
theorem Md(ix:List (Option Nat)):gI fi ix a c f env=Res.bnd (fi env) (f:=⟨fun p=>Res.bnd (dh a c f p.1 (dB ix p.2)) (f:=⟨fun ds=>if ds.length<=sizeLine then .ok ((.l .f,.lst ds),if flatDs ds then p.2 else p.2.map frz) else .bad⟩)⟩):=id rfl
theorem J6:dB [] env=[]:=id rfl
theorem J7(ix:List (Option Nat)):dB (none::ix) env=none::dB ix env:=id rfl
theorem J8(ix:List (Option Nat)):dB (some i::ix) env=(match env[i]? with|some (some r)=>some (O.f,r.2)|_=>none)::dB ix env:=id rfl
theorem Cg:il env=.ok (true,env):=id rfl
theorem xk(ds:List D):dh a c f (d::ds) env=Res.bnd (a d env) (f:=⟨fun e=>Res.bnd (c e) (f:=⟨fun p=>if p.1 then(Res.bnd (f p.2) (f:=⟨fun q=>Res.bnd (dh a c f ds q.2) (f:=⟨fun rs=>.ok (q.1.2::rs)⟩)⟩)) else dh a c f ds p.2⟩)⟩):=id rfl
theorem Ci:BI f env=Res.bnd (f env) (f:=⟨fun p=>match p.1.2 with | .lst ds=>.ok (ds,p.2)|_=>.bad⟩):=id rfl
theorem uR:j6 f env=Res.bnd (f env) (f:=⟨fun p=>match p.1.2 with | .tup ds=>.ok (ds,p.2)|_=>.bad⟩):=id rfl
theorem uS:j7 f env=Res.bnd (f env) (f:=⟨fun p=>match p.1.2 with | .str l=>.ok (l.map fun c=>.str [c],p.2)|_=>.bad⟩):=id rfl
theorem r9:Ho fi fj env=match fi env with | .ok a=>.ok a|_=>fj env:=by
 unfold Ho;cases fi env <;> rfl
theorem Nk:Ho (BI f) (Ho (j6 f) (j7 f)) env=Res.bnd (f env) (f:=⟨fun p=>match p.1.2 with
 | .lst ds=>.ok (ds,p.2)
 | .tup ds=>.ok (ds,p.2)
 | .str l=>.ok (l.map fun c=>.str [c],p.2)
 |_=>.bad⟩):=by
 rw[r9,r9,Ci,uR,uS];cases f env with
 |ok p=>
  obtain⟨⟨o,d⟩,e⟩:=p;cases d <;> rfl
 |exc c=>rfl
 |bad=>rfl
theorem Me:Ho (mN i) (Ho (j6 (aJ i)) (j7 (aJ i))) env=match env[i]? with
 |some (some (_,.lst ds))=>.ok (ds,env)
 |some (some (o,.tup ds))=>.ok (ds,env.set i (some (fz o,.tup ds)))
 |some (some (o,.str l))=>.ok (l.map fun c=>.str [c],env.set i (some (fz o,.str l)))
 |_=>.bad:=by
 rw[r9,r9,uR,uS,Kp];unfold mN;cases env[i]? with
 |none=>rfl
 |some r=>
  cases r with
  |none=>rfl
  |some r=>
   obtain⟨o,d⟩:=r;cases d <;> rfl
theorem H0:cm fo env=Res.bnd (fo env) (f:=⟨fun p=>Res.bnd (der p.2 p.1) (f:=⟨fun d=>match d with
 | .int j=>if -4611686018427387904<=j/\j<4611686018427387904 then .ok ((List.range j.toNat).map fun(k:Nat)=>D.int (k:Int),p.2) else .bad
 |_=>.bad⟩)⟩):=id rfl
theorem Mf(k1 k2:Bool):lA k1 k2 fs env=Res.bnd (fs env) (f:=⟨fun p=>match p.1 with
 |[.val d1,.val d2]=>Res.bnd (fK k1 d1) (f:=⟨fun a=>Res.bnd (fK k2 d2) (f:=⟨fun b=>.ok ((a.zip b).map fun z=>D.tup [z.1,z.2],p.2)⟩)⟩)
 |_=>.bad⟩):=id rfl
theorem Ju:au i d env=if i<env.length then .ok (env.set i (some (.f,d))) else .bad:=id rfl
theorem Mg:cV [] env=.ok env:=id rfl
theorem IH(ds:List D):aA a as (d::ds) env=Res.bnd (a d env) (f:=⟨fun e=>as ds e⟩):=id rfl
theorem Ll(ds:List D):iQ n as (.tup ds) env=if ds.length=n then as ds env else .bad:=id rfl
theorem J9:sSeq s t env=Res.bnd (s env) (f:=⟨fun o=>match o with | .nx e=>t e|o=>.ok o⟩):=id rfl
theorem Mh:bV env=.ok (.nx env):=id rfl
theorem Nl:cp i f env=Res.bnd (f env) (f:=⟨fun p=>if i<p.2.length then .ok (.nx (p.2.set i (some p.1))) else .bad⟩):=id rfl
theorem Mi:fJ f env=Res.bnd (f env) (f:=⟨fun p=>.ok (.nx p.2)⟩):=id rfl
theorem Nn:dJ f env=Res.bnd (f env) (f:=⟨fun p=>.ok (.rt p.1)⟩):=id rfl
theorem OP:Hb c s t env=Res.bnd (c env) (f:=⟨fun p=>if p.1 then s p.2 else t p.2⟩):=id rfl
theorem Lm:lj fi a s env=Res.bnd (fi env) (f:=⟨fun p=>jl a s p.1 p.2⟩):=id rfl
theorem Mj:jl a s [] env=.ok (.nx env):=id rfl
theorem GP(ds:List D):jl a s (d::ds) env=Res.bnd (a d env) (f:=⟨fun e=>Res.bnd (s e) (f:=⟨fun o=>match o with
 | .nx e=>jl a s ds e
 | .ct e=>jl a s ds e
 | .bk e=>.ok (.nx e)
 | .rt r=>.ok (.rt r)⟩)⟩):=id rfl
theorem qO:dQ c s (n+1) env=Res.bnd (c env) (f:=⟨fun p=>if p.1 then(Res.bnd (s p.2) (f:=⟨fun o=>match o with
  | .nx e=>dQ c s n e
  | .ct e=>dQ c s n e
  | .bk e=>.ok (.nx e)
  | .rt r=>.ok (.rt r)⟩)) else .ok (.nx p.2)⟩):=id rfl
theorem Np:Dl i f g env=Res.bnd (g env) (f:=⟨fun(p:R×PV.Env)=>Res.bnd (f p.2) (f:=⟨fun(q:R×PV.Env)=>match p.2[i]?,q.2[i]? with
 |some (some _),some (some (.d,.dct tk ks vs))=>if eY tk q.1.2&&decide (ks.length<sizeLine) then .ok (.nx (q.2.set i (some (.d,.dct tk (pH ks vs q.1.2 p.1.2).1 (pH ks vs q.1.2 p.1.2).2)))) else .bad
 |_,_=>.bad⟩)⟩):=id rfl
theorem aS(ds:List D)(nn:Nat)(h:ds.length=n):fBody n nn s ds=Res.bnd (s (ds.map (fun d=>some (O.f,d))++List.replicate nn none)) (f:=⟨fun o=>match o with
 | .rt r=>.ok r
 | .nx _=>.ok (.f,.non)
 |_=>.bad⟩):=by
 unfold fBody;rw[Sa h];all_goals cases s (ds.map (fun d=>some (O.f,d))++List.replicate nn none) with
 |ok o=>cases o <;> rfl
 |exc c=>rfl
 |bad=>rfl
end
theorem line_le{n:Nat}(h:n<=16777216):n<=sizeLine:=by rw[line_eq];exact h
section
variable(a b:Int)(x y:List Nat)(p q:Bool)(ds es:List D)
theorem Eb:HR (.int a) (.int b)=.ok (.f,.bl (a==b)):=by simp only[HR,plainD,Ga,Uz,UK]
theorem Ec:HR (.str x) (.str y)=.ok (.f,.bl (x==y)):=by simp only[HR,plainD,Ga,Uz,UK]
theorem Ed:IT (.int a) (.int b)=.ok (.f,.bl (!(a==b))):=by simp only[IT,plainD,Ga,Uz,UK]
theorem Ee:IT (.str x) (.str y)=.ok (.f,.bl (!(x==y))):=by simp only[IT,plainD,Ga,Uz,UK]
theorem Cj:addD (.int a) (.int b)=.ok (.f,.int (a+b)):=id rfl
theorem o_addS:addD (.str x) (.str y)=if x.length+y.length<=sizeLine then .ok (.f,.str (x++y)) else .bad:=id rfl
theorem uT:addD (.lst ds) (.lst es)=if ds.length+es.length<=sizeLine then .ok (.l .f,.lst (ds++es)) else .bad:=id rfl
theorem Ck:zu (.int a) (.int b)=.ok (.f,.int (a-b)):=id rfl
theorem uU:j9 (.int a) (.int b)=if 0<b/\b<1073741824 then .ok (.f,.int (a / b)) else .bad:=id rfl
theorem x9:gL (.int a) (.int b)=if 0<b then .ok (.f,.int (a%b)) else .bad:=id rfl
theorem ya:powD (.int a) (.int b)=if 0<=b/\b<=1000000/\a.natAbs<2 ^ 64 then .ok (.f,.int (a ^ b.toNat)) else .bad:=id rfl
theorem Ef:Kn (.int a) (.int b)=.ok (.f,.bl (decide (a<b))):=id rfl
theorem Eg:Lx (.int a) (.int b)=.ok (.f,.bl (decide (a<=b))):=id rfl
theorem Eh:Lx (.str x) (.str y)=.ok (.f,.bl (!decide (y<x))):=id rfl
theorem Ei:JZ (.int a) (.int b)=.ok (.f,.bl (decide (b<a))):=id rfl
theorem Cm:iz [.lst ds]=.ok (.f,.int ds.length):=id rfl
theorem Cn:iz [.str x]=.ok (.f,.int x.length):=id rfl
theorem z6:ot [.lst ds]=.ok (.l .f,.lst ds):=id rfl
theorem z7:ot [.tup ds]=.ok (.l .f,.lst ds):=id rfl
theorem xl:gM [.lst ds]=.ok (.f,.tup ds):=id rfl
theorem Co:xV [.bl p]=.ok (.f,.int (if p then 1 else 0)):=id rfl
theorem Ej:Gq (.lst ds) (.int a)=match Hv ds a with|some d=>.ok (.f,d)|none=>.bad:=id rfl
theorem Cp:Gq (.str x) (.int a)=match Hv x a with|some c=>.ok (.f,.str [c])|none=>.bad:=id rfl
theorem Cq(bs:List Bool):Az [.lst (bs.map D.bl)]=.ok (.f,.bl (bs.all id)):=by
 unfold Az;show(match ou (bs.map D.bl) with|some bs=>_|none=>_)=_;rw[ur]
theorem OQ{α:Type}(d:α)(l:List α):Hv (d::l) 0=some d:=by
 have:=dZ (xs:=d::l) (j:=0) (v:=d) rfl;simpa using this
theorem QZ{α:Type}(c d:α)(l:List α):Hv (c::d::l) 1=some d:=by
 have:=dZ (xs:=c::d::l) (j:=1) (v:=d) rfl;simpa using this
end
theorem flat_ints(l:List Int):flatDs (l.map D.int)=true:=by
 rw[dn,Uw,SD];intro b _;rfl
theorem xm(l:List Bool):flatDs (l.map D.bl)=true:=by
 rw[dn,Uw,SD];intro b _;rfl
theorem flat_strs(l:List (List Nat)):flatDs (l.map D.str)=true:=by
 rw[dn,Uw,SD];intro b _;rfl
theorem aO(d:D):cj .f d=dw d:=by rw[cj]
theorem dm(ds:List D):cj (.l .f) (.lst ds)=flatDs ds:=by rw[cj,my]
theorem cf(i:Int):dw (.int i)=true:=by rw[dw];all_goals simp
theorem ft(i:Bool):dw (.bl i)=true:=by rw[dw];all_goals simp
theorem cS(i:List Nat):dw (.str i)=true:=by rw[dw];all_goals simp
theorem xn(ds:List D):dw (.tup ds)=flatDs ds:=by rw[dw]
theorem jb(n:Nat)(l:List Int):plainDs n (l.map D.int)=true:=by
 induction l with
 |nil=>rfl
 |cons a l ih=>rw[So,plainDs,ih,plainD];all_goals simp
theorem sd(n:Nat)(l:List (List Nat)):plainDs n (l.map D.str)=true:=by
 induction l with
 |nil=>rfl
 |cons a l ih=>rw[So,plainDs,ih,plainD];all_goals simp
theorem xo(a:Int)(l:List Int):vT (.int a) (l.map D.int)=decide (a∈l):=by
 unfold vT;rw[VP,SH,UC,R8];constructor
 ·rintro⟨x,hx,e⟩;have e:Ga (.int x) (.int a)=true:=e;rw[Ga,SR]at e;rw[<-e];exact hx
 ·intro h;refine⟨a,h,?_⟩;show Ga (.int a) (.int a)=true;rw[Ga,SQ]
theorem Dp(a:List Nat)(l:List (List Nat)):vT (.str a) (l.map D.str)=decide (a∈l):=by
 unfold vT;rw[VP,SH,UC,R8];constructor
 ·rintro⟨x,hx,e⟩;have e:Ga (.str x) (.str a)=true:=e;rw[Ga,SR]at e;rw[<-e];exact hx
 ·intro h;refine⟨a,h,?_⟩;show Ga (.str a) (.str a)=true;rw[Ga,SQ]
theorem EL(a:Int)(l:List Int):KP (.int a) (.lst (l.map D.int))=.ok (.f,.bl (decide (a∈l))):=by
 unfold KP;dsimp only;rw[jb,xo,plainD];all_goals simp
theorem cZ{α:Type}{a:FG}{f:FX}{e:α->D}{r:α->D}(I:PV.Env->Prop)(l:List α)
  (h:∀x∈l,∀env,I env->∃FZ,a (e x) env=.ok FZ/\∃o Ip,f FZ=.ok ((o,r x),Ip)/\I Ip):∀env,I env->dh a il f (l.map e) env=.ok (l.map r):=by
 induction l with
 |nil=>intro env _;rfl
 |cons x l ih=>
  intro env hI;obtain⟨FZ,h1,o,Ip,h4,h5⟩:=h x RQ env hI;have ih:=ih fun y hy=>h y (RZ _ hy)
  rw[So,xk,h1,Hq,Cg,Hq,Sa rfl,h4,Hq,ih Ip h5];rfl
theorem m7{a:FG}{g:FS}(P:Nat->PV.Env->Prop)(ds:List D)(h:∀i d env,ds[i]?=some d->P i env->∃FZ,a d env=.ok FZ/\∃Gm,(g FZ=.ok (.nx Gm)\/g FZ=.ok (.ct Gm))/\P (i+1) Gm):
  ∀env,P 0 env->∃env',jl a g ds env=.ok (.nx env')/\P ds.length env':=by
 have key:∀(l:List D) (k:Nat) (env:PV.Env),(∀i d,l[i]?=some d->ds[k+i]?=some d)->P k env->∃env',jl a g l env=.ok (.nx env')/\P (k+l.length) env':=by
  intro l;induction l with
  |nil=>exact fun k env _ hp=>⟨env,rfl,hp⟩
  |cons d l ih=>
   intro k env hd hp;obtain⟨FZ,h1,Gm,h2,h3⟩:=h k d env (hd 0 d rfl) hp;obtain⟨env',h4,h5⟩:=ih (k+1) Gm (fun i d e=>by have:=hd (i+1) d (by simpa using e);rw[show k+1+i=k+(i+1) by lia];exact this) h3;refine⟨env',?_,by rw[R6,show k+(l.length+1)=k+1+l.length by lia];exact h5⟩;rw[GP,h1,Hq];rcases h2 with h2|h2
   ·rw[h2,Hq];exact h4
   ·rw[h2,Hq];exact h4
 intro env hp;obtain⟨env',h1,h2⟩:=key ds 0 env (fun i d e=>by rw[Nat.zero_add];exact e) hp;exact⟨env',h1,by rw[Nat.zero_add]at h2;exact h2⟩
section
variable(env:PV.Env)(fo:FO)(fp F9:FP)(a b:Int)(ds:List D)(x:List Nat)
theorem Nq:lP fo fp F9 env=Res.bnd (fo env) (f:=⟨fun p=>Res.bnd (fp p.2) (f:=⟨fun q=>Res.bnd (F9 q.2) (f:=⟨fun t=>Res.bnd (der t.2 p.1) (f:=⟨fun d=>Res.bnd (LO d q.1 t.1) (f:=⟨fun r=>.ok (r,t.2)⟩)⟩)⟩)⟩)⟩):=id rfl
theorem Cr(lo hi:Option Int):LO (.lst ds) lo hi=.ok (.l .f,.lst (jG ds lo hi)):=id rfl
theorem Cs(lo hi:Option Int):LO (.str x) lo hi=.ok (.f,.str (jG x lo hi)):=id rfl
theorem uV(lo hi:Option Int)(h:HT.sIx ds.length 0 lo=0/\HT.sIx ds.length ds.length hi=ds.length):jG ds lo hi=ds:=by
 unfold jG;rw[h.1,h.2,WV,Nat.sub_zero,Te (R1 _)]
theorem Cu(lo hi:Option Int):LO (.tup ds) lo hi=.ok (.f,.tup (jG ds lo hi)):=by
 unfold LO;dsimp only;split
 ·rename_i h;rw[uV ds lo hi h]
 ·rename_i h;unfold NH;dsimp only;rw[Sa h]
theorem pX:rM (.int a) (.int b)=if c8 a||c8 b then .ok (.f,.int (a*b)) else if a.natAbs<2 ^ 1000/\b.natAbs<2 ^ 1000 then .ok (.f,.int (a*b)) else .bad:=id rfl
end
section
variable(env:PV.Env)(fo:FO)(fs:FOs)(f g:FX)(a b c:Int)(ds es:List D)(x y:List Nat)
theorem KC:mO fs env=Res.bnd (fs env) (f:=⟨fun p=>Res.bnd (qv p.2 p.1) (f:=⟨fun d=>match d with
 |[.int i,.int j,.int c]=>if iC i j c then .ok ((List.range (Builtin.Range.rangeSize i j c).toNat).map fun(k:Nat)=>D.int (i+(k:Int)*c),p.2) else .bad
 |_=>.bad⟩)⟩):=id rfl
theorem EM(d:D):(∃l,fK true d=.ok l/\fK false d=.bad/\uu d=some l)\/(∃l,fK true d=.bad/\fK false d=.ok l/\uu d=some l)\/(fK true d=.bad/\fK false d=.bad/\uu d=none):=by
 cases d with
 |lst l=>exact .inl ⟨l,rfl,rfl,rfl⟩
 |tup l=>exact .inr (.inl ⟨l,rfl,rfl,rfl⟩)
 |_=>exact .inr (.inr ⟨rfl,rfl,rfl⟩)
def Cv(k1 k2:Bool)(e:PV.Env)(d1 d2:D):Res (List D×PV.Env):=(fK k1 d1).bind fun a=>(fK k2 d2).bind fun b=>.ok ((a.zip b).map fun z=>D.tup [z.1,z.2],e)
def EO(e:PV.Env)(d1 d2:D):Res (List D×PV.Env):=match uu d1,uu d2 with|some a,some b=>.ok ((a.zip b).map fun z=>D.tup [z.1,z.2],e)|_,_=>.bad
def OR(a b:Res (List D×PV.Env)):Res (List D×PV.Env):=match a with | .ok a=>.ok a|_=>b
def Dq(g:D->D->Res (List D×PV.Env))(os:List Opd):Res (List D×PV.Env):=match os with|[.val d1,.val d2]=>g d1 d2|_=>.bad
theorem Ek(g h:D->D->Res (List D×PV.Env))(os:List Opd):OR (Dq g os) (Dq h os)=Dq (fun a b=>OR (g a b) (h a b)) os:=by
 unfold Dq;split <;> rfl
theorem El(e:PV.Env)(a b:D):OR (Cv true true e a b) (OR (Cv true false e a b) (OR (Cv false true e a b) (Cv false false e a b)))=EO e a b:=by
 unfold Cv EO;rcases EM a with⟨l,h1,h2,h3⟩|⟨l,h1,h2,h3⟩|⟨h1,h2,h3⟩ <;> rcases EM b with⟨m,i1,i2,i3⟩|⟨m,i1,i2,i3⟩|⟨i1,i2,i3⟩ <;> rw[h1,h2,h3,i1,i2,i3] <;> rfl
theorem Cw:eY false (.str x)=true:=id rfl
theorem Cy:B1 [.int a,.int b]=.ok (.f,.int (if b<a then b else a)):=id rfl
end
section
variable(env:PV.Env)(f g:FX)(ds ks:List D)(i:Nat)
theorem z8:zP f g env=Res.bnd (f env) (f:=⟨fun p=>Res.bnd (g p.2) (f:=⟨fun q=>.ok ((.t [.f,q.1.1],.tup [p.1.2,q.1.2]),q.2)⟩)⟩):=id rfl
end
section
variable(env:PV.Env)(f:FX)(fs:FOs)(ds:List D)(i:Nat)
end
noncomputable def pv:=(Zz @Hq (Zz @bBad (Zz @M5 (Zz @Kp (Zz @LS (Zz @M6 (Zz @M7 (Zz @LU (Zz @Lg (Zz @LV (Zz @Lh (Zz @M8 (Zz @M9 (Zz @LY (Zz @LZ (Zz @L0 (Zz @L4 (Zz @Li (Zz @Lj (Zz @L5 (Zz @L6 (Zz @Na (Zz @L7 (Zz @OL (Zz @Nb (Zz @OM (Zz @Nc (Zz @Nd (Zz @Lk (Zz @L8 (Zz @Nf (Zz @Ng (Zz @Nh (Zz @Nq (Zz @L9 (Zz @Ma (Zz @Ni (Zz @Mb (Zz @ON (Zz @Nj (Zz @Mc (Zz @Md (Zz @J6 (Zz @J7 (Zz @J8 (Zz @Nk (Zz @Me (Zz @H0 (Zz @Mf (Zz @Ju (Zz @Mg (Zz @IH (Zz @Ll (Zz @J9 (Zz @Mh (Zz @Nl (Zz @Mi (Zz @Nn (Zz @OP (Zz @Lm (Zz @Mj (Zz @GP (Zz @Np (Zz @List.getElem?_cons_zero.{0} (Zz @List.getElem?_cons_succ.{0} (Zz @List.set_cons_zero.{0} (Zz @List.set_cons_succ.{0} (Zz @List.length_cons.{0} (Zz @List.length_nil.{0} (Zz @List.map_cons.{0,0} (Zz @List.map_nil.{0,0} (Zz @List.replicate_succ.{0} (Zz @List.replicate_zero.{0} (Zz @List.cons_append.{0} (Zz @List.nil_append.{0} (Zz @Nat.zero_add (Zz @KC (Zz @OJ (Zz @OK @Lf)))))))))))))))))))))))))))))))))))))))))))))))))))))))))))))))))))))))))))))))
noncomputable def op:=(Zz @Eb (Zz @Ec (Zz @Ed (Zz @Ee (Zz @Cj (Zz @Ck (Zz @Ef (Zz @Eg (Zz @Eh (Zz @Ei (Zz @Cm (Zz @Cn (Zz @z6 (Zz @z7 (Zz @xl (Zz @Co (Zz @Ej (Zz @Cp (Zz @Cr (Zz @Cs (Zz @Cu (Zz @OQ (Zz @Cq (Zz @aO (Zz @dm (Zz @cf (Zz @ft (Zz @cS (Zz @xm @Cw)))))))))))))))))))))))))))))
theorem dV(n:Nat)(w:PV.Env):(∃d,der w (.var n)=.ok d)\/der w (.var n)=.bad:=by
 unfold der;dsimp only;split
 ·split
  ·exact .inl ⟨_,rfl⟩
  ·exact .inr rfl
 ·exact .inr rfl
section
variable(w:PV.Env)(op:D->D->Res R)(F:List D->Res R)(f g h:FX)(n n' n'':Nat)(x y:D)
end
section
variable(a b c d e g h i j k l m:Option R)(z:PV.Env)(r:R)(o:O)(x:D){ρ:Type}
end
end PV
namespace LW
open PySem L2 NX PV
theorem ER(a b:Nat):decide ([a]<[b])=decide (a<b):=by
 rw[SH,R8,R8];exact lt1 a b
def dH(c:Nat):Bool:=decide (97<=c)&&decide (c<=122)
theorem kS(c:Nat):bP [.str [c]]=.ok (.f,.bl (dH c)):=by
 unfold bP kF dH;rw[aS (h:=by rfl)];simp only[pv,seval,op,ER];by_cases h1:c<97
 ·have h2:¬ 97<=c:=by lia
  simp only[h1,h2,TL,Ub,SJ,UD,Hq]
 ·have h2:97<=c:=by lia
  simp only[h1,h2,TL,Ub,Tt,U9,Hq];by_cases h3:122<c
  ·have h4:¬ c<=122:=by lia
   simp only[h3,h4,TL,Ub,SJ]
  ·have h4:c<=122:=by lia
   simp only[h3,h4,TL,Ub,Tt]
theorem dI{α:Type}{f:α->D}{l:List α}(h:l.length<=16777216):(l.map f).length<=sizeLine:=by
 rw[RU];exact line_le h
theorem iO{α:Type}{f:α->D}{l:List α}(h:∀a,dw (f a)=true):flatDs (l.map f)=true:=by
 rw[dn,Uw,SD];intro a _;exact h a
def aG:List Nat:=[109,111,118,101,115]
def bw(t:List Nat):Bool:=!(t==aG)&&(decide (1<=t.length)&&decide (t.length<=8))&&t.all dH
theorem uW(t:List Nat)(hl:t.length<=16777216):eE [.str t]=.ok (.f,.bl (bw t)):=by
 unfold eE oM bw aG;rw[aS (h:=by rfl)];simp only[pv,seval,op];have hc:dh (au 0) il (cx bP (af (aq 0) ar)) (t.map fun c=>D.str [c]) [none]=.ok ((t.map dH).map D.bl):=by
  rw[cZ (r:=fun c:Nat=>D.bl (dH c)) (fun env=>∃t1,env=[t1]) t ?_ _ ⟨_,rfl⟩]
  ·rw[SE];rfl
  ·rintro c _ env ⟨t1,rfl⟩;refine⟨[some (.f,.str [c])],rfl,?_⟩;simp only[pv,seval,op,kS];exact⟨_,_,rfl,_,rfl⟩
 cases h1:t==[109,111,118,101,115] with
 |true=>simp only[pv,seval,SJ,UD]
 |false=>
  simp only[pv,seval,Tt,U9,S4];by_cases h2:1<=t.length
  ·have h3:(1:Int)<=(t.length:Int):=by lia
   by_cases h4:t.length<=8
   ·have h5:(t.length:Int)<=8:=by lia
    simp only[h2,h3,h4,h5,TL,pv,seval,op,SJ,S4,U9,hc];rw[Sa (dI (by rw[RU];exact hl))];simp only[pv,seval,op,Uw];rfl
   ·have h5:¬ (t.length:Int)<=8:=by lia
    simp only[h2,h3,h4,h5,TL,Ub,pv,seval,Tt,U9,UD]
  ·have h3:¬ (1:Int)<=(t.length:Int):=by lia
   simp only[h2,h3,TL,Ub,pv,seval,Tt,UD]
def oX{α:Type}(lt:α->α->Bool)(l:List α):Bool:=((l.zip (l.drop 1)).map fun z=>lt z.1 z.2).all id
theorem ES{α:Type}(l:List α):jG l (some 1) none=l.drop 1:=by
 unfold jG;have e:HT.sIx l.length 0 (some 1)=min 1 l.length:=HT.pj _ _ 1;rw[e,HT.l5];by_cases h:1<=l.length
 ·rw[VJ h,Te (by rw[Tx];exact R1 _)]
 ·have:l=[]:=S7 (by lia);subst this;rfl
theorem qP{α:Type}(f:α->D)(l:List α):((l.map f).zip ((l.map f).drop 1)).map (fun z=>D.tup [z.1,z.2])=(l.zip (l.drop 1)).map fun z=>D.tup [f z.1,f z.2]:=by
 rw[<-List.map_drop,Xv,SE];rfl
theorem pY(x y:D)(t1 t2:Option R)(dY:PV.Env):iQ 2 (aA (au 0) (aA (au 1) cV)) (.tup [x,y]) (t1::t2::dY)=.ok (some (.f,x)::some (.f,y)::dY):=by
 rw[Ll,Sa (by simp),IH,Ju,Sa (by simp),Hq,IH,Ju,Sa (by simp),Hq];rfl
theorem lX{α:Type}(f:α->D)(lt:α->α->Bool)(h:∀a b,Kn (f a) (f b)=.ok (.f,.bl (lt a b)))(l:List α):
  dh (iQ 2 (aA (au 0) (aA (au 1) cV))) il (aD Kn (aq 0) (aq 1)) ((l.zip (l.drop 1)).map fun z=>D.tup [f z.1,f z.2]) [none,none]=.ok (((l.zip (l.drop 1)).map fun z=>lt z.1 z.2).map D.bl):=by
 rw[cZ (r:=fun z:α×α=>D.bl (lt z.1 z.2)) (fun env=>∃t1 t2,env=[t1,t2]) (l.zip (l.drop 1)) ?_ _ ⟨_,_,rfl⟩]
 ·rw[SE];rfl
 ·rintro z _ env ⟨t1,t2,rfl⟩;refine⟨_,pY _ _ t1 t2 _,?_⟩;simp only[pv,seval,op,h];exact⟨_,_,rfl,_,_,rfl⟩
theorem zip_len{α:Type}(l:List α):(l.zip (l.drop 1)).length<=l.length:=by
 rw[Ui];lia
theorem Cz{α:Type}(f:α->D)(lt:α->α->Bool)(h:∀a b,Kn (f a) (f b)=.ok (.f,.bl (lt a b)))(l:List α)(hl:l.length<=16777216):fW [.lst (l.map f)]=.ok (.f,.bl (oX lt l)):=by
 unfold fW pM;rw[aS (h:=by rfl)];have hz:=zip_len l;simp only[pv,seval,op,r9,ES,fK,qP,S4,lX f lt h l];rw[Sa (dI (by rw[RU];lia))];simp only[pv,seval,op];rfl
theorem uX{α:Type}(f:α->D)(lt:α->α->Bool)(h:∀a b,Kn (f a) (f b)=.ok (.f,.bl (lt a b)))(l:List α)(hl:l.length<=16777216):fW [.tup (l.map f)]=.ok (.f,.bl (oX lt l)):=by
 unfold fW pM;rw[aS (h:=by rfl)];have hz:=zip_len l;simp only[pv,seval,op,r9,ES,fK,qP,S4,lX f lt h l];rw[Sa (dI (by rw[RU];lia))];simp only[pv,seval,op];rfl
theorem CA(a b:List Nat):Kn (.str a) (.str b)=.ok (.f,.bl (IU a b)):=rfl
theorem for_list{α:Type}{a:FG}{g:FS}{e:α->D}(l:List α)(P:Nat->PV.Env->Prop)
  (h:∀k x env,l[k]?=some x->P k env->∃FZ,a (e x) env=.ok FZ/\∃Gm,g FZ=.ok (.nx Gm)/\P (k+1) Gm):∀env,P 0 env->∃env',jl a g (l.map e) env=.ok (.nx env')/\P l.length env':=by
 intro env h0;have:=m7 (a:=a) (g:=g) P (l.map e) (fun i d env hi hp=>by
  rw[Sm,Sy]at hi;obtain⟨x,hx,rfl⟩:=hi;obtain⟨FZ,h1,Gm,h2,h3⟩:=h i x env hx hp;exact⟨FZ,h1,Gm,.inl h2,h3⟩) env h0
 rwa [RU]at this
abbrev Gf:=List (List Nat)
theorem bM{α β:Type}{l:List α}(f:α->β):(l.map f).length=l.length:=RU f
theorem dW:(false=true)=False:=S4
theorem qQ{α:Type}{l:List α}{i:Nat}{a:α}(h:l[i]?=some a):∃h:i<l.length,l[i]=a:=Se.mp h
theorem CB{α:Type}{l:List α}{i:Nat}(h:i<l.length):l[i]?=some l[i]:=RP h
theorem jK{α β:Type}{f:α->β}{a:α}{l:List α}:(a::l).map f=f a::l.map f:=So
theorem ET{α:Type}{a b:α}(h:a∈[b]):a=b:=S9.mp h
theorem su{α β:Type}{f:α->β}{l:List α}{b:β}(h:b∈l.map f):∃a,a∈l/\f a=b:=TM.mp h
theorem Em{α:Type}{a:α}{s t:List α}(h:a∈s++t):a∈s\/a∈t:=Ss.mp h
theorem cF{α:Type}{s t:List α}:(s++t).length=s.length+t.length:=SM
theorem aw{s t:FS}{env env':PV.Env}(h:s env=.ok (.nx env')):sSeq s t env=t env':=by rw[J9,h,Hq]
theorem kU{c:FT}{g:FS}(P:Nat->PV.Env->Prop)(fin:PV.Env->Prop)(h:∀k env,P k env->(∃FZ,c env=.ok (false,FZ)/\fin FZ)\/(∃FZ,c env=.ok (true,FZ)/\∃Gm k',g FZ=.ok (.nx Gm)/\k'<k/\P k' Gm)):
  ∀n k env,k<n->P k env->∃env',dQ c g n env=.ok (.nx env')/\fin env'
 | 0,k,env,hk,_=>absurd hk (WN _)
 |n+1,k,env,hk,hp=>by
  rcases h k env hp with⟨FZ,h1,h2⟩|⟨FZ,h1,Gm,k',h2,h3,h4⟩
  ·exact⟨FZ,by rw[qO,h1,Hq];rfl,h2⟩
  ·obtain⟨env',e,hf⟩:=kU P fin h n k' Gm (by lia) h4;refine⟨env',?_,hf⟩;rw[qO,h1,Hq];dsimp only;rw[Sa rfl,h2,Hq];exact e
theorem m8{α:Type}{l:List α}(h:l.length<=100000):l.length<sizeLine:=Sd (TZ _) (line_le (by lia))
theorem at2{α:Type}(a b c:α):Hv [a,b,c] (2:Int)=some c:=rfl
theorem c6{m:List Nat}(h:bw m=true):m.length<=8/\1<=m.length/\m≠aG:=by
 unfold bw at h;simp only[Si,Bool.not_eq_true',R8,Tn]at h;exact⟨h.1.2.2,h.1.2.1,h.1.1⟩
theorem pZ{α:Type}(lt:α->α->Bool)(a b:α)(l:List α):oX lt (a::b::l)=(lt a b&&oX lt (b::l)):=rfl
theorem oY{α:Type}{lt:α->α->Bool}:∀{l:List α},l.Pairwise (fun a b=>lt a b=true)->oX lt l=true
 |[],_=>rfl
 |[_],_=>rfl
 |a::b::l,h=>by
  rw[TY]at h;rw[pZ,h.1 b RQ,oY h.2];rfl
theorem jC{α:Type}{lt:α->α->Bool}(o:Ord lt){l:List α}(nd:l.Nodup):(dj lt l).Pairwise (fun a b=>lt a b=true):=by
 have h1:=fO o l;have h2:(dj lt l).Nodup:=(cX lt l).nodup_iff.mpr nd;refine(h1.and h2).imp fun{a b} h=>?_
 cases e:lt a b with
 |true=>rfl
 |false=>exact absurd (o.tot a b e h.1) h.2
theorem uY{α:Type}(lt:α->α->Bool)(l:List α):(dj lt l).length=l.length:=(cX lt l).length_eq
theorem uZ{α:Type}(lt:α->α->Bool){l:List α}{a:α}:a∈dj lt l<->a∈l:=(cX lt l).mem_iff
theorem jd:∀l:Gf,c9 (l.map D.str)=some l
 |[]=>rfl
 |a::l=>by
  rw[jK,c9,jd l];rfl
theorem u0(l:Gf)(h:l.length<64):fQ [.lst (l.map D.str)]=.ok (.l .f,.lst ((dj IU l).map D.str)):=by
 unfold fQ;dsimp only;rw[Sa (by rw[bM];exact h)];unfold pG;cases l with
 |nil=>rfl
 |cons a l=>
  have e:gN ((a::l).map D.str)=none:=rfl;rw[e,jd]
def cell(ns:List Int)(k:Nat):Int:=ns.getD k 0
theorem gs(ns:List Int)(k:Nat):ax [.lst (ns.map D.int),.int (k:Int)]=.ok (.f,.int (cell ns k)):=by
 unfold ax gU cell;rw[aS (h:=by rfl)];simp only[pv,seval,op,bM];by_cases h:k<ns.length
 ·have h1:(k:Int)<(ns.length:Int):=by lia
  have h2:Hv (ns.map D.int) (k:Int)=some (.int (ns.getD k 0)):=dZ (by rw[Sm,Sj,CB h];rfl);simp only[h1,TL,pv,seval,h2]
 ·have h1:¬ (k:Int)<(ns.length:Int):=by lia
  simp only[h1,Ub,pv,seval,dW,Sj,List.getElem?_eq_none (Vm h),Wi]
def HS:List Nat:=[97,98,99,100,101,102,103,104,105,106,107,108,109,110,111,112,113,114,115,116,117,118,119,120,121,122]
theorem yb(j:Nat)(h:j<26):HS[j]?=some (97+j):=by
 have:∀j:Fin 26,HS[j.1]?=some (97+j.1):=by decide
 exact this ⟨j,h⟩
theorem yc(j:Int)(h0:0<=j)(h:j<26):Hv HS j=some (97+j.toNat):=by
 obtain⟨n,rfl⟩:=Tw h0;exact dZ (yb n (by lia))
theorem yd(j:Int)(h0:0<=j)(h:j<26):dH (97+j.toNat)=true:=by
 unfold dH;have h1:97<=97+j.toNat:=by lia
 have h2:97+j.toNat<=122:=by lia
 simp only[h1,h2,TL,Uz]
theorem z9(x:Int):0<=x%26/\x%26<26:=⟨VL _ (by decide),Va _ (by decide)⟩
theorem En:powD (.int 10) (.int 20)=.ok (.f,.int (10 ^ 20)):=by rw[ya,Sa (by decide),show(20:Int).toNat=20 from rfl]
theorem oZ(k:Nat)(h:k<=1000):c8 (k:Int)=true:=by
 unfold c8;rw[R8];lia
theorem vf(num:Int)(k:Nat)(hk:k<8)(b:List Nat)(hb:b.length=k)(hl:b.all dH=true)(a0 a1 a2 t6:Option R):
  ∃c,dH c=true/\(cp 5 (aD addD (aq 5) (aj (aD Gq (aq 3) (aj (aD gL (aj (aD addD (aj (aD j9 (aq 4) (aj (aD addD (aq 6) (aj (ay (.int 1))))))) (aj (aD rM (aj (aD rM (aj (ay (.int 3))) (aq 6))) (aq 6))))) (aj (ay (.int 26)))))))))
   [a0,a1,a2,some (.f,.str HS),some (.f,.int num),some (.f,.str b),some (.f,.int (k:Int)),none,none,none,none]=.ok (.nx [a0,a1,a2,some (.f,.str HS),some (.f,.int num),some (.f,.str (b++[c])),some (.f,.int (k:Int)),none,none,none,none]):=by
 obtain⟨h1,h2⟩:=z9 (num / ((k:Int)+1)+3*(k:Int)*(k:Int));refine⟨_,yd _ h1 h2,?_⟩;have hs:(c8 3||c8 (k:Int))=true:=by rw[oZ k (by lia),WO]
 have Lz:(c8 (3*(k:Int))||c8 (k:Int))=true:=by rw[oZ k (by lia),WO]
 have hd:0<(k:Int)+1/\(k:Int)+1<1073741824:=by lia
 have hz:b.length+1<=sizeLine:=line_le (by lia);simp only[pv,seval,op,o_addS,pX,uU,x9,hs,Lz,hd,Int.reduceLT,and_self,yc _ h1 h2,hz]
def fix(t:List Nat):List Nat:=if t==aG then[109,111,118,101,115,97] else t
theorem CD(t:List Nat):Hv [D.str t,D.str [109,111,118,101,115,97]] (if t==[109,111,118,101,115] then 1 else 0)=some (.str (fix t)):=by
 unfold fix aG;cases t==[109,111,118,101,115] with
 |true=>exact QZ _ _ _
 |false=>exact OQ _ _
theorem xp{t:List Nat}(h1:1<=t.length)(h2:t.length<=8)(h3:t.all dH=true):bw (fix t)=true:=by
 unfold fix;cases e:t==aG with
 |true=>rfl
 |false=>
  rw[Sf R4];unfold bw;rw[e,h3];simp only[h1,h2,TL];rfl
theorem qR{α:Type}(l:List α)(k:Nat):jG l none (some (k:Int))=l.take k:=by
 unfold jG;rw[HT.l5,HT.pj,WV,Nat.sub_zero];by_cases h:k<=l.length
 ·rw[VJ h]
 ·rw[Nat.min_eq_right (by lia),Te (R1 _),Te (by lia)]
theorem m9{α:Type}(l:List α)(k:Nat):jG l (some (k:Int)) none=l.drop k:=by
 unfold jG;rw[HT.l5,HT.pj];by_cases h:k<=l.length
 ·rw[VJ h,Te (by rw[Tx];exact R1 _)]
 ·rw[Nat.min_eq_right (by lia),WA (R1 _),WA (by lia),Xh]
theorem CF(c:Nat)(h:dH c=true):pI HS [.str [c]]=.ok (.f,.int ((c-97:Nat):Int)):=by
 unfold dH at h;rw[Si,R8,R8]at h;obtain⟨j,rfl⟩:∃j,c=97+j:=⟨c-97,by lia⟩
 have key:∀j:_root_.Fin 26,Builtin.Str.occurrences (S HS) (S [97+j.1]) 0 (S HS).length 1=[j.1]:=by
  intro j;rw[PySem.StrLaws.occ_eq];revert j;decide
 unfold pI;dsimp only;rw[key ⟨j,by lia⟩,Nat.add_sub_cancel_left]
theorem Aa{s t:List Nat}(h:s.length=t.length)(e:fix s=fix t):s=t:=by
 unfold fix at e;cases h1:s==aG with
 |true=>
  cases h2:t==aG with
  |true=>rw[SR.mp h1,SR.mp h2]
  |false=>
   rw[h1,h2,Sa rfl,Sf R4]at e;rw[<-e,SR.mp h1]at h;cases h
 |false=>
  cases h2:t==aG with
  |true=>
   rw[h1,h2,Sa rfl,Sf R4]at e;rw[e,SR.mp h2]at h;cases h
  |false=>
   rw[h1,h2,Sf R4,Sf R4]at e;exact e
theorem kX{α:Type}(f:Nat->α)(n:Nat)(h:∀i j,i<n->j<n->f i=f j->i=j):((List.range n).map f).Nodup:=by
 rw[List.nodup_iff_pairwise_ne,V9];refine List.pairwise_lt_range.imp_of_mem fun{a b} ha hb hl e=>?_
 have:=h a b (Tf.mp ha) (Tf.mp hb) e;lia
structure Names(n:Nat)(l:Gf):Prop where
 len:l.length=n
 nd:l.Nodup
 ok:∀m∈l,bw m=true
def swap(b:List Nat)(t j:Nat)(k:Nat):List Nat:=b.take t++[97+(((j:Int)+(k:Int))%26).toNat]++b.drop (t+1)
theorem iP(b:List Nat)(t j k:Nat)(ht:t<b.length):(swap b t j k).length=b.length:=by
 unfold swap;rw[cF,cF,SA,Tx,R6,UM];lia
theorem se(b:List Nat)(t j:Nat)(ht:t<b.length)(n:Nat)(hn:n<=5)(h8:b.length<=8)(hl:b.all dH=true):Names n ((List.range n).map fun k=>fix (swap b t j k)):=by
 refine⟨by rw[bM,Sh],kX _ n fun i k hi hk e=>?_,fun m hm=>?_⟩
 ·have e2:=Aa (by rw[iP _ _ _ _ ht,iP _ _ _ _ ht]) e;unfold swap at e2;rw[R7,R7]at e2;have e3:=List.append_cancel_left e2;rw[T5,T5]at e3;injection e3 with e4 _;lia
 ·obtain⟨k,hk,rfl⟩:=su hm;refine xp ?_ ?_ ?_
  ·rw[iP _ _ _ _ ht];lia
  ·rw[iP _ _ _ _ ht];lia
  ·obtain⟨m1,m2⟩:=z9 ((j:Int)+(k:Int));rw[SD]at hl ⊢;intro c hc;unfold swap at hc;rw[Ss,Ss]at hc;rcases hc with(hc|hc)|hc
   ·exact hl c (Vv hc)
   ·rw[S9]at hc;subst hc;exact yd _ m1 m2
   ·exact hl c (List.mem_of_mem_drop hc)
theorem ye(j:Int)(h0:0<=j)(h:j<=1000)(fo:FO)(env env':PV.Env)(o:Opd)(e1:fo env=.ok (o,env'))(e2:der env' o=.ok (.int j)):cm fo env=.ok ((List.range j.toNat).map fun(k:Nat)=>D.int (k:Int),env'):=by
 rw[H0,e1,Hq];dsimp only;rw[e2,Hq];dsimp only;rw[Sa (by lia)]
theorem ng(x b:Int)(h:0<b):gL (.int x) (.int b)=.ok (.f,.int (x%b)):=by rw[x9,Sa h]
theorem xq(x b:Int)(h:0<b)(h2:b<=1000):j9 (.int x) (.int b)=.ok (.f,.int (x / b)):=by rw[uU,Sa (by lia)]
theorem vg(b:List Nat)(t j k:Nat)(ht:t<b.length)(h8:b.length<=8)(hk:k<5)(a0 a1 a2 a4 OS:Option R)(l:Gf)(hl:l.length<=100):
  (sSeq (cp 10 (aD addD (aj (aD addD (aj (lP (aq 5) eQ (d7 (aJ 7)))) (aj (aD Gq (aq 3) (aj (aD gL (aj (aD addD (aq 8) (aq 6))) (aj (ay (.int 26))))))))) (aj (lP (aq 5) (d7 (aD addD (aq 7) (aj (ay (.int 1))))) eQ))))
  (fJ (uq 9 (aD Gq (aj (jm (aF (aJ 10) (aF (ay (.str [109,111,118,101,115,97])) bH)))) (aj (aZ xV (af (aj (bW HR (aq 10) (aj (ay (.str [109,111,118,101,115]))))) ar)))))))
   [a0,a1,a2,some (.f,.str HS),a4,some (.f,.str b),some (.f,.int (k:Int)),some (.f,.int (t:Int)),some (.f,.int (j:Int)),some (.l .f,.lst (l.map D.str)),OS]
  = .ok (.nx [a0,a1,a2,some (.f,.str HS),a4,some (.f,.str b),some (.f,.int (k:Int)),some (.f,.int (t:Int)),some (.f,.int (j:Int)),some (.l .f,.lst ((l++[fix (swap b t j k)]).map D.str)),some (.f,.str (swap b t j k))]):=by
 obtain⟨m1,m2⟩:=z9 ((j:Int)+(k:Int));have hsl:=iP b t j k ht;have z1:(b.take t).length+1<=sizeLine:=line_le (by rw[SA];lia);have z2:(b.take t++[97+(((j:Int)+(k:Int))%26).toNat]).length+(b.drop (t+1)).length<=sizeLine:=line_le (by rw[<-cF];show(swap b t j k).length<=_;lia);have z3:(l.map D.str).length<sizeLine:=Sd (TZ _) (line_le (by rw[bM];lia));have c1:jG b (some ((t:Int)+1)) none=b.drop (t+1):=m9 b (t+1);have hs:b.take t++[97+(((j:Int)+(k:Int))%26).toNat]++b.drop (t+1)=swap b t j k:=rfl;simp only[pv,seval,op,o_addS,ng _ 26 (by decide),qR,c1,yc _ m1 m2,z1,z2,hs,CD,z3,Sk]
theorem Ab(cel IY cnt num:Int)(b:List Nat)(t6:Option R)(OT:1<=b.length)(h8:b.length<=8)(Mk:b.all dH=true)(h1:0<=cnt)(h5:cnt<=5):∃l,Names cnt.toNat l/\(sSeq (cp 7 (aD gL (aq 1) (aj (aZ iz (af (aq 5) ar)))))
  (sSeq (cp 8 (wY pI (aq 3) (af (aj (aD Gq (aq 5) (aq 7))) ar)))
  (sSeq (cp 9 (jm bH))
  (sSeq (lj (cm (aq 2)) (au 6)
  (sSeq (cp 10 (aD addD (aj (aD addD (aj (lP (aq 5) eQ (d7 (aJ 7)))) (aj (aD Gq (aq 3) (aj (aD gL (aj (aD addD (aq 8) (aq 6))) (aj (ay (.int 26))))))))) (aj (lP (aq 5) (d7 (aD addD (aq 7) (aj (ay (.int 1))))) eQ))))
  (fJ (uq 9 (aD Gq (aj (jm (aF (aJ 10) (aF (ay (.str [109,111,118,101,115,97])) bH)))) (aj (aZ xV (af (aj (bW HR (aq 10) (aj (ay (.str [109,111,118,101,115]))))) ar))))))))
  (dJ (aZ fQ (af (aq 9) ar)))))))
   [some (.f,.int cel),some (.f,.int IY),some (.f,.int cnt),some (.f,.str HS),some (.f,.int num),some (.f,.str b),t6,none,none,none,none]=.ok (.rt (.l .f,.lst ((dj IU l).map D.str))):=by
 have hm:0<=IY%(b.length:Int)/\IY%(b.length:Int)<(b.length:Int):=⟨VL _ (by lia),Va _ (by lia)⟩
 obtain⟨t,et⟩:=Tw hm.1;have ht:t<b.length:=by lia
 have ea:Hv b (t:Int)=some b[t]:=dZ (CB ht);have hc:dH b[t]=true:=SD.mp Mk _ (SW ht);refine⟨_,se b t (b[t]-97) ht cnt.toNat (by lia) h8 Mk,?_⟩;simp only[pv,seval,op,ng IY (b.length:Int) (by lia),et,ea,CF _ hc];rw[Sa (by lia)];simp only[pv,seval,op];obtain⟨env',ef,t6',OS,rfl⟩:=m7 (a:=au 6) (fun i env=>∃t6 OS,env=[some (.f,.int cel),some (.f,.int IY),some (.f,.int cnt),some (.f,.str HS),some (.f,.int num),some (.f,.str b),t6,some (.f,.int (t:Int)),some (.f,.int ((b[t]-97:Nat):Int)),some (.l .f,.lst (((List.range i).map fun k=>fix (swap b t (b[t]-97) k)).map D.str)),OS]) ((List.range cnt.toNat).map fun(k:Nat)=>D.int (k:Int)) (by
  rintro i d env hi ⟨t6,OS,rfl⟩;rw[Sm,Sy]at hi;obtain⟨k,hk,rfl⟩:=hi;obtain⟨LH,Kl⟩:=qQ hk;rw[Sh]at LH;rw[TV]at Kl;subst Kl;refine⟨_,rfl,_,.inl (vg b t (b[t]-97) i ht h8 (by lia) _ _ _ _ _ _ (by rw[bM,Sh];lia)),some (.f,.int (i:Int)),some (.f,.str (swap b t (b[t]-97) i)),?_⟩;rw[WE,Sk (l₁:=List.range i),jK,U3]) _ ⟨t6,none,rfl⟩
 rw[List.range_zero,U3,U3]at ef;rw[ef,bM,Sh];simp only[pv,seval,op,u0 _ (show((List.range cnt.toNat).map fun k=>fix (swap b t (b[t]-97) k)).length<64 by rw[bM,Sh];lia)]
theorem Ac(cel IY cnt:Int)(h1:0<=cnt)(h5:cnt<=5):∃l,Names cnt.toNat l/\cE [.int cel,.int IY,.int cnt]=.ok (.l .f,.lst ((dj IU l).map D.str)):=by
 unfold cE jy;rw[aS (h:=by rfl)];have nb:=fun num b t6 OT h8 Mk=>Ab cel IY cnt num b t6 OT h8 Mk h1 h5
 generalize (sSeq (cp 7 (aD gL (aq 1) (aj (aZ iz (af (aq 5) ar)))))
  (sSeq (cp 8 (wY pI (aq 3) (af (aj (aD Gq (aq 5) (aq 7))) ar)))
  (sSeq (cp 9 (jm bH))
  (sSeq (lj (cm (aq 2)) (au 6)
  (sSeq (cp 10 (aD addD (aj (aD addD (aj (lP (aq 5) eQ (d7 (aJ 7)))) (aj (aD Gq (aq 3) (aj (aD gL (aj (aD addD (aq 8) (aq 6))) (aj (ay (.int 26))))))))) (aj (lP (aq 5) (d7 (aD addD (aq 7) (aj (ay (.int 1))))) eQ))))
  (fJ (uq 9 (aD Gq (aj (jm (aF (aJ 10) (aF (ay (.str [109,111,118,101,115,97])) bH)))) (aj (aZ xV (af (aj (bW HR (aq 10) (aj (ay (.str [109,111,118,101,115]))))) ar))))))))
  (dJ (aZ fQ (af (aq 9) ar)))))))=TT at nb ⊢
 simp only[pv,↓reduceIte,Nat.reduceAdd,Nat.reduceLT,Nat.reduceLeDiff,Nat.reduceEqDiff,op,En,ng cel (10 ^ 20) (by decide)];generalize cel%10 ^ 20=num;have hm8:0<=num%8/\num%8<8:=⟨VL _ (by decide),Va _ (by decide)⟩
 rw[show([97,98,99,100,101,102,103,104,105,106,107,108,109,110,111,112,113,114,115,116,117,118,119,120,121,122]:List Nat)=HS from rfl];simp only[ng num 8 (by decide),pv,↓reduceIte,Nat.reduceAdd,Nat.reduceLT,Nat.reduceLeDiff,Nat.reduceEqDiff,op];rw[Sa (by lia)];simp only[pv,↓reduceIte,Nat.reduceAdd,Nat.reduceLT,Nat.reduceLeDiff,Nat.reduceEqDiff,op];obtain⟨env',ef,b,t6,hbl,Mk,rfl⟩:=m7 (a:=au 6) (fun i env=>∃b t6,b.length=i/\b.all dH=true/\env=[some (.f,.int cel),some (.f,.int IY),some (.f,.int cnt),some (.f,.str HS),some (.f,.int num),some (.f,.str b),t6,none,none,none,none]) ((List.range (1+num%8).toNat).map fun(k:Nat)=>D.int (k:Int)) (by
  rintro i d env hi ⟨b,t6,hb,Mk,rfl⟩;rw[Sm,Sy]at hi;obtain⟨k,hk,rfl⟩:=hi;obtain⟨LH,Kl⟩:=qQ hk;rw[Sh]at LH;rw[TV]at Kl;subst Kl;obtain⟨c,hc,ec⟩:=vf num i (by lia) b hb Mk (some (.f,.int cel)) (some (.f,.int IY)) (some (.f,.int cnt)) t6;exact⟨_,rfl,_,.inl ec,b++[c],_,by rw[cF,hb];rfl,by rw[List.all_append,Mk,Vz,hc];rfl,rfl⟩) _ ⟨[],_,rfl,rfl,rfl⟩
 rw[ef,Hq];rw[bM,Sh]at hbl;clear ef;obtain⟨l,hl,e⟩:=nb num b t6 (by lia) (by lia) Mk;refine⟨l,hl,?_⟩;simp only[pv,↓reduceIte,Nat.reduceAdd,Nat.reduceLT,Nat.reduceLeDiff,Nat.reduceEqDiff,op,e]
theorem S_inj{a b:List Nat}(h:S a=S b):a=b:=by
 have:=Tq (fun s:Str=>s.cps.toList) h;simpa only[dv] using this
def p0(c:Nat):Bool:=decide (48<=c)&&decide (c<=57)
theorem kY(c:Nat):bY [.str [c]]=.ok (.f,.bl (p0 c)):=by
 unfold bY kH p0;rw[aS (h:=by rfl)];simp only[pv,seval,op,ER];by_cases h1:c<48
 ·have h2:¬ 48<=c:=by lia
  simp only[h1,h2,TL,Ub,SJ,UD,Hq]
 ·have h2:48<=c:=by lia
  simp only[h1,h2,TL,Ub,Tt,U9,Hq];by_cases h3:57<c
  ·have h4:¬ c<=57:=by lia
   simp only[h3,h4,TL,Ub,SJ]
  ·have h4:c<=57:=by lia
   simp only[h3,h4,TL,Ub,Tt]
def kd(c:Nat):Nat:=if dH c then 0 else if p0 c then 1 else if c=32 then 2 else if c=59 then 3 else 4
def kW:Nat->List Nat
 | 0=>[108,101,116,116,101,114]
 | 1=>[102,105,103,117,114,101]
 | 2=>[98,108,97,110,107]
 |_=>[115,101,109,105,99,111,108,111,110]
theorem qS{a b:Nat}(ha:a<4)(hb:b<4):(kW a==kW b)=decide (a=b):=by
 have:a=0\/a=1\/a=2\/a=3:=by lia
 have:b=0\/b=1\/b=2\/b=3:=by lia
 rcases ‹a=0\/_› with rfl|rfl|rfl|rfl <;> rcases ‹b=0\/_› with rfl|rfl|rfl|rfl <;> decide
theorem vh(c:Nat)(h:kd c<4):cK [.str [c]]=.ok (.f,.str (kW (kd c))):=by
 have hl:=kS c;have hf:=kY c;unfold cK oJ;rw[aS (h:=by rfl)];unfold kd at h ⊢;cases h1:dH c with
 |true=>
  rw[h1]at hl;simp only[pv,seval,op,hl,aO,ft] <;> rfl
 |false=>
  rw[h1]at hl h;cases h2:p0 c with
  |true=>
   rw[h2]at hf;simp only[pv,seval,op,hl,hf,aO,ft,dW] <;> rfl
  |false=>
   rw[h2]at hf h;rw[Sf R4,Sf R4]at h ⊢;by_cases h3:c=32
   ·subst h3;simp only[pv,seval,op,hl,hf,aO,ft,dW] <;> rfl
   ·rw[Sf h3]at h ⊢;by_cases h4:c=59
    ·subst h4;simp only[pv,seval,op,hl,hf,aO,ft,dW] <;> rfl
    ·rw[Sf h4]at h;exact absurd h (T6 _)
theorem je{t:List Nat}{i c:Nat}(h:t[i]?=some c):Gq (.str t) (.int (i:Int))=.ok (.f,.str [c]):=by
 rw[Cp,dZ h]
theorem Eo(t:List Nat)(ht:t.length<=50000)(s n k:Nat)(hk:k<3)(hn:1<=n)(Kv:∀i,s<=i->i<s+n->∃c,t[i]?=some c/\kd c=k)(OU:s+n=t.length\/∃c,t[s+n]?=some c/\kd c<4/\kd c≠k):bB [.str t,.int (s:Int),.str (kW k)]=.ok (.f,.int ((s+n:Nat):Int)):=by
 have hle:s+n<=t.length:=by
  obtain⟨c,hc,_⟩:=Kv (s+n-1) (by lia) (by lia);have:=(qQ hc).1;lia
 unfold bB fU;rw[aS (h:=by rfl)];rw[aw (env':=[some (.f,.str t),some (.f,.int (s:Int)),some (.f,.str (kW k)),some (.f,.int ((s+1:Nat):Int))]) (by simp only[pv,seval,op] <;> rfl)];have h3:(kW k==[115,101,109,105,99,111,108,111,110])=false:=by
  rw[show([115,101,109,105,99,111,108,111,110]:List Nat)=kW 3 from rfl,qS (by lia) (by lia)];exact Sb (by lia)
 rw[aw (env':=[some (.f,.str t),some (.f,.int (s:Int)),some (.f,.str (kW k)),some (.f,.int ((s+1:Nat):Int))]) (by simp only[pv,seval,op,h3,dW])];obtain⟨env',hw,rfl⟩:=kU (c:=xR (Gz (aD Kn (aq 3) (aj (aZ iz (af (aq 0) ar))))) (Gz (bW HR (aj (cx cK (af (aj (aD Gq (aq 0) (aq 3))) ar))) (aq 2)))) (g:=dE) (fun m env=>∃e:Nat,s+1<=e/\e+m=s+n/\env=[some (.f,.str t),some (.f,.int (s:Int)),some (.f,.str (kW k)),some (.f,.int (e:Int))]) (fun env=>env=[some (.f,.str t),some (.f,.int (s:Int)),some (.f,.str (kW k)),some (.f,.int ((s+n:Nat):Int))]) (by
  rintro m env ⟨e,he1,PB,rfl⟩;by_cases hm:m=0
  ·left;have ee:e=s+n:=by lia
   subst ee;refine⟨_,?_,rfl⟩;rcases OU with OU|⟨c,hc,hc4,Nr⟩
   ·have He:decide (((s+n:Nat):Int)<(t.length:Int))=false:=Sb (by lia);simp only[pv,seval,op,He,dW]
   ·have He:decide (((s+n:Nat):Int)<(t.length:Int))=true:=Sq (by have:=(qQ hc).1;lia);have HU:=je hc;have Ls:=vh c hc4;have Kj:(kW (kd c)==kW k)=false:=by
     rw[qS hc4 (by lia)];exact Sb Nr
    simp only[pv,seval,op,He,HU,Ls,aO,cS,Kj]
  ·right;obtain⟨c,hc,Nr⟩:=Kv e (by lia) (by lia);have He:decide ((e:Int)<(t.length:Int))=true:=Sq (by have:=(qQ hc).1;lia);have HU:=je hc;have Ls:=vh c (by lia);rw[Nr]at Ls;have heq:(kW k==kW k)=true:=SQ _;refine⟨[some (.f,.str t),some (.f,.int (s:Int)),some (.f,.str (kW k)),some (.f,.int (e:Int))],?_,[some (.f,.str t),some (.f,.int (s:Int)),some (.f,.str (kW k)),some (.f,.int ((e+1:Nat):Int))],m-1,?_,by lia,e+1,by lia,by lia,rfl⟩
   ·simp only[pv,seval,op,He,HU,Ls,aO,cS,heq]
   ·unfold dE;simp only[pv,seval,op] <;> rfl) 100000 (n-1) [some (.f,.str t),some (.f,.int (s:Int)),some (.f,.str (kW k)),some (.f,.int ((s+1:Nat):Int))] (by lia) ⟨s+1,R1 _,by lia,rfl⟩
 unfold gP fR;rw[aw hw];simp only[pv,seval]
theorem CG(t:List Nat)(s:Nat):bB [.str t,.int (s:Int),.str (kW 3)]=.ok (.f,.int ((s+1:Nat):Int)):=by
 unfold bB fU;rw[aS (h:=by rfl)];rw[aw (env':=[some (.f,.str t),some (.f,.int (s:Int)),some (.f,.str (kW 3)),some (.f,.int ((s+1:Nat):Int))]) (by simp only[pv,seval,op] <;> rfl)];have h3:(kW 3==[115,101,109,105,99,111,108,111,110])=true:=by decide
 simp only[pv,seval,op,h3]
structure Chk(c:List Nat)(k:Nat):Prop where
 ne:c≠[]
 k4:k<4
 all:∀x∈c,kd x=k
 one:k=3->c.length=1
 fig:k=1->c.length<=60/\(1<c.length->c.head?≠some 48)
theorem Ad{c:List Nat}(h:Chk c 1):bI [.str c]=.ok (.f,.non):=by
 obtain⟨h60,h0⟩:=h.fig rfl;unfold bI fV;rw[aS (h:=by rfl)];have c1:decide ((c.length:Int)>60)=false:=Sb (by lia);have c1:decide (60<(c.length:Int))=false:=c1;rw[aw (env':=[some (.f,.str c)]) (by simp only[pv,seval,op,c1,dW])];by_cases h1:1<c.length
 ·have c2:decide (1<(c.length:Int))=true:=Sq (by lia);obtain⟨x,r,rfl⟩:∃x r,c=x::r:=by
   cases c with
   |nil=>exact absurd rfl h.ne
   |cons x r=>exact⟨x,r,rfl⟩
  have hx:x≠48:=fun z=>h0 h1 (by rw[z];rfl)
  have HU:Gq (.str (x::r)) (.int 0)=.ok (.f,.str [x]):=je (i:=0) rfl;have he:(([x]:List Nat)==[48])=false:=by
   rw[Tn];intro z;exact hx (U7 z).1
  generalize x::r=cc at c2 HU;simp only[pv,seval,op,c2,HU,he,dW] <;> rfl
 ·have c2:decide (1<(c.length:Int))=false:=Sb (by lia);simp only[pv,seval,op,c2,dW] <;> rfl
inductive Chs:List (List Nat×Nat)->Prop
 |nil:Chs []
 |one {c:List Nat}{k:Nat}:Chk c k->Chs [(c,k)]
 |cons {c d:List Nat}{k j:Nat}{l:List (List Nat×Nat)}:Chk c k->(k=3\/k≠j)->Chs ((d,j)::l)->Chs ((c,k)::(d,j)::l)
theorem Chs.head{c:List Nat}{k:Nat}{l:List (List Nat×Nat)}(h:Chs ((c,k)::l)):Chk c k/\Chs l/\(k=3\/l=[]\/∃d j l',l=(d,j)::l'/\k≠j/\Chk d j):=by
 cases h with
 |one h=>exact⟨h,.nil,.inr (.inl rfl)⟩
 |cons h hk hl=>
  refine⟨h,hl,?_⟩;rcases hk with hk|hk
  ·exact .inl hk
  ·refine .inr (.inr ⟨_,_,_,rfl,hk,?_⟩);cases hl with
   |one h=>exact h
   |cons h _ _=>exact h
def txt(l:List (List Nat×Nat)):List Nat:=(l.map (·.1)).flatten
def Ia(l:List (List Nat×Nat)):Gf:=(l.filter fun z=>!(z.2==2)).map (·.1)
theorem bU(c:List Nat)(k:Nat)(l:List (List Nat×Nat)):txt ((c,k)::l)=c++txt l:=by
 unfold txt;rw[jK,Us]
theorem dX(c:List Nat)(k:Nat)(l:List (List Nat×Nat)):Ia ((c,k)::l)=if k=2 then Ia l else c::Ia l:=by
 unfold Ia;by_cases h:k=2
 ·rw[UA (by rw[h];exact R4),Sa h]
 ·rw[UB (by show(!(k==2))=true;rw[Tn.mpr h];rfl),Sf h,jK]
theorem qU{pre c post:List Nat}{i:Nat}(h1:pre.length<=i)(h2:i<pre.length+c.length):∃x∈c,(pre++(c++post))[i]?=some x:=by
 rw[S6 h1,VR (by lia),CB (by lia)];exact⟨_,SW _,rfl⟩
theorem Ae{pre c post:List Nat}{k:Nat}(hl:(pre++(c++post)).length<=50000)(h:Chk c k)(hp:k=3\/post=[]\/∃x r,post=x::r/\kd x<4/\kd x≠k):bB [.str (pre++(c++post)),.int (pre.length:Int),.str (kW k)]=.ok (.f,.int ((pre.length+c.length:Nat):Int)):=by
 have hc:=U1.mpr h.ne;by_cases h3:k=3
 ·subst h3;rw[CG,h.one rfl]
 ·have hk4:=h.k4;refine Eo _ hl pre.length c.length k (by lia) (by lia) (fun i h1 h2=>?_) ?_
  ·obtain⟨x,hx,e⟩:=qU (post:=post) h1 h2;exact⟨x,e,h.all x hx⟩
  ·rcases hp.resolve_left h3 with rfl|⟨x,r,rfl,hx⟩
   ·left;rw[Sg,cF]
   ·right;refine⟨x,?_,hx⟩;rw[S6 (by lia),S6 (by lia),show pre.length+c.length-pre.length-c.length=0 by lia];rfl
theorem Ep(pre c post:List Nat):jG (pre++(c++post)) (some (pre.length:Int)) (some ((pre.length+c.length:Nat):Int))=c:=by
 unfold jG;have e1:HT.sIx (pre++(c++post)).length 0 (some (pre.length:Int))=pre.length:=by
  unfold HT.sIx;simp;lia
 have e2:HT.sIx (pre++(c++post)).length (pre++(c++post)).length (some ((pre.length+c.length:Nat):Int))=pre.length+c.length:=by
  unfold HT.sIx;simp;lia
 rw[e1,e2,List.drop_left,show pre.length+c.length-pre.length=c.length by lia,List.take_left]
theorem Af{pre c post:List Nat}{k:Nat}(hl:(pre++(c++post)).length<=50000)(h:Chk c k)(hp:k=3\/post=[]\/∃x r,post=x::r/\kd x<4/\kd x≠k)(out:Gf)(ho:out.length<=50000)(t3 t4 t5:Option R):
  ∃u3 u4 u5,gF [some (.f,.str (pre++(c++post))),some (.l .f,.lst (out.map D.str)),some (.f,.int ((pre.length:Nat):Int)),t3,t4,t5]=.ok (.nx [some (.f,.str (pre++(c++post))),some (.l .f,.lst ((if k=2 then out else out++[c]).map D.str)),some (.f,.int ((pre.length+c.length:Nat):Int)),u3,u4,u5]):=by
 have hc:=U1.mpr h.ne;obtain⟨x,hx,HU⟩:=qU (pre:=pre) (c:=c) (post:=post) (i:=pre.length) (R1 _) (by lia);have HU:=je HU;have RD:=h.all x hx;have Ls:=vh x (by rw[RD];exact h.k4);rw[RD]at Ls;have RE:=Ae hl h hp;have Ml:=Ep pre c post;have hz:(out.map D.str).length<sizeLine:=m8 (by rw[bM];lia);generalize pre++(c++post)=T at HU RE Ml;refine⟨some (.f,.str (kW k)),some (.f,.int ((pre.length+c.length:Nat):Int)),some (.f,.str c),?_⟩;unfold gF;rw[aw (env':=[some (.f,.str T),some (.l .f,.lst (out.map D.str)),some (.f,.int ((pre.length:Nat):Int)),some (.f,.str (kW k)),t4,t5]) (by simp only[pv,seval,op,HU,Ls,aO,cS])];rw[aw (env':=[some (.f,.str T),some (.l .f,.lst (out.map D.str)),some (.f,.int ((pre.length:Nat):Int)),some (.f,.str (kW k)),some (.f,.int ((pre.length+c.length:Nat):Int)),t5]) (by simp only[pv,seval,op,RE,aO,cf])];rw[aw (env':=[some (.f,.str T),some (.l .f,.lst (out.map D.str)),some (.f,.int ((pre.length:Nat):Int)),some (.f,.str (kW k)),some (.f,.int ((pre.length+c.length:Nat):Int)),some (.f,.str c)]) (by simp only[pv,seval,op,Ml])];rw[aw (env':=[some (.f,.str T),some (.l .f,.lst (out.map D.str)),some (.f,.int ((pre.length:Nat):Int)),some (.f,.str (kW k)),some (.f,.int ((pre.length+c.length:Nat):Int)),some (.f,.str c)]) (by
  have e1:=qS (a:=k) (b:=1) h.k4 (by decide);have e1:(kW k==[102,105,103,117,114,101])=decide (k=1):=e1;by_cases h1:k=1
  ·rw[Sq h1]at e1;rw[h1]at h;have Nr:=Ad h;have KS:dw .non=true:=rfl;simp only[pv,seval,op,e1,Nr,aO,KS]
  ·rw[Sb h1]at e1;simp only[pv,seval,op,e1,dW])]
 have e2:=qS (a:=k) (b:=2) h.k4 (by decide);have e2:(kW k==[98,108,97,110,107])=decide (k=2):=e2;by_cases h2:k=2
 ·rw[Sq h2]at e2;rw[Sa h2];simp only[pv,seval,op,e2,SJ,dW]
 ·rw[Sb h2]at e2;rw[Sf h2,Sk];simp only[pv,seval,op,e2,Tt,hz] <;> rfl
theorem Ag(l:List (List Nat×Nat))(hc:Chs l)(hl:(txt l).length<=50000):i4 [.str (txt l)]=.ok (.l .f,.lst ((Ia l).map D.str)):=by
 obtain⟨env',hw,t3,t4,t5,rfl⟩:=kU (c:=Gz (aD Kn (aq 2) (aj (aZ iz (af (aq 0) ar))))) (g:=gF) (fun m env=>∃(pre:List Nat) (out:Gf) (r:List (List Nat×Nat)) (t3 t4 t5:Option R),Chs r/\r.length=m/\txt l=pre++txt r/\Ia l=out++Ia r/\out.length<=pre.length/\env=[some (.f,.str (txt l)),some (.l .f,.lst (out.map D.str)),some (.f,.int ((pre.length:Nat):Int)),t3,t4,t5])
  (fun env=>∃t3 t4 t5,env=[some (.f,.str (txt l)),some (.l .f,.lst ((Ia l).map D.str)),some (.f,.int (((txt l).length:Nat):Int)),t3,t4,t5]) (by
  rintro m env ⟨pre,out,r,t3,t4,t5,hr,hm,ht,hk,hop,rfl⟩;cases r with
  |nil=>
   left;have ht:txt l=pre:=ht.trans (Sg _);have hk:Ia l=out:=hk.trans (Sg _);have He:decide (((pre.length:Nat):Int)<((txt l).length:Int))=false:=Sb (by rw[ht];lia);refine⟨_,?_,t3,t4,t5,rfl⟩;rw[hk,<-ht] at *;simp only[pv,seval,op,He]
  |cons z r=>
   right;obtain⟨c,k⟩:=z;obtain⟨h1,h2,h3⟩:=hr.head;have Pk:=U1.mpr h1.ne;rw[bU]at ht;rw[dX]at hk;have He:decide (((pre.length:Nat):Int)<((txt l).length:Int))=true:=Sq (by rw[ht,cF,cF];lia);have Ha:pre.length<=50000:=by
    rw[ht,cF]at hl;lia
   obtain⟨u3,u4,u5,e⟩:=Af (pre:=pre) (c:=c) (post:=txt r) (by rw[<-ht];exact hl) h1 (by
    refine h3.imp id fun h3=>h3.imp (fun h3=>by rw[h3];rfl) fun Gk=>?_
    obtain⟨d,j,l',h3,hkj,hd⟩:=Gk;obtain⟨x,rr,ed⟩:∃x rr,d=x::rr:=by
     cases d with
     |nil=>exact absurd rfl hd.ne
     |cons x rr=>exact⟨x,rr,rfl⟩
    have hx:=hd.all x (by rw[ed];exact RQ);refine⟨x,rr++txt l',by rw[h3,bU,ed];rfl,by rw[hx];exact hd.k4,by rw[hx];exact fun z=>hkj z.symm⟩) out (by lia) t3 t4 t5
   rw[<-ht]at e;refine⟨[some (.f,.str (txt l)),some (.l .f,.lst (out.map D.str)),some (.f,.int ((pre.length:Nat):Int)),t3,t4,t5],by simp only[pv,seval,op,He],_,r.length,e,by rw[<-hm];exact TZ _,pre++c,if k=2 then out else out++[c],r,u3,u4,u5,h2,rfl,by rw[ht,R7],?_,?_,by rw[cF]⟩
   ·rw[hk];split
    ·rfl
    ·rw[R7];rfl
   ·rw[cF];split
    ·lia
    ·rw[cF,S5];lia) 100000 l.length [some (.f,.str (txt l)),some (.l .f,.lst []),some (.f,.int ((([]:List Nat).length:Nat):Int)),none,none,none] (by
   have:∀l:List (List Nat×Nat),Chs l->l.length<=(txt l).length:=fun l=>by
    induction l with
    |nil=>exact fun _=>Tu _
    |cons z l ih=>
     intro h;obtain⟨c,k⟩:=z;obtain⟨h1,h2,_⟩:=h.head;have:=U1.mpr h1.ne;have:=ih h2;rw[bU,cF,R6];lia
   have:=this l hc;lia) ⟨[],[],l,none,none,none,hc,rfl,rfl,rfl,R1 _,rfl⟩
 have JF:pE "str" (.str (txt l))=true:=rfl;unfold i4 uP;rw[aS (h:=by rfl)];rw[aw (env':=[some (.f,.str (txt l)),none,none,none,none,none]) (by simp only[pv,seval,op,JF,SJ,dW])];rw[aw (env':=[some (.f,.str (txt l)),some (.l .f,.lst []),none,none,none,none]) (by simp only[pv,seval,op])];rw[aw (env':=[some (.f,.str (txt l)),some (.l .f,.lst []),some (.f,.int ((([]:List Nat).length:Nat):Int)),none,none,none]) (by simp only[pv,seval,op] <;> rfl)];unfold oK lQ;rw[aw hw];simp only[pv,seval]
theorem Ah(env:PV.Env)(f:FX):zV f env=Res.bnd (f env) (f:=⟨fun p=>match p.1.1 with
 | .l .f=>.ok ((.l (.l .f),.lst [p.1.2]),p.2)
 |_=>.bad⟩):=id rfl
theorem Ai(env:PV.Env)(i:Nat)(f:FX):xa i f env=if mB env i then Res.bnd (f env) (f:=⟨fun(p:R×PV.Env)=>match p.1.1,p.2[i]? with
 | .l .f,some (some (.l (.l .f),.lst ds))=>if ds.length<sizeLine then .ok ((.f,.non),p.2.set i (some (.l (.l .f),.lst (ds++[p.1.2])))) else .bad
 |_,_=>.bad⟩) else .bad:=id rfl
theorem Er(env:PV.Env)(i:Nat)(c:Int)(l:Nat):rP i c l env=match env[i]?,env[l]? with
 |some (some (.l (.l .f),.lst ds)),some (some (.f,d))=>(match ixN ds.length c with
  |some m=>(match ds[m]? with
   |some (.lst es)=>if es.length<sizeLine then .ok ((.f,.non),env.set i (some (.l (.l .f),.lst (ds.set m (.lst (es++[d])))))) else .bad
   |_=>.bad)
  |none=>.bad)
 |_,_=>.bad:=id rfl
theorem CH(env:PV.Env)(f:FX):D7 f env=Res.bnd (f env) (f:=⟨fun p=>.ok ((.f,p.1.2),p.2)⟩):=id rfl
def eW(p:Gf):D:=.lst (p.map D.str)
def Hj:List Nat:=[59]
def sv(Q:List (Gf))(p:Gf)(w:List Nat):List (Gf)×Gf:=if w=Hj then(Q++[p],[]) else(Q,p++[w])
def KQ:Gf->List (Gf)->Gf->List (Gf)
 |[],Q,p=>Q++[p]
 |w::ws,Q,p=>KQ ws (sv Q p w).1 (sv Q p w).2
theorem kZ:∀(ws dY:Gf) (Q:List (Gf)) (p:Gf),(∀w∈ws,w≠Hj)->KQ (ws++dY) Q p=KQ dY Q (p++ws)
 |[],dY,Q,p,_=>by rw[VI,Sg]
 |w::ws,dY,Q,p,h=>by
  rw[T5,KQ];unfold sv;rw[Sf (h w RQ),kZ ws dY Q (p++[w]) fun x hx=>h x (RZ _ hx),R7];rfl
theorem Aj(ws:Gf)(Q:List (Gf))(p:Gf):KQ (Hj::ws) Q p=KQ ws (Q++[p]) []:=by
 rw[KQ];unfold sv;rw[Sa rfl]
theorem vk:∀(ps:List (Gf)) (Q:List (Gf)) (p:Gf),(∀q∈ps,∀w∈q,w≠Hj)->KQ (ps.flatMap fun q=>Hj::q) Q p=Q++p::ps
 |[],Q,p,_=>rfl
 |q::ps,Q,p,h=>by
  rw[SK,T5,Aj,kZ q _ _ _ (h q RQ),VI,vk ps _ _ fun x hx=>h x (RZ _ hx),R7];rfl
theorem CI(w:List Nat):(w==[59])=decide (w=Hj):=by
 rw[SH,SR,R8];rfl
theorem Ak(T:D)(Q:List (Gf))(p:Gf)(hQ:Q.length<=50000)(hp:p.length<=50000)(w:List Nat):dk [some (.f,T),some (.l (.l .f),.lst ((Q++[p]).map eW)),some (.f,.str w)]=.ok (.nx [some (.f,T),some (.l (.l .f),.lst (((sv Q p w).1++[(sv Q p w).2]).map eW)),some (.f,.str w)]):=by
 have he:=CI w;have hz:((Q++[p]).map eW).length<sizeLine:=m8 (by rw[bM,cF,S5];lia);unfold dk sv;by_cases h:w=Hj
 ·rw[Sq h]at he;rw[Sa h,Sk (l₂:=[[]])];generalize (Q++[p]).map eW=QQ at hz ⊢;simp only[pv,seval,op,he,Ai,hz] <;> rfl
 ·rw[Sb h]at he;rw[Sf h];have hlen:((Q++[p]).map eW).length=Q.length+1:=by rw[bM,cF,S5]
  have Jm:ixN ((Q++[p]).map eW).length (-1)=some Q.length:=by
   rw[hlen];unfold ixN;first
    |(rw[Sf (by lia),Sa (by lia)];congr 1;lia)
    |(simp;lia)
    |simp
  have hg:((Q++[p]).map eW)[Q.length]?=some (.lst (p.map D.str)):=by
   rw[Sm,S6 (R1 _),WQ];rfl
  have hpz:(p.map D.str).length<sizeLine:=m8 (by rw[bM];lia);have JF:((Q++[p]).map eW).set Q.length (.lst (p.map D.str++[.str w]))=(Q++[p++[w]]).map eW:=by
   rw[Sk,Sk,show Q.length=(Q.map eW).length from(bM _).symm,List.set_append_right _ _ (R1 _),WQ];show Q.map eW++[_]=Q.map eW++[_]
   unfold eW;rw[Sk];rfl
  generalize (Q++[p]).map eW=QQ at Jm hg JF ⊢;have Ib:rP 1 (-1) 2 [some (.f,T),some (.l (.l .f),.lst QQ),some (.f,.str w)]=.ok ((.f,.non),[some (.f,T),some (.l (.l .f),.lst ((Q++[p++[w]]).map eW)),some (.f,.str w)]):=by
   unfold rP;show(match ixN QQ.length (-1) with|some m=>_|none=>_)=_;rw[Jm];show(match QQ[Q.length]? with|some (.lst es)=>_|_=>_)=_;rw[hg];show(if(p.map D.str).length<sizeLine then _ else _)=_;rw[Sa hpz];rw[List.set_cons_succ,List.set_cons_zero,JF]
  simp only[pv,seval,op,he,Ib,dW]
theorem vm(T:D):∀(ws:Gf) (Q:List (Gf)) (p:Gf) (t2:Option R),Q.length+p.length+ws.length<=50000->∃u2,jl (au 2) dk (ws.map D.str) [some (.f,T),some (.l (.l .f),.lst ((Q++[p]).map eW)),t2]=.ok (.nx [some (.f,T),some (.l (.l .f),.lst ((KQ ws Q p).map eW)),u2])
 |[],Q,p,t2,_=>⟨t2,rfl⟩
 |w::ws,Q,p,t2,h=>by
  rw[R6]at h;have h1:=Ak T Q p (by lia) (by lia) w;have hq:(sv Q p w).1.length+(sv Q p w).2.length+ws.length<=50000:=by
   unfold sv;split
   ·rw[cF,S5];show Q.length+1+0+ws.length<=50000;lia
   ·dsimp only;rw[cF,S5];lia
  obtain⟨u2,h2⟩:=vm T ws (sv Q p w).1 (sv Q p w).2 (some (.f,.str w)) hq;refine⟨u2,?_⟩;have ha:au 2 (.str w) [some (.f,T),some (.l (.l .f),.lst ((Q++[p]).map eW)),t2]=.ok [some (.f,T),some (.l (.l .f),.lst ((Q++[p]).map eW)),some (.f,.str w)]:=rfl;rw[jK,GP,ha,Hq,h1,Hq];exact h2
theorem Al(l:List (List Nat×Nat))(hc:Chs l)(hl:(txt l).length<=40000)(hk:(Ia l).length<=40000):dq [.str (txt l)]=.ok (.l (.l .f),.lst ((KQ (Ia l) [] []).map eW)):=by
 have hw:=Ag l hc (by lia);have Mz:=PV.flat_strs (Ia l);obtain⟨u2,hf⟩:=vm (.str (txt l)) (Ia l) [] [] none (by show 0+0+_<=_;lia);unfold dq lR;rw[aS (h:=by rfl)];rw[aw (env':=[some (.f,.str (txt l)),some (.l (.l .f),.lst (([]++[[]]:List (Gf)).map eW)),none]) (by simp only[pv,seval,op,Ah] <;> rfl)];rw[aw (env':=[some (.f,.str (txt l)),some (.l (.l .f),.lst ((KQ (Ia l) [] []).map eW)),u2]) (by
  unfold jt;generalize [some (O.l (.l .f),D.lst (([]++[[]]:List (Gf)).map eW)),none]=RST at hf ⊢;simp only[pv,seval,op,hw,dm,Mz];exact hf)]
 unfold iG;simp only[pv,seval]
theorem yf{m:List Nat}(h:bw m=true):cu [.str m]=.ok (.f,.str m):=by
 have hn:=uW m (by have:=(c6 h).1;lia);rw[h]at hn;unfold cu oN;rw[aS (h:=by rfl)];rw[aw (env':=[some (.f,.str m)]) (by simp only[pv,seval,op,hn,aO,ft,SJ,dW])];simp only[pv,seval]
theorem sf(ns:Gf)(hl:ns.length<=5)(h:∀n∈ns,bw n=true):dr [eW (aG::ns)]=.ok (.l .f,.lst (ns.map D.str)):=by
 unfold dr lS eW;rw[aS (h:=by rfl),jK];have OV:jG (D.str aG::ns.map D.str) none (some 1)=[D.str aG]:=by
  have:=qR (D.str aG::ns.map D.str) 1;exact this
 have Lq:jG (D.str aG::ns.map D.str) (some 1) none=ns.map D.str:=by
  have:=m9 (D.str aG::ns.map D.str) 1;exact this
 have Kj:IT (.lst [.str aG]) (.lst [.str [109,111,118,101,115]])=.ok (.f,.bl false):=rfl;have JD:decide (((ns.length:Int)+1-1)>5)=false:=Sb (by lia);have JD:decide (5<(((ns.length+1:Nat):Int)-1))=false:=Sb (by lia);have KR:dh (au 0) il (cx cu (af (aq 0) ar)) (ns.map D.str) [none]=.ok (ns.map D.str):=by
  refine cZ (fun env=>∃t,env=[t]) _ ?_ _ ⟨_,rfl⟩;rintro m hm env ⟨t,rfl⟩;have hn:=yf (h m hm);refine⟨[some (.f,.str m)],rfl,.f,[some (.f,.str m)],?_,_,rfl⟩;simp only[pv,seval,op,hn,aO,cS]
 have hz:(ns.map D.str).length<=sizeLine:=dI (by lia);have Mz:=PV.flat_strs ns;rw[aw (env':=[some (.f,.lst (D.str aG::ns.map D.str))]) (by simp only[pv,seval,op,OV,Kj,dW])];rw[aw (env':=[some (.f,.lst (D.str aG::ns.map D.str))]) (by
  simp only[pv,seval,op,bM,JD,dW])]
 generalize (cx cu (af (aq 0) ar))=GG at KR ⊢;simp only[pv,seval,op,Lq,KR,hz,Mz]
theorem k7{α:Type}{lt:α->α->Bool}(o:Ord lt):∀{l1 l2:List α},l1.Pairwise (fun a b=>lt a b=true)->l2.Pairwise (fun a b=>lt a b=true)->l1.Perm l2->l1=l2
 |[],l2,_,_,h=>(List.nil_perm.mp h).symm
 |a::l1,[],_,_,h=>absurd (List.perm_nil.mp h) (by simp)
 |a::l1,b::l2,h1,h2,h=>by
  rw[TY]at h1 h2;have e:a=b:=by
   rcases RV.mp (h.mem_iff.mp (RQ (a:=a) (l:=l1))) with e|e
   ·exact e
   ·rcases RV.mp (h.mem_iff.mpr (RQ (a:=b) (l:=l2))) with e2|e2
    ·exact e2.symm
    ·have:=o.trans a b a (h1.1 b e2) (h2.1 a e);rw[o.irr]at this;cases this
  subst e;rw[k7 o h1.2 h2.2 ((List.perm_cons a).mp h)]
theorem vn{α:Type}{lt:α->α->Bool}(o:Ord lt){l s:List α}(hs:s.Pairwise (fun a b=>lt a b=true))(h:l.Perm s):dj lt l=s:=by
 have nd:s.Nodup:=hs.imp fun{a b} KJ e=>by
  subst e;rw[o.irr]at KJ;cases KJ
 exact k7 o (jC o (h.nodup_iff.mpr nd)) hs ((cX lt l).trans h)
def hd:List (List Nat×Nat)->Nat
 |[]=>9
 |z::_=>z.2
theorem Chs.mk{c:List Nat}{k:Nat}{l:List (List Nat×Nat)}(h:Chk c k)(hl:Chs l)(hk:k=3\/k≠hd l):Chs ((c,k)::l):=by
 cases l with
 |nil=>exact .one h
 |cons z l=>exact .cons h hk hl
theorem CJ{x:Nat}(h:dH x=true):kd x=0:=by
 unfold kd;rw[Sa h]
theorem k8{m:List Nat}(h:bw m=true):Chk m 0:=by
 have h2:=(c6 h).2.1;unfold bw at h;rw[Si,SD]at h;exact⟨fun z=>by rw[z]at h2;exact absurd h2 (by decide),by decide,fun x hx=>CJ (h.2 x hx),(fun z=>nomatch z),(fun z=>nomatch z)⟩
theorem nh:Chk aG 0:=⟨by decide,by decide,by decide,(fun z=>nomatch z),(fun z=>nomatch z)⟩
theorem yg:Chk Hj 3:=⟨by decide,by decide,by decide,fun _=>rfl,(fun z=>nomatch z)⟩
theorem p4:Chk [32] 2:=⟨by decide,by decide,by decide,(fun z=>nomatch z),(fun z=>nomatch z)⟩
theorem CK:Chk [32,32] 2:=⟨by decide,by decide,by decide,(fun z=>nomatch z),(fun z=>nomatch z)⟩
theorem d9(a b:List (List Nat×Nat)):txt (a++b)=txt a++txt b:=by
 unfold txt;rw[Sk,List.flatten_append]
theorem ni(a b:List (List Nat×Nat)):Ia (a++b)=Ia a++Ia b:=by
 unfold Ia;rw[Vb,Sk]
def IQ:Gf->List (List Nat×Nat)
 |[]=>[]
 |n::ns=>([32],2)::(n,0)::IQ ns
theorem yh{r:List (List Nat×Nat)}(hr:Chs r)(hh:hd r=3\/hd r=9):∀ns:Gf,(∀n∈ns,bw n=true)->Chs (IQ ns++r)/\hd (IQ ns++r)≠0
 |[],_=>⟨hr,by show hd r≠0;lia⟩
 |n::ns,h=>by
  obtain⟨h1,h2⟩:=yh hr hh ns fun x hx=>h x (RZ _ hx)
  refine⟨?_,by show 2≠0;decide⟩;show Chs (([32],2)::(n,0)::(IQ ns++r));exact .mk p4 (.mk (k8 (h n RQ)) h1 (.inr (SO h2))) (.inr (by show 2≠0;decide))
theorem CL:∀ns:Gf,Ia (IQ ns)=ns
 |[]=>rfl
 |n::ns=>by
  rw[IQ,dX,Sa rfl,dX,Sf (by decide),CL ns]
theorem yi(env:PV.Env)(f:FX):B6 f env=Res.bnd (f env) (f:=⟨fun p=>match p.1.2 with
 | .int i=>if i.natAbs.log2<1920 then .ok ((.f,.str (dg i)),p.2) else .bad
 | .str l=>.ok ((.f,.str l),p.2)
 |_=>.bad⟩):=id rfl
theorem vo(env:PV.Env)(fs:FDs):zT fs env=Res.bnd (fs env) (f:=⟨fun p=>match c9 p.1 with
 |some ls=>if ls.flatten.length<=sizeLine then .ok ((.f,.str ls.flatten),p.2) else .bad
 |none=>.bad⟩):=id rfl
theorem vp(B:Nat):∀l:Gf,(∀x∈l,x.length<=B)->(l.map List.length).sum<=B*l.length
 |[],_=>Tu _
 |x::l,h=>by
  have h1:=vp B l fun y hy=>h y (RZ _ hy)
  have h2:=h x RQ;rw[jK,Xg,R6,Nat.mul_succ];lia
theorem qV(sep:List Nat)(ys:Gf)(B:Nat)(hB:∀x∈ys,x.length<=B)(h:B*ys.length+ys.length*sep.length<=100000):oG sep [.lst (ys.map D.str)]=.ok (.f,.str (joinL sep ys)):=by
 have:=vp B ys hB;unfold oG;dsimp only;rw[jd];dsimp only;rw[Sa (by lia)]
theorem vq:∀(x:List Nat) (ns:Gf),joinL [32] (x::ns)=x++txt (IQ ns)
 |x,[]=>(Sg x).symm
 |x,n::ns=>by
  show x++[32]++joinL [32] (n::ns)=_;rw[vq n ns,IQ,bU,bU,R7]
theorem p5:∀ns:Gf,(∀n∈ns,bw n=true)->(txt (IQ ns)).length<=9*ns.length
 |[],_=>R1 _
 |n::ns,h=>by
  have h1:=p5 ns fun x hx=>h x (RZ _ hx)
  have h2:=(c6 (h n RQ)).1;rw[IQ,bU,bU,cF,cF];show 1+_<=9*(ns.length+1);lia
theorem CM(i:Nat)(f g:FX)(env:PV.Env):Dm i f g env=if mB env i then Res.bnd (f env) (f:=⟨fun p=>Res.bnd (g p.2) (f:=⟨fun q=>match q.2[i]?,p.1.2 with
 |some (some (.l .f,.lst ds)),.int k=>if ds.length<sizeLine/\0<=k/\k.toNat<=ds.length then .ok ((.f,.non),q.2.set i (some (.l .f,.lst (ds.take k.toNat++q.1.2::ds.drop k.toNat)))) else .bad
 |_,_=>.bad⟩)⟩) else .bad:=id rfl
theorem si(x b:Int)(h:0<b):0<=x%b/\x%b<b:=⟨VL _ (by lia),Va _ h⟩
theorem vx{α:Type}(e:α->D)(A0 A1:Option R):∀(r done:List α) (num:Int) (t4:Option R),done.length+r.length<=1000->∃(l':List α) (u3 u4:Option R),l'.Perm (done++r)/\jl (au 4) cN (r.map e) [A0,A1,some (.l .f,.lst (done.map e)),some (.f,.int num),t4]=.ok (.nx [A0,A1,some (.l .f,.lst (l'.map e)),u3,u4])
 |[],done,num,t4,_=>⟨done,_,_,by rw[Sg],rfl⟩
 |x::r,done,num,t4,h=>by
  rw[R6]at h;have hm:rM (.int num) (.int 48271)=.ok (.f,.int (num*48271)):=by rw[pX,Sa (by rw[show c8 48271=true by decide,WO])]
  have m1:=ng (num*48271+11) 2147483647 (by decide);have d1:=xq ((num*48271+11)%2147483647) 7 (by decide) (by decide);generalize (num*48271+11)%2147483647=y at m1 d1;have m2:=ng (y / 7) ((done.length:Int)+1) (by lia);have b2:=si (y / 7) ((done.length:Int)+1) (by lia);generalize y / 7%((done.length:Int)+1)=kk at m2 b2;obtain⟨k,rfl⟩:=Tw b2.1;have hk:k<=done.length:=by lia
  obtain⟨l',u3,u4,hp,ef⟩:=vx e A0 A1 r (done.take k++x::done.drop k) y (some (.f,e x)) (by
   rw[cF,R6,SA,Tx];lia)
  refine⟨l',u3,u4,hp.trans ?_,?_⟩
  ·have h1:(done.take k++x::done.drop k).Perm (x::done):=by
    refine List.perm_middle.trans ?_;rw[WR]
   exact(h1.append_right r).trans (List.perm_middle.symm)
  ·have ha:au 4 (e x) [A0,A1,some (.l .f,.lst (done.map e)),some (.f,.int num),t4]=.ok [A0,A1,some (.l .f,.lst (done.map e)),some (.f,.int num),some (.f,e x)]:=rfl;have hb:cN [A0,A1,some (.l .f,.lst (done.map e)),some (.f,.int num),some (.f,e x)]=.ok (.nx [A0,A1,some (.l .f,.lst ((done.take k++x::done.drop k).map e)),some (.f,.int y),some (.f,e x)]):=by
    have hz:(done.map e).length<sizeLine/\0<=((k:Nat):Int)/\((k:Nat):Int).toNat<=(done.map e).length:=⟨m8 (by rw[bM];lia),by lia,by rw[bM];lia⟩
    rw[Sk,jK,List.map_take,List.map_drop];have MA:(done.map e).length=done.length:=bM _;generalize done.map e=L at hz MA ⊢;generalize e x=EX;unfold cN;rw[aw (env':=[A0,A1,some (.l .f,.lst L),some (.f,.int y),some (.f,EX)]) (by simp only[pv,seval,op,hm,m1])];simp only[pv,seval,op,d1,MA,m2,CM];rw[Sa (by rw[<-MA];exact hz)];rfl
   rw[jK,GP,ha,Hq,hb,Hq];exact ef
theorem vy{α:Type}(e:α->D)(l:List α)(hl:l.length<=1000)(cel:Int):∃l':List α,l'.Perm l/\b5 [.lst (l.map e),.int cel]=.ok (.l .f,.lst (l'.map e)):=by
 obtain⟨l',u3,u4,hp,ef⟩:=vx e (some (.f,.lst (l.map e))) (some (.f,.int cel)) l [] (cel%2147483629+1) none (by show 0+_<=_;lia);refine⟨l',hp,?_⟩;have m1:=ng cel 2147483629 (by decide);unfold b5 jz;rw[aS (h:=by rfl)];rw[aw (env':=[some (.f,.lst (l.map e)),some (.f,.int cel),some (.l .f,.lst (([]:List α).map e)),none,none]) (by simp only[pv,seval,op] <;> rfl)];rw[aw (env':=[some (.f,.lst (l.map e)),some (.f,.int cel),some (.l .f,.lst (([]:List α).map e)),some (.f,.int (cel%2147483629+1)),none]) (by simp only[pv,seval,op,m1])];rw[aw (env':=[some (.f,.lst (l.map e)),some (.f,.int cel),some (.l .f,.lst (l'.map e)),u3,u4]) (by
  unfold gW;generalize ([]:List α).map e=NL at ef ⊢;simp only[pv,seval,op];exact ef)]
 unfold f6;simp only[pv,seval]
theorem dc(d:Nat)(h:d<10):(Nat.digitChar d).toNat=48+d:=by
 have:∀d:_root_.Fin 10,(Nat.digitChar d.1).toNat=48+d.1:=by decide
 exact this ⟨d,h⟩
theorem xr{n:Nat}(h:n<10):dg (n:Int)=[48+n]:=by
 unfold dg;rw[Vl,Nat.toDigits_of_lt_base h,jK,dc n h];rfl
theorem CO{n:Nat}(h:10<=n):dg (n:Int)=dg ((n / 10:Nat):Int)++[48+n%10]:=by
 unfold dg;rw[Vl,Vl,Nat.toDigits_of_base_le (by decide) h,Sk,jK,dc _ (Nat.mod_lt _ (by decide))];rfl
structure Dg(n:Nat):Prop where
 ne:dg (n:Int)≠[]
 all:PySem.NumText.AllDigits (dg (n:Int))
 val:PySem.NumText.digitsVal (dg (n:Int))=n
 lead:1<=n->(dg (n:Int)).head?≠some 48
theorem CP(n:Nat):Dg n:=by
 induction n using Nat.strongRecOn with
 |ind n ih=>
  by_cases h:n<10
  ·have e:=xr h;refine⟨by rw[e];exact List.cons_ne_nil _ _,fun c hc=>?_,?_,fun h1=>?_⟩
   ·rw[e,S9]at hc;lia
   ·rw[e];show 0*10+(48+n-48)=n;lia
   ·rw[e];show some (48+n)≠some 48;intro z;injection z;lia
  ·have e:=CO (Vm h);have I:=ih (n / 10) (by lia);refine⟨by rw[e];exact fun z=>by simp at z,fun c hc=>?_,?_,fun h1=>?_⟩
   ·rw[e]at hc;rcases Em hc with h2|h2
    ·exact I.all c h2
    ·rw[S9]at h2;lia
   ·rw[e,PySem.NumText.digitsVal_snoc,I.val];lia
   ·have hl:=I.lead (by lia);have Kj:=I.ne;rw[e];cases hq:dg ((n / 10:Nat):Int) with
    |nil=>exact absurd hq Kj
    |cons x r=>rw[hq]at hl;exact hl
theorem dg_len:∀(k n:Nat),n<10 ^ (k+1)->(dg (n:Int)).length<=k+1
 | 0,n,h=>by rw[xr (by simpa using h)];exact R1 _
 |k+1,n,h=>by
  by_cases h10:n<10
  ·rw[xr h10];show 1<=_;lia
  ·rw[CO (Vm h10),cF,S5];have:=dg_len k (n / 10) (by rw[Nat.pow_succ]at h;lia);lia
def Nm(i:Int):Prop:=0<=i/\i<10 ^ 60
theorem Nm.nat{i:Int}(h:Nm i):∃n:Nat,i=(n:Int)/\n<10 ^ 60:=by
 obtain⟨n,e⟩:=Tw h.1;refine⟨n,e,?_⟩;have:=h.2;rw[e]at this;have e2:((10 ^ 60:Nat):Int)=10 ^ 60:=by norm_cast
 lia
theorem Nm.len{i:Int}(h:Nm i):(dg i).length<=60:=by
 obtain⟨n,rfl,hn⟩:=h.nat
 exact dg_len 59 n hn
theorem CQ{x:Nat}(h:48<=x/\x<=57):kd x=1:=by
 unfold kd;rw[Sf (by unfold dH;rw[Si,R8,R8];lia),Sa (by unfold p0;rw[Si,R8,R8];lia)]
theorem Nm.ck{i:Int}(h:Nm i):Chk (dg i) 1:=by
 have hl:=h.len;obtain⟨n,rfl,hn⟩:=h.nat
 have D:=CP n;refine⟨D.ne,by decide,fun x hx=>CQ (D.all x hx),(fun z=>nomatch z),fun _=>⟨hl,fun h1=>D.lead ?_⟩⟩;apply Classical.byContradiction;intro h0;rw[xr (by lia:n<10)]at h1;exact absurd h1 (by simp)
theorem Nm.log{i:Int}(h:Nm i):i.natAbs.log2<1920:=by
 obtain⟨n,rfl,hn⟩:=h.nat
 rw[Int.natAbs_natCast];rcases Nat.eq_zero_or_pos n with e|e
 ·rw[e];decide
 ·exact(XT (Ua e)).mpr (Nat.lt_trans hn (by decide +kernel))
theorem p6{i:Int}(h:Nm i):uJ [.int i]=.ok (.f,.str (dg i)):=by
 unfold uJ;dsimp only;rw[Sa h.log]
theorem nj{i:Int}(h:Nm i):bZ [.str (dg i)]=.ok (.f,.int i):=by
 have hl:=h.len;have ck:=h.ck;obtain⟨n,rfl,hn⟩:=h.nat
 have D:=CP n;obtain⟨x,r,e⟩:∃x r,dg (n:Int)=x::r:=by
  cases e:dg (n:Int) with
  |nil=>exact absurd e D.ne
  |cons x r=>exact⟨x,r,rfl⟩
 have HU:Gq (.str (dg (n:Int))) (.int 0)=.ok (.f,.str [x]):=je (i:=0) (by rw[e];rfl);have hf:=kY x;have hx:=D.all x (by rw[e];exact RQ);have h1:p0 x=true:=by unfold p0;rw[Si,R8,R8];exact hx
 rw[h1]at hf;have hi:B5 [.str (dg (n:Int))]=.ok (.f,.int (n:Int)):=by
  unfold B5;dsimp only;have e1:(S (dg (n:Int))).cps.toList=dg (n:Int):=by simp[S]
  rw[PySem.intText_digits (by rw[e1];exact D.all) (by rw[e1];exact D.ne) (by rw[gG];lia),e1,D.val];dsimp only;rw[Sa (by lia)]
 unfold bZ kI;rw[aS (h:=by rfl)];generalize dg (n:Int)=DG at HU hi;rw[aw (env':=[some (.f,.str DG)]) (by simp only[pv,seval,op,HU,hf,aO,ft,SJ,dW])];simp only[pv,seval,op,hi]
abbrev Tr:=List Nat×Int×Int
def eT(t:Tr):D:=.tup [.str t.1,.int t.2.1,.int t.2.2]
def tW(t:Tr):Gf:=[t.1,dg t.2.1,dg t.2.2]
def pW(b:Int)(ts:List Tr):Gf:=dg b::ts.flatMap tW
structure Tg(t:Tr):Prop where
 n:bw t.1=true
 tk:Nm t.2.1
 gv:Nm t.2.2
theorem vz(b:Int)(ts:List Tr):(pW b ts).length=3*ts.length+1:=by
 unfold pW;rw[R6];congr 1
 induction ts with
 |nil=>rfl
 |cons t ts ih=>rw[SK,cF,ih,R6];show 3+_=_;lia
theorem CS:∀(ts:List Tr) (k:Nat) (t:Tr),ts[k]?=some t->(ts.flatMap tW)[3*k]?=some t.1/\(ts.flatMap tW)[3*k+1]?=some (dg t.2.1)/\(ts.flatMap tW)[3*k+2]?=some (dg t.2.2)
 |[],k,t,h=>by simp at h
 |a::ts,0,t,h=>by
  simp at h;subst h;exact⟨rfl,rfl,rfl⟩
 |a::ts,k+1,t,h=>by
  have:=CS ts k t (by simpa using h);rw[SK];have e:∀m,(tW a++ts.flatMap tW)[m+3]?=(ts.flatMap tW)[m]?:=fun m=>rfl
  rw[show 3*(k+1)=3*k+3 by lia,show 3*k+3+1=(3*k+1)+3 by lia,show 3*k+3+2=(3*k+2)+3 by lia,e,e,e];exact this
theorem rs3(n:Nat)(h:n<=100000):iC 1 ((3*n+1:Nat):Int) 3/\(Builtin.Range.rangeSize 1 ((3*n+1:Nat):Int) 3).toNat=n:=by
 refine⟨by unfold iC;lia,?_⟩;unfold Builtin.Range.rangeSize;rw[Sa (by decide)];split <;> lia
theorem CT(t:Tr):dw (eT t)=true:=rfl
theorem CU{b:Int}{ts:List Tr}(k:Nat)(t:Tr)(hk:ts[k]?=some t)(ht:Tg t)(L:List D)(hL:L.length<1000):df [some (.f,eW (pW b ts)),some (.l .f,.lst L),some (.f,.int (1+(k:Int)*3))]=.ok (.nx [some (.f,eW (pW b ts)),some (.l .f,.lst (L++[eT t])),some (.f,.int (1+(k:Int)*3))]):=by
 obtain⟨a1,a2,a3⟩:=CS ts k t hk;have at':∀(j:Nat) (w:List Nat),(ts.flatMap tW)[j]?=some w->Hv ((pW b ts).map D.str) ((j+1:Nat):Int)=some (.str w):=fun j w h=>dZ (by rw[Sm];unfold pW;rw[Wg,h];rfl)
 have b1:=at' _ _ a1;have b2:=at' _ _ a2;have b3:=at' _ _ a3;rw[show((3*k+1:Nat):Int)=1+(k:Int)*3 by lia]at b1;rw[show((3*k+1+1:Nat):Int)=1+(k:Int)*3+1 by lia]at b2;rw[show((3*k+2+1:Nat):Int)=1+(k:Int)*3+2 by lia]at b3;have h1:=yf ht.n;have h2:=nj ht.tk;have h3:=nj ht.gv;have hz:L.length<sizeLine:=m8 (by lia);unfold df eW eT;generalize 1+(k:Int)*3=K at b1 b2 b3 ⊢;generalize (pW b ts).map D.str=PW at b1 b2 b3 ⊢;generalize dg t.2.1=G1 at b2 h2;generalize dg t.2.2=G2 at b3 h3;simp only[pv,seval,op,b1,b2,b3,h1,h2,h3,hz,aO,cf,cS]
theorem vA{b:Int}{ts:List Tr}(hb:Nm b)(hts:∀t∈ts,Tg t)(hl:ts.length<=100):cM [eW (pW b ts)]=.ok (.f,.tup [.int b,.lst (ts.map eT)]):=by
 have hlen:=vz b ts;have LP:iz [eW (pW b ts)]=.ok (.f,.int ((3*ts.length+1:Nat):Int)):=by
  unfold eW;show Res.ok (O.f,D.int ((((pW b ts).map D.str).length:Nat):Int))=_;rw[bM,hlen]
 have hm:=ng ((3*ts.length+1:Nat):Int) 3 (by decide);rw[show((3*ts.length+1:Nat):Int)%3=1 by lia]at hm;obtain⟨r1,r2⟩:=rs3 ts.length (by lia);obtain⟨env',hf,u2,rfl⟩:=for_list (a:=au 2) (g:=df) (e:=fun(k:Nat)=>D.int (1+(k:Int)*3)) (List.range ts.length) (fun k env=>∃u2,env=[some (.f,eW (pW b ts)),some (.l .f,.lst ((ts.take k).map eT)),u2]) (by
  rintro k x env hx ⟨u2,rfl⟩;obtain⟨hk,ex⟩:=qQ hx;rw[Sh]at hk;rw[TV]at ex;subst ex;have e:=CU (b:=b) (ts:=ts) k ts[k] (CB hk) (hts _ (SW hk)) ((ts.take k).map eT) (by rw[bM,SA];lia);refine⟨[some (.f,eW (pW b ts)),some (.l .f,.lst ((ts.take k).map eT)),some (.f,.int (1+(k:Int)*3))],rfl,_,e,some (.f,.int (1+(k:Int)*3)),?_⟩;rw[SI hk,Sk];rfl) _ ⟨none,rfl⟩
 rw[Sh,Tj]at hf;have HU:Gq (eW (pW b ts)) (.int 0)=.ok (.f,.str (dg b)):=by
  unfold eW pW;rw[jK];simp only[op,OQ]
 have hn:=nj hb;have q1:((1:Int)==1)=true:=rfl;unfold cM oO;rw[aS (h:=by rfl)];generalize eW (pW b ts)=EW at LP hf HU ⊢;rw[aw (env':=[some (.f,EW),none,none]) (by
  simp only[pv,seval,op,LP,hm,q1,SJ,dW])]
 rw[aw (env':=[some (.f,EW),some (.l .f,.lst []),none]) (by simp only[pv,seval,op])];rw[aw (env':=[some (.f,EW),some (.l .f,.lst (ts.map eT)),u2]) (by
  unfold kJ;rw[show(ts.take 0).map eT=[] from rfl]at hf;generalize df=BB at hf ⊢;generalize ts.map eT=TT at hf ⊢;rw[<-r2]at hf;generalize ((3*ts.length+1:Nat):Int)=NN at LP r1 hf;simp only[pv,seval,op,LP,r1];exact hf)]
 unfold jv;generalize dg b=DG at HU hn;simp only[pv,seval,op,HU,hn,aO,cf]
abbrev Pl:=Int×List Int×List Int
def eP(p:Pl):D:=.tup [.int p.1,.tup (p.2.1.map D.int),.tup (p.2.2.map D.int)]
def eV(t:Tr):D:=.tup [.int t.2.1,.int t.2.2]
def iR(ts:List Tr)(m:List Nat):Int×Int:=match ts.find? (fun t=>t.1==m) with
 |some t=>t.2
 |none=>(0,0)
theorem xt(a b:List Nat):Ga (.str a) (.str b)=(a==b):=by simp only[Ga]
theorem vB:∀(ts:List Tr) (m:List Nat),PV.getD (ts.map fun t=>D.str t.1) (ts.map eV) (.str m)=(ts.find? fun t=>t.1==m).map eV
 |[],m=>rfl
 |t::ts,m=>by
  have ih:=vB ts m;unfold PV.getD at ih ⊢;rw[jK,jK,UJ];by_cases h:t.1=m
  ·rw[UH (by show Ga (.str m) (.str t.1)=true;rw[xt,h];exact SQ _),UH (by rw[h];exact SQ _)];rfl
  ·rw[UI (by show ¬ Ga (.str m) (.str t.1)=true;rw[xt,SR];exact fun z=>h z.symm),UI (by rw[SR];exact h)];exact ih
abbrev HA(ts:List Tr):List D:=ts.map fun t=>D.str t.1
abbrev HD(ts:List Tr):List D:=ts.map eV
theorem CV(ts:List Tr)(t:Tr)(h:t.1∉ts.map (·.1)):pH (HA ts) (HD ts) (.str t.1) (eV t)=(HA (ts++[t]),HD (ts++[t])):=by
 have e1:HA (ts++[t])=HA ts++[D.str t.1]:=by unfold HA;rw[Sk];rfl
 have e2:HD (ts++[t])=HD ts++[eV t]:=by unfold HD;rw[Sk];rfl
 unfold pH;rw[Sf,e1,e2]
 ·rw[VP,UC];rintro⟨u,hu,e⟩;have e:Ga (.str t.1) (.str u.1)=true:=e;rw[xt,SR]at e;exact h (by rw[e];exact TM.mpr ⟨u,hu,rfl⟩)
theorem Am{ts:List Tr}{m:List Nat}(h:m∉ts.map (·.1)):(ts.find? fun t=>t.1==m)=none:=by
 rw[Xi];intro t ht e;rw[SR]at e;exact h (by rw[<-e];exact TM.mpr ⟨t,ht,rfl⟩)
theorem vC{m:List Nat}{nY:Gf}(h:m∈nY):AB (.str m) (.tup (nY.map D.str))=.ok (.f,.bl false):=by
 have hp:plainDs 40 (nY.map D.str)=true:=by
  clear h;induction nY with
  |nil=>rfl
  |cons a l ih=>rw[jK,plainDs,ih];rfl
 have e1:vT (.str m) (nY.map D.str)=true:=by
  unfold vT;rw[VP,UC];refine⟨m,h,?_⟩;show Ga (.str m) (.str m)=true;rw[xt];exact SQ _
 unfold AB KP;dsimp only;rw[hp,show plainD 40 (.str m)=true from rfl,Uz,Sa rfl,e1];rfl
section
variable{nY:Gf}{b:Int}{ts:List Tr}
theorem CW(done:List Tr)(t:Tr)(hm:t.1∈nY)(hn:t.1∉done.map (·.1))(hl:done.length<=1000)(t7:Option R):bJ [some (.f,.tup (nY.map D.str)),some (.f,.int b),some (.f,.lst (ts.map eT)),some (.d,.dct false (HA done) (HD done)),some (.f,.str t.1),some (.f,.int t.2.1),some (.f,.int t.2.2),t7]=.ok (.nx [some (.f,.tup (nY.map D.str)),some (.f,.int b),some (.f,.lst (ts.map eT)),some (.d,.dct false (HA (done++[t])) (HD (done++[t]))),some (.f,.str t.1),some (.f,.int t.2.1),some (.f,.int t.2.2),t7]):=by
 have h1:=vC hm;have h2:OD (.str t.1) (.dct false (HA done) (HD done))=.ok (.f,.bl false):=by
  unfold OD;dsimp only;rw[Sa (show eY false (.str t.1)=true from rfl),vB,Am hn];rfl
 have hp:=CV done t hn;have hk:decide ((HA done).length<sizeLine)=true:=Sq (m8 (by rw[bM];lia));unfold bJ;generalize ts.map eT=TT;generalize nY.map D.str=NN at h1 ⊢;rw[aw (env':=[some (.f,.tup NN),some (.f,.int b),some (.f,.lst TT),some (.d,.dct false (HA done) (HD done)),some (.f,.str t.1),some (.f,.int t.2.1),some (.f,.int t.2.2),t7]) (by
  generalize HA done=KK;generalize HD done=VV;simp only[pv,seval,op,h1,dW])]
 rw[aw (env':=[some (.f,.tup NN),some (.f,.int b),some (.f,.lst TT),some (.d,.dct false (HA done) (HD done)),some (.f,.str t.1),some (.f,.int t.2.1),some (.f,.int t.2.2),t7]) (by
  generalize HA done=KK at h2 ⊢;generalize HD done=VV at h2 ⊢;simp only[pv,seval,op,h2,dW])]
 have PF:(pH (HA done) (HD done) (.str t.1) (.tup [.int t.2.1,.int t.2.2])).1=HA (done++[t]):=by
  have:=Tq Prod.fst hp;exact this
 have M3:(pH (HA done) (HD done) (.str t.1) (.tup [.int t.2.1,.int t.2.2])).2=HD (done++[t]):=by
  have:=Tq Prod.snd hp;exact this
 generalize HA (done++[t])=K2 at PF ⊢;generalize HD (done++[t])=V2 at M3 ⊢;generalize HA done=KK at hk PF M3 ⊢;generalize HD done=VV at PF M3 ⊢;simp only[pv,seval,op,hk,PF,M3,aO,cf,UK,U9]
theorem CY(HE:(ts.map (·.1)).Nodup)(hm:∀t∈ts,t.1∈nY)(hl:ts.length<=100)(t7:Option R):∃u4 u5 u6,jl (iQ 3 (aA (au 4) (aA (au 5) (aA (au 6) cV)))) bJ (ts.map eT) [some (.f,.tup (nY.map D.str)),some (.f,.int b),some (.f,.lst (ts.map eT)),some (.d,.dct false [] []),none,none,none,t7]=.ok (.nx [some (.f,.tup (nY.map D.str)),some (.f,.int b),some (.f,.lst (ts.map eT)),some (.d,.dct false (HA ts) (HD ts)),u4,u5,u6,t7]):=by
 obtain⟨env',hf,u4,u5,u6,rfl⟩:=for_list (a:=iQ 3 (aA (au 4) (aA (au 5) (aA (au 6) cV)))) (g:=bJ) (e:=eT) ts (fun k env=>∃u4 u5 u6,env=[some (.f,.tup (nY.map D.str)),some (.f,.int b),some (.f,.lst (ts.map eT)),some (.d,.dct false (HA (ts.take k)) (HD (ts.take k))),u4,u5,u6,t7]) (by
  rintro k t env hx ⟨u4,u5,u6,rfl⟩;obtain⟨hk,ex⟩:=qQ hx;have htm:=SG hx;have LB:t.1∉(ts.take k).map (·.1):=fun hq=>by
   obtain⟨u,hu,e⟩:=su hq;obtain⟨j,hj,ej⟩:=To hu;rw[SA]at hj;rw[List.getElem_take]at ej;have OW:j<ts.length:=by lia
   have:=(Wh (i:=j) (j:=k) (h₀:=by rw[bM];exact OW) (h₁:=by rw[bM];exact hk) HE).mp (by rw[Um,Um,ej,ex];exact e);lia
  have e1:=CW (nY:=nY) (b:=b) (ts:=ts) (ts.take k) t (hm t htm) LB (by rw[SA];lia) t7;refine⟨[some (.f,.tup (nY.map D.str)),some (.f,.int b),some (.f,.lst (ts.map eT)),some (.d,.dct false (HA (ts.take k)) (HD (ts.take k))),some (.f,.str t.1),some (.f,.int t.2.1),some (.f,.int t.2.2),t7],?_,_,e1,some (.f,.str t.1),some (.f,.int t.2.1),some (.f,.int t.2.2),?_⟩
  ·unfold eT;generalize HA (ts.take k)=KK;generalize HD (ts.take k)=VV;simp only[pv,seval]
  ·rw[SI hk,ex]) _ ⟨none,none,none,rfl⟩
 rw[Tj]at hf;exact⟨u4,u5,u6,hf⟩
theorem CZ(fa fb fc:FO)(env:PV.Env):eGet fa fb fc env=Res.bnd (fa env) (f:=⟨fun p=>Res.bnd (der p.2 p.1) (f:=⟨fun d0=>match d0 with
 | .dct _ _ _=>Res.bnd (fb p.2) (f:=⟨fun q=>Res.bnd (fc q.2) (f:=⟨fun t=>Res.bnd (der t.2 p.1) (f:=⟨fun da=>Res.bnd (der t.2 q.1) (f:=⟨fun db=>Res.bnd (der t.2 t.1) (f:=⟨fun dc=>match da,dc with
  | .dct tk ks vs,.tup l=>if eY tk db then .ok ((.f,(PV.getD ks vs db).getD (.tup l)),t.2) else .bad
  |_,_=>.bad⟩)⟩)⟩)⟩)⟩)
 |_=>.bad⟩)⟩):=id rfl
def k9(ts:List Tr)(m:List Nat):D:=.tup [.int (iR ts m).1,.int (iR ts m).2]
theorem xu(ts:List Tr)(m:List Nat):(PV.getD (HA ts) (HD ts) (.str m)).getD (.tup [.int 0,.int 0])=k9 ts m:=by
 rw[vB];unfold k9 iR;cases ts.find? fun t=>t.1==m with
 |none=>rfl
 |some t=>rfl
theorem sj(ts:List Tr)(nY:Gf):dh (au 0) il (eGet (aq 1) (aq 0) (aj (pC (aF (ay (.int 0)) (aF (ay (.int 0)) bH))))) (nY.map D.str) [none,some (.f,.dct false (HA ts) (HD ts))]=.ok (nY.map (k9 ts)):=by
 refine cZ (fun env=>∃t,env=[t,some (.f,.dct false (HA ts) (HD ts))]) nY ?_ _ ⟨none,rfl⟩;rintro m _ env ⟨t,rfl⟩;have hg:=xu ts m;have hk:eY false (.str m)=true:=rfl;refine⟨[some (.f,.str m),some (.f,.dct false (HA ts) (HD ts))],rfl,.f,[some (.f,.str m),some (.f,.dct false (HA ts) (HD ts))],?_,_,rfl⟩;generalize HA ts=KK at hg ⊢;generalize HD ts=VV at hg ⊢;generalize k9 ts m=LK at hg ⊢;simp only[pv,seval,op,CZ,hk,hg,UK]
theorem lb(ts:List Tr)(nY:Gf)(k:Nat)(hk:k<2):dh (iQ 2 (aA (au 0) (aA (au 1) cV))) il (aJ k) (nY.map (k9 ts)) [none,none]=.ok ((nY.map fun m=>if k=0 then(iR ts m).1 else(iR ts m).2).map D.int):=by
 rw[cZ (r:=fun m=>D.int (if k=0 then(iR ts m).1 else(iR ts m).2)) (fun env=>∃t u,env=[t,u]) nY ?_ _ ⟨none,none,rfl⟩]
 ·rw[SE];rfl
 ·rintro m _ env ⟨t,u,rfl⟩;unfold k9;refine⟨[some (.f,.int (iR ts m).1),some (.f,.int (iR ts m).2)],by simp only[pv,seval],.f,[some (.f,.int (iR ts m).1),some (.f,.int (iR ts m).2)],?_,_,_,rfl⟩;have:k=0\/k=1:=by lia
  rcases this with rfl|rfl
  ·simp only[pv,seval,op,UK] <;> rfl
  ·simp only[pv,seval,op,UK] <;> rfl
theorem o4(HE:(ts.map (·.1)).Nodup)(hm:∀t∈ts,t.1∈nY)(hl:ts.length<=100)(hn:nY.length<=100):bC [.tup (nY.map D.str),.int b,.lst (ts.map eT)]=.ok (.f,eP (b,nY.map fun m=>(iR ts m).1,nY.map fun m=>(iR ts m).2)):=by
 obtain⟨u4,u5,u6,hf⟩:=CY (nY:=nY) (b:=b) HE hm hl none;have hp:=sj ts nY;have h1:=lb ts nY 0 (by decide);have h2:=lb ts nY 1 (by decide);have h2:dh (iQ 2 (aA (au 0) (aA (au 1) cV))) il (aJ 1) (nY.map (k9 ts)) [none,none]=.ok ((nY.map fun m=>(iR ts m).2).map D.int):=h2;have h1:dh (iQ 2 (aA (au 0) (aA (au 1) cV))) il (aJ 0) (nY.map (k9 ts)) [none,none]=.ok ((nY.map fun m=>(iR ts m).1).map D.int):=by
  have:=lb ts nY 0 (by decide);exact this
 have z0:(nY.map (k9 ts)).length<=sizeLine:=line_le (by rw[bM];lia);have f0:flatDs (nY.map (k9 ts))=true:=by
  rw[dn,Uw,SD];exact fun _ _=>rfl
 have z1:((nY.map fun m=>(iR ts m).1).map D.int).length<=sizeLine:=line_le (by rw[bM,bM];lia);have z2:((nY.map fun m=>(iR ts m).2).map D.int).length<=sizeLine:=line_le (by rw[bM,bM];lia);have f1:=PV.flat_ints (nY.map fun m=>(iR ts m).1);have f2:=PV.flat_ints (nY.map fun m=>(iR ts m).2);unfold bC jw;rw[aS (h:=by rfl)];rw[aw (env':=[some (.f,.tup (nY.map D.str)),some (.f,.int b),some (.f,.lst (ts.map eT)),some (.d,.dct false [] []),none,none,none,none]) (by
  generalize ts.map eT=TT;generalize nY.map D.str=NN;simp only[pv,seval,op])]
 rw[aw (env':=[some (.f,.tup (nY.map D.str)),some (.f,.int b),some (.f,.lst (ts.map eT)),some (.d,.dct false (HA ts) (HD ts)),u4,u5,u6,none]) (by
  unfold gQ;generalize bJ=BB at hf ⊢;generalize hE:ts.map eT=TT at hf ⊢;clear hE;generalize nY.map D.str=NN at hf ⊢;generalize HA ts=KK at hf ⊢;generalize HD ts=VV at hf ⊢;simp only[pv,seval,op];exact hf)]
 unfold fX eP;generalize (eGet (aq 1) (aq 0) (aj (pC (aF (ay (.int 0)) (aF (ay (.int 0)) bH)))))=GG at hp ⊢;generalize (iQ 2 (aA (au 0) (aA (au 1) cV)))=AA at h1 h2 ⊢;generalize (nY.map fun m=>(iR ts m).1).map D.int=P1 at h1 z1 f1 ⊢;generalize (nY.map fun m=>(iR ts m).2).map D.int=P2 at h2 z2 f2 ⊢;generalize nY.map (k9 ts)=LL at hp h1 h2 z0 f0;generalize ts.map eT=TT;generalize nY.map D.str=NN at hp ⊢;generalize HA ts=KK at hp ⊢;generalize HD ts=VV at hp ⊢;rw[aw (env':=[some (.f,.tup NN),some (.f,.int b),some (.f,.lst TT),some (.d,.dct false KK VV),u4,u5,u6,some (.l .f,.lst LL)]) (by
  simp only[pv,seval,op,hp,z0,f0])]
 simp only[pv,seval,op,h1,h2,z1,z2,f1,f2]
end
theorem frzS(r:R):frz (some r)=some (.f,r.2):=id rfl
theorem FJ:frz none=none:=id rfl
abbrev Qt:=Int×List Tr
def p7(nY:Gf)(q:Qt):Pl:=(q.1,nY.map fun m=>(iR q.2 m).1,nY.map fun m=>(iR q.2 m).2)
def eN(nY:Gf)(ps:List Pl):D:=.tup [.tup (nY.map D.str),.lst (ps.map eP)]
structure Qok(nY:Gf)(q:Qt):Prop where
 b:Nm q.1
 nd:(q.2.map (·.1)).Nodup
 mem:∀t∈q.2,t.1∈nY
 tg:∀t∈q.2,Tg t
 len:q.2.length<=5
abbrev qW(q:Qt):Gf:=pW q.1 q.2
theorem Es{m:List Nat}{k:Nat}(h:Chk m k)(hk:k≠3):m≠Hj:=fun e=>by
 have:=h.all 59 (by rw[e];exact RQ);exact hk (by rw[<-this];decide)
theorem yj{nY:Gf}{q:Qt}(h:Qok nY q){w:List Nat}(hw:w∈qW q):∃k,Chk w k/\(k=0\/k=1)/\w.length<=60:=by
 rcases RV.mp hw with e|hw
 ·rw[e];exact⟨1,h.b.ck,.inr rfl,h.b.len⟩
 ·obtain⟨t,ht,hw⟩:=List.mem_flatMap.mp hw;have g:=h.tg t ht;rcases RV.mp hw with e|hw
  ·rw[e];exact⟨0,k8 g.n,.inl rfl,by have:=(c6 g.n).1;lia⟩
  ·rcases RV.mp hw with e|hw
   ·rw[e];exact⟨1,g.tk.ck,.inr rfl,g.tk.len⟩
   ·rw[ET hw];exact⟨1,g.gv.ck,.inr rfl,g.gv.len⟩
theorem nq{nY:Gf}:∀qs:List Qt,(∀q∈qs,Qok nY q)->((qs.map qW).flatMap fun p=>Hj::p).length<=17*qs.length
 |[],_=>R1 _
 |q::qs,h=>by
  rw[jK,SK,cF,R6,vz];have:=nq qs fun q hq=>h q (RZ _ hq)
  have:=(h q RQ).len;rw[R6];lia
theorem nr{nY:Gf}(hl:nY.length<=5)(Q0:∀n∈nY,n.length<=8)(Jl:nY.Pairwise (fun a b=>IU a b=true)):b7 [.tup (nY.map D.str)]=.ok (.f,.non):=by
 have h:=uX D.str IU CA nY (by lia);rw[oY Jl]at h;unfold b7 iH;rw[aS (h:=by rfl)];generalize nY.map D.str=NN at h ⊢;simp only[pv,seval,op,h,aO,ft,SJ,dW]
theorem o5(p:Pl):dw (eP p)=true:=by
 unfold eP;simp only[PV.dw,PV.flatDs,PV.flat_ints,Uz]
theorem yk{l:List (List Nat×Nat)}(hc:Chs l)(hl:(txt l).length<=40000){ns nY:Gf}{qs:List Qt}(hk:Ia l=(aG::ns)++(qs.map qW).flatMap fun q=>Hj::q)
  (Iw:nY.length<=5) (RF:∀n∈nY,bw n=true) (hn:ns.Perm nY) (Jl:nY.Pairwise (fun a b=>IU a b=true)) (hq:∀q∈qs,Qok nY q) (PH:qs.length<=100):cC [.str (txt l)]=.ok (.t [.f,.l .f],eN nY (qs.map (p7 nY))):=by
 have nn:∀n∈ns,bw n=true:=fun n h=>RF n (hn.mem_iff.mp h)
 have hnl':ns.length<=5:=by rw[hn.length_eq];exact Iw
 have JO:KQ (Ia l) [] []=(aG::ns)::qs.map qW:=by
  rw[hk,kZ _ _ _ _ (fun w hw=>?_),vk]
  ·rfl
  ·intro p hp w hw;obtain⟨q,Gk,rfl⟩:=su hp;obtain⟨k,ck,hk,_⟩:=yj (hq q Gk) hw;exact Es ck (by lia)
  ·rcases RV.mp hw with rfl|hw
   ·exact Es nh (by decide)
   ·exact Es (k8 (nn w hw)) (by decide)
 have Q1:(Ia l).length<=40000:=by
  rw[hk,cF,R6];have:=nq qs hq;lia
 have hp:=Al l hc hl Q1;rw[JO]at hp;have LB:=sf ns hnl' nn;have Pw:=u0 ns (by lia);rw[vn pF Jl hn]at Pw;have KR:dh (au 0) il (cx cM (af (aq 0) ar)) ((qs.map qW).map eW) [none]=.ok (qs.map fun q=>.tup [.int q.1,.lst (q.2.map eT)]):=by
  rw[SE];refine cZ (e:=eW∘qW) (fun env=>∃t,env=[t]) _ ?_ _ ⟨_,rfl⟩;rintro q Gk env ⟨t,rfl⟩;have g:=hq q Gk;have h1:=vA g.b g.tg (by have:=g.len;lia);refine⟨[some (.f,eW (qW q))],rfl,.f,[some (.f,eW (qW q))],?_,_,rfl⟩;generalize D.tup [.int q.1,.lst (q.2.map eT)]=TT at h1 ⊢;show cx cM (af (aq 0) ar) [some (.f,eW (pW q.1 q.2))]=_;generalize eW (pW q.1 q.2)=EW at h1 ⊢;cases hf:dw TT <;> simp only[pv,seval,op,h1,aO,hf,jK,U3,frzS,dW]
 have OX:dh (iQ 2 (aA (au 0) (aA (au 1) cV))) il (cx bC (af (aq 2) (af (aq 0) (af (aq 1) ar)))) (qs.map fun q=>.tup [.int q.1,.lst (q.2.map eT)]) [none,none,some (.f,.tup (nY.map D.str))]=.ok ((qs.map (p7 nY)).map eP):=by
  rw[cZ (e:=fun q:Qt=>D.tup [.int q.1,.lst (q.2.map eT)]) (r:=fun q=>eP (p7 nY q)) (fun env=>∃t u,env=[t,u,some (.f,.tup (nY.map D.str))]) qs ?_ _ ⟨none,none,rfl⟩]
  ·rw[SE];rfl
  ·rintro q Gk env ⟨t,u,rfl⟩;have g:=hq q Gk;have h1:=o4 (b:=q.1) g.nd g.mem (by have:=g.len;lia) (by lia:nY.length<=100);have fP:=o5 (p7 nY q);have h1:bC [.tup (nY.map D.str),.int q.1,.lst (q.2.map eT)]=.ok (.f,eP (p7 nY q)):=h1;generalize eP (p7 nY q)=EP at h1 fP ⊢;generalize nY.map D.str=NN at h1 ⊢;generalize q.2.map eT=TT at h1 ⊢;refine⟨[some (.f,.int q.1),some (.f,.lst TT),some (.f,.tup NN)],by simp only[pv,seval],.f,[some (.f,.int q.1),some (.f,.lst TT),some (.f,.tup NN)],by simp only[pv,seval,op,h1,aO,fP],_,_,rfl⟩
 have hz:(qs.map fun q=>D.tup [.int q.1,.lst (q.2.map eT)]).length<=sizeLine:=dI (by lia);have LN:((qs.map (p7 nY)).map eP).length<=sizeLine:=dI (by rw[bM];lia);have OY:flatDs ((qs.map (p7 nY)).map eP)=true:=iO o5;have KS:=PV.flat_strs ns;have OV:jG (eW (aG::ns)::(qs.map qW).map eW) (some 1) none=(qs.map qW).map eW:=by
  have:=m9 (eW (aG::ns)::(qs.map qW).map eW) 1;exact this
 have JD:decide (200<(((qs.length+1:Nat):Int)-1))=false:=Sb (by lia);have Nr:=nr Iw (fun n h=>(c6 (RF n h)).1) Jl;unfold cC lU;rw[aS (h:=by rfl)];rw[jK]at hp;rw[aw (env':=[some (.f,.str (txt l)),some (.f,.lst (eW (aG::ns)::(qs.map qW).map eW)),none,none]) (by
  simp only[pv,seval,op,CH,hp];split <;> rfl)]
 rw[aw (env':=[some (.f,.str (txt l)),some (.f,.lst (eW (aG::ns)::(qs.map qW).map eW)),some (.f,.tup (nY.map D.str)),none]) (by
  generalize eW (aG::ns)=EW at LB ⊢;have h0:∀r:List D,Hv (EW::r) (0:Int)=some EW:=fun r=>dZ (j:=0) rfl
  simp only[pv,seval,op,h0,LB,dm,KS,Pw])]
 have MA:((qs.map qW).map eW).length=qs.length:=by rw[bM,bM]
 rw[aw (env':=[some (.f,.str (txt l)),some (.f,.lst (eW (aG::ns)::(qs.map qW).map eW)),some (.f,.tup (nY.map D.str)),none]) (by simp only[pv,seval,op,MA,JD,dW])];generalize (qs.map fun q=>D.tup [.int q.1,.lst (q.2.map eT)])=TQ at KR OX hz;rw[aw (env':=[some (.f,.str (txt l)),some (.f,.lst (eW (aG::ns)::(qs.map qW).map eW)),some (.f,.tup (nY.map D.str)),some (.l .f,.lst TQ)]) (by
  generalize (cx cM (af (aq 0) ar))=GG at KR ⊢;generalize eW (aG::ns)=EW at OV ⊢;generalize (qs.map qW).map eW=AW at KR OV;cases hf:flatDs TQ <;> simp only[pv,seval,op,OV,KR,hz,hf,jK,U3,frzS,FJ,dW])]
 rw[aw (env':=[some (.f,.str (txt l)),some (.f,.lst (eW (aG::ns)::(qs.map qW).map eW)),some (.f,.tup (nY.map D.str)),some (.l .f,.lst TQ)]) (by
  have fnn:dw .non=true:=rfl;simp only[pv,seval,op,Nr,aO,fnn,UK])]
 unfold eN;generalize (cx bC (af (aq 2) (af (aq 0) (af (aq 1) ar))))=GG at OX ⊢;generalize (qs.map (p7 nY)).map eP=PP at OX LN OY ⊢;generalize nY.map D.str=NN at OX ⊢;simp only[pv,seval,op,z8,OX,LN,OY] <;> rfl
def GZ(nY:Gf)(tk gv:List Int):List Tr:=((nY.zip tk).zip gv).map fun z=>(z.1.1,z.1.2,z.2)
theorem p8(nY:Gf)(tk gv:List Int):oI (nY.map D.str) (tk.map D.int) (gv.map D.int)=(GZ nY tk gv).map eT:=by
 unfold oI GZ;rw[Xv,Xv,SE,SE];rfl
def kp(t:Tr):Bool:=decide (0<t.2.1)||decide (0<t.2.2)
def GL(nY:Gf)(p:Pl):Qt:=(p.1,(GZ nY p.2.1 p.2.2).filter kp)
def tC(t:Tr):List (List Nat×Nat):=[([32],2),(t.1,0),([32],2),(dg t.2.1,1),([32],2),(dg t.2.2,1)]
def qC(q:Qt):List (List Nat×Nat):=(Hj,3)::([32],2)::(dg q.1,1)::q.2.flatMap tC
def tT(t:Tr):List Nat:=[t.1,[32],dg t.2.1,[32],dg t.2.2].flatten
def qT(q:Qt):List Nat:=joinL [32] (dg q.1::q.2.map tT)
def CN(ns:Gf)(qs:List Qt):List (List Nat×Nat):=(aG,0)::(IQ ns++qs.flatMap qC)
theorem vD(t:Tr):txt (tC t)=[32]++tT t:=by
 unfold tC tT;rw[bU];rfl
theorem qX:∀(x:List Nat) (ts:List Tr),joinL [32] (x::ts.map tT)=x++txt (ts.flatMap tC)
 |x,[]=>(Sg x).symm
 |x,t::ts=>by
  show x++[32]++joinL [32] (tT t::ts.map tT)=_;rw[qX (tT t) ts,SK,d9,vD,R7,R7]
theorem vE(q:Qt):txt (qC q)=[59,32]++qT q:=by
 unfold qC qT;rw[bU,bU,bU,qX];rfl
theorem ym:∀(x:List Nat) (qs:List Qt),joinL [59,32] (x::qs.map qT)=x++txt (qs.flatMap qC)
 |x,[]=>(Sg x).symm
 |x,q::qs=>by
  show x++[59,32]++joinL [59,32] (qT q::qs.map qT)=_;rw[ym (qT q) qs,SK,d9,vE,R7,R7]
theorem vF(ns:Gf)(qs:List Qt):txt (CN ns qs)=aG++txt (IQ ns)++txt (qs.flatMap qC):=by
 unfold CN;rw[bU,d9,R7]
theorem C0{r:List (List Nat×Nat)}(hr:Chs r)(hh:hd r=2\/hd r=3\/hd r=9):∀ts:List Tr,(∀t∈ts,Tg t)->Chs (ts.flatMap tC++r)/\(hd (ts.flatMap tC++r)=2\/hd (ts.flatMap tC++r)=3\/hd (ts.flatMap tC++r)=9)
 |[],_=>⟨hr,hh⟩
 |t::ts,h=>by
  obtain⟨h1,h2⟩:=C0 hr hh ts fun t ht=>h t (RZ _ ht)
  have g:=h t RQ;rw[SK,R7];generalize ts.flatMap tC++r=R at h1 h2;refine⟨?_,.inl rfl⟩;have e1:(1:Nat)≠hd R:=by lia
  exact Chs.mk p4 (Chs.mk (k8 g.n) (Chs.mk p4 (Chs.mk g.tk.ck (Chs.mk p4 (Chs.mk g.gv.ck h1 (.inr e1)) (.inr (show(2:Nat)≠1 by decide))) (.inr (show(1:Nat)≠2 by decide))) (.inr (show(2:Nat)≠1 by decide))) (.inr (show(0:Nat)≠2 by decide))) (.inr (show(2:Nat)≠0 by decide))
theorem C1{nY:Gf}:∀qs:List Qt,(∀q∈qs,Qok nY q)->Chs (qs.flatMap qC)/\(hd (qs.flatMap qC)=3\/hd (qs.flatMap qC)=9)
 |[],_=>⟨.nil,.inr rfl⟩
 |q::qs,h=>by
  obtain⟨h1,h2⟩:=C1 qs fun q hq=>h q (RZ _ hq)
  have g:=h q RQ;rw[SK];obtain⟨h3,h4⟩:=C0 h1 (.inr h2) q.2 g.tg;show Chs ((Hj,3)::([32],2)::(dg q.1,1)::(q.2.flatMap tC++qs.flatMap qC))/\_;generalize q.2.flatMap tC++qs.flatMap qC=R at h3 h4;have e1:(1:Nat)≠hd R:=by lia
  exact⟨Chs.mk yg (Chs.mk p4 (Chs.mk g.b.ck h3 (.inr e1)) (.inr (show(2:Nat)≠1 by decide))) (.inl rfl),.inl rfl⟩
theorem Et{ns nY:Gf}{qs:List Qt}(hn:∀n∈ns,bw n=true)(hq:∀q∈qs,Qok nY q):Chs (CN ns qs):=by
 obtain⟨h1,h2⟩:=C1 qs hq;obtain⟨h3,h4⟩:=yh h1 h2 ns hn;exact Chs.mk nh h3 (.inr fun z=>h4 z.symm)
theorem C2:∀ts:List Tr,Ia (ts.flatMap tC)=ts.flatMap tW
 |[]=>rfl
 |t::ts=>by
  rw[SK,ni,C2 ts,SK];rfl
theorem C3:∀qs:List Qt,Ia (qs.flatMap qC)=(qs.map qW).flatMap fun q=>Hj::q
 |[]=>rfl
 |q::qs=>by
  rw[SK,ni,C3 qs,jK,SK];congr 1
  unfold qC qW pW;rw[dX,Sf (by decide),dX,Sa rfl,dX,Sf (by decide),C2]
theorem C4(ns:Gf)(qs:List Qt):Ia (CN ns qs)=(aG::ns)++(qs.map qW).flatMap fun q=>Hj::q:=by
 unfold CN;rw[dX,Sf (by decide),ni,CL,C3];rfl
theorem vG{t:Tr}(h:Tg t):(tT t).length<=130:=by
 have h1:=(c6 h.n).1;have h2:=h.tk.len;have h3:=h.gv.len;unfold tT;simp only[Us,Wj,cF,R6,UM];lia
theorem lg:∀ts:List Tr,(∀t∈ts,Tg t)->(txt (ts.flatMap tC)).length<=131*ts.length
 |[],_=>R1 _
 |t::ts,h=>by
  rw[SK,d9,cF,vD,cF,show(t::ts).length=ts.length+1 from rfl];have:=lg ts fun t ht=>h t (RZ _ ht)
  have:=vG (h t RQ);show 1+_+_<=_;lia
theorem yn{nY:Gf}{q:Qt}(h:Qok nY q):(qT q).length<=720:=by
 unfold qT;rw[qX,cF];have:=h.b.len;have:=lg q.2 h.tg;have:=h.len;lia
theorem lh{nY:Gf}:∀qs:List Qt,(∀q∈qs,Qok nY q)->(txt (qs.flatMap qC)).length<=722*qs.length
 |[],_=>R1 _
 |q::qs,h=>by
  rw[SK,d9,cF,vE,cF,show(q::qs).length=qs.length+1 from rfl];have:=lh qs fun q hq=>h q (RZ _ hq)
  have:=yn (h q RQ);show 2+_+_<=_;lia
theorem o6(ns ps:Gf)(hn:ns.length<=5)(Q0:∀n∈ns,n.length<=8)(hp:ps.length<=30)(hp8:∀n∈ps,n.length<=1000):cB [.tup (ns.map D.str),.lst (ps.map D.str)]=.ok (.f,.str (joinL [59,32] (joinL [32] (aG::ns)::ps))):=by
 have h1:=qV [32] (aG::ns) 8 (fun x hx=>(RV.mp hx).elim (fun e=>by rw[e];decide) (Q0 x)) (by rw[R6];show _+_*1<=_;lia);have Rq:(joinL [32] (aG::ns)).length<=1000:=by
  have h2:=kx [32] (aG::ns);have h3:=vp 8 (aG::ns) (fun x hx=>(RV.mp hx).elim (fun e=>by rw[e];decide) (Q0 x));rw[R6]at h2 h3;have:([32]:List Nat).length=1:=rfl;rw[this]at h2;lia
 have h2:=qV [59,32] (joinL [32] (aG::ns)::ps) 1000 (fun x hx=>(RV.mp hx).elim (fun e=>by rw[e];exact Rq) (hp8 x)) (by rw[R6];show _+_*2<=_;lia);rw[jK]at h1 h2;have z1:1+(ns.map D.str).length<=sizeLine:=line_le (by rw[bM];lia);have z2:1+(ps.map D.str).length<=sizeLine:=line_le (by rw[bM];lia);have Nt:=PV.flat_strs ns;unfold cB ju;rw[aS (h:=by rfl)];generalize joinL [32] (aG::ns)=J at h1 h2 ⊢;generalize ns.map D.str=N at *;generalize ps.map D.str=P at *;generalize Nu:aG=MW at h1;have Nu:([109,111,118,101,115]:List Nat)=MW:=Nu;simp only[pv,seval,op,Nu,z1,z2,uT,h1,h2,Nt]
theorem C5(a0 a1:Option R){t:Tr}(g:Tg t)(L:Gf)(hL:L.length<1000):bK [a0,a1,some (.l .f,.lst (L.map D.str)),some (.f,.str t.1),some (.f,.int t.2.1),some (.f,.int t.2.2)]=.ok (.nx [a0,a1,some (.l .f,.lst ((L++if kp t then[tT t] else[]).map D.str)),some (.f,.str t.1),some (.f,.int t.2.1),some (.f,.int t.2.2)]):=by
 have hz:(L.map D.str).length<sizeLine:=m8 (by rw[bM];lia);have hl:([t.1,[32],dg t.2.1,[32],dg t.2.2]:Gf).flatten.length<=sizeLine:=line_le (by have:=vG g;unfold tT at this;lia);have RG:=g.tk.log;have RH:=g.gv.log;have Ib:∀b:Bool,b=true->(L++if b then[tT t] else[]).map D.str=L.map D.str++[.str (tT t)]:=fun b e=>by rw[e,Sa rfl,Sk];rfl
 unfold bK;by_cases h1:0<t.2.1
 ·have d1:decide (0<t.2.1)=true:=Sq h1;rw[Ib (kp t) (by unfold kp;rw[d1];rfl)];unfold tT;simp only[pv,seval,op,d1,vo,yi,RG,RH,c9,Option.map_some,hz];rw[Sa hl];simp only[pv,seval,op,hz]
 ·have d1:decide (0<t.2.1)=false:=Sb h1;by_cases h2:0<t.2.2
  ·have d2:decide (0<t.2.2)=true:=Sq h2;rw[Ib (kp t) (by unfold kp;rw[d1,d2];rfl)];unfold tT;simp only[pv,seval,op,d1,d2,vo,yi,RG,RH,c9,Option.map_some,hz,dW];rw[Sa hl];simp only[pv,seval,op,hz]
  ·have d2:decide (0<t.2.2)=false:=Sb h2;have hk:kp t=false:=by unfold kp;rw[d1,d2];rfl
   rw[hk,Sf R4,Sg];generalize L.map D.str=LL;simp only[pv,seval,op,d1,d2,dW]
theorem An{fs:FOs}{env env':PV.Env}{a b c:List D}(h:fs env=.ok ([.val (.lst a),.val (.tup b),.val (.tup c)],env'))(hb:a.length=b.length)(hc:a.length=c.length):kC fs env=.ok (oI a b c,env'):=by
 have e:mR true fs env=.ok (oI a b c,env'):=by
  unfold mR;rw[h];show(if a.length=b.length/\a.length=c.length then Res.ok (oI a b c,env') else .bad)=_;rw[Sa ⟨hb,hc⟩]
 unfold kC Ho;rw[e]
theorem Ao{fs:FOs}{env env':PV.Env}{a b c:List D}(h:fs env=.ok ([.val (.tup a),.val (.tup b),.val (.tup c)],env'))(hb:a.length=b.length)(hc:a.length=c.length):kC fs env=.ok (oI a b c,env'):=by
 have e:mR false fs env=.ok (oI a b c,env'):=by
  unfold mR;rw[h];show(if a.length=b.length/\a.length=c.length then Res.ok (oI a b c,env') else .bad)=_;rw[Sa ⟨hb,hc⟩]
 have e0:mR true fs env=.bad:=by
  unfold mR;rw[h];rfl
 unfold kC Ho;rw[e0];exact e
structure Pok(nY:Gf)(p:Pl):Prop where
 b:Nm p.1
 l1:p.2.1.length=nY.length
 l2:p.2.2.length=nY.length
 t:∀x∈p.2.1,Nm x
 g:∀x∈p.2.2,Nm x
section
variable{nY:Gf}{p:Pl}
theorem fu(h:Pok nY p):(GZ nY p.2.1 p.2.2).length=nY.length:=by
 unfold GZ;rw[bM,Ui,Ui];have:=h.l1;have:=h.l2;lia
theorem o7(h:Pok nY p){j:Nat}(hj:j<nY.length):(GZ nY p.2.1 p.2.2)[j]'(by rw[fu h];exact hj)=(nY[j],p.2.1[j]'(by rw[h.l1];exact hj),p.2.2[j]'(by rw[h.l2];exact hj)):=by
 unfold GZ;rw[Um,Vs,Vs]
theorem o8(h:Pok nY p):(GZ nY p.2.1 p.2.2).map (·.1)=nY:=by
 apply Wl
 ·rw[bM,fu h]
 ·intro j h1 h2;rw[Um,o7 h h2]
theorem lY(h:Pok nY p)(hn:∀n∈nY,bw n=true):∀t∈GZ nY p.2.1 p.2.2,Tg t/\t.1∈nY:=fun t ht=>by
 obtain⟨j,hj,e⟩:=To ht;have OW:j<nY.length:=by rw[<-fu h];exact hj
 rw[o7 h OW]at e;subst e;exact⟨⟨hn _ (SW _),h.t _ (SW _),h.g _ (SW _)⟩,SW _⟩
structure Cov(nY:Gf)(p:Pl)(ts:List Tr):Prop where
 nd:(ts.map (·.1)).Nodup
 sub:∀t∈ts,t∈GZ nY p.2.1 p.2.2
 all:∀t∈GZ nY p.2.1 p.2.2,kp t=true->t∈ts
theorem Ap(h:Pok nY p)(HE:nY.Nodup){t u:Tr}(ht:t∈GZ nY p.2.1 p.2.2)(hu:u∈GZ nY p.2.1 p.2.2)(e:t.1=u.1):t=u:=by
 obtain⟨j,hj,ej⟩:=To ht;obtain⟨k,hk,ek⟩:=To hu;have OW:j<nY.length:=by rw[<-fu h];exact hj
 have Kl:k<nY.length:=by rw[<-fu h];exact hk
 rw[o7 h OW]at ej;rw[o7 h Kl]at ek;have:j=k:=(Wh HE).mp (by rw[<-ej,<-ek]at e;exact e);subst this;rw[<-ej,<-ek]
theorem xv(h:Pok nY p)(HE:nY.Nodup){ts:List Tr}(c:Cov nY p ts){t:Tr}(ht:t∈GZ nY p.2.1 p.2.2)(hg:Tg t):iR ts t.1=t.2:=by
 unfold iR;cases hf:ts.find? fun u=>u.1==t.1 with
 |some u=>
  have e:=List.find?_some hf;rw[SR]at e;rw[Ap h HE (c.sub u (List.mem_of_find?_eq_some hf)) ht e]
 |none=>
  have LB:t∉ts:=fun hm=>by
   have:=Xi.mp hf t hm;exact this (SQ _)
  have hk:kp t=false:=by
   cases hk:kp t with
   |false=>rfl
   |true=>exact absurd (c.all t ht hk) LB
  unfold kp at hk;rw[Bool.or_eq_false_iff,SU,SU]at hk;have h1:=hg.tk.1;have h2:=hg.gv.1;show((0:Int),(0:Int))=t.2;apply YD
  ·show 0=t.2.1;lia
  ·show 0=t.2.2;lia
theorem yo(h:Pok nY p)(HE:nY.Nodup)(hn:∀n∈nY,bw n=true){ts:List Tr}(c:Cov nY p ts):p7 nY (p.1,ts)=p:=by
 unfold p7;obtain⟨b,tk,gv⟩:=p;have l1:tk.length=nY.length:=h.l1;have l2:gv.length=nY.length:=h.l2;have key:∀j (hj:j<nY.length),iR ts nY[j]=(tk[j]'(by lia),gv[j]'(by lia)):=fun j hj=>by
  have hm:(nY[j],tk[j]'(by lia),gv[j]'(by lia))∈GZ nY tk gv:=by
   rw[<-o7 h hj];exact SW _
  exact xv h HE c hm (lY h hn _ hm).1
 refine YD rfl (YD ?_ ?_)
 ·apply Wl
  ·show(nY.map _).length=tk.length;rw[bM,l1]
  ·intro j h1 h2;show(nY.map fun m=>(iR ts m).1)[j]'h1=tk[j];rw[Um,key j (by lia)]
 ·apply Wl
  ·show(nY.map _).length=gv.length;rw[bM,l2]
  ·intro j h1 h2;show(nY.map fun m=>(iR ts m).2)[j]'h1=gv[j];rw[Um,key j (by lia)]
theorem qY(h:Pok nY p)(HE:nY.Nodup):Cov nY p (GL nY p).2:=by
 refine⟨?_,fun t ht=>(Ue.mp ht).1,fun t ht hk=>Ue.mpr ⟨ht,hk⟩⟩;have e:=o8 h;refine Xj (List.Sublist.map _ W2) ?_;rw[e];exact HE
theorem vH(h:Pok nY p)(hn:∀n∈nY,bw n=true)(hl:nY.length<=5)(HE:nY.Nodup){ts:List Tr}(c:Cov nY p ts)(hlen:ts.length<=nY.length):Qok nY (p.1,ts):=⟨h.b,c.nd,fun t ht=>(lY h hn t (c.sub t ht)).2,fun t ht=>(lY h hn t (c.sub t ht)).1,Ta hlen hl⟩
theorem nu(h:Pok nY p)(hn:∀n∈nY,bw n=true)(hl:nY.length<=5)(HE:nY.Nodup):Qok nY (GL nY p):=vH h hn hl HE (qY h HE) (by
 have:=TN kp (GZ nY p.2.1 p.2.2);have:=fu h;show((GZ nY p.2.1 p.2.2).filter kp).length<=_;lia)
theorem vI(l:List Tr)(k:Nat)(hk:k<l.length)(f:Tr->List Nat):((l.take (k+1)).filter kp).map f=((l.take k).filter kp).map f++if kp l[k] then[f l[k]] else[]:=by
 rw[SI hk,Vb,Sk];congr 1
 cases h:kp l[k] with
 |true=>rw[UB h];rfl
 |false=>rw[UA (by rw[h];exact R4)];rfl
theorem o9(h:Pok nY p)(hn:∀n∈nY,bw n=true)(hl:nY.length<=5):bN [.tup (nY.map D.str),eP p]=.ok (.f,.str (qT (GL nY p))):=by
 have hlen:=fu h;have hz:=p8 nY p.2.1 p.2.2;have Nv:=lY h hn;have hT:∀t∈(GZ nY p.2.1 p.2.2).filter kp,Tg t:=fun t ht=>(Nv t (Ue.mp ht).1).1
 have Mz:=TN kp (GZ nY p.2.1 p.2.2);have l1:=h.l1;have l2:=h.l2;have hs:=p6 h.b;have hj:=qV [32] (dg p.1::((GZ nY p.2.1 p.2.2).filter kp).map tT) 130 (fun x hx=>by
  rcases RV.mp hx with e|e
  ·rw[e];have:=h.b.len;lia
  ·obtain⟨t,ht,e⟩:=su e;rw[<-e];exact vG (hT t ht)) (by
  rw[R6,bM];show _+_*1<=_;lia)
 obtain⟨env',hf,u3,u4,u5,rfl⟩:=for_list (a:=iQ 3 (aA (au 3) (aA (au 4) (aA (au 5) cV)))) (g:=bK) (e:=eT) (GZ nY p.2.1 p.2.2) (fun k env=>∃u3 u4 u5,env=[some (.f,.tup (nY.map D.str)),some (.f,eP p),some (.l .f,.lst ((dg p.1::(((GZ nY p.2.1 p.2.2).take k).filter kp).map tT).map D.str)),u3,u4,u5]) (by
  rintro k t env hx ⟨u3,u4,u5,rfl⟩;obtain⟨hk,ex⟩:=qQ hx;have g:=(Nv t (SG hx)).1;have MZ:=TN kp ((GZ nY p.2.1 p.2.2).take k);have e1:=C5 (some (.f,.tup (nY.map D.str))) (some (.f,eP p)) g (dg p.1::(((GZ nY p.2.1 p.2.2).take k).filter kp).map tT) (by rw[R6,bM];rw[SA]at MZ;lia);refine⟨[some (.f,.tup (nY.map D.str)),some (.f,eP p),some (.l .f,.lst ((dg p.1::(((GZ nY p.2.1 p.2.2).take k).filter kp).map tT).map D.str)),some (.f,.str t.1),some (.f,.int t.2.1),some (.f,.int t.2.2)],?_,_,e1,some (.f,.str t.1),some (.f,.int t.2.1),some (.f,.int t.2.2),?_⟩
  ·unfold eT;generalize (dg p.1::(((GZ nY p.2.1 p.2.2).take k).filter kp).map tT).map D.str=LL;generalize eP p=EP;simp only[pv,seval]
  ·rw[vI _ k hk tT,ex,T5]) _ ⟨none,none,none,rfl⟩
 rw[Tj]at hf;have JR:=Ao (fs:=af (aj (aJ 0)) (af (aj (aD Gq (aq 1) (aj (ay (.int 1))))) (af (aj (aD Gq (aq 1) (aj (ay (.int 2))))) ar))) (env:=[some (.f,.tup (nY.map D.str)),some (.f,eP p),some (.l .f,.lst [.str (dg p.1)]),none,none,none]) (env':=[some (.f,.tup (nY.map D.str)),some (.f,eP p),some (.l .f,.lst [.str (dg p.1)]),none,none,none]) (a:=nY.map D.str) (b:=p.2.1.map D.int) (c:=p.2.2.map D.int) (by
  have i1:Gq (eP p) (.int 1)=.ok (.f,.tup (p.2.1.map D.int)):=rfl;have i2:Gq (eP p) (.int 2)=.ok (.f,.tup (p.2.2.map D.int)):=rfl;generalize eP p=EP at i1 i2 ⊢;simp only[pv,seval,op,i1,i2]) (by rw[bM,bM];lia) (by rw[bM,bM];lia)
 rw[hz]at JR;have i0:Gq (eP p) (.int 0)=.ok (.f,.int p.1):=rfl;unfold bN jx;rw[aS (h:=by rfl)];rw[aw (env':=[some (.f,.tup (nY.map D.str)),some (.f,eP p),some (.l .f,.lst [.str (dg p.1)]),none,none,none]) (by
  generalize eP p=EP at i0 ⊢;simp only[pv,seval,op,i0,hs])]
 rw[aw (env':=[some (.f,.tup (nY.map D.str)),some (.f,eP p),some (.l .f,.lst ((dg p.1::((GZ nY p.2.1 p.2.2).filter kp).map tT).map D.str)),u3,u4,u5]) (by
  unfold gR;have hf:jl (iQ 3 (aA (au 3) (aA (au 4) (aA (au 5) cV)))) bK ((GZ nY p.2.1 p.2.2).map eT) [some (.f,.tup (nY.map D.str)),some (.f,eP p),some (.l .f,.lst [.str (dg p.1)]),none,none,none]=_:=hf;generalize bK=BB at hf ⊢;generalize (af (aj (aJ 0)) (af (aj (aD Gq (aq 1) (aj (ay (.int 1))))) (af (aj (aD Gq (aq 1) (aj (ay (.int 2))))) ar)))=OO at JR ⊢;simp only[pv,seval,op,JR];exact hf)]
 unfold fY qT GL;dsimp only;generalize joinL [32] (dg p.1::((GZ nY p.2.1 p.2.2).filter kp).map tT)=JJ at hj ⊢;generalize (dg p.1::((GZ nY p.2.1 p.2.2).filter kp).map tT).map D.str=LL at hj ⊢;simp only[pv,seval,op,hj]
end
theorem addSS{x y:List Nat}(h:x.length+y.length<=100000):addD (.str x) (.str y)=.ok (.f,.str (x++y)):=by rw[o_addS,Sa (line_le (by lia))]
theorem PJ(x:Int):JZ (.int x) (.int 0)=.ok (.f,.bl (decide (0<x))):=by simp only[op]
section
variable{nY:Gf}{ps:List Pl}
theorem sk(Je:∀p∈ps,Pok nY p)(hl:ps.length<=25)(hn:∀n∈nY,bw n=true)(Iw:nY.length<=5)(HE:nY.Nodup):cD [eN nY ps]=.ok (.f,.str (txt (CN nY (ps.map (GL nY))))):=by
 have JO:=o6 nY ((ps.map (GL nY)).map qT) Iw (fun n h=>(c6 (hn n h)).1) (by rw[bM,bM];lia) (fun x hx=>by
  obtain⟨q,hq,rfl⟩:=su hx;obtain⟨p,hp,rfl⟩:=su hq;have:=yn (nu (Je p hp) hn Iw HE);lia)
 rw[ym,vq,<-vF]at JO;have KD:Gq (eN nY ps) (.int 0)=.ok (.f,.tup (nY.map D.str)):=rfl;have OZ:Gq (eN nY ps) (.int 1)=.ok (.f,.lst (ps.map eP)):=rfl;have KR:dh (au 0) il (cx bN (af (aj (aD Gq (aq 1) (aj (ay (.int 0))))) (af (aq 0) ar))) (ps.map eP) [none,some (.f,eN nY ps)]=.ok (((ps.map (GL nY)).map qT).map D.str):=by
  rw[cZ (r:=fun p:Pl=>D.str (qT (GL nY p))) (fun env=>∃t,env=[t,some (.f,eN nY ps)]) ps ?_ _ ⟨none,rfl⟩]
  ·rw[SE,SE];rfl
  ·rintro p hp env ⟨t,rfl⟩;have h1:=o9 (Je p hp) hn Iw;refine⟨[some (.f,eP p),some (.f,eN nY ps)],rfl,.f,[some (.f,eP p),some (.f,eN nY ps)],?_,_,rfl⟩;generalize qT (GL nY p)=QT at h1 ⊢;generalize eN nY ps=EN at KD ⊢;generalize eP p=EP at h1 ⊢;generalize nY.map D.str=NN at KD h1;simp only[pv,seval,op,KD,h1,aO,cS]
 have hz:(((ps.map (GL nY)).map qT).map D.str).length<=sizeLine:=dI (by rw[bM,bM];lia);have RI:=PV.flat_strs ((ps.map (GL nY)).map qT);unfold cD lV;rw[aS (h:=by rfl)];generalize (cx bN (af (aj (aD Gq (aq 1) (aj (ay (.int 0))))) (af (aq 0) ar)))=GG at KR ⊢;generalize txt (CN nY (ps.map (GL nY)))=TX at JO ⊢;generalize ((ps.map (GL nY)).map qT).map D.str=QQ at KR hz RI JO;generalize eN nY ps=EN at KD OZ KR ⊢;generalize nY.map D.str=NM at KD JO;simp only[pv,seval,op,KD,OZ,KR,hz,RI,JO]
theorem C6(a0 a1 a3 a4 a5:Option R){t:Tr}(g:Tg t)(X:List Nat)(hX:X.length<=50000):cv [a0,a1,some (.f,.str X),a3,a4,a5,some (.f,.str t.1),some (.f,.int t.2.1),some (.f,.int t.2.2)]=.ok (.nx [a0,a1,some (.f,.str (X++if kp t then txt (tC t) else[])),a3,a4,a5,some (.f,.str t.1),some (.f,.int t.2.1),some (.f,.int t.2.2)]):=by
 have n8:=(c6 g.n).1;have n1:=g.tk.len;have n2:=g.gv.len;have s1:=p6 g.tk;have s2:=p6 g.gv;have e1:=addSS (x:=X) (y:=[32]) (by show _+1<=_;lia);have e2:=addSS (x:=X++[32]) (y:=t.1) (by rw[cF];show _+1+_<=_;lia);have e3:=addSS (x:=X++[32]++t.1) (y:=[32]) (by rw[cF,cF];show _+1+_+1<=_;lia);have e4:=addSS (x:=X++[32]++t.1++[32]) (y:=dg t.2.1) (by rw[cF,cF,cF];show _+1+_+1+_<=_;lia);have e5:=addSS (x:=X++[32]++t.1++[32]++dg t.2.1) (y:=[32]) (by rw[cF,cF,cF,cF];show _+1+_+1+_+1<=_;lia);have e6:=addSS (x:=X++[32]++t.1++[32]++dg t.2.1++[32]) (y:=dg t.2.2) (by rw[cF,cF,cF,cF,cF];show _+1+_+1+_+1+_<=_;lia);have ex:X++[32]++t.1++[32]++dg t.2.1++[32]++dg t.2.2=X++txt (tC t):=by
  rw[vD];unfold tT;simp only[Us,Wj,R7,Sg]
 rw[ex]at e6;have Ib:∀b:Bool,b=true->(X++if b then txt (tC t) else[])=X++txt (tC t):=fun b e=>by rw[e,Sa rfl]
 have q1:=PJ t.2.1;have q2:=PJ t.2.2;unfold cv;generalize X++txt (tC t)=TX at e6 Ib;generalize X++[32]++t.1++[32]++dg t.2.1++[32]=X5 at e5 e6;generalize X++[32]++t.1++[32]++dg t.2.1=X4 at e4 e5;generalize X++[32]++t.1++[32]=X3 at e3 e4;generalize X++[32]++t.1=X2 at e2 e3;generalize X++[32]=X1 at e1 e2;generalize dg t.2.1=G1 at s1 e4;generalize dg t.2.2=G2 at s2 e6;by_cases h1:0<t.2.1
 ·have d1:decide (0<t.2.1)=true:=Sq h1;rw[Ib (kp t) (by unfold kp;rw[d1];rfl)];rw[d1]at q1;simp only[pv,seval,q1,e1,e2,e3,e4,e5,e6,s1,s2]
 ·have d1:decide (0<t.2.1)=false:=Sb h1;rw[d1]at q1;by_cases h2:0<t.2.2
  ·have d2:decide (0<t.2.2)=true:=Sq h2;rw[Ib (kp t) (by unfold kp;rw[d1,d2];rfl)];rw[d2]at q2;simp only[pv,seval,q1,q2,e1,e2,e3,e4,e5,e6,s1,s2,dW]
  ·have d2:decide (0<t.2.2)=false:=Sb h2;have hk:kp t=false:=by unfold kp;rw[d1,d2];rfl
   rw[d2]at q2;rw[hk,Sf R4,Sg];simp only[pv,seval,q1,q2,dW]
theorem xw(l:List Tr)(k:Nat)(hk:k<l.length):txt (((l.take (k+1)).filter kp).flatMap tC)=txt (((l.take k).filter kp).flatMap tC)++if kp l[k] then txt (tC l[k]) else[]:=by
 rw[SI hk,Vb,U2,d9];congr 1
 cases h:kp l[k] with
 |true=>rw[UB h];show txt (tC l[k]++[])=_;rw[Sg];rfl
 |false=>rw[UA (by rw[h];exact R4)];rfl
theorem C7{p:Pl}(h:Pok nY p)(hn:∀n∈nY,bw n=true)(Iw:nY.length<=5)(HE:nY.Nodup)(X:List Nat)(hX:X.length<=40000)(t6 t7 t8:Option R):∃u6 u7 u8,cw [some (.f,.lst (nY.map D.str)),some (.f,.lst (ps.map eP)),some (.f,.str X),some (.f,.int p.1),some (.f,.tup (p.2.1.map D.int)),some (.f,.tup (p.2.2.map D.int)),t6,t7,t8]=.ok (.nx [some (.f,.lst (nY.map D.str)),some (.f,.lst (ps.map eP)),some (.f,.str (X++txt (qC (GL nY p)))),some (.f,.int p.1),some (.f,.tup (p.2.1.map D.int)),some (.f,.tup (p.2.2.map D.int)),u6,u7,u8]):=by
 have hlen:=fu h;have hz:=p8 nY p.2.1 p.2.2;have Nv:=lY h hn;have l1:=h.l1;have l2:=h.l2;have hb:=h.b.len;have s0:=p6 h.b;have e1:=addSS (x:=X) (y:=[59,32]) (by show _+2<=_;lia);have e2:=addSS (x:=X++[59,32]) (y:=dg p.1) (by rw[cF];show _+2+_<=_;lia);obtain⟨env',hf,u6,u7,u8,rfl⟩:=for_list (a:=iQ 3 (aA (au 6) (aA (au 7) (aA (au 8) cV)))) (g:=cv) (e:=eT) (GZ nY p.2.1 p.2.2) (fun k env=>∃u6 u7 u8,env=[some (.f,.lst (nY.map D.str)),some (.f,.lst (ps.map eP)),some (.f,.str (X++[59,32]++dg p.1++txt ((((GZ nY p.2.1 p.2.2).take k).filter kp).flatMap tC))),some (.f,.int p.1),some (.f,.tup (p.2.1.map D.int)),some (.f,.tup (p.2.2.map D.int)),u6,u7,u8]) (by
  rintro k t env hx ⟨u6,u7,u8,rfl⟩;obtain⟨hk,ex⟩:=qQ hx;have g:=(Nv t (SG hx)).1;have MZ:=TN kp ((GZ nY p.2.1 p.2.2).take k);have O0:=lg (((GZ nY p.2.1 p.2.2).take k).filter kp) fun t ht=>(Nv t (Vv (Ue.mp ht).1)).1
  rw[SA]at MZ;have e3:=C6 (some (.f,.lst (nY.map D.str))) (some (.f,.lst (ps.map eP))) (some (.f,.int p.1)) (some (.f,.tup (p.2.1.map D.int))) (some (.f,.tup (p.2.2.map D.int))) g (X++[59,32]++dg p.1++txt ((((GZ nY p.2.1 p.2.2).take k).filter kp).flatMap tC)) (by
   rw[cF,cF,cF];show _+2+_+_<=_;lia)
  refine⟨[some (.f,.lst (nY.map D.str)),some (.f,.lst (ps.map eP)),some (.f,.str (X++[59,32]++dg p.1++txt ((((GZ nY p.2.1 p.2.2).take k).filter kp).flatMap tC))),some (.f,.int p.1),some (.f,.tup (p.2.1.map D.int)),some (.f,.tup (p.2.2.map D.int)),some (.f,.str t.1),some (.f,.int t.2.1),some (.f,.int t.2.2)],?_,_,e3,some (.f,.str t.1),some (.f,.int t.2.1),some (.f,.int t.2.2),?_⟩
  ·unfold eT;generalize X++[59,32]++dg p.1++txt ((((GZ nY p.2.1 p.2.2).take k).filter kp).flatMap tC)=LL;generalize p.2.1.map D.int=P1;generalize p.2.2.map D.int=P2;generalize ps.map eP=PP;simp only[pv,seval]
  ·rw[xw _ k hk,ex,R7]) [some (.f,.lst (nY.map D.str)),some (.f,.lst (ps.map eP)),some (.f,.str (X++[59,32]++dg p.1)),some (.f,.int p.1),some (.f,.tup (p.2.1.map D.int)),some (.f,.tup (p.2.2.map D.int)),t6,t7,t8] ⟨t6,t7,t8,by rw[Vg];show _=[_,_,some (O.f,D.str (X++[59,32]++dg p.1++[])),_,_,_,_,_,_];rw[Sg]⟩
 rw[Tj]at hf;have ex:X++[59,32]++dg p.1++txt (((GZ nY p.2.1 p.2.2).filter kp).flatMap tC)=X++txt (qC (GL nY p)):=by
  rw[vE];unfold qT GL;rw[qX];simp only[R7]
 rw[ex]at hf;refine⟨u6,u7,u8,?_⟩;have JR:=An (fs:=af (aj (aJ 0)) (af (aj (aJ 4)) (af (aj (aJ 5)) ar))) (env:=[some (.f,.lst (nY.map D.str)),some (.f,.lst (ps.map eP)),some (.f,.str (X++[59,32]++dg p.1)),some (.f,.int p.1),some (.f,.tup (p.2.1.map D.int)),some (.f,.tup (p.2.2.map D.int)),t6,t7,t8]) (env':=[some (.f,.lst (nY.map D.str)),some (.f,.lst (ps.map eP)),some (.f,.str (X++[59,32]++dg p.1)),some (.f,.int p.1),some (.f,.tup (p.2.1.map D.int)),some (.f,.tup (p.2.2.map D.int)),t6,t7,t8]) (a:=nY.map D.str) (b:=p.2.1.map D.int) (c:=p.2.2.map D.int) (by
  generalize X++[59,32]++dg p.1=LL;generalize p.2.1.map D.int=P1;generalize p.2.2.map D.int=P2;generalize ps.map eP=PP;simp only[pv,seval]) (by rw[bM,bM];lia) (by rw[bM,bM];lia)
 rw[hz]at JR;unfold cw;rw[aw (env':=[some (.f,.lst (nY.map D.str)),some (.f,.lst (ps.map eP)),some (.f,.str (X++[59,32]++dg p.1)),some (.f,.int p.1),some (.f,.tup (p.2.1.map D.int)),some (.f,.tup (p.2.2.map D.int)),t6,t7,t8]) (by
  generalize X++[59,32]++dg p.1=LL at e2 ⊢;generalize X++[59,32]=L1 at e1 e2;generalize dg p.1=DG at s0 e2;generalize p.2.1.map D.int=P1;generalize p.2.2.map D.int=P2;generalize ps.map eP=PP;simp only[pv,seval,s0,e1,e2])]
 unfold iL;generalize cv=BB at hf ⊢;generalize (af (aj (aJ 0)) (af (aj (aJ 4)) (af (aj (aJ 5)) ar)))=OO at JR ⊢;simp only[pv,seval,JR];exact hf
theorem C8(Je:∀p∈ps,Pok nY p)(hl:ps.length<=25)(hn:∀n∈nY,bw n=true)(Iw:nY.length<=5)(HE:nY.Nodup):cY [.lst (nY.map D.str),.lst (ps.map eP)]=.ok (.f,.str (txt (CN nY (ps.map (GL nY))))):=by
 have hj:=qV [32] (aG::nY) 8 (fun x hx=>(RV.mp hx).elim (fun e=>by rw[e];decide) fun h=>(c6 (hn x h)).1) (by rw[R6];show _+_*1<=_;lia);rw[vq,jK]at hj;have z1:1+(nY.map D.str).length<=sizeLine:=line_le (by rw[bM];lia);have hnc:=p5 nY hn;obtain⟨env',hf,u3,u4,u5,u6,u7,u8,rfl⟩:=for_list (a:=iQ 3 (aA (au 3) (aA (au 4) (aA (au 5) cV)))) (g:=cw) (e:=eP) ps (fun k env=>∃u3 u4 u5 u6 u7 u8,env=[some (.f,.lst (nY.map D.str)),some (.f,.lst (ps.map eP)),some (.f,.str (aG++txt (IQ nY)++txt (((ps.take k).map (GL nY)).flatMap qC))),u3,u4,u5,u6,u7,u8]) (by
  rintro k p env hx ⟨u3,u4,u5,u6,u7,u8,rfl⟩;obtain⟨hk,ex⟩:=qQ hx;have hp:=Je p (SG hx);have PH:=lh (nY:=nY) ((ps.take k).map (GL nY)) fun q hq=>by
   obtain⟨p',hp',rfl⟩:=su hq;exact nu (Je p' (Vv hp')) hn Iw HE
  rw[bM,SA]at PH;obtain⟨v6,v7,v8,e⟩:=C7 (ps:=ps) hp hn Iw HE (aG++txt (IQ nY)++txt (((ps.take k).map (GL nY)).flatMap qC)) (by
   rw[cF,cF];show 5+_+_<=_;lia) u6 u7 u8
  refine⟨[some (.f,.lst (nY.map D.str)),some (.f,.lst (ps.map eP)),some (.f,.str (aG++txt (IQ nY)++txt (((ps.take k).map (GL nY)).flatMap qC))),some (.f,.int p.1),some (.f,.tup (p.2.1.map D.int)),some (.f,.tup (p.2.2.map D.int)),u6,u7,u8],?_,_,e,some (.f,.int p.1),some (.f,.tup (p.2.1.map D.int)),some (.f,.tup (p.2.2.map D.int)),v6,v7,v8,?_⟩
  ·unfold eP;generalize aG++txt (IQ nY)++txt (((ps.take k).map (GL nY)).flatMap qC)=LL;generalize p.2.1.map D.int=P1;generalize p.2.2.map D.int=P2;simp only[pv,seval]
  ·rw[SI hk,ex,Sk,U2,d9,R7 (aG++txt (IQ nY))];show _=[_,_,some (O.f,D.str (_++(_++txt (qC (GL nY p)++[])))),_,_,_,_,_,_]
   rw[Sg]) [some (.f,.lst (nY.map D.str)),some (.f,.lst (ps.map eP)),some (.f,.str (aG++txt (IQ nY))),none,none,none,none,none,none] ⟨none,none,none,none,none,none,by rw[Vg];show _=[_,_,some (O.f,D.str (aG++txt (IQ nY)++[])),_,_,_,_,_,_];rw[Sg]⟩
 rw[Tj,<-vF]at hf;unfold cY kK;rw[aS (h:=by rfl)];rw[aw (env':=[some (.f,.lst (nY.map D.str)),some (.f,.lst (ps.map eP)),some (.f,.str (aG++txt (IQ nY))),none,none,none,none,none,none]) (by
  generalize aG++txt (IQ nY)=JJ at hj ⊢;generalize ps.map eP=PP;generalize nY.map D.str=NN at hj z1 ⊢;generalize Nu:aG=MW at hj;have Nu:([109,111,118,101,115]:List Nat)=MW:=Nu;simp only[pv,seval,op,Nu,z1,uT,hj])]
 rw[aw (env':=[some (.f,.lst (nY.map D.str)),some (.f,.lst (ps.map eP)),some (.f,.str (txt (CN nY (ps.map (GL nY))))),u3,u4,u5,u6,u7,u8]) (by
  unfold iM;generalize cw=BB at hf ⊢;generalize aG++txt (IQ nY)=JJ at hf ⊢;generalize txt (CN nY (ps.map (GL nY)))=TX at hf ⊢;generalize ps.map eP=PP at hf ⊢;simp only[pv,seval];exact hf)]
 unfold gX;simp only[pv,seval]
end
theorem powN(n:Nat)(h:n<=200):powD (.int 10) (.int (n:Int))=.ok (.f,.int (10 ^ n)):=by
 rw[ya,Sa (by lia),TC]
theorem EU(x y:Int)(h:c8 x=true\/c8 y=true):rM (.int x) (.int y)=.ok (.f,.int (x*y)):=by
 rw[pX,Sa];rcases h with h|h
 ·rw[h];rfl
 ·rw[h,WO]
def KG(x:Int)(k:Nat):Int:=x / (7*(k:Int)+1)*48271%10 ^ 61
def nb(x:Int)(k:Nat):Int:=if KG x k%4==0 then KG x k / 4%10 ^ 60 else if KG x k%2=0 then 0 else KG x k / 4%13
theorem Aq(x:Int)(k:Nat):Nm (nb x k):=by
 unfold nb Nm;generalize KG x k=y;split
 ·have h:=si (y / 4) (10 ^ 60) (by decide +kernel);exact h
 ·split
  ·exact⟨Int.le_refl _,by decide +kernel⟩
  ·have h:=si (y / 4) 13 (by decide);refine⟨h.1,Int.lt_trans h.2 (by decide +kernel)⟩
theorem pb(x:Int)(k:Nat)(hk:k<=100):aK [.int x,.int (k:Int)]=.ok (.f,.int (nb x k)):=by
 have e1:=EU 7 (k:Int) (.inl (by decide));have e2:=xq x (7*(k:Int)+1) (by lia) (by lia);have e3:=EU (x / (7*(k:Int)+1)) 48271 (.inr (by decide));have PK:=powN 61 (by decide);have PL:=powN 60 (by decide);have PK:powD (.int 10) (.int 61)=.ok (.f,.int (10 ^ 61)):=PK;have PL:powD (.int 10) (.int 60)=.ok (.f,.int (10 ^ 60)):=PL;have e4:=ng (x / (7*(k:Int)+1)*48271) (10 ^ 61) (by decide +kernel);have ez:x / (7*(k:Int)+1)*48271%10 ^ 61=KG x k:=rfl;rw[ez]at e4;have m4:=ng (KG x k) 4 (by decide);have m2:=ng (KG x k) 2 (by decide);have f4:=xq (KG x k) 4 (by decide) (by decide);have Q2:=ng (KG x k / 4) (10 ^ 60) (by decide +kernel);have O1:=ng (KG x k / 4) 13 (by decide);have b2:=si (KG x k) 2 (by decide);unfold aK iI nb;rw[aS (h:=by rfl)];generalize KG x k=y at e4 m4 m2 f4 Q2 O1 b2 ⊢;generalize x / (7*(k:Int)+1)*48271=y2 at e3 e4;generalize x / (7*(k:Int)+1)=y1 at e2 e3;generalize (10:Int) ^ 61=P61 at PK e4;generalize (10:Int) ^ 60=P60 at PL Q2 ⊢;generalize hK:7*(k:Int)=K7 at e1 e2;rw[aw (env':=[some (.f,.int y),some (.f,.int (k:Int))]) (by
  simp only[pv,↓reduceIte,Nat.reduceAdd,Nat.reduceLT,Nat.reduceLeDiff,Nat.reduceEqDiff,op,e1,e2,e3,PK,e4])]
 cases h4:y%4==0 with
 |true=>
  rw[Sa rfl,J9];simp only[pv,↓reduceIte,Nat.reduceAdd,Nat.reduceLT,Nat.reduceLeDiff,Nat.reduceEqDiff,op,m4,h4,f4,PL,Q2]
 |false=>
  rw[Sf R4];rw[aw (env':=[some (.f,.int y),some (.f,.int (k:Int))]) (by
   simp only[pv,↓reduceIte,Nat.reduceAdd,Nat.reduceLT,Nat.reduceLeDiff,Nat.reduceEqDiff,op,m4,h4,dW])]
  by_cases h2:y%2=0
  ·rw[Sa h2];rw[h2]at m2;generalize y / 4%13=z at O1;have a0:Hv [D.int 0,.int z] 0=some (.int 0):=OQ _ _;simp only[pv,↓reduceIte,Nat.reduceAdd,Nat.reduceLT,Nat.reduceLeDiff,Nat.reduceEqDiff,op,f4,O1,m2,a0]
  ·have h21:y%2=1:=by lia
   rw[Sf h2];rw[h21]at m2;generalize y / 4%13=z at O1 ⊢;have a1:Hv [D.int 0,.int z] 1=some (.int z):=QZ _ _ _;simp only[pv,↓reduceIte,Nat.reduceAdd,Nat.reduceLT,Nat.reduceLeDiff,Nat.reduceEqDiff,op,f4,O1,m2,a1]
def Kq(ns:List Int)(count k:Nat):Pl:=(nb (cell ns k%10 ^ 64) 1,(List.range count).map (fun j=>nb (cell ns (k+1)%10 ^ 64) j),(List.range count).map (fun j=>nb (cell ns (k+2)%10 ^ 64) j))
theorem pd(x y z:Int)(i:Nat)(v:Int)(hi:Hv [D.int x,.int y,.int z] (i:Int)=some (.int v))(count:Nat)(hc:count<=100):dh (au 0) il (cx aK (af (aj (aD Gq (aq 1) (aj (ay (.int (i:Int)))))) (af (aq 0) ar))) ((List.range count).map fun(k:Nat)=>D.int (k:Int)) [none,some (.f,.lst [.int x,.int y,.int z])]=.ok (((List.range count).map fun j=>nb v j).map D.int):=by
 rw[cZ (r:=fun j:Nat=>D.int (nb v j)) (fun env=>∃t,env=[t,some (.f,.lst [.int x,.int y,.int z])]) (List.range count) ?_ _ ⟨none,rfl⟩]
 ·rw[SE];rfl
 ·rintro j hj env ⟨t,rfl⟩;rw[Tf]at hj;have hp:=pb v j (by lia);refine⟨[some (.f,.int (j:Int)),some (.f,.lst [.int x,.int y,.int z])],rfl,.f,[some (.f,.int (j:Int)),some (.f,.lst [.int x,.int y,.int z])],?_,_,rfl⟩;generalize [D.int x,.int y,.int z]=LL at hi ⊢;generalize (i:Int)=II at hi ⊢;simp only[pv,seval,op,hi,hp,aO,cf]
theorem so(ns:List Int)(k:Nat):dh (au 0) il (aD gL (aj (cx ax (af (aq 1) (af (aj (aD addD (aq 2) (aq 0))) ar)))) (aj (aD powD (aj (ay (.int 10))) (aj (ay (.int 64)))))) ((List.range 3).map fun(k:Nat)=>D.int (k:Int)) [none,some (.f,.lst (ns.map D.int)),some (.f,.int (k:Int))]=.ok [.int (cell ns k%10 ^ 64),.int (cell ns (k+1)%10 ^ 64),.int (cell ns (k+2)%10 ^ 64)]:=by
 rw[cZ (r:=fun j:Nat=>D.int (cell ns (k+j)%10 ^ 64)) (fun env=>∃t,env=[t,some (.f,.lst (ns.map D.int)),some (.f,.int (k:Int))]) (List.range 3) ?_ _ ⟨none,rfl⟩]
 ·rfl
 ·rintro j hj env ⟨t,rfl⟩;have hp:=gs ns (k+j);rw[show((k+j:Nat):Int)=(k:Int)+(j:Int) by lia]at hp;have RJ:powD (.int 10) (.int 64)=.ok (.f,.int (10 ^ 64)):=powN 64 (by decide);have e4:=ng (cell ns (k+j)) (10 ^ 64) (by decide +kernel);refine⟨[some (.f,.int (j:Int)),some (.f,.lst (ns.map D.int)),some (.f,.int (k:Int))],rfl,.f,[some (.f,.int (j:Int)),some (.f,.lst (ns.map D.int)),some (.f,.int (k:Int))],?_,_,rfl⟩;generalize (10:Int) ^ 64=P at RJ e4 ⊢;generalize D.lst (ns.map D.int)=NS at hp ⊢;generalize cell ns (k+j)=CC at hp e4 ⊢;simp only[pv,↓reduceIte,Nat.reduceAdd,Nat.reduceLT,Nat.reduceLeDiff,Nat.reduceEqDiff,op,hp,RJ,e4,aO,cf]
theorem xx(ns:List Int)(count k:Nat)(hc:count<=100)(L:List D)(hL:L.length<1000)(t4 t5 t6:Option R):∃u4 u5 u6,bx [some (.f,.lst (ns.map D.int)),some (.f,.int (count:Int)),some (.l .f,.lst L),some (.f,.int (k:Int)),t4,t5,t6]=.ok (.nx [some (.f,.lst (ns.map D.int)),some (.f,.int (count:Int)),some (.l .f,.lst (L++[eP (Kq ns count k)])),some (.f,.int (k:Int)),u4,u5,u6]):=by
 have Mr:=so ns k;have h1:=pd (cell ns k%10 ^ 64) (cell ns (k+1)%10 ^ 64) (cell ns (k+2)%10 ^ 64) 1 _ (QZ _ _ _) count hc;have h2:=pd (cell ns k%10 ^ 64) (cell ns (k+1)%10 ^ 64) (cell ns (k+2)%10 ^ 64) 2 _ (at2 _ _ _) count hc;have h3:=pb (cell ns k%10 ^ 64) 1 (by decide);have NK:=ye 3 (by decide) (by decide) (aj (ay (.int 3))) [some (.f,.lst (ns.map D.int)),some (.f,.int (count:Int)),some (.l .f,.lst L),some (.f,.int (k:Int)),t4,t5,t6] [some (.f,.lst (ns.map D.int)),some (.f,.int (count:Int)),some (.l .f,.lst L),some (.f,.int (k:Int)),t4,t5,t6] (.val (.int 3)) rfl rfl;have O2:∀e:PV.Env,cm (aq 1) (some (.f,.lst (ns.map D.int))::some (.f,.int (count:Int))::e)=.ok ((List.range count).map fun(k:Nat)=>D.int (k:Int),some (.f,.lst (ns.map D.int))::some (.f,.int (count:Int))::e):=fun e=>by
  have:=ye (count:Int) (by lia) (by lia) (aq 1) (some (.f,.lst (ns.map D.int))::some (.f,.int (count:Int))::e) (some (.f,.lst (ns.map D.int))::some (.f,.int (count:Int))::e) (.var 1) rfl rfl;rw[TC]at this;exact this
 have NK:cm (aj (ay (.int 3))) [some (.f,.lst (ns.map D.int)),some (.f,.int (count:Int)),some (.l .f,.lst L),some (.f,.int (k:Int)),t4,t5,t6]=.ok ((List.range 3).map fun(k:Nat)=>D.int (k:Int),[some (.f,.lst (ns.map D.int)),some (.f,.int (count:Int)),some (.l .f,.lst L),some (.f,.int (k:Int)),t4,t5,t6]):=NK;have h1:dh (au 0) il (cx aK (af (aj (aD Gq (aq 1) (aj (ay (.int 1))))) (af (aq 0) ar))) ((List.range count).map fun(k:Nat)=>D.int (k:Int)) [none,some (.f,.lst [.int (cell ns k%10 ^ 64),.int (cell ns (k+1)%10 ^ 64),.int (cell ns (k+2)%10 ^ 64)])]=_:=h1;have h2:dh (au 0) il (cx aK (af (aj (aD Gq (aq 1) (aj (ay (.int 2))))) (af (aq 0) ar))) ((List.range count).map fun(k:Nat)=>D.int (k:Int)) [none,some (.f,.lst [.int (cell ns k%10 ^ 64),.int (cell ns (k+1)%10 ^ 64),.int (cell ns (k+2)%10 ^ 64)])]=_:=h2;have h3:aK [.int (cell ns k%10 ^ 64),.int 1]=_:=h3;have z3:([D.int (cell ns k%10 ^ 64),.int (cell ns (k+1)%10 ^ 64),.int (cell ns (k+2)%10 ^ 64)]:List D).length<=sizeLine:=line_le (by show 3<=_;decide);have f3:flatDs [D.int (cell ns k%10 ^ 64),.int (cell ns (k+1)%10 ^ 64),.int (cell ns (k+2)%10 ^ 64)]=true:=rfl;have a0:Hv [D.int (cell ns k%10 ^ 64),.int (cell ns (k+1)%10 ^ 64),.int (cell ns (k+2)%10 ^ 64)] 0=some (.int (cell ns k%10 ^ 64)):=OQ _ _;have f1:=PV.flat_ints ((List.range count).map fun j=>nb (cell ns (k+1)%10 ^ 64) j);have f2:=PV.flat_ints ((List.range count).map fun j=>nb (cell ns (k+2)%10 ^ 64) j);have z1:(((List.range count).map fun j=>nb (cell ns (k+1)%10 ^ 64) j).map D.int).length<=sizeLine:=line_le (by rw[bM,bM,Sh];lia);have z2:(((List.range count).map fun j=>nb (cell ns (k+2)%10 ^ 64) j).map D.int).length<=sizeLine:=line_le (by rw[bM,bM,Sh];lia);have hz:L.length<sizeLine:=m8 (by lia);unfold bx eP Kq;dsimp only;generalize ((List.range count).map fun j=>nb (cell ns (k+1)%10 ^ 64) j).map D.int=T1 at h1 f1 z1 ⊢;generalize ((List.range count).map fun j=>nb (cell ns (k+2)%10 ^ 64) j).map D.int=T2 at h2 f2 z2 ⊢;generalize nb (cell ns k%10 ^ 64) 1=N1 at h3 ⊢;generalize hCE:[D.int (cell ns k%10 ^ 64),.int (cell ns (k+1)%10 ^ 64),.int (cell ns (k+2)%10 ^ 64)]=CE at Mr h1 h2 z3 f3 a0;clear hCE;generalize cell ns k%10 ^ 64=X0 at h3 a0;generalize (cx aK (af (aj (aD Gq (aq 1) (aj (ay (.int 1))))) (af (aq 0) ar)))=F1 at h1 ⊢;generalize (cx aK (af (aj (aD Gq (aq 1) (aj (ay (.int 2))))) (af (aq 0) ar)))=F2 at h2 ⊢;generalize (aD gL (aj (cx ax (af (aq 1) (af (aj (aD addD (aq 2) (aq 0))) ar)))) (aj (aD powD (aj (ay (.int 10))) (aj (ay (.int 64))))))=F0 at Mr ⊢;generalize (List.range count).map (fun(k:Nat)=>D.int (k:Int))=RC at O2 h1 h2;generalize (List.range 3).map (fun(k:Nat)=>D.int (k:Int))=R3 at NK Mr;generalize cm (aj (ay (.int 3)))=I3 at NK ⊢;generalize cm (aq 1)=I1 at O2 ⊢;generalize ns.map D.int=NS at O2 NK Mr ⊢;refine⟨some (.l .f,.lst CE),some (.l .f,.lst T1),some (.l .f,.lst T2),?_⟩;rw[aw (env':=[some (.f,.lst NS),some (.f,.int (count:Int)),some (.l .f,.lst L),some (.f,.int (k:Int)),some (.l .f,.lst CE),t5,t6]) (by
  simp only[pv,↓reduceIte,Nat.reduceAdd,Nat.reduceLT,Nat.reduceLeDiff,Nat.reduceEqDiff,op,NK,Mr,z3,f3])]
 rw[aw (env':=[some (.f,.lst NS),some (.f,.int (count:Int)),some (.l .f,.lst L),some (.f,.int (k:Int)),some (.l .f,.lst CE),some (.l .f,.lst T1),t6]) (by
  simp only[pv,↓reduceIte,Nat.reduceAdd,Nat.reduceLT,Nat.reduceLeDiff,Nat.reduceEqDiff,op,O2,h1,z1,f1])]
 rw[aw (env':=[some (.f,.lst NS),some (.f,.int (count:Int)),some (.l .f,.lst L),some (.f,.int (k:Int)),some (.l .f,.lst CE),some (.l .f,.lst T1),some (.l .f,.lst T2)]) (by
  simp only[pv,↓reduceIte,Nat.reduceAdd,Nat.reduceLT,Nat.reduceLeDiff,Nat.reduceEqDiff,op,O2,h2,z2,f2])]
 simp only[pv,↓reduceIte,Nat.reduceAdd,Nat.reduceLT,Nat.reduceLeDiff,Nat.reduceEqDiff,op,a0,h3,f1,f2,hz,aO,cf]
theorem C9(ns:List Int){nY:Gf}{count:Nat}(h:nY.length=count)(k:Nat):Pok nY (Kq ns count k):=by
 refine⟨Aq _ _,?_,?_,fun x hx=>?_,fun x hx=>?_⟩
 ·show((List.range count).map _).length=_;rw[bM,Sh,h]
 ·show((List.range count).map _).length=_;rw[bM,Sh,h]
 ·obtain⟨j,_,e⟩:=su hx;rw[<-e];exact Aq _ _
 ·obtain⟨j,_,e⟩:=su hx;rw[<-e];exact Aq _ _
theorem xy(ns:List Int)(hl:ns.length<=63)(count:Nat)(hc:count<=5):∃ks:List Nat,ks.length<=19/\b8 [.lst (ns.map D.int),.int (count:Int)]=.ok (.l .f,.lst ((ks.map (Kq ns count)).map eP)):=by
 obtain⟨m,hm1,NI⟩:∃m:Nat,(if(62:Int)<(ns.length:Int) then(62:Int) else(ns.length:Int))=(m:Int)/\m<=62:=by
  split
  ·exact⟨62,rfl,R1 _⟩
  ·exact⟨ns.length,rfl,by lia⟩
 have JF:iC 5 (m:Int) 3:=by unfold iC;lia
 have hsz:(Builtin.Range.rangeSize 5 (m:Int) 3).toNat<=19:=by
  unfold Builtin.Range.rangeSize;rw[Sa (by decide)];split <;> lia
 generalize hn:(Builtin.Range.rangeSize 5 (m:Int) 3).toNat=n at hsz;have LP:iz [.lst (ns.map D.int)]=.ok (.f,.int (ns.length:Int)):=by
  show Res.ok (O.f,D.int (((ns.map D.int).length:Nat):Int))=_;rw[bM]
 have Nw:B1 [.int (ns.length:Int),.int 62]=.ok (.f,.int (m:Int)):=by rw[Cy,hm1]
 obtain⟨env',hf,u3,u4,u5,u6,rfl⟩:=for_list (a:=au 3) (g:=bx) (e:=fun(k:Nat)=>D.int (5+(k:Int)*3)) (List.range n) (fun k env=>∃u3 u4 u5 u6,env=[some (.f,.lst (ns.map D.int)),some (.f,.int (count:Int)),some (.l .f,.lst ((((List.range k).map fun j=>5+j*3).map (Kq ns count)).map eP)),u3,u4,u5,u6]) (by
  rintro k x env hx ⟨u3,u4,u5,u6,rfl⟩;obtain⟨hk,ex⟩:=qQ hx;rw[Sh]at hk;rw[TV]at ex;subst ex;obtain⟨v4,v5,v6,e⟩:=xx ns count (5+k*3) (by lia) ((((List.range k).map fun j=>5+j*3).map (Kq ns count)).map eP) (by rw[bM,bM,bM,Sh];lia) u4 u5 u6;rw[show((5+k*3:Nat):Int)=5+(k:Int)*3 by lia]at e;refine⟨[some (.f,.lst (ns.map D.int)),some (.f,.int (count:Int)),some (.l .f,.lst ((((List.range k).map fun j=>5+j*3).map (Kq ns count)).map eP)),some (.f,.int (5+(k:Int)*3)),u4,u5,u6],rfl,_,e,some (.f,.int (5+(k:Int)*3)),v4,v5,v6,?_⟩;rw[WE,Sk,Sk,Sk];rfl) _ ⟨none,none,none,none,rfl⟩
 rw[Sh]at hf;refine⟨(List.range n).map fun j=>5+j*3,by rw[bM,Sh];exact hsz,?_⟩;have Mz:flatDs ((((List.range n).map fun j=>5+j*3).map (Kq ns count)).map eP)=true:=iO o5;unfold b8 iJ;rw[aS (h:=by rfl)];rw[aw (env':=[some (.f,.lst (ns.map D.int)),some (.f,.int (count:Int)),some (.l .f,.lst []),none,none,none,none]) (by
  generalize ns.map D.int=NS;simp only[pv,seval,op])]
 rw[aw (env':=[some (.f,.lst (ns.map D.int)),some (.f,.int (count:Int)),some (.l .f,.lst ((((List.range n).map fun j=>5+j*3).map (Kq ns count)).map eP)),u3,u4,u5,u6]) (by
  unfold fZ;have hf:jl (au 3) bx ((List.range n).map fun(k:Nat)=>D.int (5+(k:Int)*3)) [some (.f,.lst (ns.map D.int)),some (.f,.int (count:Int)),some (.l .f,.lst []),none,none,none,none]=_:=hf;generalize bx=BB at hf ⊢;generalize (((List.range n).map fun j=>5+j*3).map (Kq ns count)).map eP=PP at hf ⊢;generalize ns.map D.int=NS at hf LP ⊢;generalize (ns.length:Int)=NL at LP Nw;rw[<-hn]at hf;generalize (m:Int)=MM at Nw JF hf;simp only[pv,seval,op,LP,Nw,JF];exact hf)]
 unfold fC;generalize (((List.range n).map fun j=>5+j*3).map (Kq ns count)).map eP=PP at Mz ⊢;simp only[pv,seval,op,Mz]
def kd0(w:List Nat):Nat:=kd (w.headD 0)
def sr(b p k:Nat):List (List Nat×Nat):=if b=0 then(if p=k/\k<2 then[([32],2)] else[]) else if b=1 then[([32],2)] else[([32,32],2)]
def jr(b:Nat):Nat->Gf->List (List Nat×Nat)
 |_,[]=>[]
 |p,w::ws=>sr b p (kd0 w)++(w,kd0 w)::jr b (kd0 w) ws
def jL:Nat->Gf->Nat
 |p,[]=>p
 |_,w::ws=>jL (kd0 w) ws
structure Wd(w:List Nat):Prop where
 c:Chk w (kd0 w)
 b:kd0 w≠2
 l:w.length<=60
theorem Chk.kd0{w:List Nat}{k:Nat}(h:Chk w k):LW.kd0 w=k:=by
 cases w with
 |nil=>exact absurd rfl h.ne
 |cons x r=>exact h.all x RQ
theorem Wd.of{w:List Nat}{k:Nat}(h:Chk w k)(hk:k≠2)(hl:w.length<=60):Wd w:=⟨by rw[h.kd0];exact h,by rw[h.kd0];exact hk,hl⟩
theorem Dc(b:Nat):∀(ws:Gf) (p:Nat),(∀w∈ws,Wd w)->Chs (jr b p ws)/\(p<3->p≠2->p≠hd (jr b p ws))
 |[],p,_=>⟨.nil,fun h _=>by show p≠9;lia⟩
 |w::ws,p,h=>by
  obtain⟨hc,h2,_⟩:=h w RQ;obtain⟨C,hh⟩:=Dc b ws (kd0 w) fun x hx=>h x (RZ _ hx)
  have hk4:=hc.k4;have B:Chs ((w,kd0 w)::jr b (kd0 w) ws):=.mk hc C (by
   by_cases h3:kd0 w=3
   ·exact .inl h3
   ·exact .inr (hh (by lia) h2))
  rw[jr];unfold sr;by_cases hb:b=0
  ·rw[Sa hb];by_cases hpk:p=kd0 w/\kd0 w<2
   ·rw[Sa hpk];exact⟨.mk p4 B (.inr (by show 2≠kd0 w;lia)),fun _ _=>by show p≠2;lia⟩
   ·rw[Sf hpk];refine⟨B,fun _ _=>?_⟩;show p≠kd0 w;intro e;lia
  ·rw[Sf hb];by_cases OT:b=1
   ·rw[Sa OT];exact⟨.mk p4 B (.inr (by show 2≠kd0 w;lia)),fun _ _=>by show p≠2;lia⟩
   ·rw[Sf OT];exact⟨.mk CK B (.inr (by show 2≠kd0 w;lia)),fun _ _=>by show p≠2;lia⟩
theorem Ar(b p k:Nat):Ia (sr b p k)=[]:=by
 unfold sr;split
 ·split <;> rfl
 ·split <;> rfl
theorem yp(b:Nat):∀(ws:Gf) (p:Nat),(∀w∈ws,Wd w)->Ia (jr b p ws)=ws
 |[],p,_=>rfl
 |w::ws,p,h=>by
  rw[jr,ni,Ar,VI,dX,Sf (h w RQ).b,yp b ws _ fun x hx=>h x (RZ _ hx)]
theorem vJ(b p k:Nat):(txt (sr b p k)).length<=2:=by
 unfold sr;split
 ·split <;> decide
 ·split <;> decide
theorem vK(b:Nat):∀(ws:Gf) (p:Nat),(∀w∈ws,Wd w)->(txt (jr b p ws)).length<=62*ws.length
 |[],p,_=>R1 _
 |w::ws,p,h=>by
  have h1:=vK b ws (kd0 w) fun x hx=>h x (RZ _ hx)
  have h2:=(h w RQ).l;have h3:=vJ b p (kd0 w);rw[jr,d9,bU,cF,cF];show _<=62*(ws.length+1);lia
theorem vL(b:Nat)(w:List Nat):∀(ws:Gf) (p:Nat),jr b p (ws++[w])=jr b p ws++(sr b (jL p ws) (kd0 w)++[(w,kd0 w)])
 |[],p=>rfl
 |x::ws,p=>by
  rw[T5,jr,vL b w ws,jr,jL,R7];rfl
theorem lZ(w:List Nat):∀(ws:Gf) (p:Nat),jL p (ws++[w])=kd0 w
 |[],p=>rfl
 |x::ws,p=>by rw[T5,jL,lZ w ws]
theorem yq(c:Nat):KP (.str [c]) (.str HS)=.ok (.f,.bl (decide (kd c=0))):=by
 have h1:KP (.str [c]) (.str HS)=.ok (.f,.bl (decide (c∈HS))):=rfl;rw[h1];have h2:c∈HS<->kd c=0:=by
  unfold kd;constructor
  ·intro h;have:∀x∈HS,dH x=true:=by decide
   rw[Sa (this c h)]
  ·intro h;by_cases hl:dH c=true
   ·unfold dH at hl;rw[Si,R8,R8]at hl;obtain⟨j,rfl⟩:∃j,c=97+j:=⟨c-97,by lia⟩
    exact SG (yb j (by lia))
   ·rw[Sf hl]at h;split at h
    ·cases h
    ·split at h
     ·cases h
     ·split at h <;> cases h
 congr 3
 rw[SH,R8,R8];exact h2
theorem vM{w:List Nat}(h:w≠[]):Gq (.str w) (.int 0)=.ok (.f,.str [w.headD 0]):=by
 cases w with
 |nil=>exact absurd rfl h
 |cons x r=>exact je (i:=0) rfl
theorem As(b:Nat)(h:b<3):jG ([32,32]:List Nat) none (some (b:Int))=List.replicate b 32:=by
 have:b=0\/b=1\/b=2:=by lia
 rcases this with rfl|rfl|rfl <;> rfl
theorem Au(b p k:Nat)(h:b<3):txt (sr b p k)=if b=0/\p=k/\k<2 then[32] else List.replicate b 32:=by
 have:b=0\/b=1\/b=2:=by lia
 unfold sr;rcases this with rfl|rfl|rfl
 ·rw[Sa rfl];by_cases h2:p=k/\k<2
  ·rw[Sa h2,Sa ⟨rfl,h2⟩];rfl
  ·rw[Sf h2,Sf fun z=>h2 z.2];rfl
 ·rw[Sf (by decide),Sa rfl,Sf (by lia)];rfl
 ·rw[Sf (by decide),Sf (by decide),Sf (by lia)];rfl
theorem yr{w:List Nat}(h:Wd w):IT (.str w) (.str [59])=.ok (.f,.bl (!decide (kd0 w=3))):=by
 have e:(w==[59])=decide (kd0 w=3):=by
  rw[SH,SR,R8];constructor
  ·intro e;rw[e];rfl
  ·intro e;have h1:=h.c.one e;obtain⟨c,rfl⟩:=List.length_eq_one_iff.mp h1;have:kd c=3:=e;unfold kd at this;split at this
   ·lia
   ·split at this
    ·lia
    ·split at this
     ·lia
     ·split at this
      ·rename_i hc;rw[hc]
      ·lia
 simp only[op,e]
theorem De(p q:Bool):HR (.bl p) (.bl q)=.ok (.f,.bl (p==q)):=by simp only[HR,plainD,Ga,Uz,UK]
theorem xA(row pre post:Gf)(w:List Nat)(JI:row=pre++w::post)(hW:∀w∈row,Wd w)(hl:row.length<=1000)(b:Nat)(hb:b<3)(t5:Option R):
  ∃u5,cy [some (.f,.lst (row.map D.str)),some (.f,.int (b:Int)),some (.f,.str HS),some (.f,.str (txt (jr b 9 pre))),some (.f,.int (pre.length:Int)),t5]=.ok (.nx [some (.f,.lst (row.map D.str)),some (.f,.int (b:Int)),some (.f,.str HS),some (.f,.str (txt (jr b 9 (pre++[w])))),some (.f,.int (pre.length:Int)),u5]):=by
 have hw:w∈row:=by rw[JI];exact RX _ RQ
 have HU:Gq (.lst (row.map D.str)) (.int (pre.length:Int))=.ok (.f,.str w):=by
  have:Hv (row.map D.str) (pre.length:Int)=some (.str w):=dZ (by
   rw[Sm,JI,S6 (R1 _),WQ];rfl)
  simp only[pv,seval,op,this]
 have O3:=hW w hw;have RK:=vM O3.c.ne;have O4:=yq (w.headD 0);have Jl:=yr O3;have Ml:=As b hb;have Ha:pre.length<=1000:=by
  rw[JI,cF]at hl;lia
 have O0:=vK b pre 9 (fun x hx=>hW x (by rw[JI];exact R9 _ hx));have Pg:=O3.l;have JD:=Au b (jL 9 pre) (kd0 w) hb;have hgl:=vJ b (jL 9 pre) (kd0 w);have htx:txt (jr b 9 (pre++[w]))=txt (jr b 9 pre)++txt (sr b (jL 9 pre) (kd0 w))++w:=by
  rw[vL,d9,d9,bU,R7];show _++(_++(w++[]))=_;rw[Sg]
 rw[htx];have z1:(txt (jr b 9 pre)).length+(txt (sr b (jL 9 pre) (kd0 w))).length<=sizeLine:=line_le (by lia);have z2:(txt (jr b 9 pre)++txt (sr b (jL 9 pre) (kd0 w))).length+w.length<=sizeLine:=line_le (by rw[cF];lia);generalize txt (sr b (jL 9 pre) (kd0 w))=G at JD z1 z2 ⊢;generalize txt (jr b 9 pre)=X at z1 z2 ⊢;refine⟨some (.f,.str G),?_⟩;unfold cy;rw[aw (env':=[some (.f,.lst (row.map D.str)),some (.f,.int (b:Int)),some (.f,.str HS),some (.f,.str X),some (.f,.int (pre.length:Int)),some (.f,.str (List.replicate b 32))]) (by
  generalize row.map D.str=RW at HU ⊢;simp only[pv,seval,op,Ml])]
 rw[aw (env':=[some (.f,.lst (row.map D.str)),some (.f,.int (b:Int)),some (.f,.str HS),some (.f,.str X),some (.f,.int (pre.length:Int)),some (.f,.str G)]) (by
  rcases List.eq_nil_or_concat pre with hp|⟨pre',v,hp⟩
  ·have hg:G=List.replicate b 32:=by
    rw[JD,Sf];rw[hp];rintro⟨_,h,h2⟩;have h:9=kd0 w:=h;lia
   have h0:decide (0<(pre.length:Int))=false:=by rw[hp];rfl
   rw[hg];generalize row.map D.str=RW at HU ⊢;simp only[pv,seval,op,h0,dW]
  ·have hp:pre=pre'++[v]:=hp.trans (List.concat_eq_append ..);have h0:decide (0<(pre.length:Int))=true:=Sq (by rw[hp,cF,S5];lia);have hlk:jL 9 pre=kd0 v:=by rw[hp,lZ]
   rw[hlk]at JD;have hv:v∈row:=by rw[JI,hp];exact R9 _ (RX _ RQ)
   have Mm:Gq (.lst (row.map D.str)) (.int ((pre.length:Int)-1))=.ok (.f,.str v):=by
    have e:(pre.length:Int)-1=(pre'.length:Int):=by rw[hp,cF,S5];lia
    have:Hv (row.map D.str) (pre'.length:Int)=some (.str v):=dZ (by
     rw[Sm,JI,hp,R7,S6 (R1 _),WQ];rfl)
    rw[e];simp only[pv,seval,op,this]
   have PM:=hW v hv;have RL:=vM PM.c.ne;have NO:=yq (v.headD 0);have O5:=yr PM;have hW2:=O3.b;have hV2:=PM.b;have hW4:=O3.c.k4;have hV4:=PM.c.k4;generalize row.map D.str=RW at HU Mm ⊢;by_cases b0:b=0
   ·have NP:(((b:Nat):Int)==0)=true:=by rw[b0];rfl
    by_cases k3:kd0 w=3
    ·have Q3:decide (kd0 w=3)=true:=Sq k3;rw[Q3]at Jl;rw[Sf (by lia)]at JD;rw[JD];simp only[pv,seval,op,h0,NP,HU,Jl,SJ,dW]
    ·have Q3:decide (kd0 w=3)=false:=Sb k3;rw[Q3]at Jl;by_cases v3:kd0 v=3
     ·have Q4:decide (kd0 v=3)=true:=Sq v3;rw[Q4]at O5;rw[Sf (by lia)]at JD;rw[JD];simp only[pv,seval,op,h0,NP,HU,Mm,Jl,O5,SJ,Tt,dW]
     ·have Q4:decide (kd0 v=3)=false:=Sb v3;rw[Q4]at O5;have hk:decide (kd (w.headD 0)=0)=decide (kd0 w=0):=rfl;have hk':decide (kd (v.headD 0)=0)=decide (kd0 v=0):=rfl;rw[hk]at O4;rw[hk']at NO;by_cases e:kd0 v=kd0 w
      ·rw[Sa ⟨b0,e,by lia⟩]at JD;rw[JD];rw[e]at NO;have Lr:=De (decide (kd0 w=0)) (decide (kd0 w=0));rw[SQ]at Lr;generalize decide (kd0 w=0)=BW at O4 NO Lr;simp only[pv,seval,op,h0,NP,HU,Mm,Jl,O5,RK,O4,RL,NO,Lr,Tt]
      ·rw[Sf fun z=>e z.2.1]at JD;rw[JD];have Lr:=De (decide (kd0 w=0)) (decide (kd0 v=0));have Kj:(decide (kd0 w=0)==decide (kd0 v=0))=false:=by
        by_cases w0:kd0 w=0
        ·rw[Sq w0,Sb (by lia)];rfl
        ·rw[Sb w0,Sq (by lia)];rfl
       rw[Kj]at Lr;generalize decide (kd0 w=0)=BW at O4 Lr;generalize decide (kd0 v=0)=BV at NO Lr;simp only[pv,seval,op,h0,NP,HU,Mm,Jl,O5,RK,O4,RL,NO,Lr,Tt,dW]
   ·have NP:(((b:Nat):Int)==0)=false:=Tn.mpr (by lia);rw[Sf fun z=>b0 z.1]at JD;rw[JD];simp only[pv,seval,op,h0,NP,dW])]
 generalize row.map D.str=RW at HU ⊢;simp only[pv,seval,op,HU,o_addS,z1,z2]
theorem xB(row:Gf)(hW:∀w∈row,Wd w)(hl:row.length<=1000)(b:Nat)(hb:b<3):b9 [.lst (row.map D.str),.int (b:Int)]=.ok (.f,.str (txt (jr b 9 row))):=by
 obtain⟨env',ef,t4,t5,rfl⟩:=m7 (a:=au 4) (g:=cy) (fun i env=>∃t4 t5,env=[some (.f,.lst (row.map D.str)),some (.f,.int (b:Int)),some (.f,.str HS),some (.f,.str (txt (jr b 9 (row.take i)))),t4,t5]) ((List.range row.length).map fun(k:Nat)=>D.int (k:Int)) (by
  rintro i d env hi ⟨t4,t5,rfl⟩;rw[Sm,Sy]at hi;obtain⟨k,hk,rfl⟩:=hi;obtain⟨LH,Kl⟩:=qQ hk;rw[Sh]at LH;rw[TV]at Kl;subst Kl;have JI:row=row.take i++row[i]::row.drop (i+1):=by rw[<-UW LH,WR]
  obtain⟨u5,e⟩:=xA row (row.take i) (row.drop (i+1)) row[i] JI hW hl b hb t5;have hti:(row.take i).length=i:=by rw[SA];lia
  rw[hti]at e;refine⟨_,rfl,_,.inl e,some (.f,.int (i:Int)),u5,?_⟩;rw[List.take_succ,CB LH];rfl) _ ⟨none,none,rfl⟩
 rw[bM,Sh,Tj]at ef;have hr:∀(a1 a2 a3 a4 a5:Option R),cm (aj (aZ iz (af (aq 0) ar))) [some (.f,.lst (row.map D.str)),a1,a2,a3,a4,a5]=.ok ((List.range row.length).map (fun(k:Nat)=>D.int (k:Int)),[some (.f,.lst (row.map D.str)),a1,a2,a3,a4,a5]):=fun a1 a2 a3 a4 a5=>by
  have hc:(0:Int)<=(row.length:Int)/\(row.length:Int)<=1000:=by lia
  rw[H0];have MA:(row.map D.str).length=row.length:=bM _;generalize row.map D.str=RW at MA ⊢;simp only[pv,seval,op,MA];rw[Sa (by lia)];rfl
 unfold b9 iN;rw[aS (h:=by rfl)];have hL:([97,98,99,100,101,102,103,104,105,106,107,108,109,110,111,112,113,114,115,116,117,118,119,120,121,122]:List Nat)=HS:=rfl;rw[hL];rw[aw (env':=[some (.f,.lst (row.map D.str)),some (.f,.int (b:Int)),some (.f,.str HS),none,none,none]) (by simp only[pv,seval,op])];rw[aw (env':=[some (.f,.lst (row.map D.str)),some (.f,.int (b:Int)),some (.f,.str HS),some (.f,.str (txt (jr b 9 (row.take 0)))),none,none]) (by simp only[pv,seval,op] <;> rfl)];rw[aw (env':=[some (.f,.lst (row.map D.str)),some (.f,.int (b:Int)),some (.f,.str HS),some (.f,.str (txt (jr b 9 row))),t4,t5]) (by
  unfold f7;rw[Lm,hr,Hq];exact ef)]
 unfold fD;simp only[pv,seval] <;> rfl
def kq(cel:Int)(t:Tr):Bool:=kp t||(cel%3==1)
def GK(ns:Gf)(qs:List Qt):Gf:=(aG::ns)++(qs.map qW).flatMap fun q=>Hj::q
theorem vN{x y:List D}(h:x.length+y.length<=100000):addD (.lst x) (.lst y)=.ok (.l .f,.lst (x++y)):=by rw[uT,Sa (line_le (by lia))]
theorem Eu(a0 a1 a4 a5 a6:Option R)(cel:Int){t:Tr}(g:Tg t)(X:Gf)(hX:X.length<=50000):cO [a0,a1,some (.f,.int cel),some (.l .f,.lst (X.map D.str)),a4,a5,a6,some (.f,.str t.1),some (.f,.int t.2.1),some (.f,.int t.2.2)]=.ok (.nx [a0,a1,some (.f,.int cel),some (.l .f,.lst ((X++if kq cel t then tW t else[]).map D.str)),a4,a5,a6,some (.f,.str t.1),some (.f,.int t.2.1),some (.f,.int t.2.2)]):=by
 have s1:=p6 g.tk;have s2:=p6 g.gv;have e1:addD (.lst (X.map D.str)) (.lst [.str t.1,.str (dg t.2.1),.str (dg t.2.2)])=.ok (.l .f,.lst (X.map D.str++[.str t.1,.str (dg t.2.1),.str (dg t.2.2)])):=vN (by rw[bM];show _+3<=_;lia);have Ib:∀b:Bool,b=true->(X++if b then tW t else[]).map D.str=X.map D.str++[.str t.1,.str (dg t.2.1),.str (dg t.2.2)]:=fun b e=>by rw[e,Sa rfl,Sk];rfl
 have q1:=PJ t.2.1;have q2:=PJ t.2.2;have m3:=ng cel 3 (by decide);unfold cO;generalize X.map D.str++[.str t.1,.str (dg t.2.1),.str (dg t.2.2)]=TX at e1 Ib;generalize dg t.2.1=G1 at s1 e1;generalize dg t.2.2=G2 at s2 e1;by_cases h1:0<t.2.1
 ·have d1:decide (0<t.2.1)=true:=Sq h1;rw[Ib (kq cel t) (by unfold kq kp;rw[d1];rfl)];rw[d1]at q1;generalize X.map D.str=LX at e1 ⊢;simp only[pv,seval,q1,e1,s1,s2]
 ·have d1:decide (0<t.2.1)=false:=Sb h1;rw[d1]at q1;by_cases h2:0<t.2.2
  ·have d2:decide (0<t.2.2)=true:=Sq h2;rw[Ib (kq cel t) (by unfold kq kp;rw[d1,d2];rfl)];rw[d2]at q2;generalize X.map D.str=LX at e1 ⊢;simp only[pv,seval,q1,q2,e1,s1,s2,dW]
  ·have d2:decide (0<t.2.2)=false:=Sb h2;rw[d2]at q2;cases hc:cel%3==1 with
   |true=>
    rw[Ib (kq cel t) (by unfold kq kp;rw[d1,d2,hc];rfl)];generalize X.map D.str=LX at e1 ⊢;simp only[pv,seval,op,q1,q2,e1,s1,s2,m3,hc,dW]
   |false=>
    have hk:kq cel t=false:=by unfold kq kp;rw[d1,d2,hc];rfl
    rw[hk,Sf R4,Sg];generalize X.map D.str=LX;simp only[pv,seval,op,q1,q2,m3,hc,dW]
theorem Ew(fs:FOs)(env env':PV.Env){a b c:List D}(h:fs env=.ok ([.val (.lst a),.val (.tup b),.val (.tup c)],env'))(hb:a.length=b.length)(hc:a.length=c.length)(hl:a.length<=1000):eZL1 true fs env=.ok ((.l .f,.lst (oI a b c)),env'):=by
 unfold eZL1;rw[h];show(if a.length=b.length/\a.length=c.length/\a.length<=sizeLine then Res.ok ((O.l .f,D.lst (oI a b c)),env') else .bad)=_;rw[Sa ⟨hb,hc,line_le (by lia)⟩]
theorem xC(cel:Int)(l:List Tr)(k:Nat)(hk:k<l.length):((l.take (k+1)).filter (kq cel)).flatMap tW=((l.take k).filter (kq cel)).flatMap tW++if kq cel l[k] then tW l[k] else[]:=by
 rw[SI hk,Vb,U2];congr 1
 cases h:kq cel l[k] with
 |true=>rw[UB h];show tW l[k]++[]=_;rw[Sg];rfl
 |false=>rw[UA (by rw[h];exact R4)];rfl
section
variable{nY:Gf}{ps:List Pl}{cel:Int}
theorem Dh(ts:List Tr):(ts.flatMap tW).length=3*ts.length:=by
 have:=vz 0 ts;unfold pW at this;rw[R6]at this;lia
theorem Ex{p:Pl}(h:Pok nY p)(hn:∀n∈nY,bw n=true)(Iw:nY.length<=5)(HE:nY.Nodup)(X:Gf)(hX:X.length<=40000)(t7 t8 t9:Option R):∃ts,Cov nY p ts/\ts.length<=nY.length/\∃u7 u8 u9,cP [some (.f,.lst (nY.map D.str)),some (.f,.lst (ps.map eP)),some (.f,.int cel),some (.l .f,.lst (X.map D.str)),some (.f,.int p.1),some (.f,.tup (p.2.1.map D.int)),some (.f,.tup (p.2.2.map D.int)),t7,t8,t9]=.ok (.nx [some (.f,.lst (nY.map D.str)),some (.f,.lst (ps.map eP)),some (.f,.int cel),some (.l .f,.lst ((X++Hj::qW (p.1,ts)).map D.str)),some (.f,.int p.1),some (.f,.tup (p.2.1.map D.int)),some (.f,.tup (p.2.2.map D.int)),u7,u8,u9]):=by
 have hlen:=fu h;have hz:=p8 nY p.2.1 p.2.2;have Nv:=lY h hn;have l1:=h.l1;have l2:=h.l2;have s0:=p6 h.b;have hnm:=o8 h;obtain⟨tr,hp,ea⟩:=vy eT (GZ nY p.2.1 p.2.2) (by lia) (cel+p.1%1000);have Ha:=hp.length_eq;have htr:∀t∈tr,Tg t:=fun t ht=>(Nv t (hp.mem_iff.mp ht)).1
 have Mz:=TN (kq cel) tr;refine⟨tr.filter (kq cel),⟨?_,fun t ht=>hp.mem_iff.mp (Ue.mp ht).1,fun t ht hk=>Ue.mpr ⟨hp.mem_iff.mpr ht,by unfold kq;rw[hk];rfl⟩⟩,by lia,?_⟩
 ·refine Xj (List.Sublist.map _ W2) ?_;rw[(hp.map (·.1)).nodup_iff,hnm];exact HE
 have e1:addD (.lst (X.map D.str)) (.lst [.str [59],.str (dg p.1)])=.ok (.l .f,.lst ((X++[Hj,dg p.1]).map D.str)):=by
  rw[vN (by rw[bM];show _+2<=_;lia),Sk];rfl
 obtain⟨env',hf,u7,u8,u9,rfl⟩:=for_list (a:=iQ 3 (aA (au 7) (aA (au 8) (aA (au 9) cV)))) (g:=cO) (e:=eT) tr (fun k env=>∃u7 u8 u9,env=[some (.f,.lst (nY.map D.str)),some (.f,.lst (ps.map eP)),some (.f,.int cel),some (.l .f,.lst ((X++[Hj,dg p.1]++((tr.take k).filter (kq cel)).flatMap tW).map D.str)),some (.f,.int p.1),some (.f,.tup (p.2.1.map D.int)),some (.f,.tup (p.2.2.map D.int)),u7,u8,u9]) (by
  rintro k t env hx ⟨u7,u8,u9,rfl⟩;obtain⟨hk,ex⟩:=qQ hx;have g:=htr t (SG hx);have MZ:=TN (kq cel) (tr.take k);rw[SA]at MZ;have e3:=Eu (some (.f,.lst (nY.map D.str))) (some (.f,.lst (ps.map eP))) (some (.f,.int p.1)) (some (.f,.tup (p.2.1.map D.int))) (some (.f,.tup (p.2.2.map D.int))) cel g (X++[Hj,dg p.1]++((tr.take k).filter (kq cel)).flatMap tW) (by
   rw[cF,cF,Dh];show _+2+_<=_;lia)
  refine⟨[some (.f,.lst (nY.map D.str)),some (.f,.lst (ps.map eP)),some (.f,.int cel),some (.l .f,.lst ((X++[Hj,dg p.1]++((tr.take k).filter (kq cel)).flatMap tW).map D.str)),some (.f,.int p.1),some (.f,.tup (p.2.1.map D.int)),some (.f,.tup (p.2.2.map D.int)),some (.f,.str t.1),some (.f,.int t.2.1),some (.f,.int t.2.2)],?_,_,e3,some (.f,.str t.1),some (.f,.int t.2.1),some (.f,.int t.2.2),?_⟩
  ·unfold eT;generalize (X++[Hj,dg p.1]++((tr.take k).filter (kq cel)).flatMap tW).map D.str=LL;generalize p.2.1.map D.int=P1;generalize p.2.2.map D.int=P2;generalize ps.map eP=PP;simp only[pv,seval]
  ·rw[xC _ _ k hk,ex,R7]) [some (.f,.lst (nY.map D.str)),some (.f,.lst (ps.map eP)),some (.f,.int cel),some (.l .f,.lst ((X++[Hj,dg p.1]).map D.str)),some (.f,.int p.1),some (.f,.tup (p.2.1.map D.int)),some (.f,.tup (p.2.2.map D.int)),t7,t8,t9] ⟨t7,t8,t9,by rw[Vg];show _=[_,_,_,some (O.l .f,D.lst ((X++[Hj,dg p.1]++[]).map D.str)),_,_,_,_,_,_];rw[Sg]⟩
 rw[Tj]at hf;have ex:X++[Hj,dg p.1]++(tr.filter (kq cel)).flatMap tW=X++Hj::qW (p.1,tr.filter (kq cel)):=by
  rw[R7];rfl
 rw[ex]at hf;refine⟨u7,u8,u9,?_⟩;have JR:=Ew (af (aj (aJ 0)) (af (aj (aJ 5)) (af (aj (aJ 6)) ar))) [some (.f,.lst (nY.map D.str)),some (.f,.lst (ps.map eP)),some (.f,.int cel),some (.l .f,.lst ((X++[Hj,dg p.1]).map D.str)),some (.f,.int p.1),some (.f,.tup (p.2.1.map D.int)),some (.f,.tup (p.2.2.map D.int)),t7,t8,t9] [some (.f,.lst (nY.map D.str)),some (.f,.lst (ps.map eP)),some (.f,.int cel),some (.l .f,.lst ((X++[Hj,dg p.1]).map D.str)),some (.f,.int p.1),some (.f,.tup (p.2.1.map D.int)),some (.f,.tup (p.2.2.map D.int)),t7,t8,t9] (a:=nY.map D.str) (b:=p.2.1.map D.int) (c:=p.2.2.map D.int) (by
  generalize (X++[Hj,dg p.1]).map D.str=LL;generalize p.2.1.map D.int=P1;generalize p.2.2.map D.int=P2;generalize ps.map eP=PP;simp only[pv,seval]) (by rw[bM,bM];lia) (by rw[bM,bM];lia) (by rw[bM];lia)
 rw[hz]at JR;have RM:flatDs (tr.map eT)=true:=iO CT;have m1:=ng p.1 1000 (by decide);unfold cP;rw[aw (env':=[some (.f,.lst (nY.map D.str)),some (.f,.lst (ps.map eP)),some (.f,.int cel),some (.l .f,.lst ((X++[Hj,dg p.1]).map D.str)),some (.f,.int p.1),some (.f,.tup (p.2.1.map D.int)),some (.f,.tup (p.2.2.map D.int)),t7,t8,t9]) (by
  generalize (X++[Hj,dg p.1]).map D.str=LL at e1 ⊢;generalize dg p.1=DG at s0 e1;generalize X.map D.str=LX at e1 ⊢;generalize p.2.1.map D.int=P1;generalize p.2.2.map D.int=P2;generalize ps.map eP=PP;simp only[pv,seval,s0,e1])]
 unfold jA;generalize cO=BB at hf ⊢;generalize (af (aj (aJ 0)) (af (aj (aJ 5)) (af (aj (aJ 6)) ar)))=OO at JR ⊢;generalize (X++[Hj,dg p.1]).map D.str=LL at JR hf ⊢;generalize (X++Hj::qW (p.1,tr.filter (kq cel))).map D.str=LL2 at hf ⊢;generalize p.2.1.map D.int=P1 at JR hf ⊢;generalize p.2.2.map D.int=P2 at JR hf ⊢;generalize ps.map eP=PP at JR hf ⊢;generalize (GZ nY _ _).map eT=T3 at ea JR;generalize tr.map eT=TT at ea hf RM;simp only[pv,seval,op,JR,m1,ea,dm,RM];exact hf
theorem Ey(Je:∀p∈ps,Pok nY p)(hl:ps.length<=25)(hn:∀n∈nY,bw n=true)(Iw:nY.length<=5)(HE:nY.Nodup):∃(GQ:Gf) (qs:List Qt),GQ.Perm nY/\qs.map (p7 nY)=ps/\(∀q∈qs,Qok nY q)/\dt [.lst (nY.map D.str),.lst (ps.map eP),.int cel]=.ok (.l .f,.lst ((GK GQ qs).map D.str)):=by
 obtain⟨GQ,NQ,ean⟩:=vy D.str nY (by lia) cel;have Ha:=NQ.length_eq;obtain⟨env',hf,qs,u4,u5,u6,u7,u8,u9,MB,MC,rfl⟩:=for_list (a:=iQ 3 (aA (au 4) (aA (au 5) (aA (au 6) cV)))) (g:=cP) (e:=eP) ps (fun k env=>∃(qs:List Qt) (u4 u5 u6 u7 u8 u9:Option R),qs.map (p7 nY)=ps.take k/\(∀q∈qs,Qok nY q)/\env=[some (.f,.lst (nY.map D.str)),some (.f,.lst (ps.map eP)),some (.f,.int cel),some (.l .f,.lst ((GK GQ qs).map D.str)),u4,u5,u6,u7,u8,u9]) (by
  rintro k p env hx ⟨qs,u4,u5,u6,u7,u8,u9,MB,MC,rfl⟩;obtain⟨hk,ex⟩:=qQ hx;have hp:=Je p (SG hx);have PH:qs.length<=25:=by
   have:=Tq List.length MB;rw[bM,SA]at this;lia
  obtain⟨ts,O6,O0,v7,v8,v9,e⟩:=Ex (ps:=ps) (cel:=cel) hp hn Iw HE (GK GQ qs) (by
   unfold GK;rw[cF,R6];have:=nq qs MC;lia) u7 u8 u9
  refine⟨[some (.f,.lst (nY.map D.str)),some (.f,.lst (ps.map eP)),some (.f,.int cel),some (.l .f,.lst ((GK GQ qs).map D.str)),some (.f,.int p.1),some (.f,.tup (p.2.1.map D.int)),some (.f,.tup (p.2.2.map D.int)),u7,u8,u9],?_,_,e,qs++[(p.1,ts)],some (.f,.int p.1),some (.f,.tup (p.2.1.map D.int)),some (.f,.tup (p.2.2.map D.int)),v7,v8,v9,?_,?_,?_⟩
  ·unfold eP;generalize (GK GQ qs).map D.str=LL;generalize p.2.1.map D.int=P1;generalize p.2.2.map D.int=P2;simp only[pv,seval]
  ·rw[Sk,MB,SI hk,ex];show _++[p7 nY (p.1,ts)]=_;rw[yo hp HE hn O6]
  ·intro q hq;rcases Em hq with hq|hq
   ·exact MC q hq
   ·rw[ET hq];exact vH hp hn Iw HE O6 O0
  ·have:GK GQ (qs++[(p.1,ts)])=GK GQ qs++Hj::qW (p.1,ts):=by
    unfold GK;rw[Sk,U2,<-R7];congr 1
    show Hj::qW (p.1,ts)++[]=_;rw[Sg]
   rw[this]) [some (.f,.lst (nY.map D.str)),some (.f,.lst (ps.map eP)),some (.f,.int cel),some (.l .f,.lst ((GK GQ []).map D.str)),none,none,none,none,none,none] ⟨[],none,none,none,none,none,none,rfl,(fun q hq=>nomatch hq),rfl⟩
 rw[Tj]at MB;refine⟨GQ,qs,NQ,MB,MC,?_⟩;have e0:addD (.lst [.str [109,111,118,101,115]]) (.lst (GQ.map D.str))=.ok (.l .f,.lst ((GK GQ []).map D.str)):=by
  rw[vN (by rw[bM];show 1+_<=_;lia)];unfold GK;show _=Res.ok (O.l .f,D.lst ((aG::GQ++[]).map D.str));rw[Sg];rfl
 have Nt:=PV.flat_strs GQ;unfold dt lW;rw[aS (h:=by rfl)];rw[aw (env':=[some (.f,.lst (nY.map D.str)),some (.f,.lst (ps.map eP)),some (.f,.int cel),some (.l .f,.lst ((GK GQ []).map D.str)),none,none,none,none,none,none]) (by
  generalize (GK GQ []).map D.str=N3 at e0 ⊢;generalize GQ.map D.str=N2 at *;generalize nY.map D.str=N1 at *;generalize ps.map eP=PP;simp only[pv,seval,op,ean,Nt,aO,dm,cf,e0])]
 rw[aw (env':=[some (.f,.lst (nY.map D.str)),some (.f,.lst (ps.map eP)),some (.f,.int cel),some (.l .f,.lst ((GK GQ qs).map D.str)),u4,u5,u6,u7,u8,u9]) (by
  unfold jB;generalize cP=BB at hf ⊢;generalize (GK GQ []).map D.str=N3 at hf ⊢;generalize (GK GQ qs).map D.str=N4 at hf ⊢;generalize ps.map eP=PP at hf ⊢;simp only[pv,seval];exact hf)]
 unfold iK;simp only[pv,seval]
end
theorem plain_P(n:Nat)(p:Pl):plainD (n+2) (eP p)=true:=by
 unfold eP;rw[plainD,plainDs,plainDs,plainDs,plainDs,plainD,plainD,plainD,jb,jb]
 ·rfl
 all_goals simp
theorem qZ(n:Nat):∀l:List Pl,plainDs (n+2) (l.map eP)=true
 |[]=>rfl
 |p::l=>by rw[jK,plainDs,plain_P,qZ n l];rfl
theorem nv(NM:Gf)(ps:List Pl):plainD 40 (eN NM ps)=true:=by
 unfold eN;rw[plainD,plainDs,plainDs,plainDs,plainD,plainD,sd,qZ 36];rfl
theorem Ez(NM:Gf)(ps:List Pl):HR (eN NM ps) (eN NM ps)=.ok (.f,.bl true):=by
 unfold HR;rw[nv,ir _ 40 (nv NM ps)];rfl
theorem EA(NM:Gf)(ps:List Pl):IT (eN NM ps) (eN NM ps)=.ok (.f,.bl false):=by
 unfold IT;rw[nv,ir _ 40 (nv NM ps)];rfl
theorem vO(A0 A1 A2:Option R):∀(xs:List Int) (t3:Option R),∃u3,jl (au 3) bD (xs.map D.int) [A0,A1,A2,t3]=.ok (.nx [A0,A1,A2,u3])
 |[],t3=>⟨_,rfl⟩
 |x::xs,t3=>by
  obtain⟨u3,e⟩:=vO A0 A1 A2 xs (some (.f,.int x));refine⟨u3,?_⟩;have hi:pE "int" (.int x)=true:=rfl;have hb:pE "bool" (.int x)=false:=rfl;have ha:au 3 (.int x) [A0,A1,A2,t3]=.ok [A0,A1,A2,some (.f,.int x)]:=rfl;have h1:bD [A0,A1,A2,some (.f,.int x)]=.ok (.nx [A0,A1,A2,some (.f,.int x)]):=by
   unfold bD;simp only[pv,seval,op,hi,hb,SJ,dW]
  rw[jK,GP,ha,Hq,h1,Hq];exact e
theorem Av(A0 A1 A3 t2:Option R)(a b:List D):jl (au 2) bf [.tup a,.tup b] [A0,A1,t2,A3]=.ok (.nx [A0,A1,some (.f,.tup b),A3]):=by
 have ht:∀d:List D,pE "tuple" (.tup d)=true:=fun _=>rfl
 have h1:∀d:List D,bf [A0,A1,some (.f,.tup d),A3]=.ok (.nx [A0,A1,some (.f,.tup d),A3]):=fun d=>by
  unfold bf;simp only[pv,seval,op,ht,SJ,dW]
 have ha:∀(d:List D) (u:Option R),au 2 (.tup d) [A0,A1,u,A3]=.ok [A0,A1,some (.f,.tup d),A3]:=fun d u=>rfl
 rw[GP,ha,Hq,h1,Hq];show jl (au 2) bf [.tup b] _=_;rw[GP,ha,Hq,h1,Hq];rfl
theorem Aw{nY:Gf}{p:Pl}(h:Pok nY p)(Iw:nY.length<=5)(A0 t2 t3:Option R):∃u2 u3,bT [A0,some (.f,eP p),t2,t3]=.ok (.nx [A0,some (.f,eP p),u2,u3]):=by
 obtain⟨u3,e1⟩:=vO A0 (some (.f,eP p)) (some (.f,.tup (p.2.2.map D.int))) (p.1::p.2.1++p.2.2) t3;have e2:=Av A0 (some (.f,eP p)) t3 t2 (p.2.1.map D.int) (p.2.2.map D.int);have l1:=h.l1;have l2:=h.l2;have i0:Gq (eP p) (.int 0)=.ok (.f,.int p.1):=rfl;have i1:Gq (eP p) (.int 1)=.ok (.f,.tup (p.2.1.map D.int)):=rfl;have i2:Gq (eP p) (.int 2)=.ok (.f,.tup (p.2.2.map D.int)):=rfl;have hs:LO (eP p) (some 1) none=.ok (.f,.tup [.tup (p.2.1.map D.int),.tup (p.2.2.map D.int)]):=rfl;have ht:pE "tuple" (eP p)=true:=rfl;have hl:iz [eP p]=.ok (.f,.int 3):=rfl;have z1:addD (.lst [.int p.1]) (.lst (p.2.1.map D.int))=.ok (.l .f,.lst ((p.1::p.2.1).map D.int)):=by
  rw[vN (by rw[bM];show 1+_<=_;lia)];rfl
 have z2:addD (.lst ((p.1::p.2.1).map D.int)) (.lst (p.2.2.map D.int))=.ok (.l .f,.lst ((p.1::p.2.1++p.2.2).map D.int)):=by
  rw[vN (by rw[bM,bM,R6];lia),Sk]
 refine⟨some (.f,.tup (p.2.2.map D.int)),u3,?_⟩;unfold bT dS;generalize (p.1::p.2.1++p.2.2).map D.int=L2 at z2 e1;generalize (p.1::p.2.1).map D.int=L1 at z1 z2;generalize p.2.1.map D.int=P1 at *;generalize p.2.2.map D.int=P2 at *;generalize eP p=E at *;rw[aw (env':=[A0,some (.f,E),t2,t3]) (by simp only[pv,seval,op,ht,hl,SJ,dW] <;> rfl)];rw[aw (env':=[A0,some (.f,E),some (.f,.tup P2),t3]) (by
  unfold eG;generalize bf=BB at e2 ⊢;simp only[pv,seval,op,hs];exact e2)]
 unfold eF;generalize bD=BB at e1 ⊢;simp only[pv,seval,op,i0,i1,i2,z1,z2];exact e1
theorem vP{nY:Gf}(Iw:nY.length<=5)(A0:Option R):∀(ps:List Pl) (t1 t2 t3:Option R),(∀p∈ps,Pok nY p)->∃u1 u2 u3,jl (au 1) bT (ps.map eP) [A0,t1,t2,t3]=.ok (.nx [A0,u1,u2,u3])
 |[],t1,t2,t3,_=>⟨_,_,_,rfl⟩
 |p::ps,t1,t2,t3,h=>by
  obtain⟨v2,v3,e⟩:=Aw (h p RQ) Iw A0 t2 t3;obtain⟨u1,u2,u3,ef⟩:=vP Iw A0 ps (some (.f,eP p)) v2 v3 fun x hx=>h x (RZ _ hx)
  refine⟨u1,u2,u3,?_⟩;have ha:au 1 (eP p) [A0,t1,t2,t3]=.ok [A0,some (.f,eP p),t2,t3]:=rfl;rw[jK,GP,ha,Hq,e,Hq];exact ef
theorem Ax{nY:Gf}{ps:List Pl}(Iw:nY.length<=5)(Je:∀p∈ps,Pok nY p):bL [eN nY ps]=.ok (.f,.bl true):=by
 obtain⟨u1,u2,u3,ef⟩:=vP Iw (some (.f,eN nY ps)) ps none none none Je;have i0:Gq (eN nY ps) (.int 0)=.ok (.f,.tup (nY.map D.str)):=rfl;have i1:Gq (eN nY ps) (.int 1)=.ok (.f,.lst (ps.map eP)):=rfl;have ht:pE "tuple" (eN nY ps)=true:=rfl;have ht2:pE "tuple" (.tup (nY.map D.str))=true:=rfl;have ht3:pE "list" (.lst (ps.map eP))=true:=rfl;have hl:iz [eN nY ps]=.ok (.f,.int 2):=rfl;unfold bL f9;rw[aS (h:=by rfl)];generalize eN nY ps=E at *;generalize ps.map eP=AR at *;generalize nY.map D.str=NM at *;rw[aw (env':=[some (.f,E),none,none,none]) (by simp only[pv,seval,op,ht,hl,i0,ht2,SJ,dW] <;> rfl)];rw[aw (env':=[some (.f,E),none,none,none]) (by simp only[pv,seval,op,i1,ht3,SJ,dW] <;> rfl)];rw[aw (env':=[some (.f,E),u1,u2,u3]) (by
  unfold eI;simp only[pv,seval,op,i1];exact ef)]
 unfold dU;simp only[pv,seval,op] <;> rfl
theorem Di{ns nY:Gf}{qs:List Qt}(hn:∀n∈ns,bw n=true)(hq:∀q∈qs,Qok nY q):∀w∈GK ns qs,Wd w:=by
 intro w hw;rcases Em hw with hw|hw
 ·rcases RV.mp hw with rfl|hw
  ·exact .of nh (by decide) (by decide)
  ·exact .of (k8 (hn w hw)) (by decide) (by have:=(c6 (hn w hw)).1;lia)
 ·obtain⟨q,Gk,hw⟩:=List.mem_flatMap.mp hw;obtain⟨a,haa,rfl⟩:=su Gk;rcases RV.mp hw with rfl|hw
  ·exact .of yg (by decide) (by decide)
  ·obtain⟨k,hk,Kl,hl⟩:=yj (hq a haa) hw;exact .of hk (by lia) hl
theorem Ay(env:PV.Env)(i:Nat)(f:FX):xb i f env=match env[i]? with
 |some (some (.t [.f,.l .f],.tup [_,.lst _]))=>Res.bnd (f env) (f:=⟨fun(q:R×PV.Env)=>match q.2[i]? with
  |some (some (.t [.f,.l .f],.tup [d,.lst ds]))=>if ds.length<sizeLine then .ok ((.f,.non),q.2.set i (some (.t [.f,.l .f],.tup [d,.lst (ds++[q.1.2])]))) else .bad
  |_=>.bad⟩)
 |_=>.bad:=id rfl
theorem vQ(nY:Gf)(ps:List Pl):cj (.t [.f,.l .f]) (eN nY ps)=true:=by
 unfold eN;rw[cj,j4,j4,j4,aO,dm,xn,PV.flat_strs,iO o5];rfl
theorem vR{nY:Gf}{ps:List Pl}(Iw:nY.length<=5)(Je:∀p∈ps,Pok nY p)(hl:ps.length<=60)(T:List Nat)(hr:cC [.str T]=.ok (.t [.f,.l .f],eN nY ps))(A0 A1 A2 A3 A5 A6 t8 A9:Option R):∃u8,mS [A0,A1,A2,A3,some (.f,eN nY ps),A5,A6,some (.f,.str T),t8,A9]=.ok (.nx [A0,A1,A2,A3,some (.f,eN nY ps),A5,A6,some (.f,.str T),u8,A9]):=by
 have hp:=Ax Iw Je;have hn:=EA nY ps;have Od:=vQ nY ps;unfold mS;refine⟨some (.t [.f,.l .f],.tup [.tup (nY.map D.str),.lst (ps.map eP++[.tup [.int 0,.tup [],.tup []]])]),?_⟩;rw[aw (env':=[A0,A1,A2,A3,some (.f,eN nY ps),A5,A6,some (.f,.str T),some (.t [.f,.l .f],eN nY ps),A9]) (by
  generalize eN nY ps=E at *;simp only[pv,seval,op,hr,Od])]
 rw[aw (env':=[A0,A1,A2,A3,some (.f,eN nY ps),A5,A6,some (.f,.str T),some (.t [.f,.l .f],eN nY ps),A9]) (by
  generalize eN nY ps=E at *;simp only[pv,seval,op,hp,hn,aO,ft,SJ,dW] <;> rfl)]
 have hz:(ps.map eP).length<sizeLine:=m8 (by rw[bM];lia);rw[show some (O.t [.f,.l .f],eN nY ps)=some (O.t [.f,.l .f],.tup [.tup (nY.map D.str),.lst (ps.map eP)]) from rfl];generalize eN nY ps=E at *;generalize ps.map eP=AR at *;generalize nY.map D.str=NM at *;simp only[pv,seval,op,Ay,hz] <;> rfl
theorem vS:∀ns:List Int,ns.length<=63->∃o,z5 [.lst (ns.map D.int)]=.ok (o,.bl true):=by
 intro ns O7;have RN:=si (cell ns 0) 6 (by decide);have hm3:=si (cell ns 3) 3 (by decide);obtain⟨l,hN,en⟩:=Ac (cell ns 0 / 6) (cell ns 1) (cell ns 0%6) (by lia) (by lia);have Jl:(dj IU l).Pairwise (fun a b=>IU a b=true):=jC pF hN.nd;have nn:∀n∈dj IU l,bw n=true:=fun n h=>hN.ok n ((uZ IU).mp h)
 have nd:(dj IU l).Nodup:=(cX IU l).nodup_iff.mpr hN.nd;obtain⟨cnt,hcnt⟩:=Tw RN.1;have Iw:(dj IU l).length=cnt:=by rw[uY,hN.len];lia
 have hc5:cnt<=5:=by lia
 have c0:ax [.lst (ns.map D.int),.int 0]=.ok (.f,.int (cell ns 0)):=gs ns 0;have c1:ax [.lst (ns.map D.int),.int 1]=.ok (.f,.int (cell ns 1)):=gs ns 1;have c2:ax [.lst (ns.map D.int),.int 2]=.ok (.f,.int (cell ns 2)):=gs ns 2;have c3:ax [.lst (ns.map D.int),.int 3]=.ok (.f,.int (cell ns 3)):=gs ns 3;have d0:=xq (cell ns 0) 6 (by decide) (by decide);have d1:=ng (cell ns 0) 6 (by decide);have d3:=ng (cell ns 3) 3 (by decide);have p12:powD (.int 10) (.int 12)=.ok (.f,.int (10 ^ 12)):=powN 12 (by decide);have d2:=ng (cell ns 2) (10 ^ 12) (by decide);obtain⟨ks,Q1,epl⟩:=xy ns O7 cnt hc5;rw[hcnt]at en d1;clear hN RN;generalize dj IU l=NM at *;have Je:∀p∈ks.map (Kq ns cnt),Pok NM p:=fun p hp=>by
  obtain⟨k,_,rfl⟩:=su hp;exact C9 ns Iw k
 have Ha:(ks.map (Kq ns cnt)).length<=19:=by rw[bM];exact Q1
 generalize ks.map (Kq ns cnt)=PS at *;have MD:NM.length<=5:=by lia
 have sh:=sk Je (by lia) nn MD nd;have tx:=C8 Je (by lia) nn MD nd;obtain⟨GQ,qs,NQ,MB,MC,er⟩:=Ey (cel:=cell ns 2%10 ^ 12) Je (by lia) nn MD nd;have hpnl:=NQ.length_eq;have PH:qs.length<=19:=by
  have:=Tq List.length MB;rw[bM]at this;lia
 have nn':∀n∈GQ,bw n=true:=fun n h=>nn n (NQ.mem_iff.mp h)
 have wd:=Di nn' MC;have hrl:(GK GQ qs).length<=400:=by
  unfold GK;rw[cF,R6];have:=nq qs MC;lia
 obtain⟨b,hb⟩:=Tw hm3.1;rw[hb]at d3;have hb3:b<3:=by lia
 have ej:=xB (GK GQ qs) wd (by lia) b hb3;have Q5:∀q∈PS.map (GL NM),Qok NM q:=fun q hq=>by
  obtain⟨p,hp,rfl⟩:=su hq;exact nu (Je p hp) nn MD nd
 have O0:(txt (CN NM (PS.map (GL NM)))).length<=40000:=by
  have h1:=p5 NM nn;have h2:=lh (PS.map (GL NM)) Q5;rw[bM]at h2;rw[vF,cF,cF];show 5+_+_<=_;lia
 have hpq:(PS.map (GL NM)).map (p7 NM)=PS:=by
  rw[SE];refine(TH fun p hp=>?_).trans (List.map_id PS);exact yo (Je p hp) nd nn (qY (Je p hp) nd)
 have r1:=yk (Et nn Q5) O0 (C4 NM (PS.map (GL NM))) MD nn (.refl _) Jl Q5 (by rw[bM];lia);rw[hpq]at r1;have r2:=yk (l:=jr b 9 (GK GQ qs)) (ns:=GQ) (qs:=qs) (Dc b _ 9 wd).1 (by
  have:=vK b (GK GQ qs) 9 wd;lia) (yp b _ 9 wd) MD nn NQ Jl MC (by lia)
 rw[MB]at r2;have Nt:=PV.flat_strs NM;have Q6:flatDs (PS.map eP)=true:=iO o5;have hf3:=PV.flat_strs (GK GQ qs);unfold z5 Ca;rw[aS (h:=by rfl)];rw[aw (env':=[some (.f,.lst (ns.map D.int)),some (.f,.int (cnt:Int)),none,none,none,none,none,none,none,none]) (by
  simp only[pv,↓reduceIte,Nat.reduceAdd,Nat.reduceLT,Nat.reduceLeDiff,Nat.reduceEqDiff,op,c0,d1,aO,cf])]
 rw[aw (env':=[some (.f,.lst (ns.map D.int)),some (.f,.int (cnt:Int)),some (.l .f,.lst (NM.map D.str)),none,none,none,none,none,none,none]) (by
  generalize NM.map D.str=N1 at *;simp only[pv,↓reduceIte,Nat.reduceAdd,Nat.reduceLT,Nat.reduceLeDiff,Nat.reduceEqDiff,op,c0,c1,d0,en,Nt,aO,dm,cf])]
 rw[aw (env':=[some (.f,.lst (ns.map D.int)),some (.f,.int (cnt:Int)),some (.l .f,.lst (NM.map D.str)),some (.l .f,.lst (PS.map eP)),none,none,none,none,none,none]) (by
  generalize NM.map D.str=N1 at *;generalize PS.map eP=P1 at *;simp only[pv,↓reduceIte,Nat.reduceAdd,Nat.reduceLT,Nat.reduceLeDiff,Nat.reduceEqDiff,op,epl,Q6,dm])]
 rw[aw (env':=[some (.f,.lst (ns.map D.int)),some (.f,.int (cnt:Int)),some (.l .f,.lst (NM.map D.str)),some (.f,.lst (PS.map eP)),some (.f,eN NM PS),none,none,none,none,none]) (by
  unfold eN;simp only[pv,↓reduceIte,Nat.reduceAdd,Nat.reduceLT,Nat.reduceLeDiff,Nat.reduceEqDiff,op,Nt,Q6] <;> rfl)]
 rw[aw (env':=[some (.f,.lst (ns.map D.int)),some (.f,.int (cnt:Int)),some (.l .f,.lst (NM.map D.str)),some (.f,.lst (PS.map eP)),some (.f,eN NM PS),some (.f,.str (txt (CN NM (PS.map (GL NM))))),none,none,none,none]) (by
  generalize txt (CN NM (PS.map (GL NM)))=TX at *;generalize eN NM PS=EN at *;generalize NM.map D.str=N1 at *;generalize PS.map eP=P1 at *;simp only[pv,↓reduceIte,Nat.reduceAdd,Nat.reduceLT,Nat.reduceLeDiff,Nat.reduceEqDiff,op,tx,aO,cS])]
 rw[aw (env':=[some (.f,.lst (ns.map D.int)),some (.f,.int (cnt:Int)),some (.l .f,.lst (NM.map D.str)),some (.f,.lst (PS.map eP)),some (.f,eN NM PS),some (.f,.str (txt (CN NM (PS.map (GL NM))))),none,none,none,none]) (by
  have sh:cD [.tup [.tup (NM.map D.str),.lst (PS.map eP)]]=.ok (.f,.str (txt (CN NM (PS.map (GL NM))))):=sh;have Kj:IT (.str (txt (CN NM (PS.map (GL NM))))) (.str (txt (CN NM (PS.map (GL NM)))))=.ok (.f,.bl false):=by
   unfold IT;rw[show plainD 40 (.str (txt (CN NM (PS.map (GL NM)))))=true from rfl,Ga,SQ];rfl
  generalize txt (CN NM (PS.map (GL NM)))=TX at *;generalize eN NM PS=EN at *;generalize NM.map D.str=N1 at *;generalize PS.map eP=P1 at *;simp only[pv,↓reduceIte,Nat.reduceAdd,Nat.reduceLT,Nat.reduceLeDiff,Nat.reduceEqDiff,op,sh,Nt,Q6,aO,cS,Kj,dW])]
 rw[aw (env':=[some (.f,.lst (ns.map D.int)),some (.f,.int (cnt:Int)),some (.l .f,.lst (NM.map D.str)),some (.f,.lst (PS.map eP)),some (.f,eN NM PS),some (.f,.str (txt (CN NM (PS.map (GL NM))))),some (.l .f,.lst ((GK GQ qs).map D.str)),none,none,none]) (by
  generalize (GK GQ qs).map D.str=RW at *;generalize txt (CN NM (PS.map (GL NM)))=TX at *;generalize eN NM PS=EN at *;generalize NM.map D.str=N1 at *;generalize PS.map eP=P1 at *;generalize (10:Int) ^ 12=P12 at *;simp only[pv,↓reduceIte,Nat.reduceAdd,Nat.reduceLT,Nat.reduceLeDiff,Nat.reduceEqDiff,op,c2,p12,d2,er,hf3,aO,dm,cf])]
 obtain⟨w1,f1⟩:=vR MD Je (by lia) (txt (CN NM (PS.map (GL NM)))) r1 (some (.f,.lst (ns.map D.int))) (some (.f,.int (cnt:Int))) (some (.l .f,.lst (NM.map D.str))) (some (.f,.lst (PS.map eP))) (some (.f,.str (txt (CN NM (PS.map (GL NM)))))) (some (.l .f,.lst ((GK GQ qs).map D.str))) none none;obtain⟨w2,f2⟩:=vR MD Je (by lia) (txt (jr b 9 (GK GQ qs))) r2 (some (.f,.lst (ns.map D.int))) (some (.f,.int (cnt:Int))) (some (.l .f,.lst (NM.map D.str))) (some (.f,.lst (PS.map eP))) (some (.f,.str (txt (CN NM (PS.map (GL NM)))))) (some (.l .f,.lst ((GK GQ qs).map D.str))) w1 none;rw[aw (env':=[some (.f,.lst (ns.map D.int)),some (.f,.int (cnt:Int)),some (.l .f,.lst (NM.map D.str)),some (.f,.lst (PS.map eP)),some (.f,eN NM PS),some (.f,.str (txt (CN NM (PS.map (GL NM))))),some (.l .f,.lst ((GK GQ qs).map D.str)),some (.f,.str (txt (jr b 9 (GK GQ qs)))),w2,none]) (by
  unfold uQ;generalize (GK GQ qs).map D.str=RW at *;generalize txt (jr b 9 (GK GQ qs))=TJ at *;generalize txt (CN NM (PS.map (GL NM)))=TX at *;generalize eN NM PS=EC at *;simp only[pv,↓reduceIte,Nat.reduceAdd,Nat.reduceLT,Nat.reduceLeDiff,Nat.reduceEqDiff,op,c3,d3,ej,aO,cS,cf,f1,f2])]
 unfold qN;have oe:=Ez NM PS;have Od:=vQ NM PS;rw[aw (env':=[some (.f,.lst (ns.map D.int)),some (.f,.int (cnt:Int)),some (.l .f,.lst (NM.map D.str)),some (.f,.lst (PS.map eP)),some (.f,eN NM PS),some (.f,.str (txt (CN NM (PS.map (GL NM))))),some (.l .f,.lst ((GK GQ qs).map D.str)),some (.f,.str (txt (jr b 9 (GK GQ qs)))),w2,some (.t [.f,.l .f],eN NM PS)]) (by
  generalize (GK GQ qs).map D.str=RW at *;generalize txt (jr b 9 (GK GQ qs))=TJ at *;generalize txt (CN NM (PS.map (GL NM)))=TX at *;generalize eN NM PS=EC at *;simp only[pv,↓reduceIte,Nat.reduceAdd,Nat.reduceLT,Nat.reduceLeDiff,Nat.reduceEqDiff,op,r1,Od])]
 have JF:pE "str" (.str (txt (CN NM (PS.map (GL NM)))))=true:=rfl;generalize (GK GQ qs).map D.str=RW at *;generalize txt (jr b 9 (GK GQ qs))=TJ at *;generalize txt (CN NM (PS.map (GL NM)))=TX at *;generalize eN NM PS=EC at *;refine⟨.f,?_⟩;simp only[pv,↓reduceIte,Nat.reduceAdd,Nat.reduceLT,Nat.reduceLeDiff,Nat.reduceEqDiff,op,oe,sh,JF,aO,cS] <;> rfl
end LW
namespace FIN
open PySem PySem.Spec PyProof.Rows L2 NX PV LW
theorem Dj{l:PySem.W.OpenLaw}{w:World}{K:W.Frag}{h:Heap}{mg:Str->Option Value}{fa f:Addr}{od an:Option Addr}{sl:Array (Option Value)}{oc kV dc pm cd ct:Value}(X:K.In h)(G:h.Ns mainGlobals mg)(hfa:mg "law" = some (.ref fa))
  (aL:PySem.W.nsIn K mainGlobals "law" = some (some (.ref f))) (lL:K.lookup f=some ⟨oc,od,.func (PySem.W.fnOf "law" "law" (fG m6) (du m6) (defScope m6) .none kV dc pm an cd ct),sl⟩) (cL:PySem.W.codeIn K cd "law" = true) (kL:PySem.W.keepIn K (.ref f)=true)
  (Ig:Def K mg "is_letter" g8) (Ih:Def K mg "is_figure" g9) (Jf:Def K mg "kind_of" kM) (HJ:Def K mg "end_of_run" gf) (Hc:Def K mg "check_figures" dF) (Kr:Def K mg "words" pN) (Jg:Def K mg "is_name" kN) (Ks:Def K mg "rises" pO) (IJ:Def K mg "parts_of" i5) (Ii:Def K mg "number_of" hU) (Jh:Def K mg "name_of" kO) (IK:Def K mg "names_of" i6) (HK:Def K mg "show_parts" gj) (Ji:Def K mg "told_of" kP) (Hr:Def K mg "check_moves" e8) (HL:Def K mg "place_from" gk) (IL:Def K mg "read_net" i8) (HM:Def K mg "show_place" gm) (IM:Def K mg "show_net" i9) (Hk:Def K mg "_law_cell_at" d8) (HN:Def K mg "_law_names" gq) (Hs:Def K mg "_law_number" fe) (Ht:Def K mg "_law_places" fg) (HP:Def K mg "_law_about" gr) (IP:Def K mg "_law_row" ja) (Ij:Def K mg "_law_text" hV) (Hu:Def K mg "_law_joined" fm) (Hd:Def K mg "_law_is_plain" dG)
  (Gv:Gi mg "LONGEST_NAME" (8)) (Gu:Gi mg "MOST_FIGURES" (60)) (GC:Gi mg "MOST_MOVES" (5)) (Gx:Gi mg "MOST_PLACES" (200))
  (Jd:PySem.W.nsIn K mainGlobals "all" = some none) (Js:PySem.W.nsIn K mainGlobals "bool" = some none) (Ie:PySem.W.nsIn K mainGlobals "int" = some none) (F7:PySem.W.nsIn K mainGlobals "isinstance" = some none) (Gg:PySem.W.nsIn K mainGlobals "len" = some none) (GI:PySem.W.nsIn K mainGlobals "list" = some none) (Ko:PySem.W.nsIn K mainGlobals "min" = some none) (Gr:PySem.W.nsIn K mainGlobals "range" = some none) (GX:PySem.W.nsIn K mainGlobals "sorted" = some none) (GJ:PySem.W.nsIn K mainGlobals "str" = some none) (Gj:PySem.W.nsIn K mainGlobals "tuple" = some none) (GW:PySem.W.nsIn K mainGlobals "zip" = some none):
  ∃fd:FuncData,(∀(s:Shared) (v:Value),BindsTo s fd ⟨[v],[]⟩ [("_law_script",v)])/\∀base:Heap,K.In base->base.Ns mainGlobals mg->FnOk l.prog w K mg base KZ 7 fa fd ["_law_script"] (w4 K):=by
 have e:=hfa.symm.trans (Xf X G aL);cases e;have F:=xJ (st:=m6) lL cL kL;have ME:=SV X G Jd;have y_bool:=SV X G Js;have Ln:=SV X G Ie;have G9:=SV X G F7;have GY:=SV X G Gg;have Jv:=SV X G GI;have O8:=SV X G Ko;have Iy:=SV X G Gr;have JK:=SV X G GX;have JL:=SV X G GJ;have HQ:=SV X G Gj;have Kt:=SV X G GW;refine⟨PySem.W.fnOf "law" "law" (fG m6) (du m6) (defScope m6) .none kV dc pm an cd ct,fun s v=>.of_eq rfl,fun base KB GB=>?_⟩;have Ik:Ct l.prog w K mg base "is_letter" 1 (spF K bP):=oQ Ig;have Il:Ct l.prog w K mg base "is_figure" 1 (spF K bY):=oS Ih;have Jj:Ct l.prog w K mg base "kind_of" 2 (spF K cK):=rV Jf Il Ik;have Jw:Ct l.prog w K mg base "end_of_run" 3 (spF K bB):=mT HJ Jj GY;have Iu:Ct l.prog w K mg base "check_figures" 1 (spF K bI):=jI Hc Gu GY;have Mn:Ct l.prog w K mg base "words" 4 (spF K i4):=xh Kr Iu Jw Jj G9 GY JL;have KH:Ct l.prog w K mg base "is_name" 2 (spF K eE):=rX Jg Ik Gv ME GY;have Mo:Ct l.prog w K mg base "rises" 1 (spF K fW):=xj Ks ME Kt;have Ka:Ct l.prog w K mg base "parts_of" 5 (spF K dq):=pP IJ Mn;have JM:Ct l.prog w K mg base "number_of" 2 (spF K bZ):=oV Ii Il Ln;have Jk:Ct l.prog w K mg base "name_of" 3 (spF K cu):=rZ Jh KH;have Kb:Ct l.prog w K mg base "names_of" 4 (spF K dr):=pR IK Jk GC GY;have Jx:Ct l.prog w K mg base "show_parts" 1 (spF K cB):=mV HK Jv;have KI:Ct l.prog w K mg base "told_of" 4 (spF K cM):=r6 Ji Jk JM GY Iy;have IZ:Ct l.prog w K mg base "check_moves" 2 (spF K b7):=lC Hr Mo;have Jy:Ct l.prog w K mg base "place_from" 1 (spF K bC):=mW HL HQ;have Kc:Ct l.prog w K mg base "read_net" 6 (spF K cC):=pS IL IZ Kb Ka Jy KI Gx GY JK HQ;have Jz:Ct l.prog w K mg base "show_place" 1 (spF K bN):=mX HM JL Kt;have Kd:Ct l.prog w K mg base "show_net" 2 (spF K cD):=pU IM Jx Jz;have Hl:Ct l.prog w K mg base "_law_cell_at" 1 (spF K ax):=kR Hk GY;have JA:Ct l.prog w K mg base "_law_names" 1 (spF K cE):=mY HN Ln GY Iy JK;have I0:Ct l.prog w K mg base "_law_number" 1 (spF K aK):=lD Hs;have Ja:Ct l.prog w K mg base "_law_places" 2 (spF K b8):=lE Ht Hl I0 GY O8 Iy HQ;have JB:Ct l.prog w K mg base "_law_about" 1 (spF K b5):=mZ HP GY;have Ke:Ct l.prog w K mg base "_law_row" 2 (spF K dt):=pV IP JB Jv JL Kt;have JN:Ct l.prog w K mg base "_law_text" 1 (spF K cY):=oW Ij JL Kt;have Jb:Ct l.prog w K mg base "_law_joined" 1 (spF K b9):=lF Hu GY Iy;have Iv:Ct l.prog w K mg base "_law_is_plain" 1 (spF K bL):=jJ Hd y_bool Ln G9 GY Jv HQ;exact(Cf F Hl Iv Jb JA Ja Ke JN Kc Kd G9 Jv JL HQ).imp (BX vS)
end FIN
def PySem.W.Fast.tw2805731971994105034:=0
def PySem.W.Fast.tw18079432217769761307:=0
def PySem.W.Fast.tw13041281498199882255:=0
def PySem.W.Fast.tw120338218595062541:=0
def PySem.W.Fast.tw231482686233789767:=0
def PySem.W.Fast.tw9565966323214534849:=0
def PySem.W.Fast.tw13098478777070843792:=0
def PySem.W.Fast.tw9049454618747943268:=0
def PySem.W.Fast.tw17048747362576707895:=0
def PySem.W.Fast.tw14760966434360133446:=0
def PySem.W.Fast.tw4528596440890826644:=0
def PySem.W.Fast.tw10072747999906847952:=0
def PySem.W.Fast.tw4599181450112474910:=0
def PySem.W.Fast.tw5545320495814872797:=0
def PySem.W.Fast.tw858675184874364401:=0
def PySem.W.Fast.tw16908591664377543561:=0
def PySem.W.Fast.tw5723800865413400558:=0
def PySem.W.Fast.tw14658327245985796020:=0
def PySem.W.Fast.tw366796548562378234:=0
def PySem.W.Fast.tw12410679927280204542:=0
def PySem.W.Fast.tw1550510886513611026:=0
def PySem.W.Fast.tw15410238179077580013:=0
def PySem.W.Fast.tw15074764348353908701:=0
def PySem.W.Fast.tw2216243278251647042:=0
def PySem.W.Fast.tw17965204497017691231:=0
def PySem.W.Fast.tw1008306722986720211:=0
def PySem.W.Fast.tw1705181634306136569:=0
def PySem.W.Fast.tw1574219720017131828:=0
def PySem.W.Fast.tw5774266520667021535:=0
def PySem.W.Fast.tw4663870175023142522:=0
def PySem.W.Fast.tw16086649322107173497:=0
def PySem.W.Fast.tw14284268910534069376:=0
def PySem.W.Fast.tw10594344323636521440:=0
def PySem.W.Fast.tw16712522757508977855:=0
def PySem.W.Fast.tw10594981841040068862:=0
open PySem PySem.W PyProof.Rows
set_option maxRecDepth 100000 in
set_option maxHeartbeats 0 in
theorem PySem.Challenge.cw_netfinder_k11_nets_read_and_shown_holds : PySem.Challenge.rw_netfinder_k11_nets_read_and_shown.Holds := by
  w_on; o_law; k_head; (case hw => w_witness2)
  k_fill
  refine PV.Fy (l := PySem.Challenge.rw_netfinder_k11_nets_read_and_shown) (k := 7) (x := "_law_script") rfl rfl ⟨rfl, by decide, by decide⟩ (fun w h Y => PySem.W.kIn_of Y) ?F
  case F =>
    intro w mg fa h KX G N8
    refine' FIN.Dj KX G N8 ?aL ?lL ?cL ?kL ?Ig ?Ih ?Jf ?HJ ?Hc ?Kr ?Jg ?Ks ?IJ ?Ii ?Jh ?IK ?HK ?Ji ?Hr ?HL ?IL ?HM ?IM ?Hk ?HN ?Hs ?Ht ?HP ?IP ?Ij ?Hu ?Hd ?Gv ?Gu ?GC ?Gx ?Jd ?Js ?Ie ?F7 ?Gg ?GI ?Ko ?Gr ?GX ?GJ ?Gj ?GW
    (case aL => k_is); (case lL => k_is); (case cL => k_is); (case kL => k_is)
    iterate 28 (refine' PV.BZ KX G ?a ?l ?c ?k; (case a => k_is); (case l => k_is); (case c => k_is); (case k => k_is))
    (case Gv => (refine' PV.w5 KX G ?a; (case a => k_is)))
    (case Gu => (refine' PV.w5 KX G ?a; (case a => k_is)))
    (case GC => (refine' PV.w5 KX G ?a; (case a => k_is)))
    (case Gx => (refine' PV.w5 KX G ?a; (case a => k_is)))
    iterate 12 k_is
